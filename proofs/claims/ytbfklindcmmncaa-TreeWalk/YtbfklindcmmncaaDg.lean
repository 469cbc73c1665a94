/- trees: TreeWalk's visitor. -/
import Derived.Test.YtbfklindcmmncaaDd
import Derived.Test.YtbfklindcmmncaaDf
namespace Go.Proofs.Ytbfklindcmmncaa
open Go.RowKit Go.Shelf
attribute [local go_sem ↓] Go.wp_at_zero Go.wp_at_succ
/-- What lasts from visit to visit: how many there were; all else is as it was. -/
def CloJ (w0 : World) (qk : Nat) (vs : List (Nat × Nat × Tr)) (W : World) : Prop :=
  Boxed W qk 3 (.int .i64 (vs.length : Int)) ∧ w0.heap.size ≤ W.heap.size ∧ ∀ b, b < w0.heap.size → b ≠ qk → W.heap[b]? = w0.heap[b]?
theorem among_end {zs : List Int} {j i : Nat} (hj : j < zs.length) (h : zs[j]'hj = (i : Int)) : among zs i = true := by
  unfold among
  rw [List.any_eq_true]
  exact ⟨zs[j]'hj, List.getElem_mem hj, by simp [h]⟩
set_option maxRecDepth 20000 in
set_option maxHeartbeats 4000000 in
theorem clos_any (w0 : World) (qk ql qf qs base gl cl : Nat) (xs : List VN) (sx : Option Addr) (sc : Nat) (zs : List Int) (hl : Boxed w0 ql 28 (.slice (some ⟨gl, 0, none⟩) xs.length cl)) (hlk : ql ≠ qk) (hs : Boxed w0 qs 25 (.slice sx zs.length sc)) (hsk : qs ≠ qk)
    (hO : w0.ownsRow base 33 6 (.slice (some ⟨gl, 0, none⟩) xs.length cl) xs.length (flatV xs)) (hgk : gl ≠ qk) (hT : ∀ x ∈ xs, TrV w0 (fun b => b < w0.heap.size ∧ b ≠ qk) x.n.val x.t) (hz : RowI w0 sx zs) (hzk : ∀ ad, sx = some ad → 0 < zs.length → ad.block ≠ qk) (hz6 : zs.length ≤ 6) (hx : xs.length ≤ 1000)
    (vs : List (Nat × Nat × Tr)) (i d : Nat) (x : NC) (t' : Tr) (W : World) (hn : ∃ y, xs[vs.length]? = some y ∧ y.key = (i, d, t')) (hJ : CloJ w0 qk vs W) (hts : t'.size ≤ 1000) (ht : TrV W (fun b => b < W.heap.size ∧ b ≠ qk) x.val t') :
    Calls Try.prog 9 #[.int .i64 (i : Int), .int .i64 (d : Int), .agg #[.int .i64 x.k, .int .i64 x.a, .string x.s, .slice x.x x.l x.c], .pointer (some ⟨qk, 0, none⟩), .pointer (some ⟨ql, 0, none⟩), .pointer (some ⟨qf, 0, none⟩), .pointer (some ⟨qs, 0, none⟩)] W fun e W' => e = .returned (.bool (!among zs i)) ∧ CloJ w0 qk (vs ++ [(i, d, t')]) W' ∧ Rnd (fun _ b => b = qk) W W' := by
  obtain ⟨⟨yi, yd, yn, yt⟩, hy, hkey⟩ := hn
  simp only [VN.key, Prod.mk.injEq] at hkey
  obtain ⟨rfl, rfl, rfl⟩ := hkey
  obtain ⟨hJk, hJs, hJb⟩ := hJ
  obtain ⟨k, hk⟩ : ∃ k, k = vs.length := ⟨_, rfl⟩
  rw [← hk] at hy hJk
  have hkl : k < xs.length := (List.getElem?_eq_some_iff.1 hy).1
  have hmem : (⟨yi, yd, yn, yt⟩ : VN) ∈ xs := List.mem_of_getElem? hy
  obtain ⟨W1, hW1⟩ : ∃ W1, W1 = W.alloc (.cells #[.int .i64 x.k, .int .i64 x.a, .string x.s, .slice x.x x.l x.c] 24) := ⟨_, rfl⟩
  have hb1 : Below W.heap.size W W1 := by rw [hW1]; exact (Below.refl _ _).alloc (Nat.le_refl _) _
  have hnew : W1.heap[W.heap.size]? = some (.cells #[.int .i64 x.k, .int .i64 x.a, .string x.s, .slice x.x x.l x.c] 24 (0, 0)) := by rw [hW1]; exact new_at _ _
  have hs1 : W1.heap.size = W.heap.size + 1 := by rw [hW1]; simp
  have same0 : ∀ X, Below W1.heap.size W1 X → ∀ b, b < w0.heap.size → b ≠ qk → X.heap[b]? = w0.heap[b]? := fun X hX b hb hne => by
    rw [hX.block b (by omega), hb1.block b (by omega), hJb b hb hne]
  have hgl := hO.lt gl rfl
  have cK : ∀ X, Below W1.heap.size W1 X → X.cell? ⟨qk, 0, none⟩ = some (.int .i64 (k : Int)) := fun X hX => keep_cell hX (keep_cell hb1 hJk.cell)
  have cL : ∀ X, Below W1.heap.size W1 X → X.cell? ⟨ql, 0, none⟩ = some (.slice (some ⟨gl, 0, none⟩) xs.length cl) := fun X hX => (World.cell?_of_block (same0 X hX ql hl.lt hlk)).trans hl.cell
  have cS : ∀ X, Below W1.heap.size W1 X → X.cell? ⟨qs, 0, none⟩ = some (.slice sx zs.length sc) := fun X hX => (World.cell?_of_block (same0 X hX qs hs.lt hsk)).trans hs.cell
  have cX : ∀ X, Below W1.heap.size W1 X → X.cell? ⟨W.heap.size, 0, none⟩ = some (.int .i64 x.k) ∧ X.cell? ⟨W.heap.size, 0 + 1, none⟩ = some (.int .i64 x.a) ∧ X.cell? ⟨W.heap.size, 0 + 2, none⟩ = some (.string x.s) ∧ X.cell? ⟨W.heap.size, 0 + 3, none⟩ = some (.slice x.x x.l x.c) := fun X hX => by
    obtain ⟨c0, c1, c2, c3, _, _⟩ := node_cells ((hX.block _ (by omega)).trans hnew)
    exact ⟨c0, c1, c2, c3⟩
  have row : ∀ X, Below W1.heap.size W1 X → ∀ j, j < 6 → X.cell? ⟨gl, k * 6 + j, none⟩ = (VN.cells ⟨yi, yd, yn, yt⟩)[j]? := fun X hX j hj => by
    have hOX := own_at hO (same0 X hX gl hgl.2 hgk)
    rw [hOX.cellAt (k * 6 + j) (by omega), flatV_at hkl hj]
    have : xs[k] = ⟨yi, yd, yn, yt⟩ := by rw [List.getElem?_eq_getElem hkl] at hy; exact Option.some.inj hy
    rw [this]
  have cI : ∀ X, Below W1.heap.size W1 X → X.cell? ⟨gl, k * 6 + 0, none⟩ = some (.int .i64 (yi : Int)) := fun X hX => row X hX 0 (by decide)
  have cD : ∀ X, Below W1.heap.size W1 X → X.cell? ⟨gl, k * 6 + 1, none⟩ = some (.int .i64 (yd : Int)) := fun X hX => row X hX 1 (by decide)
  have cN : ∀ X, Below W1.heap.size W1 X → X.cell? ⟨gl, k * 6 + 2, none⟩ = some (.int .i64 yn.k) ∧ X.cell? ⟨gl, k * 6 + 2 + 1, none⟩ = some (.int .i64 yn.a) ∧ X.cell? ⟨gl, k * 6 + 2 + 2, none⟩ = some (.string yn.s) ∧ X.cell? ⟨gl, k * 6 + 2 + 3, none⟩ = some (.slice yn.x yn.l yn.c) := fun X hX => ⟨row X hX 2 (by decide), row X hX 3 (by decide), row X hX 4 (by decide), row X hX 5 (by decide)⟩
  have cE : ∀ X, Below W1.heap.size W1 X → Calls Try.prog 10 #[x.val, yn.val] X fun e X' => e = .returned (.bool true) ∧ Below W1.heap.size W1 X' := fun X hX => by
    have h1 : TrV X (fun _ => True) x.val yt := TrV.same (fun p u hp hc => by rw [World.cell?_of_block ((hX.block _ (by have := hp.1; omega)).trans (hb1.block _ hp.1))]; exact hc) (fun _ _ => trivial) ht
    have h2 : TrV X (fun _ => True) yn.val yt := TrV.same (fun p u hp hc => by rw [World.cell?_of_block (same0 X hX _ hp.1 hp.2)]; exact hc) (fun _ _ => trivial) (hT _ hmem)
    refine (refEq_any yt.size yt yt (Nat.le_refl _) X _ _ _ h1 h2).mono fun e X' h => ⟨by rw [h.1, eqT_refl], hX.trans (h.2.mono hX.size)⟩
  have hkx : (k : Int) < (xs.length : Int) := by omega
  have hJkh : Hid (Boxed W qk 3 (.int .i64 (k : Int))) := hJk
  have hJbh : Hid (∀ b, b < w0.heap.size → b ≠ qk → W.heap[b]? = w0.heap[b]?) := hJb
  have hzh : Hid (RowI w0 sx zs) := hz
  have hkh : Hid (k = vs.length) := hk
  have hzkh : Hid (∀ ad, sx = some ad → 0 < zs.length → ad.block ≠ qk) := hzk
  have same0h : Hid (∀ X, Below W1.heap.size W1 X → ∀ b, b < w0.heap.size → b ≠ qk → X.heap[b]? = w0.heap[b]?) := same0
  have cSh : Hid (∀ X, Below W1.heap.size W1 X → X.cell? ⟨qs, 0, none⟩ = some (.slice sx zs.length sc)) := cS
  have hs1h : Hid (W1.heap.size = W.heap.size + 1) := hs1
  have hqk : qk < W.heap.size := hJk.lt
  clear hl hO hT hz ht hJk hJb hts hnew hy row hk hzk same0 cS hs1
  go_enter Try.func9, Try.ntmps9
  go_upto_region 1 with fail
  rw [← hW1]
  clear hW1
  refine reg_class (C := fun X => Below W1.heap.size W1 X) (by kernel_rfl) (by kernel_rfl) (Below.refl _ _).drew ?_
  refine BigFrame.wpQuiet_want rfl (fun K hK => qs_load 3 3 (.inl rfl) rfl rfl cK (hK ⟨List.toArray (_ :: _ :: _ :: _ :: _ :: _ :: _ :: _ :: _ :: _ :: _ :: _ :: _ :: _ :: _ :: _ :: _ :: _ :: _ :: _ :: _ :: _ :: _ :: _ :: _ :: _ :: _ :: _ :: _ :: _ :: _ :: _ :: _ :: _ :: _ :: _ :: _ :: _ :: _ :: _ :: _ :: _ :: _ :: _ :: _ :: _ :: _ :: _ :: _ :: _ :: _ :: _ :: _ :: _ :: _ :: _ :: _ :: _ :: []), _⟩ ?_)); clear hK K
  refine BigFrame.wpQuiet_want rfl (fun K hK => qs_load 28 4 (.inr (.inl rfl)) rfl rfl cL (hK ⟨List.toArray (_ :: _ :: _ :: _ :: _ :: _ :: _ :: _ :: _ :: _ :: _ :: _ :: _ :: _ :: _ :: _ :: _ :: _ :: _ :: _ :: _ :: _ :: _ :: _ :: _ :: _ :: _ :: _ :: _ :: _ :: _ :: _ :: _ :: _ :: _ :: _ :: _ :: _ :: _ :: _ :: _ :: _ :: _ :: _ :: _ :: _ :: _ :: _ :: _ :: _ :: _ :: _ :: _ :: _ :: _ :: _ :: _ :: _ :: []), _⟩ ?_)); clear hK K
  refine BigFrame.wpQuiet_want rfl (fun K hK => qs_len 13 rfl rfl rfl (hK ⟨List.toArray (_ :: _ :: _ :: _ :: _ :: _ :: _ :: _ :: _ :: _ :: _ :: _ :: _ :: _ :: _ :: _ :: _ :: _ :: _ :: _ :: _ :: _ :: _ :: _ :: _ :: _ :: _ :: _ :: _ :: _ :: _ :: _ :: _ :: _ :: _ :: _ :: _ :: _ :: _ :: _ :: _ :: _ :: _ :: _ :: _ :: _ :: _ :: _ :: _ :: _ :: _ :: _ :: _ :: _ :: _ :: _ :: _ :: _ :: []), _⟩ ?_)); clear hK K
  refine BigFrame.wpQuiet_want rfl (fun K hK => qs_geq 12 14 rfl rfl rfl hkx (hK ⟨List.toArray (_ :: _ :: _ :: _ :: _ :: _ :: _ :: _ :: _ :: _ :: _ :: _ :: _ :: _ :: _ :: _ :: _ :: _ :: _ :: _ :: _ :: _ :: _ :: _ :: _ :: _ :: _ :: _ :: _ :: _ :: _ :: _ :: _ :: _ :: _ :: _ :: _ :: _ :: _ :: _ :: _ :: _ :: _ :: _ :: _ :: _ :: _ :: _ :: _ :: _ :: _ :: _ :: _ :: _ :: _ :: _ :: _ :: _ :: []), _⟩ ?_)); clear hK K
  refine BigFrame.wpQuiet_want rfl (fun K hK => BigFrame.quiet_move _ rfl (hK ⟨List.toArray (_ :: _ :: _ :: _ :: _ :: _ :: _ :: _ :: _ :: _ :: _ :: _ :: _ :: _ :: _ :: _ :: _ :: _ :: _ :: _ :: _ :: _ :: _ :: _ :: _ :: _ :: _ :: _ :: _ :: _ :: _ :: _ :: _ :: _ :: _ :: _ :: _ :: _ :: _ :: _ :: _ :: _ :: _ :: _ :: _ :: _ :: _ :: _ :: _ :: _ :: _ :: _ :: _ :: _ :: _ :: _ :: _ :: _ :: []), _⟩ ?_)); clear hK K
  refine BigFrame.wpQuiet_want rfl (fun K hK => BigFrame.quiet_move _ rfl (hK ⟨List.toArray (_ :: _ :: _ :: _ :: _ :: _ :: _ :: _ :: _ :: _ :: _ :: _ :: _ :: _ :: _ :: _ :: _ :: _ :: _ :: _ :: _ :: _ :: _ :: _ :: _ :: _ :: _ :: _ :: _ :: _ :: _ :: _ :: _ :: _ :: _ :: _ :: _ :: _ :: _ :: _ :: _ :: _ :: _ :: _ :: _ :: _ :: _ :: _ :: _ :: _ :: _ :: _ :: _ :: _ :: _ :: _ :: _ :: _ :: []), _⟩ ?_)); clear hK K
  refine BigFrame.wpQuiet_want rfl (fun K hK => qs_load 28 4 (.inr (.inl rfl)) rfl rfl cL (hK ⟨List.toArray (_ :: _ :: _ :: _ :: _ :: _ :: _ :: _ :: _ :: _ :: _ :: _ :: _ :: _ :: _ :: _ :: _ :: _ :: _ :: _ :: _ :: _ :: _ :: _ :: _ :: _ :: _ :: _ :: _ :: _ :: _ :: _ :: _ :: _ :: _ :: _ :: _ :: _ :: _ :: _ :: _ :: _ :: _ :: _ :: _ :: _ :: _ :: _ :: _ :: _ :: _ :: _ :: _ :: _ :: _ :: _ :: _ :: _ :: []), _⟩ ?_)); clear hK K
  refine BigFrame.wpQuiet_want rfl (fun K hK => qs_load 3 3 (.inl rfl) rfl rfl cK (hK ⟨List.toArray (_ :: _ :: _ :: _ :: _ :: _ :: _ :: _ :: _ :: _ :: _ :: _ :: _ :: _ :: _ :: _ :: _ :: _ :: _ :: _ :: _ :: _ :: _ :: _ :: _ :: _ :: _ :: _ :: _ :: _ :: _ :: _ :: _ :: _ :: _ :: _ :: _ :: _ :: _ :: _ :: _ :: _ :: _ :: _ :: _ :: _ :: _ :: _ :: _ :: _ :: _ :: _ :: _ :: _ :: _ :: _ :: _ :: _ :: []), _⟩ ?_)); clear hK K
  refine BigFrame.wpQuiet_want rfl (fun K hK => qs_index 18 19 rfl rfl rfl hkl (hK ⟨List.toArray (_ :: _ :: _ :: _ :: _ :: _ :: _ :: _ :: _ :: _ :: _ :: _ :: _ :: _ :: _ :: _ :: _ :: _ :: _ :: _ :: _ :: _ :: _ :: _ :: _ :: _ :: _ :: _ :: _ :: _ :: _ :: _ :: _ :: _ :: _ :: _ :: _ :: _ :: _ :: _ :: _ :: _ :: _ :: _ :: _ :: _ :: _ :: _ :: _ :: _ :: _ :: _ :: _ :: _ :: _ :: _ :: _ :: _ :: []), _⟩ ?_)); clear hK K
  refine BigFrame.wpQuiet_want rfl (fun K hK => qs_field 20 0 (.inl rfl) rfl rfl (hK ⟨List.toArray (_ :: _ :: _ :: _ :: _ :: _ :: _ :: _ :: _ :: _ :: _ :: _ :: _ :: _ :: _ :: _ :: _ :: _ :: _ :: _ :: _ :: _ :: _ :: _ :: _ :: _ :: _ :: _ :: _ :: _ :: _ :: _ :: _ :: _ :: _ :: _ :: _ :: _ :: _ :: _ :: _ :: _ :: _ :: _ :: _ :: _ :: _ :: _ :: _ :: _ :: _ :: _ :: _ :: _ :: _ :: _ :: _ :: _ :: []), _⟩ ?_)); clear hK K
  refine BigFrame.wpQuiet_want rfl (fun K hK => qs_load 3 21 (.inl rfl) rfl rfl cI (hK ⟨List.toArray (_ :: _ :: _ :: _ :: _ :: _ :: _ :: _ :: _ :: _ :: _ :: _ :: _ :: _ :: _ :: _ :: _ :: _ :: _ :: _ :: _ :: _ :: _ :: _ :: _ :: _ :: _ :: _ :: _ :: _ :: _ :: _ :: _ :: _ :: _ :: _ :: _ :: _ :: _ :: _ :: _ :: _ :: _ :: _ :: _ :: _ :: _ :: _ :: _ :: _ :: _ :: _ :: _ :: _ :: _ :: _ :: _ :: _ :: []), _⟩ ?_)); clear hK K
  refine BigFrame.wpQuiet_want rfl (fun K hK => qs_neq 17 22 rfl rfl rfl (hK ⟨List.toArray (_ :: _ :: _ :: _ :: _ :: _ :: _ :: _ :: _ :: _ :: _ :: _ :: _ :: _ :: _ :: _ :: _ :: _ :: _ :: _ :: _ :: _ :: _ :: _ :: _ :: _ :: _ :: _ :: _ :: _ :: _ :: _ :: _ :: _ :: _ :: _ :: _ :: _ :: _ :: _ :: _ :: _ :: _ :: _ :: _ :: _ :: _ :: _ :: _ :: _ :: _ :: _ :: _ :: _ :: _ :: _ :: _ :: _ :: []), _⟩ ?_)); clear hK K
  refine BigFrame.wpQuiet_want rfl (fun K hK => qs_pickT 16 23 rfl rfl rfl (hK ⟨List.toArray (_ :: _ :: _ :: _ :: _ :: _ :: _ :: _ :: _ :: _ :: _ :: _ :: _ :: _ :: _ :: _ :: _ :: _ :: _ :: _ :: _ :: _ :: _ :: _ :: _ :: _ :: _ :: _ :: _ :: _ :: _ :: _ :: _ :: _ :: _ :: _ :: _ :: _ :: _ :: _ :: _ :: _ :: _ :: _ :: _ :: _ :: _ :: _ :: _ :: _ :: _ :: _ :: _ :: _ :: _ :: _ :: _ :: _ :: []), _⟩ ?_)); clear hK K
  refine BigFrame.wpQuiet_want rfl (fun K hK => BigFrame.quiet_move _ rfl (hK ⟨List.toArray (_ :: _ :: _ :: _ :: _ :: _ :: _ :: _ :: _ :: _ :: _ :: _ :: _ :: _ :: _ :: _ :: _ :: _ :: _ :: _ :: _ :: _ :: _ :: _ :: _ :: _ :: _ :: _ :: _ :: _ :: _ :: _ :: _ :: _ :: _ :: _ :: _ :: _ :: _ :: _ :: _ :: _ :: _ :: _ :: _ :: _ :: _ :: _ :: _ :: _ :: _ :: _ :: _ :: _ :: _ :: _ :: _ :: _ :: []), _⟩ ?_)); clear hK K
  refine BigFrame.wpQuiet_want rfl (fun K hK => BigFrame.quiet_move _ rfl (hK ⟨List.toArray (_ :: _ :: _ :: _ :: _ :: _ :: _ :: _ :: _ :: _ :: _ :: _ :: _ :: _ :: _ :: _ :: _ :: _ :: _ :: _ :: _ :: _ :: _ :: _ :: _ :: _ :: _ :: _ :: _ :: _ :: _ :: _ :: _ :: _ :: _ :: _ :: _ :: _ :: _ :: _ :: _ :: _ :: _ :: _ :: _ :: _ :: _ :: _ :: _ :: _ :: _ :: _ :: _ :: _ :: _ :: _ :: _ :: _ :: []), _⟩ ?_)); clear hK K
  refine BigFrame.wpQuiet_want rfl (fun K hK => qs_load 28 4 (.inr (.inl rfl)) rfl rfl cL (hK ⟨List.toArray (_ :: _ :: _ :: _ :: _ :: _ :: _ :: _ :: _ :: _ :: _ :: _ :: _ :: _ :: _ :: _ :: _ :: _ :: _ :: _ :: _ :: _ :: _ :: _ :: _ :: _ :: _ :: _ :: _ :: _ :: _ :: _ :: _ :: _ :: _ :: _ :: _ :: _ :: _ :: _ :: _ :: _ :: _ :: _ :: _ :: _ :: _ :: _ :: _ :: _ :: _ :: _ :: _ :: _ :: _ :: _ :: _ :: _ :: []), _⟩ ?_)); clear hK K
  refine BigFrame.wpQuiet_want rfl (fun K hK => qs_load 3 3 (.inl rfl) rfl rfl cK (hK ⟨List.toArray (_ :: _ :: _ :: _ :: _ :: _ :: _ :: _ :: _ :: _ :: _ :: _ :: _ :: _ :: _ :: _ :: _ :: _ :: _ :: _ :: _ :: _ :: _ :: _ :: _ :: _ :: _ :: _ :: _ :: _ :: _ :: _ :: _ :: _ :: _ :: _ :: _ :: _ :: _ :: _ :: _ :: _ :: _ :: _ :: _ :: _ :: _ :: _ :: _ :: _ :: _ :: _ :: _ :: _ :: _ :: _ :: _ :: _ :: []), _⟩ ?_)); clear hK K
  refine BigFrame.wpQuiet_want rfl (fun K hK => qs_index 27 28 rfl rfl rfl hkl (hK ⟨List.toArray (_ :: _ :: _ :: _ :: _ :: _ :: _ :: _ :: _ :: _ :: _ :: _ :: _ :: _ :: _ :: _ :: _ :: _ :: _ :: _ :: _ :: _ :: _ :: _ :: _ :: _ :: _ :: _ :: _ :: _ :: _ :: _ :: _ :: _ :: _ :: _ :: _ :: _ :: _ :: _ :: _ :: _ :: _ :: _ :: _ :: _ :: _ :: _ :: _ :: _ :: _ :: _ :: _ :: _ :: _ :: _ :: _ :: _ :: []), _⟩ ?_)); clear hK K
  refine BigFrame.wpQuiet_want rfl (fun K hK => qs_field 29 1 (.inr (.inl rfl)) rfl rfl (hK ⟨List.toArray (_ :: _ :: _ :: _ :: _ :: _ :: _ :: _ :: _ :: _ :: _ :: _ :: _ :: _ :: _ :: _ :: _ :: _ :: _ :: _ :: _ :: _ :: _ :: _ :: _ :: _ :: _ :: _ :: _ :: _ :: _ :: _ :: _ :: _ :: _ :: _ :: _ :: _ :: _ :: _ :: _ :: _ :: _ :: _ :: _ :: _ :: _ :: _ :: _ :: _ :: _ :: _ :: _ :: _ :: _ :: _ :: _ :: _ :: []), _⟩ ?_)); clear hK K
  refine BigFrame.wpQuiet_want rfl (fun K hK => qs_load 3 30 (.inl rfl) rfl rfl cD (hK ⟨List.toArray (_ :: _ :: _ :: _ :: _ :: _ :: _ :: _ :: _ :: _ :: _ :: _ :: _ :: _ :: _ :: _ :: _ :: _ :: _ :: _ :: _ :: _ :: _ :: _ :: _ :: _ :: _ :: _ :: _ :: _ :: _ :: _ :: _ :: _ :: _ :: _ :: _ :: _ :: _ :: _ :: _ :: _ :: _ :: _ :: _ :: _ :: _ :: _ :: _ :: _ :: _ :: _ :: _ :: _ :: _ :: _ :: _ :: _ :: []), _⟩ ?_)); clear hK K
  refine BigFrame.wpQuiet_want rfl (fun K hK => qs_neq 26 31 rfl rfl rfl (hK ⟨List.toArray (_ :: _ :: _ :: _ :: _ :: _ :: _ :: _ :: _ :: _ :: _ :: _ :: _ :: _ :: _ :: _ :: _ :: _ :: _ :: _ :: _ :: _ :: _ :: _ :: _ :: _ :: _ :: _ :: _ :: _ :: _ :: _ :: _ :: _ :: _ :: _ :: _ :: _ :: _ :: _ :: _ :: _ :: _ :: _ :: _ :: _ :: _ :: _ :: _ :: _ :: _ :: _ :: _ :: _ :: _ :: _ :: _ :: _ :: []), _⟩ ?_)); clear hK K
  refine BigFrame.wpQuiet_want rfl (fun K hK => qs_pickT 25 32 rfl rfl rfl (hK ⟨List.toArray (_ :: _ :: _ :: _ :: _ :: _ :: _ :: _ :: _ :: _ :: _ :: _ :: _ :: _ :: _ :: _ :: _ :: _ :: _ :: _ :: _ :: _ :: _ :: _ :: _ :: _ :: _ :: _ :: _ :: _ :: _ :: _ :: _ :: _ :: _ :: _ :: _ :: _ :: _ :: _ :: _ :: _ :: _ :: _ :: _ :: _ :: _ :: _ :: _ :: _ :: _ :: _ :: _ :: _ :: _ :: _ :: _ :: _ :: []), _⟩ ?_)); clear hK K
  refine BigFrame.wpQuiet_want rfl (fun K hK => BigFrame.quiet_move _ rfl (hK ⟨List.toArray (_ :: _ :: _ :: _ :: _ :: _ :: _ :: _ :: _ :: _ :: _ :: _ :: _ :: _ :: _ :: _ :: _ :: _ :: _ :: _ :: _ :: _ :: _ :: _ :: _ :: _ :: _ :: _ :: _ :: _ :: _ :: _ :: _ :: _ :: _ :: _ :: _ :: _ :: _ :: _ :: _ :: _ :: _ :: _ :: _ :: _ :: _ :: _ :: _ :: _ :: _ :: _ :: _ :: _ :: _ :: _ :: _ :: _ :: []), _⟩ ?_)); clear hK K
  refine BigFrame.wpQuiet_want rfl (fun K hK => qs_node 9 rfl rfl cX (hK ⟨List.toArray (_ :: _ :: _ :: _ :: _ :: _ :: _ :: _ :: _ :: _ :: _ :: _ :: _ :: _ :: _ :: _ :: _ :: _ :: _ :: _ :: _ :: _ :: _ :: _ :: _ :: _ :: _ :: _ :: _ :: _ :: _ :: _ :: _ :: _ :: _ :: _ :: _ :: _ :: _ :: _ :: _ :: _ :: _ :: _ :: _ :: _ :: _ :: _ :: _ :: _ :: _ :: _ :: _ :: _ :: _ :: _ :: _ :: _ :: []), _⟩ ?_)); clear hK K
  refine BigFrame.wpQuiet_want rfl (fun K hK => qs_load 28 4 (.inr (.inl rfl)) rfl rfl cL (hK ⟨List.toArray (_ :: _ :: _ :: _ :: _ :: _ :: _ :: _ :: _ :: _ :: _ :: _ :: _ :: _ :: _ :: _ :: _ :: _ :: _ :: _ :: _ :: _ :: _ :: _ :: _ :: _ :: _ :: _ :: _ :: _ :: _ :: _ :: _ :: _ :: _ :: _ :: _ :: _ :: _ :: _ :: _ :: _ :: _ :: _ :: _ :: _ :: _ :: _ :: _ :: _ :: _ :: _ :: _ :: _ :: _ :: _ :: _ :: _ :: []), _⟩ ?_)); clear hK K
  refine BigFrame.wpQuiet_want rfl (fun K hK => qs_load 3 3 (.inl rfl) rfl rfl cK (hK ⟨List.toArray (_ :: _ :: _ :: _ :: _ :: _ :: _ :: _ :: _ :: _ :: _ :: _ :: _ :: _ :: _ :: _ :: _ :: _ :: _ :: _ :: _ :: _ :: _ :: _ :: _ :: _ :: _ :: _ :: _ :: _ :: _ :: _ :: _ :: _ :: _ :: _ :: _ :: _ :: _ :: _ :: _ :: _ :: _ :: _ :: _ :: _ :: _ :: _ :: _ :: _ :: _ :: _ :: _ :: _ :: _ :: _ :: _ :: _ :: []), _⟩ ?_)); clear hK K
  refine BigFrame.wpQuiet_want rfl (fun K hK => qs_index 36 37 rfl rfl rfl hkl (hK ⟨List.toArray (_ :: _ :: _ :: _ :: _ :: _ :: _ :: _ :: _ :: _ :: _ :: _ :: _ :: _ :: _ :: _ :: _ :: _ :: _ :: _ :: _ :: _ :: _ :: _ :: _ :: _ :: _ :: _ :: _ :: _ :: _ :: _ :: _ :: _ :: _ :: _ :: _ :: _ :: _ :: _ :: _ :: _ :: _ :: _ :: _ :: _ :: _ :: _ :: _ :: _ :: _ :: _ :: _ :: _ :: _ :: _ :: _ :: _ :: []), _⟩ ?_)); clear hK K
  refine BigFrame.wpQuiet_want rfl (fun K hK => qs_field 38 2 (.inr (.inr rfl)) rfl rfl (hK ⟨List.toArray (_ :: _ :: _ :: _ :: _ :: _ :: _ :: _ :: _ :: _ :: _ :: _ :: _ :: _ :: _ :: _ :: _ :: _ :: _ :: _ :: _ :: _ :: _ :: _ :: _ :: _ :: _ :: _ :: _ :: _ :: _ :: _ :: _ :: _ :: _ :: _ :: _ :: _ :: _ :: _ :: _ :: _ :: _ :: _ :: _ :: _ :: _ :: _ :: _ :: _ :: _ :: _ :: _ :: _ :: _ :: _ :: _ :: _ :: []), _⟩ ?_)); clear hK K
  refine BigFrame.wpQuiet_want rfl (fun K hK => qs_node 39 rfl rfl cN (hK ⟨List.toArray (_ :: _ :: _ :: _ :: _ :: _ :: _ :: _ :: _ :: _ :: _ :: _ :: _ :: _ :: _ :: _ :: _ :: _ :: _ :: _ :: _ :: _ :: _ :: _ :: _ :: _ :: _ :: _ :: _ :: _ :: _ :: _ :: _ :: _ :: _ :: _ :: _ :: _ :: _ :: _ :: _ :: _ :: _ :: _ :: _ :: _ :: _ :: _ :: _ :: _ :: _ :: _ :: _ :: _ :: _ :: _ :: _ :: _ :: []), _⟩ ?_)); clear hK K
  refine BigFrame.wpQuiet_want rfl (fun K hK => qs_call2 10 35 40 rfl rfl rfl (fun X => by rfl) cE (hK ⟨List.toArray (_ :: _ :: _ :: _ :: _ :: _ :: _ :: _ :: _ :: _ :: _ :: _ :: _ :: _ :: _ :: _ :: _ :: _ :: _ :: _ :: _ :: _ :: _ :: _ :: _ :: _ :: _ :: _ :: _ :: _ :: _ :: _ :: _ :: _ :: _ :: _ :: _ :: _ :: _ :: _ :: _ :: _ :: _ :: _ :: _ :: _ :: _ :: _ :: _ :: _ :: _ :: _ :: _ :: _ :: _ :: _ :: _ :: _ :: []), _⟩ ?_)); clear hK K
  refine BigFrame.wpQuiet_want rfl (fun K hK => qs_not 41 rfl rfl (hK ⟨List.toArray (_ :: _ :: _ :: _ :: _ :: _ :: _ :: _ :: _ :: _ :: _ :: _ :: _ :: _ :: _ :: _ :: _ :: _ :: _ :: _ :: _ :: _ :: _ :: _ :: _ :: _ :: _ :: _ :: _ :: _ :: _ :: _ :: _ :: _ :: _ :: _ :: _ :: _ :: _ :: _ :: _ :: _ :: _ :: _ :: _ :: _ :: _ :: _ :: _ :: _ :: _ :: _ :: _ :: _ :: _ :: _ :: _ :: _ :: []), _⟩ ?_)); clear hK K
  refine BigFrame.wpQuiet_want rfl (fun K hK => qs_pickT 34 42 rfl rfl rfl (hK ⟨List.toArray (_ :: _ :: _ :: _ :: _ :: _ :: _ :: _ :: _ :: _ :: _ :: _ :: _ :: _ :: _ :: _ :: _ :: _ :: _ :: _ :: _ :: _ :: _ :: _ :: _ :: _ :: _ :: _ :: _ :: _ :: _ :: _ :: _ :: _ :: _ :: _ :: _ :: _ :: _ :: _ :: _ :: _ :: _ :: _ :: _ :: _ :: _ :: _ :: _ :: _ :: _ :: _ :: _ :: _ :: _ :: _ :: _ :: _ :: []), _⟩ ?_)); clear hK K
  refine wpQuiet_nil ?_
  intro w9 h9
  have c9 := cK w9 h9
  have s9 := cSh.out w9 h9
  have hx9 : Boxed w9 qk 3 (.int .i64 (k : Int)) := (h9.block _ (by have := hs1h.out; omega)).trans ((hb1.block _ hqk).trans hJkh.out)
  have f9 := hx9.frozen
  have hz9 : Hid (RowI w9 sx zs) := fun j hj => by
    obtain ⟨ad, e, hc⟩ := hzh.out j hj
    have hbl := cell_lt hc
    have hbk : (ad.add j).block = ad.block := add_block _ _
    refine ⟨ad, e, ?_⟩
    rw [World.cell?_of_block (same0h.out w9 h9 _ hbl (by rw [hbk]; exact hzkh.out ad e (by omega)))]
    exact hc
  have hwk : IntKind.i64.wrap ((k : Int) + 1) = (k : Int) + 1 := by rw [IntKind.wrap_i64]; omega
  obtain ⟨W2, hW2⟩ : ∃ W2, W2 = w9.setCell ⟨qk, 0, none⟩ (.int .i64 ((k : Int) + 1)) := ⟨_, rfl⟩
  have same2 : ∀ b, b ≠ qk → W2.heap[b]? = w9.heap[b]? := fun b hb => by rw [hW2, Below.heap_setCell _ _ _ _ hb]
  have hs2 : W2.heap.size = w9.heap.size := by rw [hW2]; simp
  have hx2 : Boxed W2 qk 3 (.int .i64 ((k : Int) + 1)) := by rw [hW2]; exact hx9.set _
  have s2 : W2.cell? ⟨qs, 0, none⟩ = some (.slice sx zs.length sc) := (World.cell?_of_block (same2 qs hsk)).trans s9
  have hz2 : RowI W2 sx zs := fun j hj => by
    obtain ⟨ad, e, hc⟩ := hz9.out j hj
    have hbk : (ad.add j).block = ad.block := add_block _ _
    refine ⟨ad, e, ?_⟩
    rw [World.cell?_of_block (same2 _ (by rw [hbk]; exact hzkh.out ad e (by omega)))]
    exact hc
  have hfin : Hid (CloJ w0 qk (vs ++ [(yi, yd, yt)]) W2 ∧ Rnd (fun _ b => b = qk) W W2) := by
    have e1 := hs1h.out
    have e9 := h9.size
    refine ⟨⟨?_, by omega, fun b hb hne => ?_⟩, ⟨?_, ?_, ?_, by omega, fun b hb hne => ?_, fun _ h => .inl h⟩⟩
    · rw [List.length_append, ← hkh.out]
      exact hx2
    · rw [same2 b hne, same0h.out w9 h9 b hb hne]
    · rw [hW2]; exact h9.os.trans hb1.os
    · rw [hW2]; exact h9.tape.trans hb1.tape
    · rw [hW2]; exact h9.output.trans hb1.output
    · rw [same2 b hne, h9.block b (by omega), hb1.block b hb]
  have hz6h : Hid (zs.length ≤ 6) := hz6
  clear cK cL cX cI cD cN cE hx2 hs2 same2 hx9 hb1 h9 hz6
  go_wp2
  rw [← hW2]
  clear hW2 c9 s9 f9
  go_loopw [11] (fun jv wr => ∃ j : Nat, j ≤ zs.length ∧ jv = .int .i64 j ∧ wr = W2 ∧ Hid (among (zs.take j) yi = false)) (fun jv _ => zs.length - (intOf jv).toNat)
  case atStart => exact ⟨0, Nat.zero_le _, rfl, rfl, by show _ = _; simp [among]⟩
  case round =>
    obtain ⟨j, hj, rfl, hwr, hno⟩ := hrel
    replace hwr := hwr.symm
    subst hwr
    by_cases hlt : j < zs.length
    · have d1 : decide ((j : Int) < (zs.length : Int)) = true := decide_eq_true (by omega)
      have i1 : (j : Int) < (zs.length : Int) := by omega
      have hj6 : (j : Int) + 1 < 9223372036854775808 := by have := hz6h.out; omega
      obtain ⟨ad, rfl, hzc⟩ := hz2 j hlt
      have hat := among_take hlt yi
      by_cases he : zs[j]'hlt = (yi : Int)
      · have hb : Hid (among zs yi = true) := among_end hlt he
        have hbe : (zs[j]'hlt == (yi : Int)) = true := by rw [he]; simp
        have hde : decide (zs[j]'hlt = (yi : Int)) = true := decide_eq_true he
        clear hat
        go_wp2
        go_ret
        exact ⟨by rw [hb.out]; rfl, hfin.out⟩
      · have hbe : (zs[j]'hlt == (yi : Int)) = false := by simp [he]
        have hde : decide (zs[j]'hlt = (yi : Int)) = false := decide_eq_false he
        have hno2 : Hid (among (zs.take (j + 1)) yi = false) := by show _ = _; rw [hat, hno.out, hbe]; rfl
        clear hat
        go_wp2
        go_roundw
        case rel => exact ⟨j + 1, by omega, by go_num, by first | rfl | trivial, hno2⟩
        case measure => simp [intOf]; omega
    · obtain rfl : j = zs.length := by omega
      have d1 : decide ((zs.length : Int) < (zs.length : Int)) = false := decide_eq_false (by omega)
      have hb : Hid (among zs yi = false) := by have := hno.out; rw [List.take_length] at this; exact this
      go_wp2
      go_ret
      exact ⟨by rw [hb.out]; rfl, hfin.out⟩
end Go.Proofs.Ytbfklindcmmncaa
