/- trees: over. -/
import Derived.Test.YtbfklindcmmncaaDc
namespace Go.Proofs.Ytbfklindcmmncaa
open Go.RowKit Go.Shelf
attribute [local go_sem ↓] Go.wp_at_zero Go.wp_at_succ
/-- A row of numbers. -/
def RowI (w : World) (x : Option Addr) (zs : List Int) : Prop := ∀ j (hj : j < zs.length), ∃ ad, x = some ad ∧ w.cell? (ad.add j) = some (.int .i64 (zs[j]'hj))
theorem ovT_cut {ans : Nat → Bool} {i d : Nat} {t : Tr} (h : ans i = false) : ovT ans i d t = [(i, d, t)] := by
  obtain ⟨k, a, s, ks⟩ := t
  unfold ovT
  rw [h]
  rfl
def OvSaid (n : Nat) : Prop := ∀ (t : Tr), t.size ≤ n → ∀ (w : World) (v : NC) (P : Nat → Prop) (d ib i : Nat) (sx : Option Addr) (sc : Nat) (zs : List Int),
  (∀ b, P b → b ≠ ib ∧ b < w.heap.size) → TrV w P v.val t → Boxed w ib 3 (.int .i64 (i : Int)) → RowI w sx zs → (∀ ad, sx = some ad → 0 < zs.length → ad.block ≠ ib) → zs.length ≤ 6 → i + t.size ≤ 1000 → d + t.size ≤ 1000 →
  Calls Try.prog 7 #[v.val, .int .i64 (d : Int), .pointer (some ⟨ib, 0, none⟩), .slice sx zs.length sc] w fun e w' => ∃ (vr : Value) (xs : List VN), e = .returned vr ∧ xs.map VN.key = ovT (fun i => !among zs i) i d t ∧ w'.ownsRow w.heap.size 33 6 vr xs.length (flatV xs) ∧ (∀ x ∈ xs, TrV w' P x.n.val x.t) ∧ Boxed w' ib 3 (.int .i64 ((i + t.size : Nat) : Int)) ∧ Rnd (fun _ b => b = ib) w w'
theorem info33 : (Try.prog.info? 33).map (fun i => (i.zero, i.size, i.bytes)) = some (some (.agg #[.int .i64 0, .int .i64 0, .int .i64 0, .int .i64 0, .string ⟨#[]⟩, .slice none 0 0]), 6, 72) := by kernel_rfl
/-- What the loop over the kids holds. -/
def OvAt (w : World) (P : Nat → Prop) (b4 ib : Nat) (v : NC) (t : Tr) (ans : Nat → Bool) (i d : Nat) (ks : List Tr) (lv kv : Value) (wr : World) : Prop :=
  ∃ (j : Nat) (xs : List VN) (g c : Nat), j ≤ ks.length ∧ kv = .int .i64 (j : Int) ∧ lv = .slice (some ⟨g, 0, none⟩) xs.length c ∧ xs.map VN.key = (i, d, t) :: ovK ans (i + 1) (d + 1) (ks.take j) ∧ wr.ownsRow (b4 + 1) 33 6 lv xs.length (flatV xs) ∧ (∀ x ∈ xs, TrV wr P x.n.val x.t) ∧ Boxed wr ib 3 (.int .i64 ((i + 1 + sizes (ks.take j) : Nat) : Int)) ∧ wr.heap[b4]? = some (.cells #[.int .i64 v.k, .int .i64 v.a, .string v.s, .slice v.x v.l v.c] 24 (0, 0)) ∧ Rnd (fun _ b => b = ib) w wr
theorem own_less {w : World} {base base' e sz n : Nat} {v : Value} {xs : List Value} (h : w.ownsRow base e sz v n xs) (hb : base' ≤ base) : w.ownsRow base' e sz v n xs :=
  ⟨h.1, h.2.elim .inl (fun ⟨g, cap, cur, h1, h2, h3⟩ => .inr ⟨g, cap, cur, h1, Nat.le_trans hb h2, h3⟩)⟩
theorem ovT_pos (ans : Nat → Bool) (i d : Nat) (t : Tr) : 0 < (ovT ans i d t).length := by
  obtain ⟨k, a, s, ks⟩ := t
  unfold ovT
  simp
theorem ov_app {w wr w5 : World} {P : Nat → Prop} {b4 ib i d j : Nat} {v : NC} {t : Tr} {ans : Nat → Bool} {ks : List Tr} {xs xs5 : List VN} {lv : Value} (hj : j < ks.length) (h4 : b4 = w.heap.size) (hib : ib < w.heap.size) (hP : ∀ b, P b → b ≠ ib ∧ b < w.heap.size)
    (hkey : xs.map VN.key = (i, d, t) :: ovK ans (i + 1) (d + 1) (ks.take j)) (hO : wr.ownsRow (b4 + 1) 33 6 lv xs.length (flatV xs)) (hT : ∀ x ∈ xs, TrV wr P x.n.val x.t) (hq : wr.heap[b4]? = some (.cells #[.int .i64 v.k, .int .i64 v.a, .string v.s, .slice v.x v.l v.c] 24 (0, 0))) (hR : Rnd (fun _ b => b = ib) w wr)
    (hk5 : xs5.map VN.key = ovT ans (i + 1 + sizes (ks.take j)) (d + 1) (ks[j]'hj)) (hT5 : ∀ x ∈ xs5, TrV w5 P x.n.val x.t) (hB5 : Boxed w5 ib 3 (.int .i64 ((i + 1 + sizes (ks.take j) + (ks[j]'hj).size : Nat) : Int))) (hR5 : Rnd (fun _ b => b = ib) wr w5) :
    w5.ownsRow (b4 + 1) 33 6 lv xs.length (flatV xs) ∧ b4 + 1 ≤ w5.heap.size ∧ ∀ g' c' w7, w7.ownsRow (b4 + 1) 33 6 (.slice (some ⟨g', 0, none⟩) (xs.length + xs5.length) c') (xs.length + xs5.length) (flatV xs ++ flatV xs5) → w5.grownBy w7 lv.ownBlock → OvAt w P b4 ib v t ans i d ks (.slice (some ⟨g', 0, none⟩) (xs.length + xs5.length) c') (.int .i64 ((j + 1 : Nat) : Int)) w7 := by
  have hbl : b4 < wr.heap.size := (Array.getElem?_eq_some_iff.1 hq).1
  have hrs := hR.size
  have hs5 := hR5.size
  have hown : ∀ b, lv.ownBlock = some b → b4 + 1 ≤ b ∧ b < wr.heap.size := fun b h => hO.lt b h
  have hO5 : w5.ownsRow (b4 + 1) 33 6 lv xs.length (flatV xs) := by
    refine World.ownsRow.kept (w := wr) (row := some ib) hO ⟨hR5.os, hR5.tape, hR5.output, hR5.size, fun b hb hne => hR5.block b hb (fun e => hne (by rw [e]))⟩ ?_
    right
    intro h
    have := (hown ib h).1
    omega
  refine ⟨hO5, by omega, fun g' c' w7 hO7 hg7 => ?_⟩
  have low : ∀ b, b ≤ b4 → some b ≠ lv.ownBlock := fun b hb h => by have := (hown b h.symm).1; omega
  have keep7 : ∀ p : Addr, ∀ u, P p.block → w5.cell? p = some u → w7.cell? p = some u := fun p u hp hc => by
    have := hP _ hp
    rw [World.cell?_of_block (hg7.block p.block (by omega) (low _ (by omega)))]
    exact hc
  have keep5 : ∀ p : Addr, ∀ u, P p.block → wr.cell? p = some u → w5.cell? p = some u := fun p u hp hc => by
    have := hP _ hp
    rw [World.cell?_of_block (hR5.block p.block (by omega) this.1)]
    exact hc
  refine ⟨j + 1, xs ++ xs5, g', c', by omega, rfl, by rw [List.length_append], ?_, ?_, ?_, ?_, ?_, ?_⟩
  · rw [List.map_append, hkey, hk5, ovK_take ans ks j hj]
    rfl
  · rw [List.length_append, flatV_app]
    exact hO7
  · intro x hx
    rcases List.mem_append.1 hx with hx | hx
    · exact TrV.same (fun p u hp hc => keep7 p u hp (keep5 p u hp hc)) (fun _ h => h) (hT x hx)
    · exact TrV.same keep7 (fun _ h => h) (hT5 x hx)
  · rw [szTake hj, ← Nat.add_assoc]
    exact (hg7.block ib (by omega) (low _ (by omega))).trans hB5
  · rw [hg7.block b4 (by omega) (low _ (Nat.le_refl _)), hR5.block b4 hbl (by omega)]
    exact hq
  · refine ⟨?_, ?_, ?_, ?_, fun b hb hne => ?_, fun _ h => .inl h⟩
    · exact hg7.os.trans (hR5.os.trans hR.os)
    · exact hg7.tape.trans (hR5.tape.trans hR.tape)
    · exact hg7.output.trans (hR5.output.trans hR.output)
    · have := hg7.size; omega
    · rw [hg7.block b (by omega) (low _ (by omega)), hR5.block b (by omega) hne, hR.block b hb hne]
set_option maxRecDepth 20000 in
set_option maxHeartbeats 2000000 in
theorem over_step (n : Nat) (ih : OvSaid n) : OvSaid (n + 1) := by
  intro t hsz w v P d ib i sx sc zs hP ht hbx hzs hzb hz6 hi1 hd1
  have hc0 := hbx.cell
  have hf0 := hbx.frozen
  have hl0 := hbx.lt
  rw [show #[v.val, Value.int .i64 (d : Int), Value.pointer (some ⟨ib, 0, none⟩), Value.slice sx zs.length sc] = #[Value.agg #[.int .i64 v.k, .int .i64 v.a, .string v.s, .slice v.x v.l v.c], Value.int .i64 (d : Int), Value.pointer (some ⟨ib, 0, none⟩), Value.slice sx zs.length sc] from rfl]
  obtain ⟨W, hW⟩ : ∃ W, W = w.alloc (.cells #[.int .i64 v.k, .int .i64 v.a, .string v.s, .slice v.x v.l v.c] 24) := ⟨_, rfl⟩
  have hbW : Below w.heap.size w W := by rw [hW]; exact (Below.refl _ _).alloc (Nat.le_refl _) _
  obtain ⟨g0, g1, g2, g3, _, hgl⟩ := node_cells (w := W) (b := w.heap.size) (by rw [hW]; exact new_at _ _)
  have hq4W : Hid (W.heap[w.heap.size]? = some (.cells #[.int .i64 v.k, .int .i64 v.a, .string v.s, .slice v.x v.l v.c] 24 (0, 0))) := by show _ = _; rw [hW]; exact new_at _ _
  have hsWh : Hid (W.heap.size = w.heap.size + 1) := by show _ = _; rw [hW]; simp
  have hbxW : Boxed W ib 3 (.int .i64 (i : Int)) := (hbW.block _ hl0).trans hbx
  have hcW := hbxW.cell
  have hfW := hbxW.frozen
  have hih : Hid (OvSaid n) := ih
  have hth : Hid _ := ht
  have hbxh : Hid _ := hbx
  clear ih ht hbx hbxW hc0 hf0
  obtain ⟨W2, hW2⟩ : ∃ W2, W2 = (W.alloc (.cells #[.int .i64 (i : Int), .int .i64 (d : Int), .int .i64 v.k, .int .i64 v.a, .string v.s, .slice v.x v.l v.c] 33)).drew := ⟨_, rfl⟩
  have hb2 : Below W.heap.size W W2 := by rw [hW2]; exact ((Below.refl _ _).alloc (Nat.le_refl _) _).drew
  have hs2 : W2.heap.size = W.heap.size + 1 := by rw [hW2]; simp
  have hrow2 : W2.heap[W.heap.size]? = some (.cells #[.int .i64 (i : Int), .int .i64 (d : Int), .int .i64 v.k, .int .i64 v.a, .string v.s, .slice v.x v.l v.c] 33 (0, 0)) := by rw [hW2]; exact new_at _ _
  have hc2 := keep_cell hb2 hcW
  have hbx2 : Boxed W2 ib 3 (.int .i64 (i : Int)) := (hb2.block _ (Nat.lt_of_lt_of_le hl0 hbW.size)).trans ((hbW.block _ hl0).trans hbxh.out)
  have hf2 := hbx2.frozen
  obtain ⟨W3, hW3⟩ : ∃ W3, W3 = W2.setCell ⟨ib, 0, none⟩ (.int .i64 ((i : Int) + 1)) := ⟨_, rfl⟩
  have hbx3 : Boxed W3 ib 3 (.int .i64 ((i : Int) + 1)) := by rw [hW3]; exact hbx2.set _
  have same3 : ∀ b, b ≠ ib → W3.heap[b]? = W2.heap[b]? := fun b hb => by rw [hW3, Below.heap_setCell _ _ _ _ hb]
  have hs3 : W3.heap.size = W2.heap.size := by rw [hW3]; simp
  have hos3 : W3.os = W2.os ∧ W3.tape = W2.tape ∧ W3.output = W2.output := by rw [hW3]; exact ⟨rfl, rfl, rfl⟩
  have hi0 : i < 1000 := by have := size_pos t; omega
  go_enter Try.func7, Try.ntmps7
  go_upto_region 1 with fail
  rw [← hW]
  clear hW
  obtain ⟨b4, hb4⟩ : ∃ b4, b4 = w.heap.size := ⟨_, rfl⟩
  rw [← hb4] at g0 g1 g2 g3 ⊢
  have hb4h : Hid (b4 = w.heap.size) := hb4
  have h4l : b4 < W.heap.size := by omega
  have h4i : b4 ≠ ib := by omega
  clear hb4
  go_wp2
  have hs2h : Hid _ := hs2
  have hs3h : Hid _ := hs3
  clear hs2 hs3
  go_region
  rw [← hW2]
  clear hW2
  go_wp2
  rw [← hW3]
  clear hW3
  have hzr : RowI W3 sx zs := fun j hj => by
    obtain ⟨ad, e, hc⟩ := hzs j hj
    have hbl := cell_lt hc
    have hbk : (ad.add j).block = ad.block := add_block _ _
    refine ⟨ad, e, ?_⟩
    rw [World.cell?_of_block (same3 _ (by rw [hbk]; exact hzb ad e (by omega))), World.cell?_of_block (hb2.block _ (Nat.lt_of_lt_of_le hbl hbW.size)), World.cell?_of_block (hbW.block _ hbl)]
    exact hc
  go_loopw [11, 12] (fun cv jv wr => ∃ j : Nat, j ≤ zs.length ∧ cv = .bool (among (zs.take j) i) ∧ jv = .int .i64 j ∧ wr = W3) (fun _ jv _ => zs.length - (intOf jv).toNat)
  case atStart => exact ⟨0, Nat.zero_le _, by simp [among], rfl, rfl⟩
  case round =>
    obtain ⟨j, hj, rfl, rfl, hwr⟩ := hrel
    replace hwr := hwr.symm
    subst hwr
    by_cases hlt : j < zs.length
    · have d1 : decide ((j : Int) < (zs.length : Int)) = true := decide_eq_true (by omega)
      have i1 : (j : Int) < (zs.length : Int) := by omega
      obtain ⟨ad, rfl, hzc⟩ := hzr j hlt
      have hat := among_take hlt i
      cases hA : among (zs.take j) i with
      | true =>
        rw [hA] at hat
        have hath : Hid _ := hat
        clear hat
        go_wp2
        go_roundw
        case rel => exact ⟨j + 1, by omega, by rw [hath.out]; rfl, by go_num, by first | rfl | trivial⟩
        case measure => simp [intOf]; omega
      | false =>
        rw [hA] at hat
        have hath : Hid _ := hat
        clear hat
        go_wp2
        go_roundw
        case rel => exact ⟨j + 1, by omega, by rw [hath.out]; simp, by go_num, by first | rfl | trivial⟩
        case measure => simp [intOf]; omega
    · obtain rfl : j = zs.length := by omega
      have d1 : decide ((zs.length : Int) < (zs.length : Int)) = false := decide_eq_false (by omega)
      rw [List.take_length]
      cases hA : among zs i with
      | true =>
        have hTx : Hid (∀ X, Below W3.heap.size W3 X → TrV X P v.val t) := fun X hX => TrV.same (fun p u hp0 hc => by have hp := hP _ hp0; rw [World.cell?_of_block (hX.block _ (by have := hs2h.out; have := hs3h.out; have := hbW.size; omega)), World.cell?_of_block (same3 _ hp.1), World.cell?_of_block (hb2.block _ (Nat.lt_of_lt_of_le hp.2 hbW.size)), World.cell?_of_block (hbW.block _ hp.2)]; exact hc) (fun _ h => h) hth.out
        have kC : Hid (∀ X, Below W3.heap.size W3 X → Calls Try.prog 12 #[.agg #[.int .i64 v.k, .int .i64 v.a, .string v.s, .slice v.x v.l v.c]] X _) := fun X hX => rCount_any t.size t (Nat.le_refl _) (by omega) X _ v.val (hTx.out X hX)
        have e0 : W3.cell? ⟨b4, 0, none⟩ = some (.int .i64 v.k) := by rw [World.cell?_of_block (same3 _ h4i)]; exact keep_cell hb2 g0
        have e1 : W3.cell? ⟨b4, 1, none⟩ = some (.int .i64 v.a) := by rw [World.cell?_of_block (same3 _ h4i)]; exact keep_cell hb2 g1
        have e2 : W3.cell? ⟨b4, 2, none⟩ = some (.string v.s) := by rw [World.cell?_of_block (same3 _ h4i)]; exact keep_cell hb2 g2
        have e3 : W3.cell? ⟨b4, 3, none⟩ = some (.slice v.x v.l v.c) := by rw [World.cell?_of_block (same3 _ h4i)]; exact keep_cell hb2 g3
        have hc3 := hbx3.cell
        have hf3 := hbx3.frozen
        have hl3 := hbx3.lt
        have hdr3 : Hid (Below W3.heap.size W3 W3.drew) := (Below.refl _ _).drew
        have hbx3h : Hid (Boxed W3 ib 3 (.int .i64 ((i : Int) + 1))) := hbx3
        have hfin : Hid (∀ (w5 : World) (z : Int), Below W3.heap.size W3 w5 → z = ((i + t.size : Nat) : Int) → ∃ (vr : Value) (xs : List VN), Ending.returned (.slice (some ⟨W.heap.size, 0, none⟩) 1 1) = .returned vr ∧ xs.map VN.key = ovT (fun i => !among zs i) i d t ∧ (w5.setCell ⟨ib, 0, none⟩ (.int .i64 z)).ownsRow w.heap.size 33 6 vr xs.length (flatV xs) ∧ (∀ x ∈ xs, TrV (w5.setCell ⟨ib, 0, none⟩ (.int .i64 z)) P x.n.val x.t) ∧ Boxed (w5.setCell ⟨ib, 0, none⟩ (.int .i64 z)) ib 3 (.int .i64 ((i + t.size : Nat) : Int)) ∧ Rnd (fun _ b => b = ib) w (w5.setCell ⟨ib, 0, none⟩ (.int .i64 z))) := by
          intro w5 z hb5 hz
          subst hz
          have e2 := hs2h.out
          have e3 := hs3h.out
          have e1 := hbW.size
          have e5 := hb5.size
          have same5 : ∀ b, b ≠ ib → b < W3.heap.size → (w5.setCell ⟨ib, 0, none⟩ (.int .i64 ((i + t.size : Nat) : Int))).heap[b]? = W2.heap[b]? := fun b hb hl => by rw [Below.heap_setCell _ _ _ _ hb, hb5.block b hl, same3 b hb]
          refine ⟨_, [⟨i, d, v, t⟩], rfl, (ovT_cut (by simp [hA])).symm, ?_, ?_, ?_, ?_⟩
          · exact ⟨by rfl, .inr ⟨W.heap.size, 1, _, rfl, by omega, (same5 _ (by omega) (by omega)).trans hrow2, Nat.le_refl _, by decide, rfl, rfl⟩⟩
          · intro x hx
            rw [List.mem_singleton.1 hx]
            refine TrV.same (fun p u hp0 hc => ?_) (fun _ h => h) hth.out
            have hp := hP _ hp0
            rw [World.cell?_of_block (same5 _ hp.1 (by omega)), World.cell?_of_block (hb2.block _ (by omega)), World.cell?_of_block (hbW.block _ hp.2)]
            exact hc
          · have hx5 : Boxed w5 ib 3 (.int .i64 ((i : Int) + 1)) := (hb5.block _ (Boxed.lt hbx3h.out)).trans hbx3h.out
            exact hx5.set _
          · refine ⟨?_, ?_, ?_, ?_, fun b hb hne => ?_, fun _ h => .inl h⟩
            · exact hb5.os.trans (hos3.1.trans (hb2.os.trans hbW.os))
            · exact hb5.tape.trans (hos3.2.1.trans (hb2.tape.trans hbW.tape))
            · exact hb5.output.trans (hos3.2.2.trans (hb2.output.trans hbW.output))
            · simp; omega
            · rw [same5 b hne (by omega), hb2.block b (by omega), hbW.block b hb]
        have hts := size_pos t
        obtain ⟨T, hT⟩ : ∃ T, T = t.size := ⟨_, rfl⟩
        rw [← hT] at kC hi1 hts
        have hTh : Hid _ := hT
        clear hT g0 g1 g2 g3 hcW hfW hc2 hf2 hbx2 hbx3 hd1 hsz
        go_wp2
        go_region_with (go_at_call 12; refine Calls.mono (kC.out _ hdr3.out) ?_; rintro e w5 ⟨rfl, hb5⟩; replace hb5 : Below W3.heap.size W3 w5 := hdr3.out.trans hb5; have hc5 := keep_cell hb5 hc3; have hbx5 : Boxed w5 ib 3 (.int .i64 ((i : Int) + 1)) := (hb5.block _ hl3).trans hbx3h.out; have hf5 := hbx5.frozen)
        all_goals
          go_wp2
          go_ret
          refine hfin.out _ _ hb5 ?_
          rw [← hTh.out]
          rw [IntKind.wrap_i64, IntKind.wrap_i64]
          omega
      | false =>
        obtain ⟨tk, ta, tS, ks⟩ := t
        have ht' := hth.out
        unfold TrV at ht'
        obtain ⟨x1, l1, cap1, hv, hl1, hlc, hcm, hK⟩ := ht'
        simp only [NC.val, Value.agg.injEq, Array.mk.injEq, List.cons.injEq, Value.int.injEq, Value.string.injEq, Value.slice.injEq, true_and, and_true] at hv
        obtain ⟨rfl, rfl, rfl, rfl, rfl, rfl⟩ := hv
        have hovh : Hid (ovT (fun i => !among zs i) i d (.node v.k v.a v.s ks) = (i, d, .node v.k v.a v.s ks) :: ovK (fun i => !among zs i) (i + 1) (d + 1) ks) := by
          show _ = _
          rw [ovT]
          simp [hA]
        have hszh : Hid (Tr.size (.node v.k v.a v.s ks) = 1 + sizes ks) := by show _ = _; unfold Tr.size; rfl
        obtain ⟨T0, hT0⟩ : ∃ T0, T0 = Tr.node v.k v.a v.s ks := ⟨_, rfl⟩
        rw [← hT0] at hth hovh hszh hi1 hd1 hsz
        have hT0h : Hid (T0 = Tr.node v.k v.a v.s ks) := hT0
        clear hT0 hA
        have hst : Hid (OvAt w P b4 ib v T0 (fun i => !among zs i) i d ks (.slice (some ⟨W.heap.size, 0, none⟩) 1 1) (.int .i64 0) W3) := by
          have e2 := hs2h.out
          have e3 := hs3h.out
          have e1 := hsWh.out
          have e4 := hb4h.out
          refine ⟨0, [⟨i, d, v, T0⟩], W.heap.size, 1, Nat.zero_le _, rfl, rfl, rfl, ?_, ?_, ?_, ?_, ?_⟩
          · exact ⟨by rfl, .inr ⟨W.heap.size, 1, _, rfl, by omega, (same3 _ (by omega)).trans hrow2, Nat.le_refl _, by decide, rfl, rfl⟩⟩
          · intro x hx
            rw [List.mem_singleton.1 hx]
            refine TrV.same (fun p u hp0 hc => ?_) (fun _ h => h) hth.out
            have hp := hP _ hp0
            rw [World.cell?_of_block (same3 _ hp.1), World.cell?_of_block (hb2.block _ (by omega)), World.cell?_of_block (hbW.block _ hp.2)]
            exact hc
          · rw [List.take_zero]
            exact hbx3
          · rw [same3 b4 (by omega), hb2.block b4 (by omega), e4]
            exact hq4W.out
          · refine ⟨?_, ?_, ?_, by omega, fun b hb hne => ?_, fun _ h => .inl h⟩
            · exact hos3.1.trans (hb2.os.trans hbW.os)
            · exact hos3.2.1.trans (hb2.tape.trans hbW.tape)
            · exact hos3.2.2.trans (hb2.output.trans hbW.output)
            · rw [same3 b hne, hb2.block b (by omega), hbW.block b hb]
        have hzsh : Hid (RowI w sx zs) := hzs
        have hKh : Hid (KidsAt w P v.x 0 ks) := hK
        have hl1h : Hid (v.l = ks.length) := hl1
        have hcmh : Hid (v.l ≤ v.c ∧ v.c ≤ maxLen) := ⟨hlc, hcm⟩
        have hboundsh : Hid (i + (1 + sizes ks) ≤ 1000 ∧ d + (1 + sizes ks) ≤ 1000 ∧ 1 + sizes ks ≤ n + 1) := by show _ ∧ _ ∧ _; rw [← hszh.out]; exact ⟨hi1, hd1, hsz⟩
        have hd3 : Hid (d < 1000) := by show d < 1000; have := hboundsh.out; omega
        clear hK hzs hl1 hlc hcm hi1 hd1 hsz hbx3 hzr g0 g1 g2 g3 hcW hfW hc2 hf2 hbx2 hrow2 same3 hos3
        go_wp2
        go_loopw [9, 13, 14] (fun lv kv _ wr => OvAt w P b4 ib v T0 (fun i => !among zs i) i d ks lv kv wr) (fun _ kv _ _ => ks.length - (intOf kv).toNat)
        case atStart => exact hst.out
        case round =>
          clear hst
          obtain ⟨j, xs, gl, cl, hj, rfl, rfl, hkey, hO, hT, hB, hq, hR⟩ := hrel
          obtain ⟨p0, p1, p2, p3, pf, pl⟩ := node_cells hq
          rw [hl1h.out] at p3
          have hrs := hR.size
          by_cases hlt : j < ks.length
          · have d1 : decide ((j : Int) < (ks.length : Int)) = true := decide_eq_true (by omega)
            have i1 : (j : Int) < (ks.length : Int) := by omega
            have hkeep : ∀ p : Addr, ∀ u, P p.block → w.cell? p = some u → wr.cell? p = some u := fun p u hp hc => by
              have := hP _ hp
              rw [World.cell?_of_block (hR.block p.block this.2 this.1)]
              exact hc
            obtain ⟨ad, y1, y2, y3, y4, y5, y6, hx, hPa, c0, c1, c2, c3, hTk⟩ := KidsAt.at (KidsAt.same hkeep (fun _ h => h) hKh.out) j hlt
            rw [Nat.zero_add] at c0 c1 c2 c3
            rw [hx] at p3
            have hb := hboundsh.out
            have hk1 := size_kid hlt
            have hst := szTake hlt
            have hsl := szLe ks (j + 1)
            have hzr : RowI wr sx zs := fun q hq => by
              obtain ⟨ad, e, hc⟩ := hzsh.out q hq
              have hbl := cell_lt hc
              have hbk : (ad.add q).block = ad.block := add_block _ _
              refine ⟨ad, e, ?_⟩
              rw [World.cell?_of_block (hR.block _ hbl (by rw [hbk]; exact hzb ad e (by omega)))]
              exact hc
            have kO : Hid (Calls Try.prog 7 #[.agg #[.int .i64 y1, .int .i64 y2, .string y3, .slice y4 y5 y6], .int .i64 ((d : Int) + 1), .pointer (some ⟨ib, 0, none⟩), .slice sx zs.length sc] wr _) := hih.out (ks[j]'hlt) (by omega) wr ⟨y1, y2, y3, y4, y5, y6⟩ P (d + 1) ib (i + 1 + sizes (ks.take j)) sx sc zs (fun b h => ⟨(hP b h).1, Nat.lt_of_lt_of_le (hP b h).2 hrs⟩) hTk hB hzr hzb hz6 (by omega) (by omega)
            have hwd : IntKind.i64.wrap ((d : Int) + 1) = (d : Int) + 1 := by rw [IntKind.wrap_i64]; have := hd3.out; omega
            have hjc : (j : Int) + 1 ≤ 9223372036854775807 := by have := len_sizes ks; omega
            have hmk : Hid (∀ (w5 : World) (vr : Value) (xs5 : List VN), xs5.map VN.key = ovT (fun i => !among zs i) (i + 1 + sizes (ks.take j)) (d + 1) (ks[j]'hlt) → (∀ x ∈ xs5, TrV w5 P x.n.val x.t) → Boxed w5 ib 3 (.int .i64 ((i + 1 + sizes (ks.take j) + (ks[j]'hlt).size : Nat) : Int)) → Rnd (fun _ b => b = ib) wr w5 → w5.ownsRow (b4 + 1) 33 6 (.slice (some ⟨gl, 0, none⟩) xs.length cl) xs.length (flatV xs) ∧ b4 + 1 ≤ w5.heap.size ∧ ∀ g' c' w7, w7.ownsRow (b4 + 1) 33 6 (.slice (some ⟨g', 0, none⟩) (xs.length + xs5.length) c') (xs.length + xs5.length) (flatV xs ++ flatV xs5) → w5.grownBy w7 (some gl) → OvAt w P b4 ib v T0 (fun i => !among zs i) i d ks (.slice (some ⟨g', 0, none⟩) (xs.length + xs5.length) c') (.int .i64 ((j + 1 : Nat) : Int)) w7) := fun w5 _ xs5 a1 a2 a3 a4 => ov_app hlt hb4h.out hl0 hP hkey hO hT hq hR a1 a2 a3 a4
            have hxl : Hid (xs.length ≤ 1000) := by
              show _ ≤ _
              have e1 := congrArg List.length hkey
              rw [List.length_map, List.length_cons] at e1
              have e2 := ovK_len (fun i => !among zs i) (ks.take j) (i + 1) (d + 1)
              have e3 := szLe ks j
              omega
            have hk5b : Hid ((ks[j]'hlt).size ≤ 1000) := by show _ ≤ _; omega
            obtain ⟨i0, hi0, hz0, hz1, hz2⟩ := info_parts info33
            have hPh : Hid (∀ b, P b → b ≠ ib ∧ b < w.heap.size) := hP
            have hzbh : Hid (∀ ad, sx = some ad → 0 < zs.length → ad.block ≠ ib) := hzb
            clear hkey hO hT hB hq hR hTk hzr hb hk1 hst hsl hkeep pf hx hP hzb hPa hrs
            go_upto_region 15 with fail
            go_wp2_with fail
            refine Calls.mono kO.out ?_
            clear kO
            rintro e w5 ⟨vr, xs5, rfl, hk5, hO5, hT5, hB5, hR5⟩
            have hpos : 0 < xs5.length := by
              have := congrArg List.length hk5
              rw [List.length_map] at this
              rw [this]
              exact ovT_pos _ _ _ _
            have hle : xs5.length ≤ 1000 := by
              have := congrArg List.length hk5
              rw [List.length_map] at this
              rw [this]
              exact Nat.le_trans (ov_len _ _ _ _) hk5b.out
            obtain ⟨hO6, hb6, hap⟩ := hmk.out w5 vr xs5 hk5 hT5 hB5 hR5
            obtain ⟨g5, c5, rfl, _, _⟩ := hO5.form hpos
            have hn5 : Hid (∀ j u, (flatV xs5)[j]? = some u → w5.cell? ((⟨g5, 0, none⟩ : Addr).add j) = some u) := hO5.cells rfl
            have hO6h : Hid (w5.ownsRow (b4 + 1) 33 6 (.slice (some ⟨gl, 0, none⟩) xs.length cl) xs.length (flatV xs)) := hO6
            have hb6h : Hid (b4 + 1 ≤ w5.heap.size) := hb6
            have haph : Hid (∀ g' c' w7, w7.ownsRow (b4 + 1) 33 6 (.slice (some ⟨g', 0, none⟩) (xs.length + xs5.length) c') (xs.length + xs5.length) (flatV xs ++ flatV xs5) → w5.grownBy w7 (some gl) → OvAt w P b4 ib v T0 (fun i => !among zs i) i d ks (.slice (some ⟨g', 0, none⟩) (xs.length + xs5.length) c') (.int .i64 ((j + 1 : Nat) : Int)) w7) := hap
            have hln : Hid ((flatV xs5).length = xs5.length * 6) := flatV_len xs5
            have h63 : Hid (xs.length + xs5.length ≤ maxLen) := by show _ ≤ _; have := hxl.out; unfold maxLen; omega
            have hby : Hid ((xs.length + xs5.length) * 72 ≤ 140737488355328) := by show _ ≤ _; have := hxl.out; omega
            clear hO6 hb6 hap hO5 hT5 hB5 hR5 hk5 hle hmk
            have hposh : Hid (0 < xs5.length) := hpos
            clear hpos
            go_wp2_with (at_builtin; refine wpList_append_lies _ rfl _ _ 28 rfl (b4 + 1) 33 i0 _ 6 72 Try.underlying28 hi0 hz0 hz1 hz2 rfl (by decide) _ _ _ rfl hO6h.out ⟨g5, 0, none⟩ xs5.length c5 (flatV xs5) rfl hln.out hn5.out (flatV_cell _) hposh.out h63.out hby.out hb6h.out _ rfl ?_; intro g' c' w7 hO7 hg7 hat7 hlt7)
            have hre : Hid (OvAt w P b4 ib v T0 (fun i => !among zs i) i d ks (.slice (some ⟨g', 0, none⟩) (xs.length + xs5.length) c') (.int .i64 ((j + 1 : Nat) : Int)) w7) := haph.out g' c' w7 hO7 hg7
            have hwi : IntKind.i64.wrap ((j : Int) + 1) = ((j + 1 : Nat) : Int) := by rw [IntKind.wrap_i64]; omega
            clear haph hO7 hg7 hat7 hlt7 hO6h hb6h hn5 hln h63 hby
            go_wp2
            go_roundw
            case rel => exact hre.out
            case measure => simp [intOf]; omega
          · obtain rfl : j = ks.length := by omega
            have d1 : decide ((ks.length : Int) < (ks.length : Int)) = false := decide_eq_false (by omega)
            rw [List.take_length] at hkey hB
            have hfin : Hid (∃ (vr : Value) (ys : List VN), Ending.returned (.slice (some ⟨gl, 0, none⟩) xs.length cl) = .returned vr ∧ ys.map VN.key = ovT (fun i => !among zs i) i d T0 ∧ wr.ownsRow w.heap.size 33 6 vr ys.length (flatV ys) ∧ (∀ x ∈ ys, TrV wr P x.n.val x.t) ∧ Boxed wr ib 3 (.int .i64 ((i + T0.size : Nat) : Int)) ∧ Rnd (fun _ b => b = ib) w wr) := by
              refine ⟨_, xs, rfl, hkey.trans hovh.out.symm, own_less hO (by have := hb4h.out; omega), hT, ?_, hR⟩
              rw [hszh.out, ← Nat.add_assoc]
              exact hB
            clear hkey hO hT hB hq hR pf hP hzb
            go_wp2
            go_ret
            rw [← hT0h.out]
            exact hfin.out
theorem over_any (n : Nat) : OvSaid n := by
  induction n with
  | zero => intro t h; have := size_pos t; omega
  | succ n ih => exact over_step n ih
end Go.Proofs.Ytbfklindcmmncaa
