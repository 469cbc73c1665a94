/- What is told, each once. -/
import Derived.Test.YtkngjljcjgagbaaSf
import Derived.Shelf.SlicesE.Kit
import Derived.Shelf.SlSortCmp.NoneTotal
import Derived.Laws.StructEq
import Derived.Lib.SliceRun
import Derived.Deep.Upon
import Derived.BigQuiet
namespace Go.Proofs.Ytkngjljcjgagbaa
open Go.Shelf Go.RowKit Go.Lib Go.Sort
attribute [local go_sem ↓] Go.wp_at_zero Go.wp_at_succ
def aggDG (x : DG) : Value := .agg #[.string x.pkg, .string x.file, .int .i64 x.at']
theorem DG.ext' {x y : DG} (h1 : x.pkg = y.pkg) (h2 : x.file = y.file) (h3 : x.at' = y.at') : x = y := by cases x; cases y; simp_all
def beqDG (x y : DG) : Bool := decide (x.pkg = y.pkg) && (decide (x.file = y.file) && decide (x.at' = y.at'))
theorem beqDG_true {x y : DG} (h : x = y) : beqDG x y = true := by subst h; simp [beqDG]
theorem beqDG_false {x y : DG} (h : ¬ x = y) : beqDG x y = false := by
  cases hb : beqDG x y with
  | false => rfl
  | true =>
    simp [beqDG] at hb
    exact absurd (DG.ext' hb.1 hb.2.1 hb.2.2) h
theorem eqDG (x y : DG) (w : World) : (Op.equalIn 10000 41 (.agg #[.string x.pkg, .string x.file, .int .i64 x.at']) (.agg #[.string y.pkg, .string y.file, .int .i64 y.at'])).run Try.prog w = .ok (beqDG x y) w := by
  have u3 := Try.underlying3
  have a3 := Try.isAgg3
  have z3 := Try.sizeOf3
  have u9 := Try.underlying9
  have a9 := Try.isAgg9
  have z9 := Try.sizeOf9
  have hS : Try.prog.underlying 41 = some (.struct (Try.prog.fieldsOf 41)) := by kernel_rfl
  have hp : Try.prog.stoodInHeld 41 = false := by kernel_rfl
  rw [show (10000 : Nat) = 9999 + 1 from rfl, run_equalIn_agg w 9999 41 _ _ hS hp]
  simp only [Program.fieldsOf, Try.underlying41]
  have e1 := toList_eq_iff x.pkg y.pkg
  have e2 := toList_eq_iff x.file y.file
  go_simp
  unfold beqDG
  by_cases h1 : x.pkg = y.pkg <;> by_cases h2 : x.file = y.file <;> by_cases h3 : x.at' = y.at' <;> simp [h1, h2, h3]
theorem guardDG (op : BinOp) (a b : Operand) (x y : DG) (w : World) : (eqGuard op 41 a b (.agg #[.string x.pkg, .string x.file, .int .i64 x.at']) (.agg #[.string y.pkg, .string y.file, .int .i64 y.at'])).run Try.prog w = .ok () w :=
  GuardAt.agg (P := Try.prog) (T := 41) (fun x : DG => #[.string x.pkg, .string x.file, .int .i64 x.at']) (by kernel_rfl) op a b x y w
/-- The i-th. -/
def nth [Inhabited DG] (L : List DG) (i : Nat) : DG := L[i]?.getD default
/-- The first n, neighbours that are the same once. -/
def ddn [Inhabited DG] (L : List DG) : Nat → List DG
  | 0 => []
  | n + 1 => match decide (n = 0) || !beqDG (nth L n) (nth L (n - 1)) with
    | true => ddn L n ++ [nth L n]
    | false => ddn L n
theorem ddn_keep [Inhabited DG] (L : List DG) (n : Nat) (h : n = 0 ∨ nth L n ≠ nth L (n - 1)) : ddn L (n + 1) = ddn L n ++ [nth L n] := by
  have e : (decide (n = 0) || !beqDG (nth L n) (nth L (n - 1))) = true := by
    rcases h with h | h
    · simp [h]
    · simp [beqDG_false h]
  rw [ddn, e]
theorem ddn_drop [Inhabited DG] (L : List DG) (n : Nat) (h0 : n ≠ 0) (h : nth L n = nth L (n - 1)) : ddn L (n + 1) = ddn L n := by
  have e : (decide (n = 0) || !beqDG (nth L n) (nth L (n - 1))) = false := by simp [h0, beqDG_true h]
  rw [ddn, e]
theorem ddn_le [Inhabited DG] (L : List DG) (n : Nat) : (ddn L n).length ≤ n := by
  induction n with
  | zero => simp [ddn]
  | succ n ih =>
    unfold ddn
    split
    · simp; omega
    · omega
theorem ddn_pos [Inhabited DG] (L : List DG) (n : Nat) (h : 0 < n) : 0 < (ddn L n).length := by
  cases n with
  | zero => omega
  | succ n =>
    induction n with
    | zero => simp [ddn]
    | succ n ih =>
      unfold ddn
      split
      · simp
      · exact ih (by omega)
theorem ddn_all [Inhabited DG] (L : List DG) (n : Nat) (h : ∀ t, 1 ≤ t → t < n → nth L t ≠ nth L (t - 1)) (hn : n ≤ L.length) : ddn L n = L.take n := by
  induction n with
  | zero => simp [ddn]
  | succ n ih =>
    rw [ddn_keep L n (by by_cases e : n = 0; exact .inl e; exact .inr (h n (by omega) (by omega))), ih (fun t h1 h2 => h t h1 (by omega)) (by omega), List.take_add_one]
    simp [nth, List.getElem?_eq_getElem (show n < L.length by omega)]
/-- A row of what is told. -/
def HD [Inhabited DG] (w : World) (blk : Nat) (L : List DG) : Prop := ∀ i, i < L.length → (w.cell? ⟨blk, i * 3, none⟩ = some (.string (nth L i).pkg) ∧ w.cell? ⟨blk, i * 3 + 1, none⟩ = some (.string (nth L i).file) ∧ w.cell? ⟨blk, i * 3 + 2, none⟩ = some (.int .i64 (nth L i).at')) ∧ w.frozen? ⟨blk, i * 3, none⟩ = false ∧ w.frozen? ⟨blk, i * 3 + 1, none⟩ = false ∧ w.frozen? ⟨blk, i * 3 + 2, none⟩ = false
theorem HD.of [Inhabited DG] {w : World} {blk : Nat} {L : List DG} (h : HoldsK encDG 3 w blk 0 L.toArray) : HD w blk L := by
  intro i hi
  have h0 := h.cell (i := i) (c := 0) (by simpa using hi) (by decide)
  have h1 := h.cell (i := i) (c := 1) (by simpa using hi) (by decide)
  have h2 := h.cell (i := i) (c := 2) (by simpa using hi) (by decide)
  have e : L.toArray[i]! = nth L i := by rw [getElem!_pos _ i (by simpa using hi)]; simp [nth, hi]
  rw [e] at h0 h1 h2
  simp only [Nat.zero_add, Nat.add_zero] at h0 h1 h2
  exact ⟨⟨h0.1, h1.1, h2.1⟩, h0.2, h1.2, h2.2⟩
theorem HD.same [Inhabited DG] {w w' : World} {blk : Nat} {L : List DG} (h : HD w blk L) (hb : w'.heap[blk]? = w.heap[blk]?) : HD w' blk L := by
  intro i hi
  have := h i hi
  simp only [World.cell?_of_block (w := w) (w' := w') (a := ⟨blk, _, none⟩) hb, World.frozen?_of_block (w := w) (w' := w') (a := ⟨blk, _, none⟩) hb]
  exact this
theorem HD.next [Inhabited DG] {w w' : World} {blk : Nat} {L : List DG} (h : HD w blk L) (hl : blk < w.heap.size) (hb : Below w.heap.size w w') : HD w' blk L := h.same (hb.block blk hl)
theorem HD.take [Inhabited DG] {w : World} {blk : Nat} {L : List DG} (h : HD w blk L) (n : Nat) : HD w blk (L.take n) := by
  intro i hi
  rw [List.length_take] at hi
  have := h i (by omega)
  have e : nth (L.take n) i = nth L i := by simp [nth, show i < n by omega]
  rw [e]
  exact this
theorem below_drewN {B : Nat} {a b : World} (h : Below B a b) (n : Nat) : Below B a (b.drewN n) := ⟨h.os, h.tape, h.output, h.size, h.block⟩
theorem grownBy_drewN {a b : World} {r : Option Nat} (h : a.grownBy b r) (n : Nat) : a.grownBy (b.drewN n) r := ⟨h.os, h.tape, h.output, h.size, h.block⟩
theorem HD.drewN [Inhabited DG] {w : World} {blk : Nat} {L : List DG} (h : HD w blk L) (n : Nat) : HD (w.drewN n) blk L := h
theorem nth_set [Inhabited DG] (R : List DG) (k i : Nat) (x : DG) (hk : k < R.length) : nth (R.set k x) i = if i = k then x else nth R i := by
  unfold nth
  rw [List.getElem?_set]
  by_cases h : k = i
  · subst h; simp [hk]
  · have h' : ¬ i = k := fun e => h e.symm
    simp [h, h']
theorem HD.set [Inhabited DG] {w : World} {blk : Nat} {R : List DG} (h : HD w blk R) (k : Nat) (hk : k < R.length) (x : DG) :
    HD (((w.setCell ⟨blk, k * 3, none⟩ (.string x.pkg)).setCell ⟨blk, k * 3 + 1, none⟩ (.string x.file)).setCell ⟨blk, k * 3 + 2, none⟩ (.int .i64 x.at')) blk (R.set k x) := by
  intro i hi
  rw [List.length_set] at hi
  obtain ⟨⟨h0, h1, h2⟩, f0, f1, f2⟩ := h i hi
  obtain ⟨⟨k0, k1, k2⟩, _, _, _⟩ := h k hk
  rw [nth_set R k i x hk]
  have e1 : k * 3 ≠ k * 3 + 1 := by omega
  have e2 : k * 3 ≠ k * 3 + 2 := by omega
  have e3 : k * 3 + 1 ≠ k * 3 + 2 := by omega
  by_cases e : i = k
  · subst e
    simp only [if_true]
    refine ⟨⟨?_, ?_, ?_⟩, ?_, ?_, ?_⟩ <;> simp [go_sem, k0, k1, k2, f0, f1, f2]
  · simp only [e, if_false]
    have d0 : i * 3 ≠ k * 3 := by omega
    have d1 : i * 3 ≠ k * 3 + 1 := by omega
    have d2 : i * 3 ≠ k * 3 + 2 := by omega
    have d3 : i * 3 + 1 ≠ k * 3 := by omega
    have d4 : i * 3 + 1 ≠ k * 3 + 1 := by omega
    have d5 : i * 3 + 1 ≠ k * 3 + 2 := by omega
    have d6 : i * 3 + 2 ≠ k * 3 := by omega
    have d7 : i * 3 + 2 ≠ k * 3 + 1 := by omega
    have d8 : i * 3 + 2 ≠ k * 3 + 2 := by omega
    refine ⟨⟨?_, ?_, ?_⟩, ?_, ?_, ?_⟩
    · rw [World.cell?_setCell_other (h := fun e => d2 (Addr.mk.inj e).2.1.symm), World.cell?_setCell_other (h := fun e => d1 (Addr.mk.inj e).2.1.symm), World.cell?_setCell_other (h := fun e => d0 (Addr.mk.inj e).2.1.symm)]; exact h0
    · rw [World.cell?_setCell_other (h := fun e => d5 (Addr.mk.inj e).2.1.symm), World.cell?_setCell_other (h := fun e => d4 (Addr.mk.inj e).2.1.symm), World.cell?_setCell_other (h := fun e => d3 (Addr.mk.inj e).2.1.symm)]; exact h1
    · rw [World.cell?_setCell_other (h := fun e => d8 (Addr.mk.inj e).2.1.symm), World.cell?_setCell_other (h := fun e => d7 (Addr.mk.inj e).2.1.symm), World.cell?_setCell_other (h := fun e => d6 (Addr.mk.inj e).2.1.symm)]; exact h2
    · simp [go_sem, f0]
    · simp [go_sem, f1]
    · simp [go_sem, f2]
/-- clear, at three cells an element. -/
theorem clear_DG (w : World) (blk k m c : Nat) (hm : 0 < m) (hc : ∀ j, j < m * 3 → (w.cell? ⟨blk, k * 3 + j, none⟩).isSome = true) (hf : ∀ j, j < m * 3 → w.frozen? ⟨blk, k * 3 + j, none⟩ = false) :
    ∃ Z : List Value, ∀ ty, (Builtin.clear_ #[38] ty #[.slice (some ⟨blk, k * 3, none⟩) m c]).run Try.prog w = .ok (.tuple #[]) (w.setCells blk (k * 3) Z) := by
  have hv : ∀ w, (zeroValue 41).run Try.prog w = .ok (.agg #[.string ⟨#[]⟩, .string ⟨#[]⟩, .int .i64 0]) w := Try.zeroValue41
  have hlen : (Builtin.zeroCells (Value.agg #[.string ⟨#[]⟩, .string ⟨#[]⟩, .int .i64 0]).cells m).toList.length = m * 3 := by
    simp [Builtin.zeroCells, Value.cells]
  have hone : ∀ v ∈ (Builtin.zeroCells (Value.agg #[.string ⟨#[]⟩, .string ⟨#[]⟩, .int .i64 0]).cells m).toList, v.oneCell' = true := by
    intro v hv
    simp [Builtin.zeroCells, Value.cells] at hv
    obtain ⟨a, _, rfl⟩ := hv
    rcases (show a % 3 = 0 ∨ a % 3 = 1 ∨ a % 3 = 2 by omega) with h | h | h <;> rw [h] <;> rfl
  refine ⟨(Builtin.zeroCells (Value.agg #[.string ⟨#[]⟩, .string ⟨#[]⟩, .int .i64 0]).cells m).toList, fun ty => ?_⟩
  have hst := run_storeCells_cells (P := Try.prog) blk (k * 3) _ 0 w (by rw [hlen]; simpa using hc) (by rw [hlen]; simpa using hf) hone
  simp only [Nat.add_zero] at hst
  obtain ⟨n, rfl⟩ : ∃ n, m = n + 1 := ⟨m - 1, by omega⟩
  simp [Builtin.clear_, run_underlying Try.underlying38, hv, hst]
theorem HD.cleared [Inhabited DG] {w : World} {blk : Nat} {R : List DG} (h : HD w blk R) (k : Nat) (Z : List Value) (hk : k ≤ R.length) : HD (w.setCells blk (k * 3) Z) blk (R.take k) := by
  intro i hi
  have hi' : i < k := by rw [List.length_take] at hi; omega
  have h0 := (h.take k) i hi
  rw [World.cell?_setCells_out _ _ _ _ _ (fun _ _ => .inl (by simp; omega)), World.cell?_setCells_out _ _ _ _ _ (fun _ _ => .inl (by simp; omega)), World.cell?_setCells_out _ _ _ _ _ (fun _ _ => .inl (by simp; omega))]
  simp only [World.frozen?_setCells]
  exact h0
theorem sc_tape (b : Nat) : ∀ (vs : List Value) (o : Nat) (w : World), (w.setCells b o vs).tape = w.tape
  | [], _, _ => rfl
  | v :: vs, o, w => by rw [World.setCells, sc_tape b vs]; rfl
theorem sc_size (b : Nat) : ∀ (vs : List Value) (o : Nat) (w : World), (w.setCells b o vs).heap.size = w.heap.size
  | [], _, _ => rfl
  | v :: vs, o, w => by rw [World.setCells, sc_size b vs]; simp
theorem grownBy_cleared (w : World) (blk o : Nat) (Z : List Value) : w.grownBy (w.setCells blk o Z) (some blk) := by
  have hk := World.keptBut_setCells blk (may := fun _ => True) Z o w (fun _ _ => trivial)
  refine ⟨World.os_setCells _ _ _ _, ?_, World.output_setCells _ _ _ _, ?_, fun j hj hne => World.heap_setCells_other _ _ _ _ hj (by simpa using hne)⟩
  · exact sc_tape blk Z o w
  · rw [sc_size blk Z o w]
    exact Nat.le_refl _
theorem gset (w : World) (p : Addr) (v : Value) (b : Nat) (h : p.block = b) : w.grownBy (w.setCell p v) (some b) := by
  subst h
  exact ⟨rfl, rfl, rfl, by simp, fun k _ hne => Below.heap_setCell _ _ _ _ (fun e => hne (by rw [e]))⟩
theorem HD.some [Inhabited DG] {w : World} {blk : Nat} {R : List DG} (h : HD w blk R) (o : Nat) (ho : o < R.length * 3) : (w.cell? ⟨blk, o, none⟩).isSome = true ∧ w.frozen? ⟨blk, o, none⟩ = false := by
  obtain ⟨⟨h0, h1, h2⟩, f0, f1, f2⟩ := h (o / 3) (by omega)
  rcases (show o % 3 = 0 ∨ o % 3 = 1 ∨ o % 3 = 2 by omega) with e | e | e
  · rw [show o / 3 * 3 = o by omega] at h0 f0; rw [h0, f0]; exact ⟨rfl, rfl⟩
  · rw [show o / 3 * 3 + 1 = o by omega] at h1 f1; rw [h1, f1]; exact ⟨rfl, rfl⟩
  · rw [show o / 3 * 3 + 2 = o by omega] at h2 f2; rw [h2, f2]; exact ⟨rfl, rfl⟩
theorem take_set_snoc (R : List DG) (k : Nat) (x : DG) (hk : k < R.length) : (R.set k x).take (k + 1) = R.take k ++ [x] := by
  apply List.ext_getElem?
  intro i
  rw [List.getElem?_take, List.getElem?_set, List.getElem?_append, List.length_take, List.getElem?_take]
  by_cases h1 : i < k
  · simp [show i < k + 1 by omega, show ¬ k = i by omega, h1, show i < R.length by omega]
    intro h
    omega
  · by_cases h2 : i = k
    · subst h2; simp [hk, Nat.min_eq_left (Nat.le_of_lt hk)]
    · simp [show ¬ i < k + 1 by omega, h1, Nat.min_eq_left (Nat.le_of_lt hk)]
      omega
set_option maxRecDepth 20000 in
set_option maxHeartbeats 4000000 in
theorem Compact_any [Inhabited DG] (blk cap : Nat) (L : List DG) (w : World) (hH : HD w blk L) (hblk : blk < w.heap.size) (hcap : L.length ≤ cap) (hsz : L.length < 1000000) :
    Calls Try.prog 19 #[.slice (some ⟨blk, 0, none⟩) L.length cap] w fun e w' => ∃ M, M = ddn L L.length ∧ e = .returned (.slice (some ⟨blk, 0, none⟩) M.length cap) ∧ HD w' blk M ∧ w.grownBy w' (some blk) := by
  by_cases h2 : L.length < 2
  · have hM : ddn L L.length = L := by
      rw [ddn_all L L.length (fun t h1 h2 => by omega) (Nat.le_refl _)]; simp
    go_enter Try.func19, Try.ntmps19
    go_wp2
    go_ret
    exact ⟨L, hM.symm, rfl, hH, grownBy_of_below (Below.refl _ _)⟩
  · go_enter Try.func19, Try.ntmps19
    go_wp2
    go_loopw [3] (fun v wr => ∃ i : Nat, i + 1 ≤ L.length ∧ v = .int .i64 ((i : Int) + 1) ∧ Hid (∀ t, 1 ≤ t → t < i + 1 → nth L t ≠ nth L (t - 1)) ∧ Below w.heap.size w wr) (fun v _ => L.length - (intOf v).toNat)
    case atStart => exact ⟨0, by omega, rfl, fun t h1 h2 => by omega, Below.refl _ _⟩
    case round =>
      obtain ⟨i, hi, rfl, hr, hB⟩ := hrel
      by_cases hlt : i + 1 < L.length
      · have hHr := hH.next hblk hB
        obtain ⟨⟨x0, x1, x2⟩, _, _, _⟩ := hHr i (by omega)
        obtain ⟨⟨y0, y1, y2⟩, _, _, _⟩ := hHr (i + 1) (by omega)
        have hg := fun op a b w => guardDG op a b (nth L (i + 1)) (nth L i) w
        by_cases hd : nth L (i + 1) = nth L i
        · have he : ∀ w, (Op.equalIn 10000 41 (.agg #[.string (nth L (i + 1)).pkg, .string (nth L (i + 1)).file, .int .i64 (nth L (i + 1)).at']) (.agg #[.string (nth L i).pkg, .string (nth L i).file, .int .i64 (nth L i).at'])).run Try.prog w = .ok true w := fun w => by rw [eqDG, beqDG_true hd]
          replace hd : Hid (nth L (i + 1) = nth L i) := hd
          go_wp2_with fail
          go_quiet (fail)
          go_wp2
          have hHq := hHr.drewN nq
          have hgq : w.grownBy (wr.drewN nq) (some blk) := grownBy_drewN (grownBy_of_below hB) nq
          have hs0 : ddn L (i + 1) = L.take (i + 1) := ddn_all L (i + 1) hr.out (by omega)
          have hs1 : ddn L (i + 1 + 1) = L.take (i + 1) := by rw [ddn_drop L (i + 1) (by omega) (by simpa using hd.out), hs0]
          generalize wr.drewN nq = wq at *
          clear x0 x1 x2 y0 y1 y2 hg he hHr hB
          replace hs1 : Hid (ddn L (i + 1 + 1) = L.take (i + 1)) := hs1
          clear hs0 hd hr
          go_loopw [3, 5] (fun v3 v5 wi => ∃ (j kk : Nat) (R : List DG), v3 = .int .i64 (kk : Int) ∧ v5 = .int .i64 ((j : Int) + 1) ∧ i + 1 + j + 1 ≤ L.length ∧ R.length = L.length ∧ Hid (HD wi blk R) ∧ Hid (kk = (ddn L (i + 1 + j + 1)).length) ∧ Hid (R.take kk = ddn L (i + 1 + j + 1)) ∧ Hid (∀ t, i + 1 + j ≤ t → nth R t = nth L t) ∧ kk ≤ i + 1 + j ∧ Hid (w.grownBy wi (some blk))) (fun _ v5 _ => L.length - (intOf v5).toNat)
          case atStart => exact ⟨0, i + 1, L, by go_num, rfl, by omega, rfl, hHq, by show _ = (ddn L (i + 1 + 1)).length; rw [hs1.out, List.length_take]; omega, hs1.out.symm, fun t _ => rfl, by omega, hgq⟩
          case round =>
            obtain ⟨j, kk, R, rfl, rfl, hj, hRl, hHD, hkl, hkt, hkr, hkk, hgi⟩ := hrel
            by_cases hlt2 : i + 1 + j + 1 < L.length
            · obtain ⟨⟨p0, p1, p2⟩, _, _, _⟩ := hHD.out (i + 1 + j) (by omega)
              obtain ⟨⟨q0, q1, q2⟩, _, _, _⟩ := hHD.out (i + 1 + j + 1) (by omega)
              obtain ⟨⟨r0, r1, r2⟩, s0, s1, s2⟩ := hHD.out kk (by omega)
              rw [hkr.out _ (Nat.le_refl _), show (i + 1 + j) * 3 = (i + 1) * 3 + j * 3 by omega] at p0 p1 p2
              rw [hkr.out _ (by omega), show (i + 1 + j + 1) * 3 = (i + 1) * 3 + (j + 1) * 3 by omega] at q0 q1 q2
              have hg := fun op a b w => guardDG op a b (nth L (i + 1 + j + 1)) (nth L (i + 1 + j)) w
              by_cases hd : nth L (i + 1 + j + 1) = nth L (i + 1 + j)
              · have he : ∀ w, (Op.equalIn 10000 41 (.agg #[.string (nth L (i + 1 + j + 1)).pkg, .string (nth L (i + 1 + j + 1)).file, .int .i64 (nth L (i + 1 + j + 1)).at']) (.agg #[.string (nth L (i + 1 + j)).pkg, .string (nth L (i + 1 + j)).file, .int .i64 (nth L (i + 1 + j)).at'])).run Try.prog w = .ok true w := fun w => by rw [eqDG, beqDG_true hd]
                have hdr : ddn L (i + 1 + (j + 1) + 1) = ddn L (i + 1 + j + 1) := by
                  have := ddn_drop L (i + 1 + j + 1) (by omega) (by simpa using hd)
                  rw [← this]; congr 1
                clear hd
                replace hdr : Hid (ddn L (i + 1 + (j + 1) + 1) = ddn L (i + 1 + j + 1)) := hdr
                go_wp2_with fail
                go_quiet (fail)
                go_wp2
                refine ⟨⟨j + 1, kk, R, rfl, by go_num, by omega, hRl, hHD.out.drewN _, by show _ = _; rw [hdr.out]; exact hkl.out, by show _ = _; rw [hdr.out]; exact hkt.out, fun t ht => hkr.out t (by omega), by omega, grownBy_drewN hgi.out _⟩, ?_⟩
                simp [intOf]; omega
              · have he : ∀ w, (Op.equalIn 10000 41 (.agg #[.string (nth L (i + 1 + j + 1)).pkg, .string (nth L (i + 1 + j + 1)).file, .int .i64 (nth L (i + 1 + j + 1)).at']) (.agg #[.string (nth L (i + 1 + j)).pkg, .string (nth L (i + 1 + j)).file, .int .i64 (nth L (i + 1 + j)).at'])).run Try.prog w = .ok false w := fun w => by rw [eqDG, beqDG_false hd]
                have hdr : ddn L (i + 1 + (j + 1) + 1) = ddn L (i + 1 + j + 1) ++ [nth L (i + 1 + j + 1)] := by
                  have := ddn_keep L (i + 1 + j + 1) (.inr (by simpa using hd))
                  rw [← this]; congr 1
                clear hd
                replace hdr : Hid (ddn L (i + 1 + (j + 1) + 1) = ddn L (i + 1 + j + 1) ++ [nth L (i + 1 + j + 1)]) := hdr
                go_wp2_with fail
                go_quiet (fail)
                go_wp2
                refine ⟨⟨j + 1, kk + 1, R.set kk (nth L (i + 1 + j + 1)), by go_num, by go_num, by omega, by simp [hRl], (hHD.out.drewN nq).set kk (by omega) _, ?_, ?_, fun t ht => ?_, by omega, ?_⟩, ?_⟩
                · show _ = _; rw [hdr.out, List.length_append, ← hkl.out]; rfl
                · show _ = _; rw [hdr.out, take_set_snoc R kk _ (by omega), hkt.out]
                · rw [nth_set R kk t _ (by omega), if_neg (by omega)]; exact hkr.out t (by omega)
                · exact grownBy_trans (grownBy_trans (grownBy_trans (grownBy_drewN hgi.out nq) (gset _ _ _ blk rfl)) (gset _ _ _ blk rfl)) (gset _ _ _ blk rfl)
                · simp [intOf]; omega
            · have hend : i + 1 + j + 1 = L.length := by omega
              obtain ⟨Z, hcl⟩ := clear_DG wr blk kk (L.length - kk) (cap - kk) (by omega) (fun t ht => (hHD.out.some (kk * 3 + t) (by omega)).1) (fun t ht => (hHD.out.some (kk * 3 + t) (by omega)).2)
              have hfin := hHD.out.cleared kk Z (by omega)
              rw [hkt.out, hend] at hfin
              have hkl' := hkl.out
              rw [hend] at hkl'
              have hgf := grownBy_trans hgi.out (grownBy_cleared wr blk (kk * 3) Z)
              replace hfin : Hid (HD (wr.setCells blk (kk * 3) Z) blk (ddn L L.length)) := hfin
              replace hgf : Hid (w.grownBy (wr.setCells blk (kk * 3) Z) (some blk)) := hgf
              replace hkl' : Hid (kk = (ddn L L.length).length) := hkl'
              go_wp2
              go_ret
              exact ⟨ddn L L.length, rfl, by rw [← hkl'.out]; rfl, hfin.out, hgf.out⟩
        · have he : ∀ w, (Op.equalIn 10000 41 (.agg #[.string (nth L (i + 1)).pkg, .string (nth L (i + 1)).file, .int .i64 (nth L (i + 1)).at']) (.agg #[.string (nth L i).pkg, .string (nth L i).file, .int .i64 (nth L i).at'])).run Try.prog w = .ok false w := fun w => by rw [eqDG, beqDG_false hd]
          replace hd : Hid (nth L (i + 1) ≠ nth L i) := hd
          go_wp2_with fail
          go_quiet (fail)
          go_wp2
          refine ⟨⟨i + 1, by omega, by go_num, fun t h1 h2 => ?_, below_drewN hB _⟩, ?_⟩
          · by_cases e : t = i + 1
            · subst e; simpa using hd.out
            · exact hr.out t h1 (by omega)
          · simp [intOf]; omega
      · have hM : ddn L L.length = L := by
          rw [ddn_all L L.length (fun t h1 h2 => hr.out t h1 (by omega)) (Nat.le_refl _)]; simp
        replace hM : Hid (ddn L L.length = L) := hM
        have hHr := hH.next hblk hB
        replace hHr : Hid (HD wr blk L) := hHr
        go_wp2
        go_ret
        exact ⟨L, hM.out.symm, rfl, hHr.out, grownBy_of_below hB⟩
end Go.Proofs.Ytkngjljcjgagbaa
