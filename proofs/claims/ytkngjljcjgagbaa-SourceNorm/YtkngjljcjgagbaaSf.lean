/- Sorted by their names. -/
import Derived.Test.YtkngjljcjgagbaaSe
namespace Go.Proofs.Ytkngjljcjgagbaa
open Go.Shelf Go.RowKit Go.Lib Go.Sort
set_option linter.unusedVariables false
attribute [local go_sem ↓] Go.wp_at_zero Go.wp_at_succ
/-- No two of one name. -/
def Apart (L : List NS) : Prop := L.Pairwise (fun x y => x.name ≠ y.name)
theorem name_zero (x y : NS) : cmpNS x y = 0 ↔ x.name = y.name := by
  unfold cmpNS
  rw [cb_zero]
  constructor
  · intro h
    cases hx : x.name
    cases hy : y.name
    rw [hx, hy] at h
    simp at h
    rw [h]
  · intro h; rw [h]
theorem apart_of_next {L : List NS} (ha : Asc cmpNS L) (h : ∀ j (h : j + 1 < L.length), L[j].name ≠ L[j + 1].name) : Apart L := by
  unfold Apart
  rw [List.pairwise_iff_getElem]
  have hlt : ∀ d i (hi : i + d + 1 < L.length), cmpNS L[i] L[i + d + 1] < 0 := by
    intro d
    induction d with
    | zero =>
      intro i hi
      have h1 := (List.pairwise_iff_getElem.1 ha) i (i + 1) (by omega) (by omega) (by omega)
      have h2 : cmpNS L[i] L[i + 1] ≠ 0 := fun e => h i (by omega) ((name_zero _ _).1 e)
      simp only [Nat.add_zero]
      omega
    | succ d ih =>
      intro i hi
      have h1 := ih i (by omega)
      have h2 := (List.pairwise_iff_getElem.1 ha) (i + d + 1) (i + (d + 1) + 1) (by omega) (by omega) (by omega)
      exact cmpNS_cmp.lt_le _ _ _ h1 h2
  intro i j hi hj hij e
  have := hlt (j - i - 1) i (by omega)
  have e2 : i + (j - i - 1) + 1 = j := by omega
  simp only [e2] at this
  rw [(name_zero _ _).2 e] at this
  omega
theorem next_of_apart {L : List NS} (h : Apart L) (j : Nat) (hj : j + 1 < L.length) : L[j].name ≠ L[j + 1].name := (List.pairwise_iff_getElem.1 h) j (j + 1) (by omega) hj (by omega)
theorem holdNS [Inhabited NS] {w : World} {blk : Nat} {L : List NS} (h : HoldsK encNS 2 w blk 0 L.toArray) (i : Nat) (hi : i < L.length) : w.cell? ⟨blk, i * 2, none⟩ = some (.string L[i].name) ∧ w.cell? ⟨blk, i * 2 + 1, none⟩ = some (.slice L[i].a L[i].n L[i].c) := by
  have h0 := (h.cell (i := i) (c := 0) (by simpa using hi) (by decide)).1
  have h1 := (h.cell (i := i) (c := 1) (by simpa using hi) (by decide)).1
  have e : L.toArray[i]! = L[i] := by rw [getElem!_pos _ i (by simpa using hi)]; simp
  rw [e] at h0 h1
  simp only [Nat.zero_add, Nat.add_zero] at h0 h1
  exact ⟨h0, h1⟩
theorem toList_eq_iff (a b : ByteArray) : (a.toList == b.toList) = decide (a = b) := by
  rw [ByteArray.toList_eq, ByteArray.toList_eq]
  by_cases h : a = b
  · subst h; simp
  · have : a.data.toList ≠ b.data.toList := fun e => h (by
      cases a; cases b; simp at e; rw [e])
    simp only [h, decide_false]
    exact beq_eq_false_iff_ne.2 this
theorem wrap_i64 (z : Int) (h0 : -9223372036854775808 ≤ z) (h1 : z < 9223372036854775808) : IntKind.i64.wrap z = z := by
  simp [IntKind.wrap, IntKind.bits, IntKind.signed]
  omega
def nbV (f : FuncId) (blk n cap j : Nat) (x y : NS) (t : Nat) (v : Value) (w : World) : Prop := match t with
  | 15 => v = .func (.func f) #[] #[]
  | 22 => v = .func (.func f) #[] #[]
  | 16 => v = .slice (some ⟨blk, 0, none⟩) n cap
  | 23 => v = .slice (some ⟨blk, 0, none⟩) n cap
  | 17 => v = .int .i64 ((j : Int) + 1)
  | 24 => v = .int .i64 ((j : Int) + 1)
  | 18 => v = .int .i64 (j : Int)
  | 19 => v = .pointer (some ⟨blk, j * 2, none⟩)
  | 25 => v = .pointer (some ⟨blk, (j + 1) * 2, none⟩)
  | 20 => v = .agg #[.string x.name, .slice x.a x.n x.c]
  | 26 => v = .agg #[.string y.name, .slice y.a y.n y.c]
  | 21 => v = .string x.name
  | 27 => v = .string y.name
  | 28 => v = .bool (decide (x.name = y.name))
  | _ => True
/-- What sorting answers. -/
def Sorted [Inhabited NS] (w w' : World) (e : Ending) (blk : Nat) (L : List NS) : Prop := ∃ (L' : List NS) (b : Bool), e = .returned (.bool b) ∧ (b = true ↔ Apart L') ∧ L'.Perm L ∧ Asc cmpNS L' ∧ HoldsK encNS 2 w' blk 0 L'.toArray ∧ w.grownBy w' (some blk)
theorem grownBy_trans {a b c : World} {r : Option Nat} (h : a.grownBy b r) (k : b.grownBy c r) : a.grownBy c r :=
  ⟨k.os.trans h.os, k.tape.trans h.tape, k.output.trans h.output, Nat.le_trans h.size k.size, fun j hj hne => (k.block j (Nat.lt_of_lt_of_le hj h.size) hne).trans (h.block j hj hne)⟩
theorem grownBy_of_below {a b : World} {r : Option Nat} (h : Below a.heap.size a b) : a.grownBy b r := ⟨h.os, h.tape, h.output, h.size, fun j hj _ => h.block j hj⟩
theorem holdsK_below [Inhabited NS] {w w' : World} {blk off : Nat} {L : List NS} (h : HoldsK encNS 2 w blk off L.toArray) (hb : blk < w.heap.size) (hB : Below w.heap.size w w') : HoldsK encNS 2 w' blk off L.toArray := fun j hj => by
  have := h j hj
  exact ⟨(hB.cell (by simpa using hb)).trans this.1, (hB.frozen (by simpa using hb)).trans this.2⟩
set_option maxRecDepth 20000 in
set_option maxHeartbeats 4000000 in
theorem sortNames15_any [Inhabited NS] (blk cap : Nat) (L : List NS) (w : World) (hH : HoldsK encNS 2 w blk 0 L.toArray) (hblk : blk < w.heap.size) (hsz : L.length < 4611686018427387904) :
    Calls Try.prog 15 #[.slice (some ⟨blk, 0, none⟩) L.length cap, .func (.func 16) #[] #[]] w fun e w' => Sorted w w' e blk L := by
  obtain ⟨W, hW⟩ : ∃ W, W = w.alloc (.cells #[.func (.func 16) #[] #[]] 48) := ⟨_, rfl⟩
  have hbW : Below w.heap.size w W := by rw [hW]; exact (Below.refl _ _).alloc (Nat.le_refl _) _
  have c3 : W.cell? ⟨w.heap.size, 0, none⟩ = some (.func (.func 16) #[] #[]) := by rw [hW]; simp [go_sem]
  have hlt : w.heap.size < W.heap.size := cell_lt c3
  have kS := sortPkg_any w.heap.size blk 0 cap L W c3 (by omega) (holdsK_below hH hblk hbW) (by omega) hsz
  replace kS : Hid _ := kS
  go_enter Try.func15, Try.ntmps15
  go_wp2_with fail
  rw [← hW]
  clear hW
  refine Calls.mono kS.out ?_
  rintro e w1 ⟨rfl, L', hp, ha, hH1, hg1⟩
  clear kS
  have hlen : L'.length = L.length := hp.length_eq
  have hg : w.grownBy w1 (some blk) := grownBy_trans (grownBy_of_below hbW) hg1
  have c3' := hg1.cell c3 (by simp; omega)
  rw [← hlen]
  rw [← hlen] at hsz
  replace hp : Hid _ := hp
  replace ha : Hid _ := ha
  replace hlen : Hid _ := hlen
  have hblk1 : blk < w1.heap.size := Nat.lt_of_lt_of_le hblk hg.size
  go_wp2
  go_loopw [5] (fun i wr => ∃ j : Nat, j ≤ L'.length ∧ i = .int .i64 ((j : Int) + 1) ∧ Hid (∀ t (h : t + 1 < L'.length), t < j → L'[t].name ≠ L'[t + 1].name) ∧ Below w1.heap.size w1 wr) (fun i _ => L'.length + 1 - (intOf i).toNat)
  case atStart => exact ⟨0, Nat.zero_le _, rfl, fun t _ h => by omega, Below.refl _ _⟩
  case round =>
    obtain ⟨j, hj, rfl, hr, hB⟩ := hrel
    by_cases hjl : j + 1 < L'.length
    · have hcx := holdNS (holdsK_below hH1 hblk1 hB) j (by omega)
      have hcy := holdNS (holdsK_below hH1 hblk1 hB) (j + 1) hjl
      obtain ⟨x0, x1⟩ := hcx
      obtain ⟨y0, y1⟩ := hcy
      have x3 := keep_cell hB c3'
      go_wp2
      refine Gw.wp_region_framed (nbV 16 blk L'.length cap j L'[j] L'[j + 1]) [15, 16, 17, 18, 19, 20, 21, 22, 23, 24, 25, 26, 27, 28] [0, 1, 2, 3, 4, 5, 6, 7, 8, 9, 10, 11, 12, 13, 14] 29 (by kernel_rfl) (by kernel_rfl) (by kernel_rfl) (by kernel_rfl) rfl (fun t v w w' _ h => h) ?hstep ?hend
      case hstep =>
       refine Gw.steps_cons ?s0 (Gw.steps_cons ?s1 (Gw.steps_cons ?s2 (Gw.steps_cons ?s3 (Gw.steps_cons ?s4 (Gw.steps_cons ?s5 (Gw.steps_cons ?s6 (Gw.steps_cons ?s7 (Gw.steps_cons ?s8 (Gw.steps_cons ?s9 (Gw.steps_cons ?s10 (Gw.steps_cons ?s11 (Gw.steps_cons ?s12 (Gw.steps_cons ?s13 (Gw.steps_nil))))))))))))))
       case s0 =>
        refine Gw.StepOk.of (Gw.guard_none rfl) fun b w' hsz hW hl K hK => ?_
        clear hsz
        unfold Oper.wp
        have e3 : b.tmps[3]?.getD undef = .pointer (some ⟨w.heap.size, 0, none⟩) := getD' (Gw.look hl 3 (by kernel_rfl))
        have k3 := hW.cell x3
        have kx0 := hW.cell x0
        have kx1 := hW.cell x1
        have ky0 := hW.cell y0
        have ky1 := hW.cell y1
        go_simp
        exact hK _ _ (Grw.refl _) (Gw.dst_eq rfl rfl)
       case s1 => exact Gw.step_move 0 16 rfl rfl (Gw.guard_none rfl) (by kernel_rfl) (fun v w h => h)
       case s2 => exact Gw.step_move 5 17 rfl rfl (Gw.guard_none rfl) (by kernel_rfl) (fun v w h => h)
       case s3 => 
        refine Gw.StepOk.of (Gw.guard_none rfl) fun b w' hsz hW hl K hK => ?_
        clear hsz
        unfold Oper.wp
        have e1 : b.tmps[17]?.getD undef = .int .i64 ((j : Int) + 1) := getD' (Gw.look hl 17 (by kernel_rfl))
        have e2 := wrap_i64 (j : Int) (by omega) (by omega)
        go_simp
        exact hK _ _ (Grw.refl _) (Gw.dst_eq rfl rfl)
       case s4 => 
        refine Gw.StepOk.of (Gw.guard_none rfl) fun b w' hsz hW hl K hK => ?_
        clear hsz
        unfold Oper.wp
        have e1 : b.tmps[16]?.getD undef = .slice (some ⟨blk, 0, none⟩) L'.length cap := getD' (Gw.look hl 16 (by kernel_rfl))
        have e2 : b.tmps[18]?.getD undef = .int .i64 (j : Int) := getD' (Gw.look hl 18 (by kernel_rfl))
        have i0 : 0 ≤ (j : Int) ∧ (j : Int) < (L'.length : Int) := by omega
        go_simp
        exact hK _ _ (Grw.refl _) (Gw.dst_eq rfl rfl)
       case s5 =>
        refine Gw.StepOk.of (Gw.guard_none rfl) fun b w' hsz hW hl K hK => ?_
        clear hsz
        unfold Oper.wp
        have e19 : b.tmps[19]?.getD undef = .pointer (some ⟨blk, j * 2, none⟩) := getD' (Gw.look hl 19 (by kernel_rfl))
        have k3 := hW.cell x3
        have kx0 := hW.cell x0
        have kx1 := hW.cell x1
        have ky0 := hW.cell y0
        have ky1 := hW.cell y1
        go_simp
        exact hK _ _ (Grw.refl _) (Gw.dst_eq rfl rfl)
       case s6 => exact Gw_callv1 16 15 20 21 _ (by kernel_rfl) rfl rfl (Gw.guard_none rfl) (by kernel_rfl) (by kernel_rfl) (fun v w h => h) (fun v w' hW hv => by have hv : v = .agg #[.string L'[j].name, .slice L'[j].a L'[j].n L'[j].c] := hv; subst hv; exact (pkgPath_any L'[j] w').mono fun e w'' h => ⟨_, h.1, rfl, h.2⟩)
       case s7 =>
        refine Gw.StepOk.of (Gw.guard_none rfl) fun b w' hsz hW hl K hK => ?_
        clear hsz
        unfold Oper.wp
        have e3 : b.tmps[3]?.getD undef = .pointer (some ⟨w.heap.size, 0, none⟩) := getD' (Gw.look hl 3 (by kernel_rfl))
        have k3 := hW.cell x3
        have kx0 := hW.cell x0
        have kx1 := hW.cell x1
        have ky0 := hW.cell y0
        have ky1 := hW.cell y1
        go_simp
        exact hK _ _ (Grw.refl _) (Gw.dst_eq rfl rfl)
       case s8 => exact Gw.step_move 0 23 rfl rfl (Gw.guard_none rfl) (by kernel_rfl) (fun v w h => h)
       case s9 => exact Gw.step_move 5 24 rfl rfl (Gw.guard_none rfl) (by kernel_rfl) (fun v w h => h)
       case s10 => 
        refine Gw.StepOk.of (Gw.guard_none rfl) fun b w' hsz hW hl K hK => ?_
        clear hsz
        unfold Oper.wp
        have e1 : b.tmps[23]?.getD undef = .slice (some ⟨blk, 0, none⟩) L'.length cap := getD' (Gw.look hl 23 (by kernel_rfl))
        have e2 : b.tmps[24]?.getD undef = .int .i64 ((j : Int) + 1) := getD' (Gw.look hl 24 (by kernel_rfl))
        have i0 : 0 ≤ (j : Int) + 1 ∧ (j : Int) + 1 < (L'.length : Int) := by omega
        go_simp
        exact hK _ _ (Grw.refl _) (Gw.dst_eq rfl rfl)
       case s11 =>
        refine Gw.StepOk.of (Gw.guard_none rfl) fun b w' hsz hW hl K hK => ?_
        clear hsz
        unfold Oper.wp
        have e25 : b.tmps[25]?.getD undef = .pointer (some ⟨blk, (j + 1) * 2, none⟩) := getD' (Gw.look hl 25 (by kernel_rfl))
        have k3 := hW.cell x3
        have kx0 := hW.cell x0
        have kx1 := hW.cell x1
        have ky0 := hW.cell y0
        have ky1 := hW.cell y1
        go_simp
        exact hK _ _ (Grw.refl _) (Gw.dst_eq rfl rfl)
       case s12 => exact Gw_callv1 16 22 26 27 _ (by kernel_rfl) rfl rfl (Gw.guard_none rfl) (by kernel_rfl) (by kernel_rfl) (fun v w h => h) (fun v w' hW hv => by have hv : v = .agg #[.string L'[j + 1].name, .slice L'[j + 1].a L'[j + 1].n L'[j + 1].c] := hv; subst hv; exact (pkgPath_any L'[j + 1] w').mono fun e w'' h => ⟨_, h.1, rfl, h.2⟩)
       case s13 => 
        refine Gw.StepOk.of (Gw.guard_none rfl) fun b w' hsz hW hl K hK => ?_
        clear hsz
        unfold Oper.wp
        have e1 : b.tmps[21]?.getD undef = .string L'[j].name := getD' (Gw.look hl 21 (by kernel_rfl))
        have e2 : b.tmps[27]?.getD undef = .string L'[j + 1].name := getD' (Gw.look hl 27 (by kernel_rfl))
        have e3 := toList_eq_iff L'[j].name L'[j + 1].name
        go_simp
        exact hK _ _ (Grw.refl _) (Gw.dst_eq rfl rfl)
      case hend =>
       intro xs w2 hG2 hall
       have h28 : xs.getD 28 undef = .bool (decide (L'[j].name = L'[j + 1].name)) := hall 28 (by decide)
       clear hall
       have hB2 := bthen hB hG2.below
       simp only [mixed, List.contains_cons, List.contains_nil, Nat.reduceBEq, Nat.reduceAdd, Bool.or_false, Bool.or_true, Bool.false_eq_true, if_false, if_true]
       rw [h28]
       by_cases hn : L'[j].name = L'[j + 1].name
       · have hno : ¬ Apart L' := fun h => next_of_apart h j hjl hn
         replace hno : Hid _ := hno
         rw [decide_eq_true hn]
         clear hn
         go_wp2
         go_ret
         exact ⟨L', false, rfl, ⟨fun h => (Bool.false_ne_true h).elim, fun h => (hno.out h).elim⟩, hp.out, ha.out, holdsK_below hH1 hblk1 hB2, grownBy_trans hg (grownBy_of_below hB2)⟩
       · rw [decide_eq_false hn]
         replace hn : Hid _ := hn
         go_wp2
         go_roundw
         case rel => exact ⟨j + 1, by omega, by go_num, fun t h ht => by
           by_cases e : t = j
           · subst e; exact hn.out
           · exact hr.out t h (by omega), hB2⟩
         case measure => simp [intOf]; omega
    · have hy : Apart L' := apart_of_next ha.out (fun t ht => hr.out t ht (by omega))
      replace hy : Hid _ := hy
      go_wp2
      go_ret
      exact ⟨L', true, rfl, ⟨fun _ => hy.out, fun _ => rfl⟩, hp.out, ha.out, holdsK_below hH1 hblk1 hB, grownBy_trans hg (grownBy_of_below hB)⟩
set_option maxRecDepth 20000 in
set_option maxHeartbeats 4000000 in
theorem sortNames21_any [Inhabited NS] (blk cap : Nat) (L : List NS) (w : World) (hH : HoldsK encNS 2 w blk 0 L.toArray) (hblk : blk < w.heap.size) (hsz : L.length < 4611686018427387904) :
    Calls Try.prog 21 #[.slice (some ⟨blk, 0, none⟩) L.length cap, .func (.func 22) #[] #[]] w fun e w' => Sorted w w' e blk L := by
  obtain ⟨W, hW⟩ : ∃ W, W = w.alloc (.cells #[.func (.func 22) #[] #[]] 53) := ⟨_, rfl⟩
  have hbW : Below w.heap.size w W := by rw [hW]; exact (Below.refl _ _).alloc (Nat.le_refl _) _
  have c3 : W.cell? ⟨w.heap.size, 0, none⟩ = some (.func (.func 22) #[] #[]) := by rw [hW]; simp [go_sem]
  have hlt : w.heap.size < W.heap.size := cell_lt c3
  have kS := sortFile_any w.heap.size blk 0 cap L W c3 (by omega) (holdsK_below hH hblk hbW) (by omega) hsz
  replace kS : Hid _ := kS
  go_enter Try.func21, Try.ntmps21
  go_wp2_with fail
  rw [← hW]
  clear hW
  refine Calls.mono kS.out ?_
  rintro e w1 ⟨rfl, L', hp, ha, hH1, hg1⟩
  clear kS
  have hlen : L'.length = L.length := hp.length_eq
  have hg : w.grownBy w1 (some blk) := grownBy_trans (grownBy_of_below hbW) hg1
  have c3' := hg1.cell c3 (by simp; omega)
  rw [← hlen]
  rw [← hlen] at hsz
  replace hp : Hid _ := hp
  replace ha : Hid _ := ha
  replace hlen : Hid _ := hlen
  have hblk1 : blk < w1.heap.size := Nat.lt_of_lt_of_le hblk hg.size
  go_wp2
  go_loopw [5] (fun i wr => ∃ j : Nat, j ≤ L'.length ∧ i = .int .i64 ((j : Int) + 1) ∧ Hid (∀ t (h : t + 1 < L'.length), t < j → L'[t].name ≠ L'[t + 1].name) ∧ Below w1.heap.size w1 wr) (fun i _ => L'.length + 1 - (intOf i).toNat)
  case atStart => exact ⟨0, Nat.zero_le _, rfl, fun t _ h => by omega, Below.refl _ _⟩
  case round =>
    obtain ⟨j, hj, rfl, hr, hB⟩ := hrel
    by_cases hjl : j + 1 < L'.length
    · have hcx := holdNS (holdsK_below hH1 hblk1 hB) j (by omega)
      have hcy := holdNS (holdsK_below hH1 hblk1 hB) (j + 1) hjl
      obtain ⟨x0, x1⟩ := hcx
      obtain ⟨y0, y1⟩ := hcy
      have x3 := keep_cell hB c3'
      go_wp2
      refine Gw.wp_region_framed (nbV 22 blk L'.length cap j L'[j] L'[j + 1]) [15, 16, 17, 18, 19, 20, 21, 22, 23, 24, 25, 26, 27, 28] [0, 1, 2, 3, 4, 5, 6, 7, 8, 9, 10, 11, 12, 13, 14] 29 (by kernel_rfl) (by kernel_rfl) (by kernel_rfl) (by kernel_rfl) rfl (fun t v w w' _ h => h) ?hstep ?hend
      case hstep =>
       refine Gw.steps_cons ?s0 (Gw.steps_cons ?s1 (Gw.steps_cons ?s2 (Gw.steps_cons ?s3 (Gw.steps_cons ?s4 (Gw.steps_cons ?s5 (Gw.steps_cons ?s6 (Gw.steps_cons ?s7 (Gw.steps_cons ?s8 (Gw.steps_cons ?s9 (Gw.steps_cons ?s10 (Gw.steps_cons ?s11 (Gw.steps_cons ?s12 (Gw.steps_cons ?s13 (Gw.steps_nil))))))))))))))
       case s0 =>
        refine Gw.StepOk.of (Gw.guard_none rfl) fun b w' hsz hW hl K hK => ?_
        clear hsz
        unfold Oper.wp
        have e3 : b.tmps[3]?.getD undef = .pointer (some ⟨w.heap.size, 0, none⟩) := getD' (Gw.look hl 3 (by kernel_rfl))
        have k3 := hW.cell x3
        have kx0 := hW.cell x0
        have kx1 := hW.cell x1
        have ky0 := hW.cell y0
        have ky1 := hW.cell y1
        go_simp
        exact hK _ _ (Grw.refl _) (Gw.dst_eq rfl rfl)
       case s1 => exact Gw.step_move 0 16 rfl rfl (Gw.guard_none rfl) (by kernel_rfl) (fun v w h => h)
       case s2 => exact Gw.step_move 5 17 rfl rfl (Gw.guard_none rfl) (by kernel_rfl) (fun v w h => h)
       case s3 => 
        refine Gw.StepOk.of (Gw.guard_none rfl) fun b w' hsz hW hl K hK => ?_
        clear hsz
        unfold Oper.wp
        have e1 : b.tmps[17]?.getD undef = .int .i64 ((j : Int) + 1) := getD' (Gw.look hl 17 (by kernel_rfl))
        have e2 := wrap_i64 (j : Int) (by omega) (by omega)
        go_simp
        exact hK _ _ (Grw.refl _) (Gw.dst_eq rfl rfl)
       case s4 => 
        refine Gw.StepOk.of (Gw.guard_none rfl) fun b w' hsz hW hl K hK => ?_
        clear hsz
        unfold Oper.wp
        have e1 : b.tmps[16]?.getD undef = .slice (some ⟨blk, 0, none⟩) L'.length cap := getD' (Gw.look hl 16 (by kernel_rfl))
        have e2 : b.tmps[18]?.getD undef = .int .i64 (j : Int) := getD' (Gw.look hl 18 (by kernel_rfl))
        have i0 : 0 ≤ (j : Int) ∧ (j : Int) < (L'.length : Int) := by omega
        go_simp
        exact hK _ _ (Grw.refl _) (Gw.dst_eq rfl rfl)
       case s5 =>
        refine Gw.StepOk.of (Gw.guard_none rfl) fun b w' hsz hW hl K hK => ?_
        clear hsz
        unfold Oper.wp
        have e19 : b.tmps[19]?.getD undef = .pointer (some ⟨blk, j * 2, none⟩) := getD' (Gw.look hl 19 (by kernel_rfl))
        have k3 := hW.cell x3
        have kx0 := hW.cell x0
        have kx1 := hW.cell x1
        have ky0 := hW.cell y0
        have ky1 := hW.cell y1
        go_simp
        exact hK _ _ (Grw.refl _) (Gw.dst_eq rfl rfl)
       case s6 => exact Gw_callv1 22 15 20 21 _ (by kernel_rfl) rfl rfl (Gw.guard_none rfl) (by kernel_rfl) (by kernel_rfl) (fun v w h => h) (fun v w' hW hv => by have hv : v = .agg #[.string L'[j].name, .slice L'[j].a L'[j].n L'[j].c] := hv; subst hv; exact (fileName_any L'[j] w').mono fun e w'' h => ⟨_, h.1, rfl, h.2⟩)
       case s7 =>
        refine Gw.StepOk.of (Gw.guard_none rfl) fun b w' hsz hW hl K hK => ?_
        clear hsz
        unfold Oper.wp
        have e3 : b.tmps[3]?.getD undef = .pointer (some ⟨w.heap.size, 0, none⟩) := getD' (Gw.look hl 3 (by kernel_rfl))
        have k3 := hW.cell x3
        have kx0 := hW.cell x0
        have kx1 := hW.cell x1
        have ky0 := hW.cell y0
        have ky1 := hW.cell y1
        go_simp
        exact hK _ _ (Grw.refl _) (Gw.dst_eq rfl rfl)
       case s8 => exact Gw.step_move 0 23 rfl rfl (Gw.guard_none rfl) (by kernel_rfl) (fun v w h => h)
       case s9 => exact Gw.step_move 5 24 rfl rfl (Gw.guard_none rfl) (by kernel_rfl) (fun v w h => h)
       case s10 => 
        refine Gw.StepOk.of (Gw.guard_none rfl) fun b w' hsz hW hl K hK => ?_
        clear hsz
        unfold Oper.wp
        have e1 : b.tmps[23]?.getD undef = .slice (some ⟨blk, 0, none⟩) L'.length cap := getD' (Gw.look hl 23 (by kernel_rfl))
        have e2 : b.tmps[24]?.getD undef = .int .i64 ((j : Int) + 1) := getD' (Gw.look hl 24 (by kernel_rfl))
        have i0 : 0 ≤ (j : Int) + 1 ∧ (j : Int) + 1 < (L'.length : Int) := by omega
        go_simp
        exact hK _ _ (Grw.refl _) (Gw.dst_eq rfl rfl)
       case s11 =>
        refine Gw.StepOk.of (Gw.guard_none rfl) fun b w' hsz hW hl K hK => ?_
        clear hsz
        unfold Oper.wp
        have e25 : b.tmps[25]?.getD undef = .pointer (some ⟨blk, (j + 1) * 2, none⟩) := getD' (Gw.look hl 25 (by kernel_rfl))
        have k3 := hW.cell x3
        have kx0 := hW.cell x0
        have kx1 := hW.cell x1
        have ky0 := hW.cell y0
        have ky1 := hW.cell y1
        go_simp
        exact hK _ _ (Grw.refl _) (Gw.dst_eq rfl rfl)
       case s12 => exact Gw_callv1 22 22 26 27 _ (by kernel_rfl) rfl rfl (Gw.guard_none rfl) (by kernel_rfl) (by kernel_rfl) (fun v w h => h) (fun v w' hW hv => by have hv : v = .agg #[.string L'[j + 1].name, .slice L'[j + 1].a L'[j + 1].n L'[j + 1].c] := hv; subst hv; exact (fileName_any L'[j + 1] w').mono fun e w'' h => ⟨_, h.1, rfl, h.2⟩)
       case s13 => 
        refine Gw.StepOk.of (Gw.guard_none rfl) fun b w' hsz hW hl K hK => ?_
        clear hsz
        unfold Oper.wp
        have e1 : b.tmps[21]?.getD undef = .string L'[j].name := getD' (Gw.look hl 21 (by kernel_rfl))
        have e2 : b.tmps[27]?.getD undef = .string L'[j + 1].name := getD' (Gw.look hl 27 (by kernel_rfl))
        have e3 := toList_eq_iff L'[j].name L'[j + 1].name
        go_simp
        exact hK _ _ (Grw.refl _) (Gw.dst_eq rfl rfl)
      case hend =>
       intro xs w2 hG2 hall
       have h28 : xs.getD 28 undef = .bool (decide (L'[j].name = L'[j + 1].name)) := hall 28 (by decide)
       clear hall
       have hB2 := bthen hB hG2.below
       simp only [mixed, List.contains_cons, List.contains_nil, Nat.reduceBEq, Nat.reduceAdd, Bool.or_false, Bool.or_true, Bool.false_eq_true, if_false, if_true]
       rw [h28]
       by_cases hn : L'[j].name = L'[j + 1].name
       · have hno : ¬ Apart L' := fun h => next_of_apart h j hjl hn
         replace hno : Hid _ := hno
         rw [decide_eq_true hn]
         clear hn
         go_wp2
         go_ret
         exact ⟨L', false, rfl, ⟨fun h => (Bool.false_ne_true h).elim, fun h => (hno.out h).elim⟩, hp.out, ha.out, holdsK_below hH1 hblk1 hB2, grownBy_trans hg (grownBy_of_below hB2)⟩
       · rw [decide_eq_false hn]
         replace hn : Hid _ := hn
         go_wp2
         go_roundw
         case rel => exact ⟨j + 1, by omega, by go_num, fun t h ht => by
           by_cases e : t = j
           · subst e; exact hn.out
           · exact hr.out t h (by omega), hB2⟩
         case measure => simp [intOf]; omega
    · have hy : Apart L' := apart_of_next ha.out (fun t ht => hr.out t ht (by omega))
      replace hy : Hid _ := hy
      go_wp2
      go_ret
      exact ⟨L', true, rfl, ⟨fun _ => hy.out, fun _ => rfl⟩, hp.out, ha.out, holdsK_below hH1 hblk1 hB, grownBy_trans hg (grownBy_of_below hB)⟩
end Go.Proofs.Ytkngjljcjgagbaa
