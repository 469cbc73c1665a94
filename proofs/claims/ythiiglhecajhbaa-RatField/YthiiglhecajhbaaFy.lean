/- The walk of RatField. -/
import Derived.Test.YthiiglhecajhbaaFx
namespace Go.Proofs.Ythiiglhecajhbaa
set_option linter.unusedVariables false
open Go.RowKit
attribute [local go_sem ↓] Go.wp_at_zero Go.wp_at_succ
def fl3V (g base : Nat) (A B C : Value) (X1 Y1 X2 Y2 X3 Y3 : Int) (t : Nat) (v : Value) (w : World) : Prop := match t with
  | 3 => v = .pointer (some ⟨g, 0, none⟩)
  | 4 => v = .pointer (some ⟨g + 1, 0, none⟩)
  | 5 => v = .pointer (some ⟨g + 1 + 1, 0, none⟩)
  | 8 => Ptr4 base [] v w
  | 19 => v = A
  | 20 => v = B
  | 21 => v = C
  | 22 => Qv w v (X2 * Y3 + X3 * Y2) (Y2 * Y3) 13
  | 23 => Qv w v (X1 * (X2 * Y3 + X3 * Y2)) (Y1 * (Y2 * Y3)) 32
  | _ => True
theorem fl3V_next {g base : Nat} {A B C : Value} {X1 Y1 X2 Y2 X3 Y3 : Int} (t : Nat) (v : Value) (w w' : World) (hb : Below w.heap.size w w') (h : fl3V g base A B C X1 Y1 X2 Y2 X3 Y3 t v w) : fl3V g base A B C X1 Y1 X2 Y2 X3 Y3 t v w' := by
  unfold fl3V at h ⊢
  split at h <;> first | exact h | exact Num.next h hb | exact OutE.next h hb | exact Frac.next h hb | exact FracE.next h hb | exact LowE.next h hb | exact Qv.next h hb | exact Ptr4.next h hb | exact ⟨h.1, h.2.next hb⟩
theorem fl3V_chg {g base : Nat} {A B C : Value} {X1 Y1 X2 Y2 X3 Y3 : Int} (t : Nat) (v : Value) (w w' : World) (b : Nat) (hc : Chg b w w') (hb : Box4 w b) (hb' : Box4 w' b) (h : fl3V g base A B C X1 Y1 X2 Y2 X3 Y3 t v w) : fl3V g base A B C X1 Y1 X2 Y2 X3 Y3 t v w' := by
  unfold fl3V at h ⊢
  split at h <;> first | exact h | exact Num.chg h hc hb.noint | exact OutE.chg h hc hb.noint | exact Frac.chg h hc hb.noint | exact FracE.chg h hc hb.noint | exact LowE.chg h hc hb.noint | exact Qv.chg h hc hb.noint | exact Ptr4.chg h hc (fun _ => hb') | exact ⟨h.1, h.2.chg hc hb'⟩
def fl3C (g base : Nat) (A B C : Value) (X1 Y1 X2 Y2 X3 Y3 : Int) (j b : Nat) (w : World) : Prop := match j with
  | 6 => Holds4 w b (fun v => Qv w v (X1 * (X2 * Y3 + X3 * Y2)) (Y1 * (Y2 * Y3)) 32)
  | _ => True
theorem fl3C_next {g base : Nat} {A B C : Value} {X1 Y1 X2 Y2 X3 Y3 : Int} (j b : Nat) (w w' : World) (hb : Below w.heap.size w w') (_ : b < w.heap.size) (h : fl3C g base A B C X1 Y1 X2 Y2 X3 Y3 j b w) : fl3C g base A B C X1 Y1 X2 Y2 X3 Y3 j b w' := by
  unfold fl3C at h ⊢
  split at h <;> first | exact h | exact Holds4.next h hb (fun v k => k.next hb)
theorem fl3C_chg {g base : Nat} {A B C : Value} {X1 Y1 X2 Y2 X3 Y3 : Int} (j b b' : Nat) (w w' : World) (hc : Chg b' w w') (hb : Box4 w b') (_ : Box4 w' b') (hne : b ≠ b') (h : fl3C g base A B C X1 Y1 X2 Y2 X3 Y3 j b w) : fl3C g base A B C X1 Y1 X2 Y2 X3 Y3 j b w' := by
  unfold fl3C at h ⊢
  split at h <;> first | exact h | exact Holds4.chg h hc hne (fun v k => k.chg hc hb.noint)
def fl4V (g base : Nat) (A B C : Value) (X1 Y1 X2 Y2 X3 Y3 : Int) (t : Nat) (v : Value) (w : World) : Prop := match t with
  | 3 => v = .pointer (some ⟨g, 0, none⟩)
  | 4 => v = .pointer (some ⟨g + 1, 0, none⟩)
  | 5 => v = .pointer (some ⟨g + 1 + 1, 0, none⟩)
  | 9 => Ptr4 base [] v w
  | 24 => v = A
  | 25 => v = B
  | 26 => Qv w v (X1 * X2) (Y1 * Y2) 12
  | 27 => v = A
  | 28 => v = C
  | 29 => Qv w v (X1 * X3) (Y1 * Y3) 12
  | 30 => Qv w v (X1 * X2 * (Y1 * Y3) + X1 * X3 * (Y1 * Y2)) (Y1 * Y2 * (Y1 * Y3)) 31
  | _ => True
theorem fl4V_next {g base : Nat} {A B C : Value} {X1 Y1 X2 Y2 X3 Y3 : Int} (t : Nat) (v : Value) (w w' : World) (hb : Below w.heap.size w w') (h : fl4V g base A B C X1 Y1 X2 Y2 X3 Y3 t v w) : fl4V g base A B C X1 Y1 X2 Y2 X3 Y3 t v w' := by
  unfold fl4V at h ⊢
  split at h <;> first | exact h | exact Num.next h hb | exact OutE.next h hb | exact Frac.next h hb | exact FracE.next h hb | exact LowE.next h hb | exact Qv.next h hb | exact Ptr4.next h hb | exact ⟨h.1, h.2.next hb⟩
theorem fl4V_chg {g base : Nat} {A B C : Value} {X1 Y1 X2 Y2 X3 Y3 : Int} (t : Nat) (v : Value) (w w' : World) (b : Nat) (hc : Chg b w w') (hb : Box4 w b) (hb' : Box4 w' b) (h : fl4V g base A B C X1 Y1 X2 Y2 X3 Y3 t v w) : fl4V g base A B C X1 Y1 X2 Y2 X3 Y3 t v w' := by
  unfold fl4V at h ⊢
  split at h <;> first | exact h | exact Num.chg h hc hb.noint | exact OutE.chg h hc hb.noint | exact Frac.chg h hc hb.noint | exact FracE.chg h hc hb.noint | exact LowE.chg h hc hb.noint | exact Qv.chg h hc hb.noint | exact Ptr4.chg h hc (fun _ => hb') | exact ⟨h.1, h.2.chg hc hb'⟩
def fl4C (g base : Nat) (A B C : Value) (X1 Y1 X2 Y2 X3 Y3 : Int) (j b : Nat) (w : World) : Prop := match j with
  | 8 => Holds4 w b (fun v => Qv w v (X1 * X2 * (Y1 * Y3) + X1 * X3 * (Y1 * Y2)) (Y1 * Y2 * (Y1 * Y3)) 31)
  | _ => True
theorem fl4C_next {g base : Nat} {A B C : Value} {X1 Y1 X2 Y2 X3 Y3 : Int} (j b : Nat) (w w' : World) (hb : Below w.heap.size w w') (_ : b < w.heap.size) (h : fl4C g base A B C X1 Y1 X2 Y2 X3 Y3 j b w) : fl4C g base A B C X1 Y1 X2 Y2 X3 Y3 j b w' := by
  unfold fl4C at h ⊢
  split at h <;> first | exact h | exact Holds4.next h hb (fun v k => k.next hb)
theorem fl4C_chg {g base : Nat} {A B C : Value} {X1 Y1 X2 Y2 X3 Y3 : Int} (j b b' : Nat) (w w' : World) (hc : Chg b' w w') (hb : Box4 w b') (_ : Box4 w' b') (hne : b ≠ b') (h : fl4C g base A B C X1 Y1 X2 Y2 X3 Y3 j b w) : fl4C g base A B C X1 Y1 X2 Y2 X3 Y3 j b w' := by
  unfold fl4C at h ⊢
  split at h <;> first | exact h | exact Holds4.chg h hc hne (fun v k => k.chg hc hb.noint)
def fl8V (g g8 g9 : Nat) (A B L R : Value) (X1 Y1 X2 Y2 : Int) (t : Nat) (v : Value) (w : World) : Prop := match t with
  | 3 => v = .pointer (some ⟨g, 0, none⟩)
  | 4 => v = .pointer (some ⟨g + 1, 0, none⟩)
  | 6 => v = .bool true
  | 7 => v = .bool true
  | 8 => v = .pointer (some ⟨g8, 0, none⟩)
  | 9 => v = .pointer (some ⟨g9, 0, none⟩)
  | 46 => v = .bool true
  | 47 => v = .bool true
  | 48 => v = L
  | 49 => v = R
  | 50 => v = .int .i64 0
  | 51 => v = .bool true
  | 52 => v = .bool true
  | 53 => v = .bool true
  | 54 => v = A
  | 55 => v = A
  | 56 => Qv w v (X1 * Y1 - X1 * Y1) (Y1 * Y1) 13
  | 57 => v = B
  | 58 => v = B
  | 59 => Qv w v (X2 * Y2 - X2 * Y2) (Y2 * Y2) 13
  | 60 => v = .int .i64 0
  | 61 => v = .bool true
  | 62 => v = .bool true
  | 63 => v = .bool true
  | 64 => v = A
  | 65 => v = B
  | 66 => v = .int .i64 (cmpI (X1 * Y2) (X2 * Y1))
  | 67 => v = .bool (decide (X1 * Y2 < X2 * Y1))
  | 68 => v = B
  | 69 => v = A
  | 70 => v = .int .i64 (cmpI (X2 * Y1) (X1 * Y2))
  | 71 => v = .bool (decide (X1 * Y2 < X2 * Y1))
  | 72 => v = .bool true
  | 73 => v = .bool true
  | _ => True
theorem fl8V_next {g g8 g9 : Nat} {A B L R : Value} {X1 Y1 X2 Y2 : Int} (t : Nat) (v : Value) (w w' : World) (hb : Below w.heap.size w w') (h : fl8V g g8 g9 A B L R X1 Y1 X2 Y2 t v w) : fl8V g g8 g9 A B L R X1 Y1 X2 Y2 t v w' := by
  unfold fl8V at h ⊢
  split at h <;> first | exact h | exact Qv.next h hb
theorem bo_eq0 {w : World} {o : Oper} {b : Act} {K : Act → World → Prop} {Q : Exit → Act → World → Prop} (s : Nat) (ho : o.op = .binOp .eql 3 (.tmp s) (.const (.int .i64 0)) 3) (hs : b.tmps.getD s undef = .int .i64 0) (h : K (b.put o.dst (.bool true)) w) : o.wp Try.prog b w K Q := by
  obtain ⟨dst, op, type, pos, after, guard⟩ := o
  dsimp only at ho
  subst ho
  unfold Oper.wp
  have e : b.eval (.tmp s) = .int .i64 0 := hs
  go_simp
  exact h
theorem bo_lt {w : World} {o : Oper} {b : Act} {K : Act → World → Prop} {Q : Exit → Act → World → Prop} {x y : Int} (s : Nat) (ho : o.op = .binOp .lss 3 (.tmp s) (.const (.int .i64 0)) 3) (hs : b.tmps.getD s undef = .int .i64 (cmpI x y)) (h : K (b.put o.dst (.bool (decide (x < y)))) w) : o.wp Try.prog b w K Q := by
  obtain ⟨dst, op, type, pos, after, guard⟩ := o
  dsimp only at ho
  subst ho
  unfold Oper.wp
  have e : b.eval (.tmp s) = .int .i64 (cmpI x y) := hs
  have hc : decide (cmpI x y < 0) = decide (x < y) := by
    rcases Int.lt_trichotomy x y with h1 | h1 | h1
    · simp [cmpI_lt h1, h1]
    · subst h1; simp [cmpI_eq]
    · simp [cmpI_gt h1]; omega
  go_simp
  exact h
theorem bo_gt {w : World} {o : Oper} {b : Act} {K : Act → World → Prop} {Q : Exit → Act → World → Prop} {x y : Int} (s : Nat) (ho : o.op = .binOp .gtr 3 (.tmp s) (.const (.int .i64 0)) 3) (hs : b.tmps.getD s undef = .int .i64 (cmpI y x)) (h : K (b.put o.dst (.bool (decide (x < y)))) w) : o.wp Try.prog b w K Q := by
  obtain ⟨dst, op, type, pos, after, guard⟩ := o
  dsimp only at ho
  subst ho
  unfold Oper.wp
  have e : b.eval (.tmp s) = .int .i64 (cmpI y x) := hs
  have hc : decide (0 < cmpI y x) = decide (x < y) := by
    rcases Int.lt_trichotomy x y with h1 | h1 | h1
    · simp [cmpI_gt h1, h1]
    · subst h1; simp [cmpI_eq]
    · simp [cmpI_lt h1]; omega
  go_simp
  exact h
theorem bo_same {w : World} {o : Oper} {b : Act} {K : Act → World → Prop} {Q : Exit → Act → World → Prop} {p : Bool} (s t : Nat) (ho : o.op = .binOp .eql 4 (.tmp s) (.tmp t) 4) (hs : b.tmps.getD s undef = .bool p) (ht : b.tmps.getD t undef = .bool p) (h : K (b.put o.dst (.bool true)) w) : o.wp Try.prog b w K Q := by
  obtain ⟨dst, op, type, pos, after, guard⟩ := o
  dsimp only at ho
  subst ho
  unfold Oper.wp
  have e : b.eval (.tmp s) = .bool p := hs
  have e' : b.eval (.tmp t) = .bool p := ht
  cases p <;> (go_simp; exact h)
set_option maxRecDepth 20000 in
set_option maxHeartbeats 4000000 in
theorem field_any (hbeg : BegunSaid) (n1 : Bool) (x1 : Option Addr) (c1 : Nat) (xs1 : List Int) (n2 : Bool) (x2 : Option Addr) (c2 : Nat) (xs2 : List Int) (n3 : Bool) (x3 : Option Addr) (c3 : Nat) (xs3 : List Int) (n4 : Bool) (x4 : Option Addr) (c4 : Nat) (xs4 : List Int) (n5 : Bool) (x5 : Option Addr) (c5 : Nat) (xs5 : List Int) (n6 : Bool) (x6 : Option Addr) (c6 : Nat) (xs6 : List Int) (w : World)
    (h1 : Row w .u32 4294967296 x1 c1 xs1) (h2 : Row w .u32 4294967296 x2 c2 xs2) (h3 : Row w .u32 4294967296 x3 c3 xs3) (h4 : Row w .u32 4294967296 x4 c4 xs4) (h5 : Row w .u32 4294967296 x5 c5 xs5) (h6 : Row w .u32 4294967296 x6 c6 xs6) :
    Calls Try.prog 3 #[.agg #[.bool n1, .slice x1 xs1.length c1, .bool n2, .slice x2 xs2.length c2], .agg #[.bool n3, .slice x3 xs3.length c3, .bool n4, .slice x4 xs4.length c4], .agg #[.bool n5, .slice x5 xs5.length c5, .bool n6, .slice x6 xs6.length c6]] w fun e w' => e = .returned (.bool true) ∧ Below w.heap.size w w' := by
  obtain ⟨W, hW, hbW, hlt, ⟨c0, c1', c2', c3'⟩, ⟨c4', c5', c6', c7'⟩, ⟨c8, c9, c10, c11⟩, i0, i1, i2⟩ := boxes_field w n1 x1 xs1.length c1 n2 x2 xs2.length c2 n3 x3 xs3.length c3 n4 x4 xs4.length c4 n5 x5 xs5.length c5 n6 x6 xs6.length c6
  have hbeg' : Hid _ := hbeg W
  clear hbeg
  go_enter Try.func3, Try.ntmps3
  go_wp2_with fail
  rw [← hW]
  clear hW
  refine Calls.mono hbeg'.out ?_
  rintro e w1 ⟨rfl, hb1⟩
  clear hbeg'
  have d0 := keep_cell hb1 c0
  have d1 := keep_cell hb1 c1'
  have d2 := keep_cell hb1 c2'
  have d3 := keep_cell hb1 c3'
  have d4 := keep_cell hb1 c4'
  have d5 := keep_cell hb1 c5'
  have d6 := keep_cell hb1 c6'
  have d7 := keep_cell hb1 c7'
  have d8 := keep_cell hb1 c8
  have d9 := keep_cell hb1 c9
  have d10 := keep_cell hb1 c10
  have d11 := keep_cell hb1 c11
  have j0 := i0.next hb1
  have j1 := i1.next hb1
  have j2 := i2.next hb1
  have hB1 := bthen hbW hb1
  obtain ⟨l1, l2, X1, Y1, kk1, q1⟩ := cut_qv n1 x1 c1 xs1 n2 x2 c2 xs2 (h1.next hB1) (h2.next hB1)
  obtain ⟨l3, l4, X2, Y2, kk2, q2⟩ := cut_qv n3 x3 c3 xs3 n4 x4 c4 xs4 (h3.next hB1) (h4.next hB1)
  obtain ⟨l5, l6, X3, Y3, kk3, q3⟩ := cut_qv n5 x5 c5 xs5 n6 x6 c6 xs6 (h5.next hB1) (h6.next hB1)
  clear h1 h2 h3 h4 h5 h6 c0 c1' c2' c3' c4' c5' c6' c7' c8 c9 c10 c11 i0 i1 i2 hbW hb1 hlt
  generalize xs1.length = L1 at *
  generalize xs2.length = L2 at *
  generalize xs3.length = L3 at *
  generalize xs4.length = L4 at *
  generalize xs5.length = L5 at *
  generalize xs6.length = L6 at *
  have hD0 : Below w1.heap.size w1 w1.drew := (Below.refl _ _).drew
  go_wp2
  go_cut [] from 12 (fun wc => FieldCut w wc X1 Y1 X2 Y2 X3 Y3)
  case first =>
   go_region_with (first
    | (go_at_call 5; refine Calls.mono (kk1.out _ hD0) ?_; rintro e w2 ⟨rfl, hb2⟩; clear kk1; have p4 := keep_cell hb2 d4; have p5 := keep_cell hb2 d5; have p6 := keep_cell hb2 d6; have p7 := keep_cell hb2 d7; have p8 := keep_cell hb2 d8; have p9 := keep_cell hb2 d9; have p10 := keep_cell hb2 d10; have p11 := keep_cell hb2 d11)
    | (go_at_call 5; refine Calls.mono (kk2.out _ hb2) ?_; rintro e w3 ⟨rfl, hb3⟩; clear kk2; have r8 := keep_cell hb3 d8; have r9 := keep_cell hb3 d9; have r10 := keep_cell hb3 d10; have r11 := keep_cell hb3 d11)
    | (go_at_call 5; refine Calls.mono (kk3.out _ hb3) ?_; rintro e w4 ⟨rfl, hb4⟩; clear kk3; have y0 := j0.next hb4; have y1 := j1.next hb4; have y2 := j2.next hb4; obtain ⟨W3, hW3, hcut⟩ := put_three (bthen hB1 hb4) y0 y1 y2 (q1.next hb4) (q2.next hb4) (q3.next hb4); obtain ⟨_, _, _, _, _, _, _, _, s0, s1, s2, s3, f⟩ := y0.cells; have f0 := f 0; have f1 := f 1; have f2 := f 2; have f3 := f 3; clear f; obtain ⟨_, _, _, _, _, _, _, _, s4, s5, s6, s7, f⟩ := y1.cells; have f4 := f 0; have f5 := f 1; have f6 := f 2; have f7 := f 3; clear f; obtain ⟨_, _, _, _, _, _, _, _, s8, s9, s10, s11, f⟩ := y2.cells; have f8 := f 0; have f9 := f 1; have f10 := f 2; have f11 := f 3; clear f))
   all_goals
    go_wp2_with fail
    go_meet
    case rel =>
     go_light
     rw [← hW3]
     exact hcut
  case rest =>
   obtain ⟨⟨ma, ra, la, oa, ma', ra', la', oa', a0, a1, a2, a3, qA⟩, ⟨mb, rb, lb, ob, mb', rb', lb', ob', b0, b1, b2, b3, qB⟩, ⟨mc, rc, lc, oc, mc', rc', lc', oc', k0, k1, k2, k3, qC⟩, hBc, hlc⟩ := hcut
   generalize wc = Wc at *
   clear d0 d1 d2 d3 d4 d5 d6 d7 d8 d9 d10 d11 j0 j1 j2 hB1 q1 q2 q3 hD0
   go_wp2
   go_cut [8] from 12 (fun p w3 => ∃ gb, p = .pointer (some ⟨gb, 0, none⟩) ∧ Holds4 w3 gb (fun v => Qv w3 v (X1 * (X2 * Y3 + X3 * Y2)) (Y1 * (Y2 * Y3)) 32) ∧ Below Wc.heap.size Wc w3)
   case first =>
    rename_i J K' hJ hK'
    have lw : ∀ {w' : World}, BelowBut [] Wc w' → Below Wc.heap.size Wc w' := fun hW => hW.below (Nat.le_refl _) (by intro k hk; cases hk)
    refine wp_region_boxes (fl3V w.heap.size Wc.heap.size (.agg #[.bool ma, .slice ra la oa, .bool ma', .slice ra' la' oa']) (.agg #[.bool mb, .slice rb lb ob, .bool mb', .slice rb' lb' ob']) (.agg #[.bool mc, .slice rc lc oc, .bool mc', .slice rc' lc' oc']) X1 Y1 X2 Y2 X3 Y3) Box4 (fl3C w.heap.size Wc.heap.size (.agg #[.bool ma, .slice ra la oa, .bool ma', .slice ra' la' oa']) (.agg #[.bool mb, .slice rb lb ob, .bool mb', .slice rb' lb' ob']) (.agg #[.bool mc, .slice rc lc oc, .bool mc', .slice rc' lc' oc']) X1 Y1 X2 Y2 X3 Y3) [3, 4, 5] [8] [] [(6, 8)] 74 (by kernel_rfl) (by kernel_rfl) rfl fl3V_next fl3V_chg ?hA fl3C_next fl3C_chg ?hstart ?hdis (StepsFrom.all ?hstep) ?hend
    case hA =>
      intro s v w' hs hv
      have hs' : s = 8 := by simpa using hs
      subst hs'
      obtain ⟨b, h1, h2, h3⟩ := hv
      exact ⟨b, h1, h2, h3, h2.noint.lt⟩
    case hstart =>
      intro t ht
      simp only [List.mem_cons, List.not_mem_nil, or_false] at ht
      rcases ht with rfl | rfl | rfl <;> rfl
    case hdis =>
      intro s t hs ht hne _ _
      have hs' : s = 8 := by simpa using hs
      have ht' : t = 8 := by simpa using ht
      exact absurd (hs'.trans ht'.symm) hne
    case hstep =>
      refine ⟨?s0, ?s1, ?s2, ?s3, ?s4, ?s5, ?s6, trivial⟩
      case s0 => exact plain_at (plain_of (guard_none rfl) fun b w' _ hW hl K hK => ld26 (hW.cell a0 (by simp)) (hW.cell a1 (by simp)) (hW.cell a2 (by simp)) (hW.cell a3 (by simp)) 3 rfl (look hl 3 (by kernel_rfl)) (hK _ _ (Below.refl _ _) (dst_eq rfl rfl))) (dst_eq rfl rfl) rfl
      case s1 => exact plain_at (plain_of (guard_none rfl) fun b w' _ hW hl K hK => ld26 (hW.cell b0 (by simp)) (hW.cell b1 (by simp)) (hW.cell b2 (by simp)) (hW.cell b3 (by simp)) 4 rfl (look hl 4 (by kernel_rfl)) (hK _ _ (Below.refl _ _) (dst_eq rfl rfl))) (dst_eq rfl rfl) rfl
      case s2 => exact plain_at (plain_of (guard_none rfl) fun b w' _ hW hl K hK => ld26 (hW.cell k0 (by simp)) (hW.cell k1 (by simp)) (hW.cell k2 (by simp)) (hW.cell k3 (by simp)) 5 rfl (look hl 5 (by kernel_rfl)) (hK _ _ (Below.refl _ _) (dst_eq rfl rfl))) (dst_eq rfl rfl) rfl
      case s3 => exact plain_at (pl_call2 7 20 21 22 _ (by kernel_rfl) rfl rfl (guard_none rfl) (by kernel_rfl) (by kernel_rfl) (fun u v w' hW hu hv => by subst hu; subst hv; exact Add_qv (qB.next (lw hW)) (qC.next (lw hW)) (by decide))) (dst_eq rfl rfl) rfl
      case s4 => exact plain_at (pl_call2 6 19 22 23 _ (by kernel_rfl) rfl rfl (guard_none rfl) (by kernel_rfl) (by kernel_rfl) (fun u v w' hW hu hv => by subst hu; exact Mul_qv ((qA.next (lw hW)).more (by decide)) hv (by decide))) (dst_eq rfl rfl) rfl
      case s5 => exact new_at (step_new4 8 rfl rfl rfl (fun v w h => h)) rfl rfl rfl
      case s6 => exact put_at (step_put4 6 8 23 rfl rfl rfl (by kernel_rfl) (by kernel_rfl) ⟨fun v w h => Qv.form h, fun g w' w'' m a l c m' a' l' c' hv hc hb r0 r1 r2 r3 => ⟨m, a, l, c, m', a', l', c', r0, r1, r2, r3, Qv.chg hv hc hb.noint⟩⟩) rfl rfl (by kernel_rfl)
    case hend =>
      rintro ⟨tm, df⟩ w' hs hd hW hv hdis hC hfr
      obtain ⟨gb, eb, _, _⟩ := hv 8 (.inr ⟨5, _, rfl, rfl⟩)
      have cb := hC 6 8 (by simp) (by decide) gb eb
      obtain ⟨xs', htm, hxs⟩ := frame_mixed hfr hs
      have xb : xs'.getD 8 undef = .pointer (some ⟨gb, 0, none⟩) := (hxs 8).trans eb
      have hWb := lw hW
      clear hxs hv hdis hC hfr eb
      subst htm
      obtain rfl := hd
      refine hK' _ _ (Met.intro (hJ _ _ ?_))
      (repeat apply Exists.intro)
      refine ⟨?rel, rfl⟩
      case rel => exact ⟨gb, xb, cb, hWb⟩
   case rest =>
   obtain ⟨g8, rfl, hl8, hb3⟩ := hcut
   generalize wc = W3 at *
   replace a0 := keep_cell hb3 a0
   replace a1 := keep_cell hb3 a1
   replace a2 := keep_cell hb3 a2
   replace a3 := keep_cell hb3 a3
   replace b0 := keep_cell hb3 b0
   replace b1 := keep_cell hb3 b1
   replace b2 := keep_cell hb3 b2
   replace b3 := keep_cell hb3 b3
   replace k0 := keep_cell hb3 k0
   replace k1 := keep_cell hb3 k1
   replace k2 := keep_cell hb3 k2
   replace k3 := keep_cell hb3 k3
   replace qA := qA.next hb3
   replace qB := qB.next hb3
   replace qC := qC.next hb3
   replace hBc := bthen hBc hb3
   clear hb3
   go_wp2
   go_cut [9] from 12 (fun p w4 => ∃ gb, p = .pointer (some ⟨gb, 0, none⟩) ∧ Holds4 w4 gb (fun v => Qv w4 v (X1 * X2 * (Y1 * Y3) + X1 * X3 * (Y1 * Y2)) (Y1 * Y2 * (Y1 * Y3)) 31) ∧ Below W3.heap.size W3 w4)
   case first =>
    rename_i J K' hJ hK'
    have lw : ∀ {w' : World}, BelowBut [] W3 w' → Below W3.heap.size W3 w' := fun hW => hW.below (Nat.le_refl _) (by intro k hk; cases hk)
    refine wp_region_boxes (fl4V w.heap.size W3.heap.size (.agg #[.bool ma, .slice ra la oa, .bool ma', .slice ra' la' oa']) (.agg #[.bool mb, .slice rb lb ob, .bool mb', .slice rb' lb' ob']) (.agg #[.bool mc, .slice rc lc oc, .bool mc', .slice rc' lc' oc']) X1 Y1 X2 Y2 X3 Y3) Box4 (fl4C w.heap.size W3.heap.size (.agg #[.bool ma, .slice ra la oa, .bool ma', .slice ra' la' oa']) (.agg #[.bool mb, .slice rb lb ob, .bool mb', .slice rb' lb' ob']) (.agg #[.bool mc, .slice rc lc oc, .bool mc', .slice rc' lc' oc']) X1 Y1 X2 Y2 X3 Y3) [3, 4, 5] [9] [] [(8, 9)] 74 (by kernel_rfl) (by kernel_rfl) rfl fl4V_next fl4V_chg ?hA fl4C_next fl4C_chg ?hstart ?hdis (StepsFrom.all ?hstep) ?hend
    case hA =>
      intro s v w' hs hv
      have hs' : s = 9 := by simpa using hs
      subst hs'
      obtain ⟨b, h1, h2, h3⟩ := hv
      exact ⟨b, h1, h2, h3, h2.noint.lt⟩
    case hstart =>
      intro t ht
      simp only [List.mem_cons, List.not_mem_nil, or_false] at ht
      rcases ht with rfl | rfl | rfl <;> rfl
    case hdis =>
      intro s t hs ht hne _ _
      have hs' : s = 9 := by simpa using hs
      have ht' : t = 9 := by simpa using ht
      exact absurd (hs'.trans ht'.symm) hne
    case hstep =>
      refine ⟨?s0, ?s1, ?s2, ?s3, ?s4, ?s5, ?s6, ?s7, ?s8, trivial⟩
      case s0 => exact plain_at (plain_of (guard_none rfl) fun b w' _ hW hl K hK => ld26 (hW.cell a0 (by simp)) (hW.cell a1 (by simp)) (hW.cell a2 (by simp)) (hW.cell a3 (by simp)) 3 rfl (look hl 3 (by kernel_rfl)) (hK _ _ (Below.refl _ _) (dst_eq rfl rfl))) (dst_eq rfl rfl) rfl
      case s1 => exact plain_at (plain_of (guard_none rfl) fun b w' _ hW hl K hK => ld26 (hW.cell b0 (by simp)) (hW.cell b1 (by simp)) (hW.cell b2 (by simp)) (hW.cell b3 (by simp)) 4 rfl (look hl 4 (by kernel_rfl)) (hK _ _ (Below.refl _ _) (dst_eq rfl rfl))) (dst_eq rfl rfl) rfl
      case s2 => exact plain_at (pl_call2 6 24 25 26 _ (by kernel_rfl) rfl rfl (guard_none rfl) (by kernel_rfl) (by kernel_rfl) (fun u v w' hW hu hv => by subst hu; subst hv; exact Mul_qv (qA.next (lw hW)) (qB.next (lw hW)) (by decide))) (dst_eq rfl rfl) rfl
      case s3 => exact plain_at (plain_of (guard_none rfl) fun b w' _ hW hl K hK => ld26 (hW.cell a0 (by simp)) (hW.cell a1 (by simp)) (hW.cell a2 (by simp)) (hW.cell a3 (by simp)) 3 rfl (look hl 3 (by kernel_rfl)) (hK _ _ (Below.refl _ _) (dst_eq rfl rfl))) (dst_eq rfl rfl) rfl
      case s4 => exact plain_at (plain_of (guard_none rfl) fun b w' _ hW hl K hK => ld26 (hW.cell k0 (by simp)) (hW.cell k1 (by simp)) (hW.cell k2 (by simp)) (hW.cell k3 (by simp)) 5 rfl (look hl 5 (by kernel_rfl)) (hK _ _ (Below.refl _ _) (dst_eq rfl rfl))) (dst_eq rfl rfl) rfl
      case s5 => exact plain_at (pl_call2 6 27 28 29 _ (by kernel_rfl) rfl rfl (guard_none rfl) (by kernel_rfl) (by kernel_rfl) (fun u v w' hW hu hv => by subst hu; subst hv; exact Mul_qv (qA.next (lw hW)) (qC.next (lw hW)) (by decide))) (dst_eq rfl rfl) rfl
      case s6 => exact plain_at (pl_call2 7 26 29 30 _ (by kernel_rfl) rfl rfl (guard_none rfl) (by kernel_rfl) (by kernel_rfl) (fun u v w' hW hu hv => Add_qv hu hv (by decide))) (dst_eq rfl rfl) rfl
      case s7 => exact new_at (step_new4 9 rfl rfl rfl (fun v w h => h)) rfl rfl rfl
      case s8 => exact put_at (step_put4 8 9 30 rfl rfl rfl (by kernel_rfl) (by kernel_rfl) ⟨fun v w h => Qv.form h, fun g w' w'' m a l c m' a' l' c' hv hc hb r0 r1 r2 r3 => ⟨m, a, l, c, m', a', l', c', r0, r1, r2, r3, Qv.chg hv hc hb.noint⟩⟩) rfl rfl (by kernel_rfl)
    case hend =>
      rintro ⟨tm, df⟩ w' hs hd hW hv hdis hC hfr
      obtain ⟨gb, eb, _, _⟩ := hv 9 (.inr ⟨7, _, rfl, rfl⟩)
      have cb := hC 8 9 (by simp) (by decide) gb eb
      obtain ⟨xs', htm, hxs⟩ := frame_mixed hfr hs
      have xb : xs'.getD 9 undef = .pointer (some ⟨gb, 0, none⟩) := (hxs 9).trans eb
      have hWb := lw hW
      clear hxs hv hdis hC hfr eb
      subst htm
      obtain rfl := hd
      refine hK' _ _ (Met.intro (hJ _ _ ?_))
      (repeat apply Exists.intro)
      refine ⟨?rel, rfl⟩
      case rel => exact ⟨gb, xb, cb, hWb⟩
   case rest =>
   obtain ⟨g9, rfl, hl9, hb4⟩ := hcut
   generalize wc = W4 at *
   replace a0 := keep_cell hb4 a0
   replace a1 := keep_cell hb4 a1
   replace a2 := keep_cell hb4 a2
   replace a3 := keep_cell hb4 a3
   replace b0 := keep_cell hb4 b0
   replace b1 := keep_cell hb4 b1
   replace b2 := keep_cell hb4 b2
   replace b3 := keep_cell hb4 b3
   replace k0 := keep_cell hb4 k0
   replace k1 := keep_cell hb4 k1
   replace k2 := keep_cell hb4 k2
   replace k3 := keep_cell hb4 k3
   replace qA := qA.next hb4
   replace qB := qB.next hb4
   replace qC := qC.next hb4
   replace hBc := bthen hBc hb4
   replace hl8 : Holds4 W4 g8 (fun v => Qv W4 v (X1 * (X2 * Y3 + X3 * Y2)) (Y1 * (Y2 * Y3)) 32) := hl8.next hb4 (fun v h => h.next hb4)
   clear hb4
   have k5 : Hid _ := Quo_qv qB qA (by decide)
   go_wp2_with fail
   refine Calls.mono k5.out ?_
   rintro e w5 ⟨t, rfl, ⟨n7, a7, l7, o7, n8, a8, l8, o8, rfl⟩, hQ, hb5⟩
   clear k5
   obtain ⟨W5, hW5, hbW5, x10, t0, t1, t2, t3⟩ := box_text w5 n7 a7 l7 o7 n8 a8 l8 o8
   have hbx := bthen hb5 hbW5
   have e0 := keep_cell hbx a0
   have e1 := keep_cell hbx a1
   have e2 := keep_cell hbx a2
   have e3 := keep_cell hbx a3
   have e4 := keep_cell hbx b0
   have e5 := keep_cell hbx b1
   have e6 := keep_cell hbx b2
   have e7 := keep_cell hbx b3
   have rA := qA.next hbx
   have rB := qB.next hbx
   have rQ := hQ.next hbW5
   have m8 : Holds4 W5 g8 (fun v => Qv W5 v (X1 * (X2 * Y3 + X3 * Y2)) (Y1 * (Y2 * Y3)) 32) := hl8.next hbx (fun v h => h.next hbx)
   have m9 : Holds4 W5 g9 (fun v => Qv W5 v (X1 * X2 * (Y1 * Y3) + X1 * X3 * (Y1 * Y2)) (Y1 * Y2 * (Y1 * Y3)) 31) := hl9.next hbx (fun v h => h.next hbx)
   have hB5 := bthen hBc hbx
   clear a0 a1 a2 a3 b0 b1 b2 b3 k0 k1 k2 k3 qA qB qC hQ hl8 hl9 hBc
   have hD0 : Below W5.heap.size W5 W5.drew := (Below.refl _ _).drew
   go_wp2
   rw [← hW5]
   clear hW5 hbx hb5 hbW5
   go_cut [45] from 37 (fun p w6 => p = .bool false ∧ Below W5.heap.size W5 w6)
   case first =>
    rename_i J K' hJ hK'
    by_cases hX : X1 = 0
    · have hd : (!decide (X1 = 0)) = false := by simp [hX]
      rw [hd] at hJ ⊢
      clear hd hX
      go_region_with fail
      all_goals
       go_simp
       first | refine hJ _ _ ?_ | refine hK' _ _ (Met.intro (hJ _ _ ?_))
       (repeat apply Exists.intro)
       refine ⟨?rel, rfl⟩
       case rel => exact ⟨rfl, hD0⟩
    · have hd : (!decide (X1 = 0)) = true := by simp [hX]
      rw [hd] at hJ ⊢
      obtain ⟨p, q, rP, hpq⟩ := rQ hX
      have hX' : Hid (X1 ≠ 0) := hX
      have kM : Hid (∀ w', Below W5.heap.size W5 w' → Calls Try.prog 6 #[.agg #[.bool n7, .slice a7 l7 o7, .bool n8, .slice a8 l8 o8], .agg #[.bool ma, .slice ra la oa, .bool ma', .slice ra' la' oa']] w' fun e w'' => ∃ t, e = .returned t ∧ Qv w'' t (p * X1) (q * Y1) 30 ∧ Below W5.heap.size W5 w'') := by
        intro w' h
        refine (Mul_qv (rP.next h) ((rA.next h).more (by decide)) (by decide)).mono ?_
        rintro e w'' ⟨t, rfl, h1, h2⟩
        exact ⟨t, rfl, h1, bthen h h2⟩
      have hcm : Hid (cmpI (p * X1 * Y2) (X2 * (q * Y1)) = 0) := by
        refine cmpI_eq ?_
        have hy : Y1 ≠ 0 := Int.ne_of_gt rA.1
        have h2 : p * (Y2 * X1) = X2 * Y1 * q := hpq
        grind
      clear hd hX hpq
      go_region_with (first
       | (go_at_call 6; refine Calls.mono (kM.out _ hD0) ?_; rintro e w6 ⟨t, rfl, hM, hb6⟩; clear kM; obtain ⟨n9, a9, l9, o9, n0, a0, l0, o0, rfl⟩ := hM.form; have i4 := keep_cell hb6 e4; have i5 := keep_cell hb6 e5; have i6 := keep_cell hb6 e6; have i7 := keep_cell hb6 e7)
       | (go_at_call 9; refine (Cmp_qv hM ((rB.next hb6).more (by decide)) (by decide)).mono ?_; rintro e w7 ⟨rfl, hb7⟩; rw [hcm.out]; have hb8 := bthen hb6 hb7))
      all_goals
       clear hM hb7 hb6
       go_simp
       first | refine hJ _ _ ?_ | refine hK' _ _ (Met.intro (hJ _ _ ?_))
       (repeat apply Exists.intro)
       refine ⟨?rel, rfl⟩
       case rel => exact ⟨rfl, hb8⟩
   case rest =>
   obtain ⟨rfl, hb6⟩ := hcut
   generalize wc = W6 at *
   replace e0 := keep_cell hb6 e0
   replace e1 := keep_cell hb6 e1
   replace e2 := keep_cell hb6 e2
   replace e3 := keep_cell hb6 e3
   replace e4 := keep_cell hb6 e4
   replace e5 := keep_cell hb6 e5
   replace e6 := keep_cell hb6 e6
   replace e7 := keep_cell hb6 e7
   replace rA := rA.next hb6
   replace rB := rB.next hb6
   obtain ⟨mL, rL, lL, oL, mL', rL', lL', oL', u0, u1, u2, u3, qL⟩ := m8
   obtain ⟨mR, rR, lR, oR, mR', rR', lR', oR', v0, v1, v2, v3, qR⟩ := m9
   replace u0 := keep_cell hb6 u0
   replace u1 := keep_cell hb6 u1
   replace u2 := keep_cell hb6 u2
   replace u3 := keep_cell hb6 u3
   replace v0 := keep_cell hb6 v0
   replace v1 := keep_cell hb6 v1
   replace v2 := keep_cell hb6 v2
   replace v3 := keep_cell hb6 v3
   replace qL := qL.next hb6
   replace qR := qR.next hb6
   have hB6 := bthen hB5 hb6
   have hLR : Hid (cmpI (X1 * (X2 * Y3 + X3 * Y2) * (Y1 * Y2 * (Y1 * Y3))) ((X1 * X2 * (Y1 * Y3) + X1 * X3 * (Y1 * Y2)) * (Y1 * (Y2 * Y3))) = 0) := cmpI_eq (by grind)
   clear hb6 hB5 t0 t1 t2 t3 x10 rQ hD0
   go_wp2
   refine wp_region_typed (fl8V w.heap.size g8 g9 (.agg #[.bool ma, .slice ra la oa, .bool ma', .slice ra' la' oa']) (.agg #[.bool mb, .slice rb lb ob, .bool mb', .slice rb' lb' ob']) (.agg #[.bool mL, .slice rL lL oL, .bool mL', .slice rL' lL' oL']) (.agg #[.bool mR, .slice rR lR oR, .bool mR', .slice rR' lR' oR']) X1 Y1 X2 Y2) [3, 4, 7, 8, 9] 74 (by kernel_rfl) (by kernel_rfl) rfl fl8V_next ?hstart ?hstep ?hend
   case hstart =>
     intro t ht
     simp only [List.mem_cons, List.not_mem_nil, or_false] at ht
     rcases ht with rfl | rfl | rfl | rfl | rfl <;> rfl
   case hstep =>
     refine steps_cons ?s0 (steps_cons ?s1 (steps_cons ?s2 (steps_cons ?s3 (steps_cons ?s4 (steps_cons ?s5 (steps_cons ?s6 (steps_cons ?s7 (steps_cons ?s8 (steps_cons ?s9 (steps_cons ?s10 (steps_cons ?s11 (steps_cons ?s12 (steps_cons ?s13 (steps_cons ?s14 (steps_cons ?s15 (steps_cons ?s16 (steps_cons ?s17 (steps_cons ?s18 (steps_cons ?s19 (steps_cons ?s20 (steps_cons ?s21 (steps_cons ?s22 (steps_cons ?s23 (steps_cons ?s24 (steps_cons ?s25 (steps_cons ?s26 (steps_cons ?s27 (steps_cons ?s28 (steps_nil)))))))))))))))))))))))))))))
     case s0 => exact step_move 7 46 rfl rfl (guard_none rfl) (by kernel_rfl) (fun v w h => h)
     case s1 => exact step_move 46 47 rfl rfl (guard_none rfl) (by kernel_rfl) (fun v w h => h)
     case s2 => exact StepOk.of (guard_true 1 47 rfl (by kernel_rfl) (by kernel_rfl) (fun v w h => h)) fun b w' _ hW hl K hK => ld26 (keep_cell hW u0) (keep_cell hW u1) (keep_cell hW u2) (keep_cell hW u3) 8 rfl (look hl 8 (by kernel_rfl)) (hK _ _ (Below.refl _ _) (dst_eq rfl rfl))
     case s3 => exact StepOk.of (guard_true 1 47 rfl (by kernel_rfl) (by kernel_rfl) (fun v w h => h)) fun b w' _ hW hl K hK => ld26 (keep_cell hW v0) (keep_cell hW v1) (keep_cell hW v2) (keep_cell hW v3) 9 rfl (look hl 9 (by kernel_rfl)) (hK _ _ (Below.refl _ _) (dst_eq rfl rfl))
     case s4 => exact step_call2 9 48 49 50 _ (by kernel_rfl) rfl rfl (guard_true 1 47 rfl (by kernel_rfl) (by kernel_rfl) (fun v w h => h)) (by kernel_rfl) (by kernel_rfl) (fun u v w' hW hu hv => by subst hu; subst hv; exact (Cmp_qv (qL.next hW) ((qR.next hW).more (by decide)) (by decide)).mono fun e w'' h => ⟨_, h.1, congrArg _ hLR.out, h.2⟩)
     case s5 => exact StepOk.of (guard_true 1 47 rfl (by kernel_rfl) (by kernel_rfl) (fun v w h => h)) fun b w' _ hW hl K hK => bo_eq0 50 rfl (look hl 50 (by kernel_rfl)) (hK _ _ (Below.refl _ _) (dst_eq rfl rfl))
     case s6 => exact step_pick 47 51 52 _ rfl rfl (guard_none rfl) (by kernel_rfl) (by kernel_rfl) (fun v w h => h) (fun v w h => h)
     case s7 => exact step_move 52 53 rfl rfl (guard_none rfl) (by kernel_rfl) (fun v w h => h)
     case s8 => exact StepOk.of (guard_true 7 53 rfl (by kernel_rfl) (by kernel_rfl) (fun v w h => h)) fun b w' _ hW hl K hK => ld26 (keep_cell hW e0) (keep_cell hW e1) (keep_cell hW e2) (keep_cell hW e3) 3 rfl (look hl 3 (by kernel_rfl)) (hK _ _ (Below.refl _ _) (dst_eq rfl rfl))
     case s9 => exact StepOk.of (guard_true 7 53 rfl (by kernel_rfl) (by kernel_rfl) (fun v w h => h)) fun b w' _ hW hl K hK => ld26 (keep_cell hW e0) (keep_cell hW e1) (keep_cell hW e2) (keep_cell hW e3) 3 rfl (look hl 3 (by kernel_rfl)) (hK _ _ (Below.refl _ _) (dst_eq rfl rfl))
     case s10 => exact step_call2 10 54 55 56 _ (by kernel_rfl) rfl rfl (guard_true 7 53 rfl (by kernel_rfl) (by kernel_rfl) (fun v w h => h)) (by kernel_rfl) (by kernel_rfl) (fun u v w' hW hu hv => by subst hu; subst hv; exact Sub_qv (rA.next hW) (rA.next hW) (by decide))
     case s11 => exact StepOk.of (guard_true 7 53 rfl (by kernel_rfl) (by kernel_rfl) (fun v w h => h)) fun b w' _ hW hl K hK => ld26 (keep_cell hW e4) (keep_cell hW e5) (keep_cell hW e6) (keep_cell hW e7) 4 rfl (look hl 4 (by kernel_rfl)) (hK _ _ (Below.refl _ _) (dst_eq rfl rfl))
     case s12 => exact StepOk.of (guard_true 7 53 rfl (by kernel_rfl) (by kernel_rfl) (fun v w h => h)) fun b w' _ hW hl K hK => ld26 (keep_cell hW e4) (keep_cell hW e5) (keep_cell hW e6) (keep_cell hW e7) 4 rfl (look hl 4 (by kernel_rfl)) (hK _ _ (Below.refl _ _) (dst_eq rfl rfl))
     case s13 => exact step_call2 10 57 58 59 _ (by kernel_rfl) rfl rfl (guard_true 7 53 rfl (by kernel_rfl) (by kernel_rfl) (fun v w h => h)) (by kernel_rfl) (by kernel_rfl) (fun u v w' hW hu hv => by subst hu; subst hv; exact Sub_qv (rB.next hW) (rB.next hW) (by decide))
     case s14 => exact step_call2 9 56 59 60 _ (by kernel_rfl) rfl rfl (guard_true 7 53 rfl (by kernel_rfl) (by kernel_rfl) (fun v w h => h)) (by kernel_rfl) (by kernel_rfl) (fun u v w' hW hu hv => (Cmp_qv hu hv (by decide)).mono fun e w'' h => ⟨_, h.1, congrArg _ (cmpI_eq (by rw [Int.sub_self, Int.sub_self, Int.zero_mul, Int.zero_mul])), h.2⟩)
     case s15 => exact StepOk.of (guard_true 7 53 rfl (by kernel_rfl) (by kernel_rfl) (fun v w h => h)) fun b w' _ hW hl K hK => bo_eq0 60 rfl (look hl 60 (by kernel_rfl)) (hK _ _ (Below.refl _ _) (dst_eq rfl rfl))
     case s16 => exact step_pick 53 61 62 _ rfl rfl (guard_none rfl) (by kernel_rfl) (by kernel_rfl) (fun v w h => h) (fun v w h => h)
     case s17 => exact step_move 62 63 rfl rfl (guard_none rfl) (by kernel_rfl) (fun v w h => h)
     case s18 => exact StepOk.of (guard_true 17 63 rfl (by kernel_rfl) (by kernel_rfl) (fun v w h => h)) fun b w' _ hW hl K hK => ld26 (keep_cell hW e0) (keep_cell hW e1) (keep_cell hW e2) (keep_cell hW e3) 3 rfl (look hl 3 (by kernel_rfl)) (hK _ _ (Below.refl _ _) (dst_eq rfl rfl))
     case s19 => exact StepOk.of (guard_true 17 63 rfl (by kernel_rfl) (by kernel_rfl) (fun v w h => h)) fun b w' _ hW hl K hK => ld26 (keep_cell hW e4) (keep_cell hW e5) (keep_cell hW e6) (keep_cell hW e7) 4 rfl (look hl 4 (by kernel_rfl)) (hK _ _ (Below.refl _ _) (dst_eq rfl rfl))
     case s20 => exact step_call2 9 64 65 66 _ (by kernel_rfl) rfl rfl (guard_true 17 63 rfl (by kernel_rfl) (by kernel_rfl) (fun v w h => h)) (by kernel_rfl) (by kernel_rfl) (fun u v w' hW hu hv => by subst hu; subst hv; exact (Cmp_qv (rA.next hW) (rB.next hW) (by decide)).mono fun e w'' h => ⟨_, h.1, rfl, h.2⟩)
     case s21 => exact StepOk.of (guard_true 17 63 rfl (by kernel_rfl) (by kernel_rfl) (fun v w h => h)) fun b w' _ hW hl K hK => bo_lt 66 rfl (look hl 66 (by kernel_rfl)) (hK _ _ (Below.refl _ _) (dst_eq rfl rfl))
     case s22 => exact StepOk.of (guard_true 17 63 rfl (by kernel_rfl) (by kernel_rfl) (fun v w h => h)) fun b w' _ hW hl K hK => ld26 (keep_cell hW e4) (keep_cell hW e5) (keep_cell hW e6) (keep_cell hW e7) 4 rfl (look hl 4 (by kernel_rfl)) (hK _ _ (Below.refl _ _) (dst_eq rfl rfl))
     case s23 => exact StepOk.of (guard_true 17 63 rfl (by kernel_rfl) (by kernel_rfl) (fun v w h => h)) fun b w' _ hW hl K hK => ld26 (keep_cell hW e0) (keep_cell hW e1) (keep_cell hW e2) (keep_cell hW e3) 3 rfl (look hl 3 (by kernel_rfl)) (hK _ _ (Below.refl _ _) (dst_eq rfl rfl))
     case s24 => exact step_call2 9 68 69 70 _ (by kernel_rfl) rfl rfl (guard_true 17 63 rfl (by kernel_rfl) (by kernel_rfl) (fun v w h => h)) (by kernel_rfl) (by kernel_rfl) (fun u v w' hW hu hv => by subst hu; subst hv; exact (Cmp_qv (rB.next hW) (rA.next hW) (by decide)).mono fun e w'' h => ⟨_, h.1, rfl, h.2⟩)
     case s25 => exact StepOk.of (guard_true 17 63 rfl (by kernel_rfl) (by kernel_rfl) (fun v w h => h)) fun b w' _ hW hl K hK => bo_gt 70 rfl (look hl 70 (by kernel_rfl)) (hK _ _ (Below.refl _ _) (dst_eq rfl rfl))
     case s26 => exact StepOk.of (guard_true 17 63 rfl (by kernel_rfl) (by kernel_rfl) (fun v w h => h)) fun b w' _ hW hl K hK => bo_same 67 71 rfl (look hl 67 (by kernel_rfl)) (look hl 71 (by kernel_rfl)) (hK _ _ (Below.refl _ _) (dst_eq rfl rfl))
     case s27 => exact step_pick 63 72 73 _ rfl rfl (guard_none rfl) (by kernel_rfl) (by kernel_rfl) (fun v w h => h) (fun v w h => h)
     case s28 => exact step_assign 73 6 rfl rfl (guard_none rfl) (by kernel_rfl) (fun v w h => h)
   case hend =>
     intro b w' hs hd hW hv
     have h6 : b.tmps.getD 6 undef = .bool true := hv 6 (.inr ⟨28, _, rfl, rfl⟩)
     have hBf := bthen hB6 hW
     rw [Array.getD_eq_getD_getElem?] at h6
     clear hv hW
     go_wp2
     exact bodyPost_ret (v := .bool true) (by simp [results, Try.results3, go_sem, h6]) hd ⟨rfl, hBf⟩
end Go.Proofs.Ythiiglhecajhbaa
