/- constants: the ends of uint. -/
import Derived.Test.YtclokcoimdjaeaaGreatDoorZhm
import Derived.Test.YtclokcoimdjaeaaGreatDoorYc
import Derived.Test.YtclokcoimdjaeaaGreatDoorYd
import Derived.Test.YtclokcoimdjaeaaGreatDoorQrm
import Derived.Deep.CutRange
import Derived.Deep.RegionWith
import Derived.Test.YtclokcoimdjaeaaGreatDoorZfm
namespace Go.Proofs.YtclokcoimdjaeaaGreatDoor
set_option linter.unusedVariables false
open Go.RowKit
attribute [local go_sem ↓] Go.wp_at_zero Go.wp_at_succ
end Go.Proofs.YtclokcoimdjaeaaGreatDoor
namespace Go.Proofs.YtclokcoimdjaeaaGreatDoor
set_option linter.unusedVariables false
open Go.RowKit
attribute [local go_sem ↓] Go.wp_at_zero Go.wp_at_succ
/-- A whole constant, as the second road takes it over. -/
theorem FromIs.whole {b : Bool} {s : ByteArray} {n1 : Bool} {l1 : Nat} {n2 : Bool} {l2 : Nat} {n d : Int} {w : World} {v : Value} (h : FromIs 3 b s n1 l1 n2 l2 n d w v true) : b = false ∧ s = ⟨#[]⟩ ∧ ∃ z, pN n d = z * pD d := by
  obtain ⟨k', b', s', m1, b1, k1, d1, m2, b2, k2, d2, p, q, e, hR, _, h⟩ := h
  rcases h with ⟨_, _, _, _, hl, hB⟩ | ⟨h, _⟩ | ⟨h, _⟩ | ⟨_, _, h, _⟩
  · cases b with
    | true => simp at hB
    | false =>
      have h0 : s.size = 0 ∧ q = 1 := by simpa using hB.symm
      refine ⟨rfl, bytes_empty h0.1, p, ?_⟩
      have := hl.2.2
      rw [h0.2] at this
      omega
  · cases h
  · cases h
  · exact absurd rfl h
end Go.Proofs.YtclokcoimdjaeaaGreatDoor
namespace Go.Proofs.YtclokcoimdjaeaaGreatDoor
set_option linter.unusedVariables false
open Go.RowKit
attribute [local go_sem ↓] Go.wp_at_zero Go.wp_at_succ
theorem step_pickC {P : Program} {ops : Array Oper} {Q : Exit → Act → World → Prop} {V : Nat → Value → World → Prop} {N : Nat} {w : World} {o : Oper} (c d : Nat) (x : Value) (y : Operand) (ho : o.op = .pick (.tmp c) (.const x) y) (hd : o.dst = some d) (hg : GuardOk ops V o) (hl : (o.looksAt ops).contains c = true) (hc : ∀ v w, V c v w → v = .bool true) (hv : ∀ w, V d x w) : StepOk P ops Q V N w o :=
  StepOk.of hg fun b w' _ _ hb K hK => by
    have hcv := hc _ _ (look hb c hl)
    unfold Oper.wp execOp
    simp only [ho]
    have e : b.eval (.tmp c) = .bool true := hcv
    rw [e]
    exact hK _ _ (Below.refl _ _) (dst_eq hd (hv _))
theorem fracE_den {w : World} {z : Int} {m : Nat} {n1 : Bool} {a1 : Option Addr} {l1 c1 : Nat} {n2 : Bool} {a2 : Option Addr} {l2 c2 : Nat} (h : FracE w (.agg #[.bool n1, .slice a1 l1 c1, .bool n2, .slice a2 l2 c2]) z 1 m) : l2 ≠ 0 := by
  obtain ⟨_, _, _, _, _, _, _, _, e, _, ⟨x, x1, x2, x3, x4, x5, x6, x7, x8, x9⟩⟩ := h
  cases e
  cases x5
  intro h0
  have : x4 = [] := List.length_eq_zero_iff.1 h0
  subst this
  cases n2 <;> simp [num, val] at x8
def VIs (FA FC : Value) (pA pC pX : Nat) (t : Nat) (v : Value) (w : World) : Prop := match t with
  | 2 => v = .pointer (some ⟨pA, 0, none⟩)
  | 3 => v = .pointer (some ⟨pC, 0, none⟩)
  | 4 => v = .bool true
  | 5 => v = .pointer (some ⟨pX, 0, none⟩)
  | 8 => v = .pointer (some ⟨pA, 0, none⟩)
  | 9 => v = .int .i64 3
  | 10 => v = .pointer (some ⟨pX, 0, none⟩)
  | 11 => v = .int .i64 3
  | 12 => v = .bool true
  | 13 => v = .bool true
  | 14 => v = .pointer (some ⟨pA, 1, none⟩)
  | 15 => v = .bool false
  | 16 => v = .pointer (some ⟨pX, 1, none⟩)
  | 17 => v = .bool false
  | 18 => v = .bool true
  | 19 => v = .bool true
  | 20 => v = .bool true
  | 21 => v = .pointer (some ⟨pA, 2, none⟩)
  | 22 => v = .string ⟨#[]⟩
  | 23 => v = .pointer (some ⟨pX, 2, none⟩)
  | 24 => v = .string ⟨#[]⟩
  | 25 => v = .bool true
  | 26 => v = .bool true
  | 27 => v = .bool true
  | 28 => v = .pointer (some ⟨pX, 0, none⟩)
  | 29 => v = .int .i64 3
  | 30 => v = .bool true
  | 31 => v = .bool true
  | 35 => v = .bool true
  | 36 => v = .pointer (some ⟨pA, 3, none⟩)
  | 37 => v = FA
  | 38 => v = .bool false
  | 39 => v = .bool true
  | 40 => v = .bool true
  | 41 => v = .bool true
  | 42 => v = .bool true
  | 43 => v = .pointer (some ⟨pA, 3, none⟩)
  | 44 => v = FA
  | 45 => v = .bool false
  | 46 => v = .bool false
  | 47 => v = .pointer (some ⟨pA, 3, none⟩)
  | 48 => v = FA
  | 49 => v = .pointer (some ⟨pC, 3, none⟩)
  | 50 => v = FC
  | 51 => v = .bool true
  | 52 => v = .bool true
  | 53 => v = .bool true
  | _ => True
theorem VIs_next (FA FC : Value) (pA pC pX : Nat) (t : Nat) (v : Value) (w w' : World) (hb : Below w.heap.size w w') (h : VIs FA FC pA pC pX t v w) : VIs FA FC pA pC pX t v w' := by
  unfold VIs at h ⊢
  split at h <;> first | exact h | trivial
set_option maxRecDepth 20000 in
set_option maxHeartbeats 4000000 in
theorem Is38_yes {w : World} {u v : Value} {z : Int} {m M : Nat} (hu : CIE w u z m) (hv : CRn w v 3 z 1 M) (hm : m ≤ 500) (hM : M ≤ 500) :
    Calls Tryz.prog 38 #[u, v] w fun e w' => e = .returned (.bool true) ∧ Below w.heap.size w w' := by
  obtain ⟨n1, a1, l1, c1, n2, a2, l2, c2, rfl, hF0⟩ := hu
  have hv' := hv
  obtain ⟨m1, b1, k1, d1, m2, b2, k2, d2, rfl, hR0⟩ := hv'
  obtain ⟨W, hW, hqa, hqc, hbW, hsz⟩ := two_new (w := w) (A := .cells #[.int .i64 3, .bool false, .string ⟨#[]⟩, .bool n1, .slice a1 l1 c1, .bool n2, .slice a2 l2 c2] 32) (B := .cells #[.int .i64 3, .bool false, .string ⟨#[]⟩, .bool m1, .slice b1 k1 d1, .bool m2, .slice b2 k2 d2] 42)
  have kT : Hid (Calls Tryz.prog 30 #[.agg #[.int .i64 3, .bool false, .string ⟨#[]⟩, .bool m1, .slice b1 k1 d1, .bool m2, .slice b2 k2 d2]] W _) := To30_num (CRn.next hv hbW) (by omega) (.inl rfl)
  have hEm : Hid ((decide (l1 = 0) && decide (l2 = 0) && !n1 && !n2) = false) := by
    show _ = _
    rw [decide_eq_false (fracE_den hF0)]
    simp
  have qA : Hid (W.heap[w.heap.size]? = some (.cells #[.int .i64 3, .bool false, .string ⟨#[]⟩, .bool n1, .slice a1 l1 c1, .bool n2, .slice a2 l2 c2] 32 (0, 0))) := hqa
  have qC : Hid (W.heap[w.heap.size + 1]? = some (.cells #[.int .i64 3, .bool false, .string ⟨#[]⟩, .bool m1, .slice b1 k1 d1, .bool m2, .slice b2 k2 d2] 42 (0, 0))) := hqc
  have hF : Hid (FracE W (.agg #[.bool n1, .slice a1 l1 c1, .bool n2, .slice a2 l2 c2]) z 1 m) := hF0.next hbW
  have hR : Hid (RatR W (.agg #[.bool m1, .slice b1 k1 d1, .bool m2, .slice b2 k2 d2]) z 1 M) := hR0.next hbW
  have zz : Hid (Below w.heap.size w W) := hbW
  obtain ⟨⟨p0, p1, p2, p3, p4, p5, p6⟩, _, _⟩ := cells7 hqc
  clear hqa hqc hbW hsz hF0 hR0 hv
  go_enter Tryz.func38, Tryz.ntmps38
  go_upto_region 1 with fail
  rw [← hW]
  clear hW
  go_wp2_with fail
  refine Calls.mono kT.out ?_
  clear kT p0 p1 p2 p3 p4 p5 p6
  rintro e w1 ⟨t, rfl, ⟨e1, f1, g1, h1, e2, f2, g2, h2, rfl, _⟩, hb1⟩
  obtain ⟨W2, hW2⟩ : ∃ W2, W2 = w1.alloc (.cells #[.int .i64 3, .bool false, .string ⟨#[]⟩, .bool e1, .slice f1 g1 h1, .bool e2, .slice f2 g2 h2] 32) := ⟨_, rfl⟩
  have hb2 : Below w1.heap.size w1 W2 := by rw [hW2]; exact (Below.refl _ _).alloc (Nat.le_refl _) _
  have qX : Hid (W2.heap[w1.heap.size]? = some (.cells #[.int .i64 3, .bool false, .string ⟨#[]⟩, .bool e1, .slice f1 g1 h1, .bool e2, .slice f2 g2 h2] 32 (0, 0))) := by show _ = _; rw [hW2]; exact newAt _ _
  have kk := bthen hb1 hb2
  replace qA : Hid (W2.heap[w.heap.size]? = some (.cells #[.int .i64 3, .bool false, .string ⟨#[]⟩, .bool n1, .slice a1 l1 c1, .bool n2, .slice a2 l2 c2] 32 (0, 0))) := keep_heap kk qA.out
  replace qC : Hid (W2.heap[w.heap.size + 1]? = some (.cells #[.int .i64 3, .bool false, .string ⟨#[]⟩, .bool m1, .slice b1 k1 d1, .bool m2, .slice b2 k2 d2] 42 (0, 0))) := keep_heap kk qC.out
  replace hF : Hid (FracE W2 (.agg #[.bool n1, .slice a1 l1 c1, .bool n2, .slice a2 l2 c2]) z 1 m) := FracE.next hF.out kk
  replace hR : Hid (RatR W2 (.agg #[.bool m1, .slice b1 k1 d1, .bool m2, .slice b2 k2 d2]) z 1 M) := RatR.next hR.out kk
  replace zz : Hid (Below w.heap.size w W2) := bthen zz.out kk
  go_upto_region 2 with fail
  rw [← hW2]
  clear hW2 hb1 hb2 kk
  generalize w1.heap.size = pX at *
  obtain ⟨pA, hpA⟩ : ∃ pA, pA = w.heap.size := ⟨_, rfl⟩
  have hpAh : Hid (pA = w.heap.size) := hpA
  refine wp_region_typed (VIs (.agg #[.bool n1, .slice a1 l1 c1, .bool n2, .slice a2 l2 c2]) (.agg #[.bool m1, .slice b1 k1 d1, .bool m2, .slice b2 k2 d2]) w.heap.size (w.heap.size + 1) pX) [2, 3, 5] 54 (by kernel_rfl) (by kernel_rfl) rfl (VIs_next _ _ _ _ _) ?hstart ?hstep ?hend
  case hstart =>
   intro t ht
   simp only [List.mem_cons, List.not_mem_nil, or_false] at ht
   rcases ht with rfl | rfl | rfl <;> rfl
  case hstep =>
   refine steps_cons ?s0 (steps_cons ?s1 (steps_cons ?s2 (steps_cons ?s3 (steps_cons ?s4 (steps_cons ?s5 (steps_cons ?s6 (steps_cons ?s7 (steps_cons ?s8 (steps_cons ?s9 (steps_cons ?s10 (steps_cons ?s11 (steps_cons ?s12 (steps_cons ?s13 (steps_cons ?s14 (steps_cons ?s15 (steps_cons ?s16 (steps_cons ?s17 (steps_cons ?s18 (steps_cons ?s19 (steps_cons ?s20 (steps_cons ?s21 (steps_cons ?s22 (steps_cons ?s23 (steps_cons ?s24 (steps_cons ?s25 (steps_cons ?s26 (steps_cons ?s27 (steps_cons ?s28 (steps_cons ?s29 (steps_cons ?s30 (steps_cons ?s31 (steps_cons ?s32 (steps_cons ?s33 (steps_cons ?s34 (steps_cons ?s35 (steps_cons ?s36 (steps_cons ?s37 (steps_cons ?s38 (steps_cons ?s39 (steps_cons ?s40 (steps_cons ?s41 (steps_cons ?s42 (steps_cons ?s43 (steps_cons ?s44 (steps_cons ?s45 (steps_cons ?s46 steps_nil))))))))))))))))))))))))))))))))))))))))))))))
   case s0 =>
    refine StepOk.of (guard_none rfl) fun b w' hsz hW hl K hK => ?_
    clear hsz
    unfold Oper.wp
    have e2 : b.tmps[2]?.getD undef = .pointer (some ⟨w.heap.size, 0, none⟩) := getD' (look hl 2 (by kernel_rfl))
    go_simp
    exact hK _ _ (Below.refl _ _) (dst_eq rfl (by first | rfl | decide))
   case s1 =>
    refine StepOk.of (guard_none rfl) fun b w' hsz hW hl K hK => ?_
    clear hsz
    unfold Oper.wp
    have e8 : b.tmps[8]?.getD undef = .pointer (some ⟨w.heap.size, 0, none⟩) := getD' (look hl 8 (by kernel_rfl))
    obtain ⟨⟨z0, z1, z2, z3, z4, z5, z6⟩, _, _⟩ := cells7 (keep_heap hW qA.out)
    go_simp
    exact hK _ _ (Below.refl _ _) (dst_eq rfl rfl)
   case s2 =>
    refine StepOk.of (guard_none rfl) fun b w' hsz hW hl K hK => ?_
    clear hsz
    unfold Oper.wp
    have e5 : b.tmps[5]?.getD undef = .pointer (some ⟨pX, 0, none⟩) := getD' (look hl 5 (by kernel_rfl))
    go_simp
    exact hK _ _ (Below.refl _ _) (dst_eq rfl (by first | rfl | decide))
   case s3 =>
    refine StepOk.of (guard_none rfl) fun b w' hsz hW hl K hK => ?_
    clear hsz
    unfold Oper.wp
    have e10 : b.tmps[10]?.getD undef = .pointer (some ⟨pX, 0, none⟩) := getD' (look hl 10 (by kernel_rfl))
    obtain ⟨⟨z0, z1, z2, z3, z4, z5, z6⟩, _, _⟩ := cells7 (keep_heap hW qX.out)
    go_simp
    exact hK _ _ (Below.refl _ _) (dst_eq rfl rfl)
   case s4 =>
    refine StepOk.of (guard_none rfl) fun b w' hsz hW hl K hK => ?_
    clear hsz
    unfold Oper.wp
    have e9 : b.tmps[9]?.getD undef = .int .i64 3 := getD' (look hl 9 (by kernel_rfl))
    have e11 : b.tmps[11]?.getD undef = .int .i64 3 := getD' (look hl 11 (by kernel_rfl))
    go_simp
    exact hK _ _ (Below.refl _ _) (dst_eq rfl (by first | rfl | decide))
   case s5 => exact step_move 12 13 rfl rfl (guard_none rfl) (by kernel_rfl) (fun v w h => h)
   case s6 =>
    refine StepOk.of (guard_open 5 13 true rfl (by kernel_rfl) (by kernel_rfl) (fun v w h => h)) fun b w' hsz hW hl K hK => ?_
    clear hsz
    unfold Oper.wp
    have e2 : b.tmps[2]?.getD undef = .pointer (some ⟨w.heap.size, 0, none⟩) := getD' (look hl 2 (by kernel_rfl))
    go_simp
    exact hK _ _ (Below.refl _ _) (dst_eq rfl (by first | rfl | decide))
   case s7 =>
    refine StepOk.of (guard_open 5 13 true rfl (by kernel_rfl) (by kernel_rfl) (fun v w h => h)) fun b w' hsz hW hl K hK => ?_
    clear hsz
    unfold Oper.wp
    have e14 : b.tmps[14]?.getD undef = .pointer (some ⟨w.heap.size, 1, none⟩) := getD' (look hl 14 (by kernel_rfl))
    obtain ⟨⟨z0, z1, z2, z3, z4, z5, z6⟩, _, _⟩ := cells7 (keep_heap hW qA.out)
    go_simp
    exact hK _ _ (Below.refl _ _) (dst_eq rfl rfl)
   case s8 =>
    refine StepOk.of (guard_open 5 13 true rfl (by kernel_rfl) (by kernel_rfl) (fun v w h => h)) fun b w' hsz hW hl K hK => ?_
    clear hsz
    unfold Oper.wp
    have e5 : b.tmps[5]?.getD undef = .pointer (some ⟨pX, 0, none⟩) := getD' (look hl 5 (by kernel_rfl))
    go_simp
    exact hK _ _ (Below.refl _ _) (dst_eq rfl (by first | rfl | decide))
   case s9 =>
    refine StepOk.of (guard_open 5 13 true rfl (by kernel_rfl) (by kernel_rfl) (fun v w h => h)) fun b w' hsz hW hl K hK => ?_
    clear hsz
    unfold Oper.wp
    have e16 : b.tmps[16]?.getD undef = .pointer (some ⟨pX, 1, none⟩) := getD' (look hl 16 (by kernel_rfl))
    obtain ⟨⟨z0, z1, z2, z3, z4, z5, z6⟩, _, _⟩ := cells7 (keep_heap hW qX.out)
    go_simp
    exact hK _ _ (Below.refl _ _) (dst_eq rfl rfl)
   case s10 =>
    refine StepOk.of (guard_open 5 13 true rfl (by kernel_rfl) (by kernel_rfl) (fun v w h => h)) fun b w' hsz hW hl K hK => ?_
    clear hsz
    unfold Oper.wp
    have e15 : b.tmps[15]?.getD undef = .bool false := getD' (look hl 15 (by kernel_rfl))
    have e17 : b.tmps[17]?.getD undef = .bool false := getD' (look hl 17 (by kernel_rfl))
    go_simp
    exact hK _ _ (Below.refl _ _) (dst_eq rfl (by first | rfl | decide))
   case s11 => exact step_pick 13 18 19 (.const (.bool false)) rfl rfl (guard_none rfl) (by kernel_rfl) (by kernel_rfl) (fun v w h => h) (fun v w h => h)
   case s12 => exact step_move 19 20 rfl rfl (guard_none rfl) (by kernel_rfl) (fun v w h => h)
   case s13 =>
    refine StepOk.of (guard_open 12 20 true rfl (by kernel_rfl) (by kernel_rfl) (fun v w h => h)) fun b w' hsz hW hl K hK => ?_
    clear hsz
    unfold Oper.wp
    have e2 : b.tmps[2]?.getD undef = .pointer (some ⟨w.heap.size, 0, none⟩) := getD' (look hl 2 (by kernel_rfl))
    go_simp
    exact hK _ _ (Below.refl _ _) (dst_eq rfl (by first | rfl | decide))
   case s14 =>
    refine StepOk.of (guard_open 12 20 true rfl (by kernel_rfl) (by kernel_rfl) (fun v w h => h)) fun b w' hsz hW hl K hK => ?_
    clear hsz
    unfold Oper.wp
    have e21 : b.tmps[21]?.getD undef = .pointer (some ⟨w.heap.size, 2, none⟩) := getD' (look hl 21 (by kernel_rfl))
    obtain ⟨⟨z0, z1, z2, z3, z4, z5, z6⟩, _, _⟩ := cells7 (keep_heap hW qA.out)
    go_simp
    exact hK _ _ (Below.refl _ _) (dst_eq rfl rfl)
   case s15 =>
    refine StepOk.of (guard_open 12 20 true rfl (by kernel_rfl) (by kernel_rfl) (fun v w h => h)) fun b w' hsz hW hl K hK => ?_
    clear hsz
    unfold Oper.wp
    have e5 : b.tmps[5]?.getD undef = .pointer (some ⟨pX, 0, none⟩) := getD' (look hl 5 (by kernel_rfl))
    go_simp
    exact hK _ _ (Below.refl _ _) (dst_eq rfl (by first | rfl | decide))
   case s16 =>
    refine StepOk.of (guard_open 12 20 true rfl (by kernel_rfl) (by kernel_rfl) (fun v w h => h)) fun b w' hsz hW hl K hK => ?_
    clear hsz
    unfold Oper.wp
    have e23 : b.tmps[23]?.getD undef = .pointer (some ⟨pX, 2, none⟩) := getD' (look hl 23 (by kernel_rfl))
    obtain ⟨⟨z0, z1, z2, z3, z4, z5, z6⟩, _, _⟩ := cells7 (keep_heap hW qX.out)
    go_simp
    exact hK _ _ (Below.refl _ _) (dst_eq rfl rfl)
   case s17 =>
    refine StepOk.of (guard_open 12 20 true rfl (by kernel_rfl) (by kernel_rfl) (fun v w h => h)) fun b w' hsz hW hl K hK => ?_
    clear hsz
    unfold Oper.wp
    have e22 : b.tmps[22]?.getD undef = .string ⟨#[]⟩ := getD' (look hl 22 (by kernel_rfl))
    have e24 : b.tmps[24]?.getD undef = .string ⟨#[]⟩ := getD' (look hl 24 (by kernel_rfl))
    go_simp
    exact hK _ _ (Below.refl _ _) (dst_eq rfl (by first | rfl | decide))
   case s18 => exact step_pick 20 25 26 (.const (.bool false)) rfl rfl (guard_none rfl) (by kernel_rfl) (by kernel_rfl) (fun v w h => h) (fun v w h => h)
   case s19 => exact step_move 26 27 rfl rfl (guard_none rfl) (by kernel_rfl) (fun v w h => h)
   case s20 =>
    refine StepOk.of (guard_open 19 27 true rfl (by kernel_rfl) (by kernel_rfl) (fun v w h => h)) fun b w' hsz hW hl K hK => ?_
    clear hsz
    unfold Oper.wp
    have e5 : b.tmps[5]?.getD undef = .pointer (some ⟨pX, 0, none⟩) := getD' (look hl 5 (by kernel_rfl))
    go_simp
    exact hK _ _ (Below.refl _ _) (dst_eq rfl (by first | rfl | decide))
   case s21 =>
    refine StepOk.of (guard_open 19 27 true rfl (by kernel_rfl) (by kernel_rfl) (fun v w h => h)) fun b w' hsz hW hl K hK => ?_
    clear hsz
    unfold Oper.wp
    have e28 : b.tmps[28]?.getD undef = .pointer (some ⟨pX, 0, none⟩) := getD' (look hl 28 (by kernel_rfl))
    obtain ⟨⟨z0, z1, z2, z3, z4, z5, z6⟩, _, _⟩ := cells7 (keep_heap hW qX.out)
    go_simp
    exact hK _ _ (Below.refl _ _) (dst_eq rfl rfl)
   case s22 =>
    refine StepOk.of (guard_open 19 27 true rfl (by kernel_rfl) (by kernel_rfl) (fun v w h => h)) fun b w' hsz hW hl K hK => ?_
    clear hsz
    unfold Oper.wp
    have e29 : b.tmps[29]?.getD undef = .int .i64 3 := getD' (look hl 29 (by kernel_rfl))
    go_simp
    exact hK _ _ (Below.refl _ _) (dst_eq rfl (by first | rfl | decide))
   case s23 => exact step_move 30 31 rfl rfl (guard_open 19 27 true rfl (by kernel_rfl) (by kernel_rfl) (fun v w h => h)) (by kernel_rfl) (fun v w h => h)
   case s24 => exact step_shut 23 31 32 false rfl (by kernel_rfl) (by kernel_rfl) (fun v w h => by rw [show v = .bool true from h]; intro hh; cases hh) rfl (fun w => trivial)
   case s25 => exact step_shut 23 31 33 false rfl (by kernel_rfl) (by kernel_rfl) (fun v w h => by rw [show v = .bool true from h]; intro hh; cases hh) rfl (fun w => trivial)
   case s26 => exact step_shut 23 31 34 false rfl (by kernel_rfl) (by kernel_rfl) (fun v w h => by rw [show v = .bool true from h]; intro hh; cases hh) rfl (fun w => trivial)
   case s27 => exact step_pickC 31 35 (.bool true) (.tmp 34) rfl rfl (guard_open 19 27 true rfl (by kernel_rfl) (by kernel_rfl) (fun v w h => h)) (by kernel_rfl) (fun v w h => h) (fun w => rfl)
   case s28 =>
    refine StepOk.of (guard_open 19 27 true rfl (by kernel_rfl) (by kernel_rfl) (fun v w h => h)) fun b w' hsz hW hl K hK => ?_
    clear hsz
    unfold Oper.wp
    have e2 : b.tmps[2]?.getD undef = .pointer (some ⟨w.heap.size, 0, none⟩) := getD' (look hl 2 (by kernel_rfl))
    go_simp
    exact hK _ _ (Below.refl _ _) (dst_eq rfl (by first | rfl | decide))
   case s29 =>
    refine StepOk.of (guard_open 19 27 true rfl (by kernel_rfl) (by kernel_rfl) (fun v w h => h)) fun b w' hsz hW hl K hK => ?_
    clear hsz
    unfold Oper.wp
    have e36 : b.tmps[36]?.getD undef = .pointer (some ⟨w.heap.size, 3, none⟩) := getD' (look hl 36 (by kernel_rfl))
    obtain ⟨⟨z0, z1, z2, z3, z4, z5, z6⟩, _, _⟩ := cells7 (keep_heap hW qA.out)
    go_simp
    exact hK _ _ (Below.refl _ _) (dst_eq rfl rfl)
   case s30 => exact step_call1 83 37 38 _ (by kernel_rfl) rfl rfl (guard_open 19 27 true rfl (by kernel_rfl) (by kernel_rfl) (fun v w h => h)) (by kernel_rfl) (fun v w' hB' hv => by have hv : v = .agg #[.bool n1, .slice a1 l1 c1, .bool n2, .slice a2 l2 c2] := hv; subst hv; exact (empty_any w' n1 a1 l1 c1 n2 a2 l2 c2 false hEm.out).mono fun e w'' h => ⟨_, h.1, rfl, h.2⟩)
   case s31 =>
    refine StepOk.of (guard_open 19 27 true rfl (by kernel_rfl) (by kernel_rfl) (fun v w h => h)) fun b w' hsz hW hl K hK => ?_
    clear hsz
    unfold Oper.wp
    have e38 : b.tmps[38]?.getD undef = .bool false := getD' (look hl 38 (by kernel_rfl))
    go_simp
    exact hK _ _ (Below.refl _ _) (dst_eq rfl (by first | rfl | decide))
   case s32 =>
    refine StepOk.of (guard_open 19 27 true rfl (by kernel_rfl) (by kernel_rfl) (fun v w h => h)) fun b w' hsz hW hl K hK => ?_
    clear hsz
    unfold Oper.wp
    have e35 : b.tmps[35]?.getD undef = .bool true := getD' (look hl 35 (by kernel_rfl))
    have e39 : b.tmps[39]?.getD undef = .bool true := getD' (look hl 39 (by kernel_rfl))
    go_simp
    exact hK _ _ (Below.refl _ _) (dst_eq rfl (by first | rfl | decide))
   case s33 => exact step_pick 27 40 41 (.const (.bool false)) rfl rfl (guard_none rfl) (by kernel_rfl) (by kernel_rfl) (fun v w h => h) (fun v w h => h)
   case s34 => exact step_move 41 42 rfl rfl (guard_none rfl) (by kernel_rfl) (fun v w h => h)
   case s35 =>
    refine StepOk.of (guard_open 34 42 true rfl (by kernel_rfl) (by kernel_rfl) (fun v w h => h)) fun b w' hsz hW hl K hK => ?_
    clear hsz
    unfold Oper.wp
    have e2 : b.tmps[2]?.getD undef = .pointer (some ⟨w.heap.size, 0, none⟩) := getD' (look hl 2 (by kernel_rfl))
    go_simp
    exact hK _ _ (Below.refl _ _) (dst_eq rfl (by first | rfl | decide))
   case s36 =>
    refine StepOk.of (guard_open 34 42 true rfl (by kernel_rfl) (by kernel_rfl) (fun v w h => h)) fun b w' hsz hW hl K hK => ?_
    clear hsz
    unfold Oper.wp
    have e43 : b.tmps[43]?.getD undef = .pointer (some ⟨w.heap.size, 3, none⟩) := getD' (look hl 43 (by kernel_rfl))
    obtain ⟨⟨z0, z1, z2, z3, z4, z5, z6⟩, _, _⟩ := cells7 (keep_heap hW qA.out)
    go_simp
    exact hK _ _ (Below.refl _ _) (dst_eq rfl rfl)
   case s37 => exact step_call1 83 44 45 _ (by kernel_rfl) rfl rfl (guard_open 34 42 true rfl (by kernel_rfl) (by kernel_rfl) (fun v w h => h)) (by kernel_rfl) (fun v w' hB' hv => by have hv : v = .agg #[.bool n1, .slice a1 l1 c1, .bool n2, .slice a2 l2 c2] := hv; subst hv; exact (empty_any w' n1 a1 l1 c1 n2 a2 l2 c2 false hEm.out).mono fun e w'' h => ⟨_, h.1, rfl, h.2⟩)
   case s38 => exact step_move 45 46 rfl rfl (guard_open 34 42 true rfl (by kernel_rfl) (by kernel_rfl) (fun v w h => h)) (by kernel_rfl) (fun v w h => h)
   case s39 =>
    refine StepOk.of (guard_open 38 46 false rfl (by kernel_rfl) (by kernel_rfl) (fun v w h => h)) fun b w' hsz hW hl K hK => ?_
    clear hsz
    unfold Oper.wp
    have e2 : b.tmps[2]?.getD undef = .pointer (some ⟨w.heap.size, 0, none⟩) := getD' (look hl 2 (by kernel_rfl))
    go_simp
    exact hK _ _ (Below.refl _ _) (dst_eq rfl (by first | rfl | decide))
   case s40 =>
    refine StepOk.of (guard_open 38 46 false rfl (by kernel_rfl) (by kernel_rfl) (fun v w h => h)) fun b w' hsz hW hl K hK => ?_
    clear hsz
    unfold Oper.wp
    have e47 : b.tmps[47]?.getD undef = .pointer (some ⟨w.heap.size, 3, none⟩) := getD' (look hl 47 (by kernel_rfl))
    obtain ⟨⟨z0, z1, z2, z3, z4, z5, z6⟩, _, _⟩ := cells7 (keep_heap hW qA.out)
    go_simp
    exact hK _ _ (Below.refl _ _) (dst_eq rfl rfl)
   case s41 =>
    refine StepOk.of (guard_open 38 46 false rfl (by kernel_rfl) (by kernel_rfl) (fun v w h => h)) fun b w' hsz hW hl K hK => ?_
    clear hsz
    unfold Oper.wp
    have e3 : b.tmps[3]?.getD undef = .pointer (some ⟨w.heap.size + 1, 0, none⟩) := getD' (look hl 3 (by kernel_rfl))
    go_simp
    exact hK _ _ (Below.refl _ _) (dst_eq rfl (by first | rfl | decide))
   case s42 =>
    refine StepOk.of (guard_open 38 46 false rfl (by kernel_rfl) (by kernel_rfl) (fun v w h => h)) fun b w' hsz hW hl K hK => ?_
    clear hsz
    unfold Oper.wp
    have e49 : b.tmps[49]?.getD undef = .pointer (some ⟨w.heap.size + 1, 3, none⟩) := getD' (look hl 49 (by kernel_rfl))
    obtain ⟨⟨z0, z1, z2, z3, z4, z5, z6⟩, _, _⟩ := cells7 (keep_heap hW qC.out)
    go_simp
    exact hK _ _ (Below.refl _ _) (dst_eq rfl rfl)
   case s43 => exact step_call2 84 48 50 51 _ (by kernel_rfl) rfl rfl (guard_open 38 46 false rfl (by kernel_rfl) (by kernel_rfl) (fun v w h => h)) (by kernel_rfl) (by kernel_rfl) (fun u v w' hB' hu hv => by have hu : u = .agg #[.bool n1, .slice a1 l1 c1, .bool n2, .slice a2 l2 c2] := hu; have hv : v = .agg #[.bool m1, .slice b1 k1 d1, .bool m2, .slice b2 k2 d2] := hv; subst hu; subst hv; exact (rIsRat_same (FracE.next hF.out hB') (RatR.next hR.out hB') (by omega) (by omega)).mono fun e w'' h => ⟨_, h.1, rfl, h.2⟩)
   case s44 => exact step_pickE 46 51 52 (.const (.bool true)) rfl rfl (guard_open 34 42 true rfl (by kernel_rfl) (by kernel_rfl) (fun v w h => h)) (by kernel_rfl) (by kernel_rfl) (fun v w h => h) (fun v w h => h)
   case s45 => exact step_pick 42 52 53 (.const (.bool false)) rfl rfl (guard_none rfl) (by kernel_rfl) (by kernel_rfl) (fun v w h => h) (fun v w h => h)
   case s46 => exact step_assign 53 4 rfl rfl (guard_none rfl) (by kernel_rfl) (fun v w h => h)
  case hend =>
   intro b w' hs hd hW hv
   have h0 : b.tmps.getD 4 undef = .bool true := hv 4 (.inr ⟨46, _, rfl, rfl⟩)
   rw [Array.getD_eq_getD_getElem?] at h0
   go_wp2
   exact bodyPost_ret (v := .bool true) (by simp [results, Tryz.results38, go_sem, h0]) hd ⟨rfl, bthen zz.out hW⟩
set_option maxRecDepth 20000 in
set_option maxHeartbeats 4000000 in
theorem is12_yes {w : World} {u v : Value} {z : Int} {m M : Nat} (hu : CIE w u z m) (hv : CRn w v 3 z 1 M) (hm : m ≤ 500) (hM : M ≤ 500) :
    Calls Tryz.prog 12 #[u, .bool true, v, .bool true] w fun e w' => e = .returned (.bool true) ∧ Below w.heap.size w w' := by
  have hu' := hu
  have hv' := hv
  obtain ⟨n1, a1, l1, c1, n2, a2, l2, c2, rfl, hF0⟩ := hu'
  obtain ⟨m1, b1, k1, d1, m2, b2, k2, d2, rfl, hR0⟩ := hv'
  obtain ⟨W, hW, hqa, hqc, hbW, hsz⟩ := two_new (w := w) (A := .cells #[.int .i64 3, .bool false, .string ⟨#[]⟩, .bool n1, .slice a1 l1 c1, .bool n2, .slice a2 l2 c2] 32) (B := .cells #[.int .i64 3, .bool false, .string ⟨#[]⟩, .bool m1, .slice b1 k1 d1, .bool m2, .slice b2 k2 d2] 42)
  obtain ⟨⟨p0, p1, p2, p3, p4, p5, p6⟩, _, _⟩ := cells7 hqa
  obtain ⟨⟨q0, q1, q2, q3, q4, q5, q6⟩, _, _⟩ := cells7 hqc
  have kS : Hid (Calls Tryz.prog 38 #[.agg #[.int .i64 3, .bool false, .string ⟨#[]⟩, .bool n1, .slice a1 l1 c1, .bool n2, .slice a2 l2 c2], .agg #[.int .i64 3, .bool false, .string ⟨#[]⟩, .bool m1, .slice b1 k1 d1, .bool m2, .slice b2 k2 d2]] W fun e w' => e = .returned (.bool true) ∧ Below W.heap.size W w') := Is38_yes (CIE.next hu hbW) (CRn.next hv hbW) hm hM
  have zz : Hid (Below w.heap.size w W) := hbW
  clear hqa hqc hbW hsz hF0 hR0 hu hv
  go_enter Tryz.func12, Tryz.ntmps12
  go_upto_region 1 with fail
  rw [← hW]
  clear hW
  go_wp2_with fail
  refine Calls.mono kS.out ?_
  clear kS
  rintro e w1 ⟨rfl, hb1⟩
  have hbh : Hid (Below W.heap.size W w1) := hb1
  clear hb1
  go_wp2
  exact bodyPost_ret (v := .bool true) (by simp [results, Tryz.results12, go_sem]) rfl ⟨rfl, bthen zz.out hbh.out⟩
set_option maxRecDepth 20000 in
set_option maxHeartbeats 4000000 in
theorem is12_no (w : World) : Calls Tryz.prog 12 #[cNone, .bool false, cNone, .bool false] w fun e w' => e = .returned (.bool true) ∧ Below w.heap.size w w' := by
  unfold cNone
  obtain ⟨W, hW, hqa, hqc, hbW, hsz⟩ := two_new (w := w) (A := .cells #[.int .i64 0, .bool false, .string ⟨#[]⟩, .bool false, .slice none 0 0, .bool false, .slice none 0 0] 32) (B := .cells #[.int .i64 0, .bool false, .string ⟨#[]⟩, .bool false, .slice none 0 0, .bool false, .slice none 0 0] 42)
  obtain ⟨⟨p0, p1, p2, p3, p4, p5, p6⟩, _, _⟩ := cells7 hqa
  have zz : Hid (Below w.heap.size w W) := hbW
  clear hqa hqc hbW hsz
  go_enter Tryz.func12, Tryz.ntmps12
  go_upto_region 1 with fail
  rw [← hW]
  clear hW
  go_wp2
  exact bodyPost_ret (v := .bool true) (by simp [results, Tryz.results12, go_sem]) rfl ⟨rfl, zz.out⟩
end Go.Proofs.YtclokcoimdjaeaaGreatDoor
