/- The comparison of what is told. -/
import Derived.Test.YtkngjljcjgagbaaSc
namespace Go.Proofs.Ytkngjljcjgagbaa
open Go.Shelf Go.RowKit Go.Lib Go.Sort
attribute [local go_sem ↓] Go.wp_at_zero Go.wp_at_succ
/-- What is told: where. -/
structure DG where
  pkg : ByteArray
  file : ByteArray
  at' : Int
def encDG (x : DG) : List Value := [.string x.pkg, .string x.file, .int .i64 x.at']
theorem encDG_len (x : DG) : (encDG x).length = 3 := rfl
theorem encDG_one (x : DG) : ∀ v ∈ encDG x, v.oneCell' = true := by
  intro v hv
  simp [encDG] at hv
  rcases hv with rfl | rfl | rfl <;> rfl
def first3 (x y z : Int) : Int := if x ≠ 0 then x else if y ≠ 0 then y else z
def cmpDG (x y : DG) : Int := first3 (Lib.compareBytes x.pkg.data.toList y.pkg.data.toList) (Lib.compareBytes x.file.data.toList y.file.data.toList) (Lib.compareInt x.at' y.at')
set_option maxRecDepth 20000 in
set_option maxHeartbeats 2000000 in
theorem cmpOr_any (g : Nat) (x y z : Int) (w : World) (h0 : w.cell? ⟨g, 0, none⟩ = some (.int .i64 x)) (h1 : w.cell? ⟨g, 1, none⟩ = some (.int .i64 y)) (h2 : w.cell? ⟨g, 2, none⟩ = some (.int .i64 z)) :
    Calls Try.prog 28 #[.slice (some ⟨g, 0, none⟩) 3 3] w fun e w' => e = .returned (.int .i64 (first3 x y z)) ∧ w' = w := by
  by_cases hx : x = 0
  · subst hx
    by_cases hy : y = 0
    · subst hy
      by_cases hz : z = 0
      · subst hz
        go_enter Try.func28, Try.ntmps28
        go_wp2
        refine wp_loop_rounds 4 ?_
        rw [rounds_succ]
        go_wp2
        rw [rounds_succ]
        go_wp2
        rw [rounds_succ]
        go_wp2
        rw [rounds_succ]
        go_wp2
        go_ret
        exact ⟨rfl, rfl⟩
      · have e : first3 0 0 z = z := rfl
        have hz' : (z == 0) = false := by simpa using hz
        rw [e]
        go_enter Try.func28, Try.ntmps28
        go_wp2
        refine wp_loop_rounds 3 ?_
        rw [rounds_succ]
        go_wp2
        rw [rounds_succ]
        go_wp2
        rw [rounds_succ]
        go_wp2
        go_ret
        exact ⟨rfl, rfl⟩
    · have e : first3 0 y z = y := by simp [first3, hy]
      rw [e]
      have hy' : (y == 0) = false := by simpa using hy
      go_enter Try.func28, Try.ntmps28
      go_wp2
      refine wp_loop_rounds 2 ?_
      rw [rounds_succ]
      go_wp2
      rw [rounds_succ]
      go_wp2
      go_ret
      exact ⟨rfl, rfl⟩
  · have e : first3 x y z = x := by simp [first3, hx]
    rw [e]
    have hx' : (x == 0) = false := by simpa using hx
    go_enter Try.func28, Try.ntmps28
    go_wp2
    refine wp_loop_rounds 1 ?_
    rw [rounds_succ]
    go_wp2
    go_ret
    exact ⟨rfl, rfl⟩
/-- Three numbers in a block. -/
def Trip (v : Value) (x y z : Int) (w : World) : Prop := ∃ g, v = .slice (some ⟨g, 0, none⟩) 3 3 ∧ w.cell? ⟨g, 0, none⟩ = some (.int .i64 x) ∧ w.cell? ⟨g, 1, none⟩ = some (.int .i64 y) ∧ w.cell? ⟨g, 2, none⟩ = some (.int .i64 z)
def dgV (p q : Nat) (x y : DG) (t : Nat) (v : Value) (w : World) : Prop := match t with
  | 2 => v = .pointer (some ⟨p, 0, none⟩)
  | 3 => v = .pointer (some ⟨q, 0, none⟩)
  | 5 => v = .pointer (some ⟨p, 0, none⟩)
  | 7 => v = .pointer (some ⟨q, 0, none⟩)
  | 10 => v = .pointer (some ⟨p, 1, none⟩)
  | 12 => v = .pointer (some ⟨q, 1, none⟩)
  | 15 => v = .pointer (some ⟨p, 2, none⟩)
  | 17 => v = .pointer (some ⟨q, 2, none⟩)
  | 6 => v = .string x.pkg
  | 8 => v = .string y.pkg
  | 11 => v = .string x.file
  | 13 => v = .string y.file
  | 16 => v = .int .i64 x.at'
  | 18 => v = .int .i64 y.at'
  | 9 => v = .int .i64 (Lib.compareBytes x.pkg.data.toList y.pkg.data.toList)
  | 14 => v = .int .i64 (Lib.compareBytes x.file.data.toList y.file.data.toList)
  | 19 => v = .int .i64 (Lib.compareInt x.at' y.at')
  | 20 => Trip v (Lib.compareBytes x.pkg.data.toList y.pkg.data.toList) (Lib.compareBytes x.file.data.toList y.file.data.toList) (Lib.compareInt x.at' y.at') w
  | 21 => v = .int .i64 (cmpDG x y)
  | 4 => v = .int .i64 (cmpDG x y)
  | _ => True
theorem dgV_next {p q : Nat} {x y : DG} : ∀ t v w w', Grw w w' → dgV p q x y t v w → dgV p q x y t v w' := by
  intro t v w w' hb h
  unfold dgV at h ⊢
  split <;> first | trivial | exact h | (obtain ⟨g, h1, h2, h3, h4⟩ := h; exact ⟨g, h1, hb.cell h2, hb.cell h3, hb.cell h4⟩)
set_option maxRecDepth 20000 in
set_option maxHeartbeats 2000000 in
theorem cmpDiags_any (x y : DG) (w : World) :
    Calls Try.prog 18 #[.agg #[.string x.pkg, .string x.file, .int .i64 x.at'], .agg #[.string y.pkg, .string y.file, .int .i64 y.at']] w fun e w' => e = .returned (.int .i64 (cmpDG x y)) ∧ Grw w w' := by
  go_enter Try.func18, Try.ntmps18
  go_wp2
  have hG : Grw w ((w.alloc (.cells #[.string x.pkg, .string x.file, .int .i64 x.at'] 41)).alloc (.cells #[.string y.pkg, .string y.file, .int .i64 y.at'] 41)) := ((Grw.refl _).alloc _).alloc _
  have c0 : ((w.alloc (.cells #[.string x.pkg, .string x.file, .int .i64 x.at'] 41)).alloc (.cells #[.string y.pkg, .string y.file, .int .i64 y.at'] 41)).cell? ⟨w.heap.size, 0, none⟩ = some (.string x.pkg) := by simp [go_sem]
  have c1 : ((w.alloc (.cells #[.string x.pkg, .string x.file, .int .i64 x.at'] 41)).alloc (.cells #[.string y.pkg, .string y.file, .int .i64 y.at'] 41)).cell? ⟨w.heap.size, 1, none⟩ = some (.string x.file) := by simp [go_sem]
  have c2 : ((w.alloc (.cells #[.string x.pkg, .string x.file, .int .i64 x.at'] 41)).alloc (.cells #[.string y.pkg, .string y.file, .int .i64 y.at'] 41)).cell? ⟨w.heap.size, 2, none⟩ = some (.int .i64 x.at') := by simp [go_sem]
  have d0 : ((w.alloc (.cells #[.string x.pkg, .string x.file, .int .i64 x.at'] 41)).alloc (.cells #[.string y.pkg, .string y.file, .int .i64 y.at'] 41)).cell? ⟨w.heap.size + 1, 0, none⟩ = some (.string y.pkg) := by simp [go_sem]
  have d1 : ((w.alloc (.cells #[.string x.pkg, .string x.file, .int .i64 x.at'] 41)).alloc (.cells #[.string y.pkg, .string y.file, .int .i64 y.at'] 41)).cell? ⟨w.heap.size + 1, 1, none⟩ = some (.string y.file) := by simp [go_sem]
  have d2 : ((w.alloc (.cells #[.string x.pkg, .string x.file, .int .i64 x.at'] 41)).alloc (.cells #[.string y.pkg, .string y.file, .int .i64 y.at'] 41)).cell? ⟨w.heap.size + 1, 2, none⟩ = some (.int .i64 y.at') := by simp [go_sem]
  generalize (w.alloc (.cells #[.string x.pkg, .string x.file, .int .i64 x.at'] 41)).alloc (.cells #[.string y.pkg, .string y.file, .int .i64 y.at'] 41) = W at *
  refine Gw.wp_region_typed (dgV w.heap.size (w.heap.size + 1) x y) [2, 3] 22 (by kernel_rfl) (by kernel_rfl) rfl dgV_next ?hstart ?hstep ?hend
  case hstart =>
   intro t ht
   simp only [List.mem_cons, List.not_mem_nil, or_false] at ht
   rcases ht with rfl | rfl <;> rfl
  case hstep =>
   refine Gw.steps_cons ?s0 (Gw.steps_cons ?s1 (Gw.steps_cons ?s2 (Gw.steps_cons ?s3 (Gw.steps_cons ?s4 (Gw.steps_cons ?s5 (Gw.steps_cons ?s6 (Gw.steps_cons ?s7 (Gw.steps_cons ?s8 (Gw.steps_cons ?s9 (Gw.steps_cons ?s10 (Gw.steps_cons ?s11 (Gw.steps_cons ?s12 (Gw.steps_cons ?s13 (Gw.steps_cons ?s14 (Gw.steps_cons ?s15 (Gw.steps_cons ?s16 (Gw.steps_cons ?s17 (Gw.steps_nil))))))))))))))))))
   case s0 =>
    refine Gw.StepOk.of (Gw.guard_none rfl) fun b w' hsz hW hl K hK => ?_
    clear hsz
    unfold Oper.wp
    have e2 := getD' (Gw.look hl 2 (by kernel_rfl))
    go_simp
    exact hK _ _ (Grw.refl _) (Gw.dst_eq rfl rfl)
   case s1 =>
    refine Gw.StepOk.of (Gw.guard_none rfl) fun b w' hsz hW hl K hK => ?_
    clear hsz
    unfold Oper.wp
    have e5 := getD' (Gw.look hl 5 (by kernel_rfl))
    have kc0 := hW.cell c0
    have kc1 := hW.cell c1
    have kc2 := hW.cell c2
    have kd0 := hW.cell d0
    have kd1 := hW.cell d1
    have kd2 := hW.cell d2
    go_simp
    exact hK _ _ (Grw.refl _) (Gw.dst_eq rfl rfl)
   case s2 =>
    refine Gw.StepOk.of (Gw.guard_none rfl) fun b w' hsz hW hl K hK => ?_
    clear hsz
    unfold Oper.wp
    have e3 := getD' (Gw.look hl 3 (by kernel_rfl))
    go_simp
    exact hK _ _ (Grw.refl _) (Gw.dst_eq rfl rfl)
   case s3 =>
    refine Gw.StepOk.of (Gw.guard_none rfl) fun b w' hsz hW hl K hK => ?_
    clear hsz
    unfold Oper.wp
    have e7 := getD' (Gw.look hl 7 (by kernel_rfl))
    have kc0 := hW.cell c0
    have kc1 := hW.cell c1
    have kc2 := hW.cell c2
    have kd0 := hW.cell d0
    have kd1 := hW.cell d1
    have kd2 := hW.cell d2
    go_simp
    exact hK _ _ (Grw.refl _) (Gw.dst_eq rfl rfl)
   case s4 => exact Gw.step_call2 25 6 8 9 _ (by kernel_rfl) rfl rfl (Gw.guard_none rfl) (by kernel_rfl) (by kernel_rfl) (fun u v w' hW hu hv => by subst hu; subst hv; exact (strCompare_any _ _ _).mono fun e w'' h => ⟨_, h.1, rfl, by rw [h.2]; exact Grw.refl _⟩)
   case s5 =>
    refine Gw.StepOk.of (Gw.guard_none rfl) fun b w' hsz hW hl K hK => ?_
    clear hsz
    unfold Oper.wp
    have e2 := getD' (Gw.look hl 2 (by kernel_rfl))
    go_simp
    exact hK _ _ (Grw.refl _) (Gw.dst_eq rfl rfl)
   case s6 =>
    refine Gw.StepOk.of (Gw.guard_none rfl) fun b w' hsz hW hl K hK => ?_
    clear hsz
    unfold Oper.wp
    have e10 := getD' (Gw.look hl 10 (by kernel_rfl))
    have kc0 := hW.cell c0
    have kc1 := hW.cell c1
    have kc2 := hW.cell c2
    have kd0 := hW.cell d0
    have kd1 := hW.cell d1
    have kd2 := hW.cell d2
    go_simp
    exact hK _ _ (Grw.refl _) (Gw.dst_eq rfl rfl)
   case s7 =>
    refine Gw.StepOk.of (Gw.guard_none rfl) fun b w' hsz hW hl K hK => ?_
    clear hsz
    unfold Oper.wp
    have e3 := getD' (Gw.look hl 3 (by kernel_rfl))
    go_simp
    exact hK _ _ (Grw.refl _) (Gw.dst_eq rfl rfl)
   case s8 =>
    refine Gw.StepOk.of (Gw.guard_none rfl) fun b w' hsz hW hl K hK => ?_
    clear hsz
    unfold Oper.wp
    have e12 := getD' (Gw.look hl 12 (by kernel_rfl))
    have kc0 := hW.cell c0
    have kc1 := hW.cell c1
    have kc2 := hW.cell c2
    have kd0 := hW.cell d0
    have kd1 := hW.cell d1
    have kd2 := hW.cell d2
    go_simp
    exact hK _ _ (Grw.refl _) (Gw.dst_eq rfl rfl)
   case s9 => exact Gw.step_call2 25 11 13 14 _ (by kernel_rfl) rfl rfl (Gw.guard_none rfl) (by kernel_rfl) (by kernel_rfl) (fun u v w' hW hu hv => by subst hu; subst hv; exact (strCompare_any _ _ _).mono fun e w'' h => ⟨_, h.1, rfl, by rw [h.2]; exact Grw.refl _⟩)
   case s10 =>
    refine Gw.StepOk.of (Gw.guard_none rfl) fun b w' hsz hW hl K hK => ?_
    clear hsz
    unfold Oper.wp
    have e2 := getD' (Gw.look hl 2 (by kernel_rfl))
    go_simp
    exact hK _ _ (Grw.refl _) (Gw.dst_eq rfl rfl)
   case s11 =>
    refine Gw.StepOk.of (Gw.guard_none rfl) fun b w' hsz hW hl K hK => ?_
    clear hsz
    unfold Oper.wp
    have e15 := getD' (Gw.look hl 15 (by kernel_rfl))
    have kc0 := hW.cell c0
    have kc1 := hW.cell c1
    have kc2 := hW.cell c2
    have kd0 := hW.cell d0
    have kd1 := hW.cell d1
    have kd2 := hW.cell d2
    go_simp
    exact hK _ _ (Grw.refl _) (Gw.dst_eq rfl rfl)
   case s12 =>
    refine Gw.StepOk.of (Gw.guard_none rfl) fun b w' hsz hW hl K hK => ?_
    clear hsz
    unfold Oper.wp
    have e3 := getD' (Gw.look hl 3 (by kernel_rfl))
    go_simp
    exact hK _ _ (Grw.refl _) (Gw.dst_eq rfl rfl)
   case s13 =>
    refine Gw.StepOk.of (Gw.guard_none rfl) fun b w' hsz hW hl K hK => ?_
    clear hsz
    unfold Oper.wp
    have e17 := getD' (Gw.look hl 17 (by kernel_rfl))
    have kc0 := hW.cell c0
    have kc1 := hW.cell c1
    have kc2 := hW.cell c2
    have kd0 := hW.cell d0
    have kd1 := hW.cell d1
    have kd2 := hW.cell d2
    go_simp
    exact hK _ _ (Grw.refl _) (Gw.dst_eq rfl rfl)
   case s14 => exact Gw.step_call2 29 16 18 19 _ (by kernel_rfl) rfl rfl (Gw.guard_none rfl) (by kernel_rfl) (by kernel_rfl) (fun u v w' hW hu hv => by subst hu; subst hv; exact (cmpInt_any _ _ _).mono fun e w'' h => ⟨_, h.1, rfl, by rw [h.2]; exact Grw.refl _⟩)
   case s15 => 
     refine Gw.StepOk.of (Gw.guard_none rfl) fun b w' hsz hW hl K hK => ?_
     clear hsz
     unfold Oper.wp
     have e9 := getD' (Gw.look hl 9 (by kernel_rfl))
     have e14 := getD' (Gw.look hl 14 (by kernel_rfl))
     have e19 := getD' (Gw.look hl 19 (by kernel_rfl))
     go_simp
     exact hK _ _ ((Grw.refl _).alloc _) (Gw.dst_eq rfl ⟨_, rfl, by simp [go_sem], by simp [go_sem], by simp [go_sem]⟩)
   case s16 => exact Gw.step_call1 28 20 21 _ (by kernel_rfl) rfl rfl (Gw.guard_none rfl) (by kernel_rfl) (fun v w' hW hv => by obtain ⟨g, rfl, h1, h2, h3⟩ := hv; exact (cmpOr_any g _ _ _ w' h1 h2 h3).mono fun e w'' h => ⟨_, h.1, rfl, by rw [h.2]; exact Grw.refl _⟩)
   case s17 => exact Gw.step_assign 21 4 rfl rfl (Gw.guard_none rfl) (by kernel_rfl) (fun v w h => h)
  case hend =>
   intro b w' hN hD hGG hall
   have h5 : b.tmps.getD 4 undef = .int .i64 (cmpDG x y) := hall 4 (.inr ⟨17, _, rfl, rfl⟩)
   rw [Array.getD_eq_getD_getElem?] at h5
   go_wp2
   exact bodyPost_ret (v := .int .i64 (cmpDG x y)) (by simp [results, Try.results18, go_sem, h5]) hD ⟨rfl, hG.trans hGG⟩
end Go.Proofs.Ytkngjljcjgagbaa
