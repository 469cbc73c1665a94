/- The comparisons that the sorts are handed. -/
import Derived.Test.YtkngjljcjgagbaaSl
import Derived.Test.YtkngjljcjgagbaaRw
import Derived.WalkKit
import Derived.WalkSpells
import Derived.WalkLawsBesides
import Derived.Outline
import Derived.Deep.QuietTactic
import Derived.BigQuiet
import Derived.OpenShut
import Derived.Deep.AppendLies
import Derived.Deep.DrawnRows
import Derived.Deep.RegionWith
import Derived.Deep.RegionHeld3
namespace Go.Proofs.Ytkngjljcjgagbaa
open Go.Shelf Go.RowKit Go.Lib Go.Sort
attribute [local go_sem ↓] Go.wp_at_zero Go.wp_at_succ
/-- A name and a slice: a package, a file. -/
structure NS where
  name : ByteArray
  a : Option Addr
  n : Nat
  c : Nat
def encNS (x : NS) : List Value := [.string x.name, .slice x.a x.n x.c]
theorem encNS_len (x : NS) : (encNS x).length = 2 := rfl
theorem encNS_one (x : NS) : ∀ v ∈ encNS x, v.oneCell' = true := by
  intro v hv
  simp [encNS] at hv
  rcases hv with rfl | rfl <;> rfl
def cmpNS (x y : NS) : Int := Lib.compareBytes x.name.data.toList y.name.data.toList
theorem pkgPath_any (x : NS) (w : World) : Calls Try.prog 16 #[.agg #[.string x.name, .slice x.a x.n x.c]] w fun e w' => e = .returned (.string x.name) ∧ Grw w w' := by
  go_enter Try.func16, Try.ntmps16
  go_wp2
  go_ret
  exact ⟨rfl, (Grw.refl _).alloc _⟩
theorem fileName_any (x : NS) (w : World) : Calls Try.prog 22 #[.agg #[.string x.name, .slice x.a x.n x.c]] w fun e w' => e = .returned (.string x.name) ∧ Grw w w' := by
  go_enter Try.func22, Try.ntmps22
  go_wp2
  go_ret
  exact ⟨rfl, (Grw.refl _).alloc _⟩
theorem Gw_callv1 {P : Program} {ops : Array Oper} {Q : Exit → Act → World → Prop} {V : Nat → Value → World → Prop} {N : Nat} {w : World} {o : Oper} (f : FuncId) (s t d : Nat) (ats : Array TypeId) (hf : goFn P f = true) (ho : o.op = .call { callee := .value (.tmp s), args := #[.tmp t], argTypes := ats }) (hd : o.dst = some d) (hg : Gw.GuardOk ops V o) (hs : (o.looksAt ops).contains s = true) (hl : (o.looksAt ops).contains t = true)
    (hv : ∀ v w', V s v w' → v = .func (.func f) #[] #[])
    (hc : ∀ v w', Grw w w' → V t v w' → Calls P f #[v] w' fun e w'' => ∃ u, e = .returned u ∧ V d u w'' ∧ Grw w' w'') : Gw.StepOk P ops Q V N w o :=
  Gw.StepOk.of hg fun b w' hsz hB hb K hK => by
    clear hsz
    obtain ⟨dst, op, type, pos, after, guard⟩ := o
    dsimp only at ho hd
    subst ho
    subst hd
    unfold Oper.wp
    have e : b.tmps[s]?.getD undef = .func (.func f) #[] #[] := by rw [← Array.getD_eq_getD_getElem?]; exact hv _ _ (look hb s hs)
    have k := hc _ _ hB (look hb t hl)
    obtain ⟨u0, hu0⟩ : ∃ u0, u0 = b.tmps.getD t undef := ⟨_, rfl⟩
    have e2 : b.tmps[t]?.getD undef = u0 := by rw [← Array.getD_eq_getD_getElem?]; exact hu0.symm
    rw [← hu0] at k
    clear hu0
    have hr := run_callFunc_go hf
    unfold goFn at hf
    clear hf
    go_simp
    refine Calls.mono k ?_
    rintro e w'' ⟨u, rfl, hu, hbl⟩
    exact hK _ _ hbl (dst_eq rfl hu)
theorem getD' {b : Act} {t : Nat} {v : Value} (h : b.tmps.getD t undef = v) : b.tmps[t]?.getD undef = v := by rw [← Array.getD_eq_getD_getElem?]; exact h
def nsV (f : FuncId) (c p q : Nat) (x y : NS) (t : Nat) (v : Value) (_ : World) : Prop := match t with
  | 2 => v = .pointer (some ⟨c, 0, none⟩)
  | 3 => v = .pointer (some ⟨p, 0, none⟩)
  | 4 => v = .pointer (some ⟨q, 0, none⟩)
  | 6 => v = .func (.func f) #[] #[]
  | 9 => v = .func (.func f) #[] #[]
  | 7 => v = .agg #[.string x.name, .slice x.a x.n x.c]
  | 10 => v = .agg #[.string y.name, .slice y.a y.n y.c]
  | 8 => v = .string x.name
  | 11 => v = .string y.name
  | 12 => v = .int .i64 (cmpNS x y)
  | 5 => v = .int .i64 (cmpNS x y)
  | _ => True
set_option maxRecDepth 20000 in
set_option maxHeartbeats 2000000 in
theorem cmpPkg_any (x y : NS) (c : Nat) (w : World) (hc : w.cell? ⟨c, 0, none⟩ = some (.func (.func 16) #[] #[])) :
    Calls Try.prog 24 #[.agg #[.string x.name, .slice x.a x.n x.c], .agg #[.string y.name, .slice y.a y.n y.c], .pointer (some ⟨c, 0, none⟩)] w fun e w' => e = .returned (.int .i64 (cmpNS x y)) ∧ Grw w w' := by
  have hlt := cell_lt hc
  simp only at hlt
  go_enter Try.func24, Try.ntmps24
  go_wp2
  have hG : Grw w ((w.alloc (.cells #[.string x.name, .slice x.a x.n x.c] 28)).alloc (.cells #[.string y.name, .slice y.a y.n y.c] 28)) := ((Grw.refl _).alloc _).alloc _
  have c2 := hG.cell hc
  have c3 : ((w.alloc (.cells #[.string x.name, .slice x.a x.n x.c] 28)).alloc (.cells #[.string y.name, .slice y.a y.n y.c] 28)).cell? ⟨w.heap.size, 0, none⟩ = some (.string x.name) := by simp [go_sem]
  have c3' : ((w.alloc (.cells #[.string x.name, .slice x.a x.n x.c] 28)).alloc (.cells #[.string y.name, .slice y.a y.n y.c] 28)).cell? ⟨w.heap.size, 1, none⟩ = some (.slice x.a x.n x.c) := by simp [go_sem]
  have c4 : ((w.alloc (.cells #[.string x.name, .slice x.a x.n x.c] 28)).alloc (.cells #[.string y.name, .slice y.a y.n y.c] 28)).cell? ⟨w.heap.size + 1, 0, none⟩ = some (.string y.name) := by simp [go_sem]
  have c4' : ((w.alloc (.cells #[.string x.name, .slice x.a x.n x.c] 28)).alloc (.cells #[.string y.name, .slice y.a y.n y.c] 28)).cell? ⟨w.heap.size + 1, 1, none⟩ = some (.slice y.a y.n y.c) := by simp [go_sem]
  generalize (w.alloc (.cells #[.string x.name, .slice x.a x.n x.c] 28)).alloc (.cells #[.string y.name, .slice y.a y.n y.c] 28) = W at *
  refine Gw.wp_region_typed (nsV 16 c w.heap.size (w.heap.size + 1) x y) [2, 3, 4] 13 (by kernel_rfl) (by kernel_rfl) rfl (fun t v w w' _ h => h) ?hstart ?hstep ?hend
  case hstart =>
   intro t ht
   simp only [List.mem_cons, List.not_mem_nil, or_false] at ht
   rcases ht with rfl | rfl | rfl <;> rfl
  case hstep =>
   refine Gw.steps_cons ?s0 (Gw.steps_cons ?s1 (Gw.steps_cons ?s2 (Gw.steps_cons ?s3 (Gw.steps_cons ?s4 (Gw.steps_cons ?s5 (Gw.steps_cons ?s6 (Gw.steps_cons ?s7 (Gw.steps_nil))))))))
   case s0 =>
    refine Gw.StepOk.of (Gw.guard_none rfl) fun b w' hsz hW hl K hK => ?_
    clear hsz
    unfold Oper.wp
    have e2 := getD' (Gw.look hl 2 (by kernel_rfl))
    have k2 := hW.cell c2
    have k3 := hW.cell c3
    have k3' := hW.cell c3'
    have k4 := hW.cell c4
    have k4' := hW.cell c4'
    go_simp
    exact hK _ _ (Grw.refl _) (Gw.dst_eq rfl rfl)
   case s1 =>
    refine Gw.StepOk.of (Gw.guard_none rfl) fun b w' hsz hW hl K hK => ?_
    clear hsz
    unfold Oper.wp
    have e3 := getD' (Gw.look hl 3 (by kernel_rfl))
    have k2 := hW.cell c2
    have k3 := hW.cell c3
    have k3' := hW.cell c3'
    have k4 := hW.cell c4
    have k4' := hW.cell c4'
    go_simp
    exact hK _ _ (Grw.refl _) (Gw.dst_eq rfl rfl)
   case s2 => exact Gw_callv1 16 6 7 8 _ (by kernel_rfl) rfl rfl (Gw.guard_none rfl) (by kernel_rfl) (by kernel_rfl) (fun v w h => h) (fun v w' hW hv => by subst hv; exact (pkgPath_any x w').mono fun e w'' h => ⟨_, h.1, rfl, h.2⟩)
   case s3 =>
    refine Gw.StepOk.of (Gw.guard_none rfl) fun b w' hsz hW hl K hK => ?_
    clear hsz
    unfold Oper.wp
    have e2 := getD' (Gw.look hl 2 (by kernel_rfl))
    have k2 := hW.cell c2
    have k3 := hW.cell c3
    have k3' := hW.cell c3'
    have k4 := hW.cell c4
    have k4' := hW.cell c4'
    go_simp
    exact hK _ _ (Grw.refl _) (Gw.dst_eq rfl rfl)
   case s4 =>
    refine Gw.StepOk.of (Gw.guard_none rfl) fun b w' hsz hW hl K hK => ?_
    clear hsz
    unfold Oper.wp
    have e4 := getD' (Gw.look hl 4 (by kernel_rfl))
    have k2 := hW.cell c2
    have k3 := hW.cell c3
    have k3' := hW.cell c3'
    have k4 := hW.cell c4
    have k4' := hW.cell c4'
    go_simp
    exact hK _ _ (Grw.refl _) (Gw.dst_eq rfl rfl)
   case s5 => exact Gw_callv1 16 9 10 11 _ (by kernel_rfl) rfl rfl (Gw.guard_none rfl) (by kernel_rfl) (by kernel_rfl) (fun v w h => h) (fun v w' hW hv => by subst hv; exact (pkgPath_any y w').mono fun e w'' h => ⟨_, h.1, rfl, h.2⟩)
   case s6 => exact Gw.step_call2 25 8 11 12 _ (by kernel_rfl) rfl rfl (Gw.guard_none rfl) (by kernel_rfl) (by kernel_rfl) (fun u v w' hW hu hv => by subst hu; subst hv; exact (strCompare_any _ _ _).mono fun e w'' h => ⟨_, h.1, rfl, by rw [h.2]; exact Grw.refl _⟩)
   case s7 => exact Gw.step_assign 12 5 rfl rfl (Gw.guard_none rfl) (by kernel_rfl) (fun v w h => h)
  case hend =>
   intro b w' hN hD hGG hall
   have h5 : b.tmps.getD 5 undef = .int .i64 (cmpNS x y) := hall 5 (.inr ⟨7, _, rfl, rfl⟩)
   rw [Array.getD_eq_getD_getElem?] at h5
   go_wp2
   exact bodyPost_ret (v := .int .i64 (cmpNS x y)) (by simp [results, Try.results24, go_sem, h5]) hD ⟨rfl, hG.trans hGG⟩
set_option maxRecDepth 20000 in
set_option maxHeartbeats 2000000 in
theorem cmpFile_any (x y : NS) (c : Nat) (w : World) (hc : w.cell? ⟨c, 0, none⟩ = some (.func (.func 22) #[] #[])) :
    Calls Try.prog 31 #[.agg #[.string x.name, .slice x.a x.n x.c], .agg #[.string y.name, .slice y.a y.n y.c], .pointer (some ⟨c, 0, none⟩)] w fun e w' => e = .returned (.int .i64 (cmpNS x y)) ∧ Grw w w' := by
  have hlt := cell_lt hc
  simp only at hlt
  go_enter Try.func31, Try.ntmps31
  go_wp2
  have hG : Grw w ((w.alloc (.cells #[.string x.name, .slice x.a x.n x.c] 31)).alloc (.cells #[.string y.name, .slice y.a y.n y.c] 31)) := ((Grw.refl _).alloc _).alloc _
  have c2 := hG.cell hc
  have c3 : ((w.alloc (.cells #[.string x.name, .slice x.a x.n x.c] 31)).alloc (.cells #[.string y.name, .slice y.a y.n y.c] 31)).cell? ⟨w.heap.size, 0, none⟩ = some (.string x.name) := by simp [go_sem]
  have c3' : ((w.alloc (.cells #[.string x.name, .slice x.a x.n x.c] 31)).alloc (.cells #[.string y.name, .slice y.a y.n y.c] 31)).cell? ⟨w.heap.size, 1, none⟩ = some (.slice x.a x.n x.c) := by simp [go_sem]
  have c4 : ((w.alloc (.cells #[.string x.name, .slice x.a x.n x.c] 31)).alloc (.cells #[.string y.name, .slice y.a y.n y.c] 31)).cell? ⟨w.heap.size + 1, 0, none⟩ = some (.string y.name) := by simp [go_sem]
  have c4' : ((w.alloc (.cells #[.string x.name, .slice x.a x.n x.c] 31)).alloc (.cells #[.string y.name, .slice y.a y.n y.c] 31)).cell? ⟨w.heap.size + 1, 1, none⟩ = some (.slice y.a y.n y.c) := by simp [go_sem]
  generalize (w.alloc (.cells #[.string x.name, .slice x.a x.n x.c] 31)).alloc (.cells #[.string y.name, .slice y.a y.n y.c] 31) = W at *
  refine Gw.wp_region_typed (nsV 22 c w.heap.size (w.heap.size + 1) x y) [2, 3, 4] 13 (by kernel_rfl) (by kernel_rfl) rfl (fun t v w w' _ h => h) ?hstart ?hstep ?hend
  case hstart =>
   intro t ht
   simp only [List.mem_cons, List.not_mem_nil, or_false] at ht
   rcases ht with rfl | rfl | rfl <;> rfl
  case hstep =>
   refine Gw.steps_cons ?s0 (Gw.steps_cons ?s1 (Gw.steps_cons ?s2 (Gw.steps_cons ?s3 (Gw.steps_cons ?s4 (Gw.steps_cons ?s5 (Gw.steps_cons ?s6 (Gw.steps_cons ?s7 (Gw.steps_nil))))))))
   case s0 =>
    refine Gw.StepOk.of (Gw.guard_none rfl) fun b w' hsz hW hl K hK => ?_
    clear hsz
    unfold Oper.wp
    have e2 := getD' (Gw.look hl 2 (by kernel_rfl))
    have k2 := hW.cell c2
    have k3 := hW.cell c3
    have k3' := hW.cell c3'
    have k4 := hW.cell c4
    have k4' := hW.cell c4'
    go_simp
    exact hK _ _ (Grw.refl _) (Gw.dst_eq rfl rfl)
   case s1 =>
    refine Gw.StepOk.of (Gw.guard_none rfl) fun b w' hsz hW hl K hK => ?_
    clear hsz
    unfold Oper.wp
    have e3 := getD' (Gw.look hl 3 (by kernel_rfl))
    have k2 := hW.cell c2
    have k3 := hW.cell c3
    have k3' := hW.cell c3'
    have k4 := hW.cell c4
    have k4' := hW.cell c4'
    go_simp
    exact hK _ _ (Grw.refl _) (Gw.dst_eq rfl rfl)
   case s2 => exact Gw_callv1 22 6 7 8 _ (by kernel_rfl) rfl rfl (Gw.guard_none rfl) (by kernel_rfl) (by kernel_rfl) (fun v w h => h) (fun v w' hW hv => by subst hv; exact (fileName_any x w').mono fun e w'' h => ⟨_, h.1, rfl, h.2⟩)
   case s3 =>
    refine Gw.StepOk.of (Gw.guard_none rfl) fun b w' hsz hW hl K hK => ?_
    clear hsz
    unfold Oper.wp
    have e2 := getD' (Gw.look hl 2 (by kernel_rfl))
    have k2 := hW.cell c2
    have k3 := hW.cell c3
    have k3' := hW.cell c3'
    have k4 := hW.cell c4
    have k4' := hW.cell c4'
    go_simp
    exact hK _ _ (Grw.refl _) (Gw.dst_eq rfl rfl)
   case s4 =>
    refine Gw.StepOk.of (Gw.guard_none rfl) fun b w' hsz hW hl K hK => ?_
    clear hsz
    unfold Oper.wp
    have e4 := getD' (Gw.look hl 4 (by kernel_rfl))
    have k2 := hW.cell c2
    have k3 := hW.cell c3
    have k3' := hW.cell c3'
    have k4 := hW.cell c4
    have k4' := hW.cell c4'
    go_simp
    exact hK _ _ (Grw.refl _) (Gw.dst_eq rfl rfl)
   case s5 => exact Gw_callv1 22 9 10 11 _ (by kernel_rfl) rfl rfl (Gw.guard_none rfl) (by kernel_rfl) (by kernel_rfl) (fun v w h => h) (fun v w' hW hv => by subst hv; exact (fileName_any y w').mono fun e w'' h => ⟨_, h.1, rfl, h.2⟩)
   case s6 => exact Gw.step_call2 25 8 11 12 _ (by kernel_rfl) rfl rfl (Gw.guard_none rfl) (by kernel_rfl) (by kernel_rfl) (fun u v w' hW hu hv => by subst hu; subst hv; exact (strCompare_any _ _ _).mono fun e w'' h => ⟨_, h.1, rfl, by rw [h.2]; exact Grw.refl _⟩)
   case s7 => exact Gw.step_assign 12 5 rfl rfl (Gw.guard_none rfl) (by kernel_rfl) (fun v w h => h)
  case hend =>
   intro b w' hN hD hGG hall
   have h5 : b.tmps.getD 5 undef = .int .i64 (cmpNS x y) := hall 5 (.inr ⟨7, _, rfl, rfl⟩)
   rw [Array.getD_eq_getD_getElem?] at h5
   go_wp2
   exact bodyPost_ret (v := .int .i64 (cmpNS x y)) (by simp [results, Try.results31, go_sem, h5]) hD ⟨rfl, hG.trans hGG⟩
end Go.Proofs.Ytkngjljcjgagbaa
