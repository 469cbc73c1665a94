/- Guards that are shut; calls of a function value with two arguments. -/
import Derived.Test.YtkngjljcjgagbaaSk
namespace Go.Proofs.Ytkngjljcjgagbaa
open Go.Shelf Go.RowKit Go.Lib Go.Sort
attribute [local go_sem ↓] Go.wp_at_zero Go.wp_at_succ
section
variable {P : Program} {ops : Array Oper} {Q : Exit → Act → World → Prop} {V : Nat → Value → World → Prop} {N : Nat} {w : World}
theorem Gw_guard_open {o : Oper} (g d : Nat) (p : Bool) (h : o.guard = some (g, p)) (hd : (ops[g]?).bind (·.dst) = some d) (hl : (o.looksAt ops).contains d = true) (hv : ∀ v w, V d v w → v = .bool p) : Gw.GuardOk ops V o := by
  intro b w' hb
  have := hv _ _ (look hb d hl)
  simp [Region.wanted, h, yielded_of hd this]
theorem Gw_shut {o : Oper} (g d e : Nat) (p : Bool) (h : o.guard = some (g, p)) (hd : (ops[g]?).bind (·.dst) = some d) (hl : (o.looksAt ops).contains d = true) (hv : ∀ v w, V d v w → v ≠ .bool p) (he : o.dst = some e) (hu : ∀ w, V e undef w) : Gw.StepOk P ops Q V N w o := by
  intro b w' hs hB hb K hK
  have hne := hv _ _ (look hb d hl)
  have hw : Region.wanted o (yielded ops b.tmps) = false := by
    unfold Region.wanted
    rw [h]
    show (yielded ops b.tmps g == some p) = false
    rw [beq_eq_false_iff_ne]
    intro hy
    unfold yielded at hy
    rw [hd] at hy
    simp only [Option.bind_some] at hy
    rw [Array.getD_eq_getD_getElem?] at hne
    split at hy
    · rename_i c hc
      cases hy
      rw [hc] at hne
      exact hne rfl
    · cases hy
  rw [hw, if_neg (by decide)]
  exact hK _ _ (Grw.refl _) (Gw.dst_eq he (hu _))
theorem Gw_callv2 {o : Oper} (f : FuncId) (s t u d : Nat) (ats : Array TypeId) (hf : goFn P f = true) (ho : o.op = .call { callee := .value (.tmp s), args := #[.tmp t, .tmp u], argTypes := ats }) (hd : o.dst = some d) (hg : Gw.GuardOk ops V o) (hs : (o.looksAt ops).contains s = true) (hl : (o.looksAt ops).contains t = true) (hl' : (o.looksAt ops).contains u = true)
    (hv : ∀ v w', V s v w' → v = .func (.func f) #[] #[])
    (hc : ∀ x y w', Grw w w' → V t x w' → V u y w' → Calls P f #[x, y] w' fun e w'' => ∃ z, e = .returned z ∧ V d z w'' ∧ Grw w' w'') : Gw.StepOk P ops Q V N w o :=
  Gw.StepOk.of hg fun b w' hsz hB hb K hK => by
    clear hsz
    obtain ⟨dst, op, type, pos, after, guard⟩ := o
    dsimp only at ho hd
    subst ho
    subst hd
    unfold Oper.wp
    have e : b.tmps[s]?.getD undef = .func (.func f) #[] #[] := by rw [← Array.getD_eq_getD_getElem?]; exact hv _ _ (look hb s hs)
    have k := hc _ _ _ hB (look hb t hl) (look hb u hl')
    obtain ⟨t0, ht0⟩ : ∃ t0, t0 = b.tmps.getD t undef := ⟨_, rfl⟩
    obtain ⟨u0, hu0⟩ : ∃ u0, u0 = b.tmps.getD u undef := ⟨_, rfl⟩
    have e1 : b.tmps[t]?.getD undef = t0 := by rw [← Array.getD_eq_getD_getElem?]; exact ht0.symm
    have e2 : b.tmps[u]?.getD undef = u0 := by rw [← Array.getD_eq_getD_getElem?]; exact hu0.symm
    rw [← ht0, ← hu0] at k
    clear hu0 ht0
    have hr := run_callFunc_go hf
    unfold goFn at hf
    clear hf
    go_simp
    refine Calls.mono k ?_
    rintro e w'' ⟨z, rfl, hz, hbl⟩
    exact hK _ _ hbl (dst_eq rfl hz)
theorem Gw_pick {o : Oper} (c : Nat) (x y : Operand) (d : Nat) (cv : Bool) (z : Value) (ho : o.op = .pick (.tmp c) x y) (hd : o.dst = some d) (hg : Gw.GuardOk ops V o) (hl : (o.looksAt ops).contains c = true) (hc : ∀ v w, V c v w → v = .bool cv)
    (hz : ∀ (b : Act) (w' : World), (∀ t ∈ o.looksAt ops, V t (b.tmps.getD t undef) w') → b.eval (if cv = true then x else y) = z) (hv : ∀ w, V d z w) : Gw.StepOk P ops Q V N w o :=
  Gw.StepOk.of hg fun b w' _ _ hb K hK => by
    have hcv := hc _ _ (look hb c hl)
    have hzz := hz b w' hb
    unfold Oper.wp execOp
    simp only [ho]
    have e : b.eval (.tmp c) = .bool cv := hcv
    rw [e]
    have k := hK z w' (Grw.refl _) (Gw.dst_eq hd (hv _))
    cases cv with
    | true => simp only [if_true] at hzz; rw [← hzz] at k; exact k
    | false => simp only [Bool.false_eq_true, if_false] at hzz; rw [← hzz] at k; exact k
end
theorem less_facts (x y : ByteArray) : (Lib.compareBytes x.data.toList y.data.toList < 0 → Op.bytesLess x.toList y.toList = true ∧ (x.toList == y.toList) = false) ∧ (Lib.compareBytes x.data.toList y.data.toList = 0 → Op.bytesLess x.toList y.toList = false ∧ (x.toList == y.toList) = true) ∧ (0 < Lib.compareBytes x.data.toList y.data.toList → Op.bytesLess x.toList y.toList = false ∧ (x.toList == y.toList) = false) := by
  have h1 := cb_less x.data.toList y.data.toList
  have h2 := cb_zero x.data.toList y.data.toList
  simp only [ByteArray.toList_eq]
  refine ⟨fun h => ⟨by rw [h1]; simpa using h, ?_⟩, fun h => ⟨by rw [h1]; simp; omega, ?_⟩, fun h => ⟨by rw [h1]; simp; omega, ?_⟩⟩
  · rw [beq_eq_false_iff_ne]; intro e; rw [h2.2 e] at h; omega
  · rw [h2.1 h]; simp
  · rw [beq_eq_false_iff_ne]; intro e; rw [h2.2 e] at h; omega
set_option maxRecDepth 20000 in
set_option maxHeartbeats 4000000 in
theorem less_any (x y : DG) (w : World) :
    Calls Try.prog 11 #[.agg #[.string x.pkg, .string x.file, .int .i64 x.at'], .agg #[.string y.pkg, .string y.file, .int .i64 y.at']] w fun e w' => e = .returned (.bool (decide (cmpDG x y < 0))) ∧ Grw w w' := by
  have f1 := less_facts x.pkg y.pkg
  have f2 := less_facts x.file y.file
  have hG : Grw w ((w.alloc (.cells #[.string x.pkg, .string x.file, .int .i64 x.at'] 41)).alloc (.cells #[.string y.pkg, .string y.file, .int .i64 y.at'] 41)) := ((Grw.refl _).alloc _).alloc _
  obtain ⟨c, hc⟩ : ∃ c, c = decide (cmpDG x y < 0) := ⟨_, rfl⟩
  rw [← hc]
  unfold cmpDG first3 at hc
  rcases Int.lt_trichotomy (Lib.compareBytes x.pkg.data.toList y.pkg.data.toList) 0 with h | h | h
  · obtain ⟨a1, a2⟩ := f1.1 h
    have hc' : c = true := by rw [hc]; simp [show ¬ Lib.compareBytes x.pkg.data.toList y.pkg.data.toList = 0 by omega, h]
    subst hc'
    clear f1 f2 hc h
    go_enter Try.func11, Try.ntmps11
    go_wp2
    go_ret
    exact ⟨rfl, hG⟩
  · obtain ⟨a1, a2⟩ := f1.2.1 h
    rcases Int.lt_trichotomy (Lib.compareBytes x.file.data.toList y.file.data.toList) 0 with h2 | h2 | h2
    · obtain ⟨b1, b2⟩ := f2.1 h2
      have hc' : c = true := by rw [hc]; simp [h, show ¬ Lib.compareBytes x.file.data.toList y.file.data.toList = 0 by omega, h2]
      subst hc'
      clear f1 f2 hc h h2
      go_enter Try.func11, Try.ntmps11
      go_wp2
      go_ret
      exact ⟨rfl, hG⟩
    · obtain ⟨b1, b2⟩ := f2.2.1 h2
      have hc' : c = decide (x.at' < y.at') := by
        rw [hc]
        simp only [h, h2, ne_eq, not_true_eq_false, if_false]
        unfold Lib.compareInt
        by_cases e : x.at' < y.at'
        · simp [e]
        · simp only [e, if_false, decide_false]
          split <;> simp
      subst hc'
      clear f1 f2 hc h h2
      go_enter Try.func11, Try.ntmps11
      go_wp2
      all_goals go_ret
      all_goals refine ⟨?_, hG⟩
      all_goals simp_all
    · obtain ⟨b1, b2⟩ := f2.2.2 h2
      have hc' : c = false := by rw [hc]; simp [h, show ¬ Lib.compareBytes x.file.data.toList y.file.data.toList = 0 by omega]; omega
      subst hc'
      clear f1 f2 hc h h2
      go_enter Try.func11, Try.ntmps11
      go_wp2
      go_ret
      exact ⟨rfl, hG⟩
  · obtain ⟨a1, a2⟩ := f1.2.2 h
    have hc' : c = false := by rw [hc]; simp [show ¬ Lib.compareBytes x.pkg.data.toList y.pkg.data.toList = 0 by omega]; omega
    subst hc'
    clear f1 f2 hc h
    go_enter Try.func11, Try.ntmps11
    go_wp2
    go_ret
    exact ⟨rfl, hG⟩
end Go.Proofs.Ytkngjljcjgagbaa
