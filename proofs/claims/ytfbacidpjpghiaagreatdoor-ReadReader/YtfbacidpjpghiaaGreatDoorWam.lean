/- The reader: its opening check, run by the kernel. -/
import Derived.Test.YtfbacidpjpghiaaGreatDoorRows
import Derived.Test.YtfbacidpjpghiaaGreatDoorCxkm
import Derived.Test.YtfbacidpjpghiaaGreatDoorFz
import Derived.KernelRfl
import Derived.Test.YtfbacidpjpghiaaGreatDoorVh
namespace Go.Proofs.YtfbacidpjpghiaaGreatDoor
open Go.RowKit
open Cx
set_option linter.unusedVariables false
theorem isTrue_ok {r : CRes} (h : Cx.isTrue r = true) : ∃ h', r = .ok (.bool true) h' := by
  unfold Cx.isTrue at h
  split at h
  · exact ⟨_, rfl⟩
  · cases h
/-- the memory that the run begins with: of the variables nothing is known -/
noncomputable def run0 : Hp := { n := 8, t := .nil, low := 8 }
def mu0 : Mu := fun k => if k < 8 then some (k, 0, 0) else none
theorem cond0 {W : World} (h : 7 < W.heap.size) : Cond 8 W.heap.size mu0 run0 W := by
  have hmu : ∀ k b p s, mu0 k = some (b, p, s) → k < 8 ∧ b = k ∧ p = 0 ∧ s = 0 := fun k b p s e => by
    unfold mu0 at e
    split at e
    · simp at e; exact ⟨by assumption, e.1.symm, e.2.1.symm, e.2.2.symm⟩
    · cases e
  have hget : ∀ k o, run0.t.get k ≠ some o := fun k o e => by
    unfold run0 at e
    rw [T.get_nil] at e
    cases e
  refine ⟨⟨fun k b p s e => ?_, fun k b p s o e1 e2 => absurd e2 (hget k o), fun k k' b p s p' s' o o' e1 e2 e3 e4 _ _ => absurd e3 (hget k o), fun k b p s o e1 e2 _ => absurd e2 (hget k o)⟩, fun g hg => ⟨0, by simp [mu0, hg]⟩, Nat.le_refl _⟩
  obtain ⟨h1, rfl, _, _⟩ := hmu k b p s e
  exact ⟨h1, by omega⟩
theorem hmix : Tryz.prog.follows .mixedOrders = true := by kernel_rfl
def notGo (fn : Func) : Bool := !(fn.body.isSome && fn.name == "runtime.NumGoroutine")
theorem hng0 : Tryz.prog.funcs.toList.all notGo = true := by kernel_rfl
theorem hng (f : FuncId) (fn : Func) (hf : Tryz.prog.funcs[f]? = some fn) (hb : fn.body.isSome = true) : (fn.name == "runtime.NumGoroutine") = false := by
  have := List.all_eq_true.1 hng0 fn (Array.mem_toList_iff.2 (Array.mem_of_getElem? hf))
  unfold notGo at this
  rw [hb] at this
  simpa using this
/-- A CLOSED CALL: what the kernel ran is so in every world that holds the variables. -/
theorem closed_any {f : FuncId} {fn : Func} {c : Code} (hf : Tryz.prog.funcs[f]? = some fn) (hc : fn.body = some c) {n : Nat} (hrun : Cx.isTrue (callN Tryz.prog 8 n f [] run0) = true) (W : World) (hW : 7 < W.heap.size) :
    Calls Tryz.prog f #[] W fun e W' => e = .returned (.bool true) ∧ Below W.heap.size W W' := by
  obtain ⟨h', hr⟩ := isTrue_ok hrun
  have henter : (callFunc f #[]).run Tryz.prog W = .ok (.enter f #[]) W := by
    have h1 : (fn.name == "runtime.NumGoroutine") = false := hng f fn hf (by rw [hc]; rfl)
    have h2 : ¬ fn.name = "runtime.NumGoroutine" := by simpa using h1
    simp [callFunc, hf, hc, h2]
  have hno : ∀ k o, run0.t.get k ≠ some o := fun k o e => by
    unfold run0 at e
    rw [T.get_nil] at e
    cases e
  rcases (run_ok (B := W.heap.size) hng hmix n).ok f [] run0 _ h' hr mu0 [] W (cond0 hW) .nil with ⟨v', h1, _⟩ | ⟨_, h1⟩
  · rw [henter] at h1; cases h1
  · refine (callsIn_wide.1 (h1 none)).mono fun e W' hp => ?_
    obtain ⟨v', μ', rfl, h2, h3⟩ := hp
    cases h2
    exact ⟨rfl, h3.st.os, h3.st.tape, h3.st.output, h3.st.size, fun b hb => h3.st.frame b hb fun k p s o e1 e2 e3 => absurd e2 (hno k o)⟩
set_option maxRecDepth 1000000 in
theorem begun_run : Cx.isTrue (callN Tryz.prog 8 100000 4 [] run0) = true := by
  rw [← callNF_eq]; kernel_rfl
noncomputable def begun_code : Code := match Tryz.f4.body with | some c => c | none => .skip
theorem begun_body : Tryz.f4.body = some begun_code := by kernel_rfl
theorem begun_any (W : World) (hW : 7 < W.heap.size) : Calls Tryz.prog 4 #[] W fun e W' => e = .returned (.bool true) ∧ Below W.heap.size W W' :=
  closed_any Tryz.func4 begun_body begun_run W hW
end Go.Proofs.YtfbacidpjpghiaaGreatDoor
namespace Go.Proofs.YtfbacidpjpghiaaGreatDoor
open Go.RowKit
theorem decimalM_kind (l : List UInt8) : (decimalM l).1 ≠ 0 := by
  unfold decimalM
  repeat' split
  all_goals simp
theorem hexM_kind (l : List UInt8) : (hexM l).1 ≠ 0 := by
  unfold hexM
  repeat' split
  all_goals simp
theorem basedM_kind (l : List UInt8) : (basedM l).1 ≠ 0 := by
  have h1 := decimalM_kind l
  have h2 := hexM_kind l
  unfold basedM
  repeat' split
  all_goals first | assumption | simp
theorem numberM_kind (l : List UInt8) : (numberM l).1 ≠ 0 := by
  have h1 := basedM_kind l
  unfold numberM
  split <;> assumption
theorem measureM_kind {l : List UInt8} {k : Int} {n : Nat} (h : measureM l = some (k, n)) : k ≠ 0 := by
  unfold measureM at h
  split at h
  · obtain ⟨h1, _⟩ := Prod.mk.inj (Option.some.inj h)
    rw [← h1]
    split <;> decide
  · split at h
    · have := numberM_kind l
      rw [Option.some.inj h] at this
      exact this
    · split at h
      · obtain ⟨m, _, h2⟩ := Option.map_eq_some_iff.1 h
        obtain ⟨h1, _⟩ := Prod.mk.inj h2
        rw [← h1]; decide
      · split at h
        · obtain ⟨h1, _⟩ := Prod.mk.inj (Option.some.inj h); rw [← h1]; decide
        · obtain ⟨h1, _⟩ := Prod.mk.inj (Option.some.inj h); rw [← h1]; decide
theorem endL_kind {ts : List Tok} (h : ∀ t ∈ ts, t.kind ≠ 0) (a : Int) : ∀ t ∈ endL ts a, t.kind ≠ 0 := by
  unfold endL
  split
  · exact h
  · split
    · intro t ht
      rcases List.mem_append.1 ht with ht | ht
      · exact h t ht
      · simp at ht; subst ht; exact (show (7 : Int) ≠ 0 by decide)
    · exact h
theorem stepM_kind {l : List UInt8} {pos p' : Nat} {ts ts' : List Tok} (h0 : ∀ t ∈ ts, t.kind ≠ 0) (h : stepM l pos ts = some (true, p', ts')) : ∀ t ∈ ts', t.kind ≠ 0 := by
  unfold stepM at h
  split at h
  · obtain ⟨_, e2⟩ := Prod.mk.inj (Option.some.inj h)
    obtain ⟨_, rfl⟩ := Prod.mk.inj e2
    exact endL_kind h0 _
  · split at h
    · obtain ⟨_, e2⟩ := Prod.mk.inj (Option.some.inj h)
      obtain ⟨_, rfl⟩ := Prod.mk.inj e2
      exact h0
    · split at h
      · obtain ⟨_, e2⟩ := Prod.mk.inj (Option.some.inj h)
        obtain ⟨_, rfl⟩ := Prod.mk.inj e2
        exact h0
      · split at h
        · obtain ⟨_, e2⟩ := Prod.mk.inj (Option.some.inj h)
          obtain ⟨_, rfl⟩ := Prod.mk.inj e2
          split
          · exact h0
          · unfold commentT
            split
            · exact endL_kind h0 _
            · exact h0
        · obtain ⟨⟨k, n⟩, hme, h⟩ := Option.map_eq_some_iff.1 h
          obtain ⟨_, e2⟩ := Prod.mk.inj h
          obtain ⟨_, rfl⟩ := Prod.mk.inj e2
          simp only
          split
          · exact h0
          · intro t ht
            rcases List.mem_append.1 ht with ht | ht
            · exact h0 t ht
            · simp at ht; subst ht; exact measureM_kind hme
theorem scan_kind (S : List UInt8) : ∀ (f pos : Nat) (ts out : List Tok), (∀ t ∈ ts, t.kind ≠ 0) → scanGo S f pos ts = some (.good out) → ∃ l p, out = l ++ [⟨0, ba [], p⟩] ∧ ∀ t ∈ l, t.kind ≠ 0
  | 0, _, _, _, _, h => by cases h
  | f + 1, pos, ts, out, h0, h => by
    unfold scanGo at h
    split at h
    · split at h
      · cases h
      · cases h
      · rename_i p ts' hs
        exact scan_kind S f p ts' out (stepM_kind h0 hs) h
    · have := Res.good.inj (Option.some.inj h)
      exact ⟨_, _, this.symm, endL_kind h0 _⟩
/-- where the reader stands after so many tokens -/
theorem kind_mid {l : List Tok} {p : Int} (hl : ∀ t ∈ l, t.kind ≠ 0) (k : Nat) (hk : k < (l ++ [(⟨0, ba [], p⟩ : Tok)]).length) : (l ++ [(⟨0, ba [], p⟩ : Tok)])[k].kind = 0 ↔ k = l.length := by
  by_cases h : k < l.length
  · rw [List.getElem_append_left h]
    exact ⟨fun e => absurd e (hl _ (List.getElem_mem h)), fun e => by omega⟩
  · have hk' : k = l.length := by simp at hk; omega
    subst hk'
    simp
end Go.Proofs.YtfbacidpjpghiaaGreatDoor
