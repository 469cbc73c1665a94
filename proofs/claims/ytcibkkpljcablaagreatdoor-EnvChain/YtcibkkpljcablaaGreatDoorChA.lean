/- EnvChain: its opening check, and the way to its loop. -/
import Derived.Test.YtcibkkpljcablaaGreatDoorRw
import Derived.Test.YtcibkkpljcablaaGreatDoorFz
import Derived.KernelRfl
namespace Go.Proofs.YtcibkkpljcablaaGreatDoor
open Go.RowKit Go.Lib Go.Sort
open Cx
set_option linter.unusedVariables false

/-- what lies behind the opening of EnvChain -/
noncomputable def chainRest : Code := match Tryz.f6.body with
  | some (.seq _ (.seq _ (.seq _ r))) => r
  | _ => .skip
noncomputable def chainEnv (k : Nat) (ring : Bool) : En := ⟨108, T.put (.bool true) (T.put (.bool false) (T.put (.bool ring) (T.put (.int .i64 (.ofNat k)) .nil 0) 1) 4) 5, []⟩
def noMarks : List Nat → Bool
  | [] => true
  | _ => false
def oneTrue : Option (List Value) → Bool
  | some [.bool true] => true
  | _ => false
noncomputable def endTrue (rs : List ResultVar) : Res → Bool
  | .ok .ret e h => noMarks e.mks && oneTrue (resOf Tryz.prog e h rs)
  | _ => false
noncomputable def chainTrue (k : Nat) (ring : Bool) : Bool := endTrue Tryz.f6.results.toList (exF Tryz.prog 4 100000 none chainRest (chainEnv k ring) h0)
theorem endTrue_spec {rs : List ResultVar} {r : Res} (h : endTrue rs r = true) : ∃ e h', r = .ok .ret e h' ∧ e.mks = [] ∧ resOf Tryz.prog e h' rs = some [.bool true] := by
  unfold endTrue at h
  split at h
  · rename_i e h'
    simp only [Bool.and_eq_true] at h
    refine ⟨e, h', rfl, ?_, ?_⟩
    · unfold noMarks at h; split at h
      · assumption
      · exact absurd h.1 (by simp)
    · unfold oneTrue at h; split at h
      · assumption
      · exact absurd h.2 (by simp)
  · cases h
/-- The rest of a call, run by the executor, from where its temporaries are known. -/
theorem rest_ok {c : Code} {e0 : En} {n : Nat} {fn : Func} (hrun : endTrue fn.results.toList (exF Tryz.prog 4 n none c e0 h0) = true) {a : Act} {W : World} (hW : Tab W) (htr : TR mu0 e0 a.tmps) (hm : e0.mks = []) (hd : a.defers = [])
    {Q : Exit → Act → World → Prop} (hQ : ∀ a' W', a'.defers = [] → (results fn a'.tmps).run Tryz.prog W' = .ok (.bool true) W' → Below W.heap.size W W' → Q .ret a' W') : c.wp Tryz.prog Q a W := by
  obtain ⟨e, h', hr, hmk, hres⟩ := endTrue_spec hrun
  rw [exF_eq] at hr
  have hAR : AR mu0 e0 a := ⟨htr, by rw [hm, hd]; exact .nil⟩
  have hc := cond0 hW
  have hsc : SC Tryz.prog 4 W.heap.size (exec Tryz.prog 4 n) := exec_ok hng hmix (fun _ _ hf hr => sd_ok hf hr) n
  have hwp := hsc none none c e0 h0 .ret e h' hr mu0 a W hc trivial hAR
  refine wpIn_wide.1 (wpIn_mono hwp fun ex a' W' hcp => ?_)
  obtain ⟨rfl, μ', hA, hG⟩ := hcp
  have hd' : a'.defers = [] := by
    have := hA.mr
    rw [hmk] at this
    cases hq : a'.defers with
    | nil => rfl
    | cons x l => rw [hq] at this; cases this
  obtain ⟨v', r1, r2⟩ := results_ok (P := Tryz.prog) (fn := fn) hG.hr hA.tr hres
  have r3 : v' = .bool true := by
    have r4 : VR μ' (.bool true) v' := r2
    cases r4; rfl
  subst r3
  have hlow : ∀ k p s o (b : Nat), mu0 k = some (b, p, s) → h0.t.get k = some o → o.live = true → o.isRo = true := fun k p s o b _ e2 _ => by
    unfold h0 at e2
    rw [T.get_put, T.get_nil] at e2
    split at e2
    · simp at e2; subst e2; rfl
    · cases e2
  exact hQ _ _ hd' r1 ⟨hG.st.os, hG.st.tape, hG.st.output, hG.st.size, fun b hb => hG.st.frame b hb fun k p s o e1 e2 e3 => .inl (hlow k p s o b e1 e2 e3)⟩
set_option maxRecDepth 1000000 in
theorem begun_run : Cx.isTrue (callN Tryz.prog 4 100000 7 [] h0) = true := by
  rw [← callNF_eq]; kernel_rfl
noncomputable def begun_code : Code := match Tryz.f7.body with | some c => c | none => .skip
theorem begun_body : Tryz.f7.body = some begun_code := by kernel_rfl
theorem begun_any (W : World) (hW : Tab W) : Calls Tryz.prog 7 #[] W fun e W' => e = .returned (.bool true) ∧ Below W.heap.size W W' :=
  closed_any Tryz.func7 begun_body begun_run W hW
theorem Tab.next {W W' : World} (h : Tab W) (hb : Below W.heap.size W W') : Tab W' := by
  obtain ⟨cs, ty, fr, h1, h2⟩ := h
  have hlt : 3 < W.heap.size := by
    rcases Nat.lt_or_ge 3 W.heap.size with h' | h'
    · exact h'
    · rw [Array.getElem?_eq_none h'] at h1; cases h1
  exact ⟨cs, ty, fr, (hb.block 3 hlt).trans h1, h2⟩
end Go.Proofs.YtcibkkpljcablaaGreatDoor
