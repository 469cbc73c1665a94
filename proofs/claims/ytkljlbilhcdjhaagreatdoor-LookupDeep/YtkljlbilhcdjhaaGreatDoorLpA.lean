/- LookupDeep: its opening check, and the rest of a call run from its temporaries. -/
import Derived.Test.YtkljlbilhcdjhaaGreatDoorRw15
import Derived.Test.YtkljlbilhcdjhaaGreatDoorKgm
import Derived.KernelRfl
namespace Go.Proofs.YtkljlbilhcdjhaaGreatDoor
open Go.RowKit Go.Lib Go.Sort
open Cx
set_option linter.unusedVariables false

def Tb (W : World) : Prop := Tab W ∧ 7 ≤ W.heap.size
theorem Tb.next {W W' : World} (h : Tb W) (hb : Below W.heap.size W W') : Tb W' := by
  obtain ⟨⟨cs, ty, fr, h1, h2⟩, h7⟩ := h
  exact ⟨⟨cs, ty, fr, (hb.block 1 (by omega)).trans h1, h2⟩, Nat.le_trans h7 hb.size⟩
/-- what lies behind the opening of LookupDeep -/
noncomputable def deepRest : Code := match Tryz.f3.body with
  | some (.seq _ (.seq _ (.seq _ r))) => r
  | _ => .skip
noncomputable def deepEnv (k : Nat) (near twice : Bool) : En := ⟨173, T.put (.bool true) (T.put (.bool false) (T.put (.bool twice) (T.put (.bool near) (T.put (.int .i64 (.ofNat k)) .nil 0) 1) 2) 6) 7, []⟩
def noMarks : List DI → Bool
  | [] => true
  | _ => false
def oneTrue : Option (List Value) → Bool
  | some [.bool true] => true
  | _ => false
noncomputable def endTrue (rs : List ResultVar) : Res → Bool
  | .ok .ret e h => noMarks e.mks && oneTrue (resOf Tryz.prog e h rs)
  | _ => false
noncomputable def deepTrue (k : Nat) (near twice : Bool) : Bool := endTrue Tryz.f3.results.toList (exec Tryz.prog G0 100000 none deepRest (deepEnv k near twice) h0)
theorem endTrue_spec {rs : List ResultVar} {r : Res} (h : endTrue rs r = true) : ∃ e h', r = .ok .ret e h' ∧ e.mks = [] ∧ resOf Tryz.prog e h' rs = some [.bool true] := by
  unfold endTrue at h
  split at h
  · rename_i e h'
    simp only [Bool.and_eq_true] at h
    refine ⟨e, h', rfl, ?_, ?_⟩
    · have h1 := h.1
      unfold noMarks at h1; split at h1
      · assumption
      · cases h1
    · have h2 := h.2
      unfold oneTrue at h2; split at h2
      · assumption
      · cases h2
  · cases h
/-- The rest of a call, run by the executor, from where its temporaries are known. -/
theorem rest_ok {c : Code} {e0 : En} {n : Nat} {fn : Func} (hrun : endTrue fn.results.toList (exec Tryz.prog G0 n none c e0 h0) = true) {a : Act} {W : World} (hW : Tb W) (htr : TR mu0 e0 a.tmps) (hm : e0.mks = []) (hd : a.defers = [])
    {Q : Exit → Act → World → Prop} (hQ : ∀ a' W', a'.defers = [] → (results fn a'.tmps).run Tryz.prog W' = .ok (.bool true) W' → Below W.heap.size W W' → Q .ret a' W') : c.wp Tryz.prog Q a W := by
  obtain ⟨e, h', hr, hmk, hres⟩ := endTrue_spec hrun
  have hAR : AR mu0 e0 a := ⟨htr, by rw [hm, hd]; exact .nil⟩
  have hc := cond0 hW.1 hW.2
  have hsc : SC Tryz.prog G0 W.heap.size (exec Tryz.prog G0 n) := exec_ok hng (stubs0 _) hmix (fun _ _ hf hr => sd_ok hf hr) n
  have hwp := hsc none none c e0 h0 .ret e h' hr mu0 a W hc trivial hAR
  refine wpIn_wide.1 (wpIn_mono hwp fun ex a' W' hcp => ?_)
  obtain ⟨rfl, μ', hA, hG⟩ := hcp
  have hd' : a'.defers = [] := by
    have := hA.mr
    rw [hmk] at this
    cases hq : a'.defers with
    | nil => rfl
    | cons x l => rw [hq] at this; cases this
  obtain ⟨v', r1, r2⟩ := results_ok (P := Tryz.prog) (fn := fn) hG.hr hA.tr hres
  have r3 : v' = .bool true := by
    have r4 : VR μ' (.bool true) v' := r2
    cases r4; rfl
  subst r3
  have hlow : ∀ k p s o (b : Nat), mu0 k = some (b, p, s) → h0.t.get k = some o → o.live = true → o.isRo = true := fun k p s o b _ e2 _ => by
    unfold h0 at e2
    rw [T.get_put, T.get_nil] at e2
    split at e2
    · simp at e2; subst e2; rfl
    · cases e2
  exact hQ _ _ hd' r1 ⟨hG.st.os, hG.st.tape, hG.st.output, hG.st.size, fun b hb => hG.st.frame b hb fun k p s o e1 e2 e3 => .inl (hlow k p s o b e1 e2 e3)⟩
set_option maxRecDepth 1000000 in
theorem begun_run : Cx.isTrue (callN Tryz.prog G0 100000 4 [] h0) = true := (callNN_eq Tryz.prog G0 100000 4 [] h0 Cx.isTrue).symm.trans (by kernel_rfl)
noncomputable def begun_code : Code := match Tryz.f4.body with | some c => c | none => .skip
theorem begun_body : Tryz.f4.body = some begun_code := by kernel_rfl
theorem begun_any (W : World) (hW : Tb W) : Calls Tryz.prog 4 #[] W fun e W' => e = .returned (.bool true) ∧ Below W.heap.size W W' :=
  closed_any Tryz.func4 begun_body (args := []) rfl begun_run W hW.1 hW.2
end Go.Proofs.YtkljlbilhcdjhaaGreatDoor
