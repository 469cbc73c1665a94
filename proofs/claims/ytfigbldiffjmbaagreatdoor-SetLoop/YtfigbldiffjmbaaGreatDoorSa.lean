/- SetLoop: its opening check; runs that are cut. -/
import Derived.Test.YtfigbldiffjmbaaGreatDoorRw
import Derived.Test.YtfigbldiffjmbaaGreatDoorFz
import Derived.Test.YtfigbldiffjmbaaGreatDoorKc
import Derived.KernelRfl
namespace Go.Proofs.YtfigbldiffjmbaaGreatDoor
open Go.RowKit Go.Lib Go.Sort
open Cx
set_option linter.unusedVariables false

def oneTrue : Option (List Value) → Bool
  | some [.bool true] => true
  | _ => false
noncomputable def endTrue (rs : List ResultVar) : Res → Bool
  | .ok .ret e h => noM e.mks && oneTrue (resOf Tryz.prog e h rs)
  | _ => false
theorem endTrue_spec {rs : List ResultVar} {r : Res} (h : endTrue rs r = true) : ∃ e h', r = .ok .ret e h' ∧ e.mks = [] ∧ resOf Tryz.prog e h' rs = some [.bool true] := by
  unfold endTrue at h
  split at h
  · rename_i e h'
    simp only [Bool.and_eq_true] at h
    refine ⟨e, h', rfl, ?_, ?_⟩
    · have h1 := h.1
      unfold noM at h1; split at h1
      · assumption
      · cases h1
    · have h2 := h.2
      unfold oneTrue at h2; split at h2
      · assumption
      · cases h2
  · cases h
/-- where a run stands -/
def Stand (W : World) (e : En) (h : Hp) (a : Act) (w : World) : Prop := ∃ μ, Cond 2 W.heap.size μ h w ∧ AR μ e a ∧ Below W.heap.size W w
theorem good_below {W w w1 : World} {μ μ1 : Mu} {h h1 : Hp} (c : Cond 2 W.heap.size μ h w) (g : Cx.Good W.heap.size μ h w μ1 h1 w1) (hB : Below W.heap.size W w) : Below W.heap.size W w1 :=
  ⟨g.st.os.trans hB.os, g.st.tape.trans hB.tape, g.st.output.trans hB.output, Nat.le_trans hB.size g.st.size, fun b hb => (g.st.frame b (Nat.lt_of_lt_of_le hb hB.size) fun k p s o e1 e2 e3 => (c.hr.own k b p s o e1 e2 e3).imp id fun hh => absurd hb (by omega)).trans (hB.block b hb)⟩
theorem execs (W : World) (n : Nat) : SC Tryz.prog 2 W.heap.size (exec Tryz.prog 2 n) := exec_ok hng hmix (fun _ _ hf hr => sd_ok hf hr) n
theorem stand_begin {W w : World} (hW : Tab W) {e0 : En} {a : Act} (htr : TR mu0 e0 a.tmps) (hm : e0.mks = []) (hd : a.defers = []) : Stand W e0 h0 a W :=
  ⟨mu0, cond0 hW, ⟨htr, by rw [hm, hd]; exact .nil⟩, Below.refl _ _⟩
theorem stand_cut {W w : World} {e : En} {h : Hp} {a : Act} (s : Stand W e h a w) {k n sz N : Nat} {E : List (Nat × Value)} {L : List (Nat × LObj)} {c : Code} (hrun : okCut sz E N L (exF Tryz.prog 2 n none (takeSeq k c) e h) = true) {Q : Exit → Act → World → Prop}
    (hQ : ∀ a1 w1, Stand W ⟨sz, puts E, []⟩ ⟨N, puts L, N⟩ a1 w1 → (dropSeq k c).wpIn (FW none) 0 Tryz.prog Q a1 w1) : c.wpIn (FW none) 0 Tryz.prog Q a w := by
  obtain ⟨μ, hc, hA, hB⟩ := s
  obtain ⟨e1, h1, hr, q1, q2, q3, q4, q5⟩ := okCut_spec hrun
  rw [exF_eq] at hr
  refine cutseq_ok (fun n => execs W n) k n c e e1 h h1 hr μ a w hc hA Q fun μ1 a1 w1 hA1 hG1 => ?_
  exact hQ a1 w1 ⟨μ1, (hc.next hG1).less q3.symm q5, hA1.less q2.symm q1.symm q4, good_below hc hG1 hB⟩
theorem stand_end {W w : World} {e : En} {h : Hp} {a : Act} (s : Stand W e h a w) {n : Nat} {c : Code} {fn : Func} (hrun : endTrue fn.results.toList (exF Tryz.prog 2 n none c e h) = true) {Q : Exit → Act → World → Prop}
    (hQ : ∀ a' W', a'.defers = [] → (results fn a'.tmps).run Tryz.prog W' = .ok (.bool true) W' → Below W.heap.size W W' → Q .ret a' W') : c.wpIn (FW none) 0 Tryz.prog Q a w := by
  obtain ⟨μ, hc, hA, hB⟩ := s
  obtain ⟨e1, h1, hr, hmk, hres⟩ := endTrue_spec hrun
  rw [exF_eq] at hr
  refine wpIn_mono (execs W n none none c e h .ret e1 h1 hr μ a w hc trivial hA) fun ex a' W' hcp => ?_
  obtain ⟨rfl, μ', hA', hG⟩ := hcp
  have hd' : a'.defers = [] := by
    have := hA'.mr
    rw [hmk] at this
    cases hq : a'.defers with
    | nil => rfl
    | cons x l => rw [hq] at this; cases this
  obtain ⟨v', r1, r2⟩ := results_ok (P := Tryz.prog) (fn := fn) hG.hr hA'.tr hres
  have r3 : v' = .bool true := by
    have r4 : VR μ' (.bool true) v' := r2
    cases r4; rfl
  subst r3
  exact hQ _ _ hd' r1 (good_below hc hG hB)

/-- what lies behind the opening of SetLoop -/
noncomputable def setRest : Code := match Tryz.f3.body with
  | some (.seq _ (.seq _ (.seq _ r))) => r
  | _ => .skip
noncomputable def setEnv (k : Nat) (ring : Bool) : En := ⟨116, T.put (.bool true) (T.put (.bool false) (T.put (.bool ring) (T.put (.int .i64 (.ofNat k)) .nil 0) 1) 4) 5, []⟩
set_option maxRecDepth 1000000 in
theorem begun_run : Cx.isTrue (callN Tryz.prog 2 100000 5 [] h0) = true := by
  rw [← callNF_eq]; kernel_rfl
noncomputable def begun_code : Code := match Tryz.f5.body with | some c => c | none => .skip
theorem begun_body : Tryz.f5.body = some begun_code := by kernel_rfl
theorem begun_any (W : World) (hW : Tab W) : Calls Tryz.prog 5 #[] W fun e W' => e = .returned (.bool true) ∧ Below W.heap.size W W' :=
  closed_any Tryz.func5 begun_body begun_run W hW
theorem Tab.next {W W' : World} (h : Tab W) (hb : Below W.heap.size W W') : Tab W' := by
  obtain ⟨cs, ty, fr, h1, h2⟩ := h
  have hlt : 1 < W.heap.size := by
    rcases Nat.lt_or_ge 1 W.heap.size with h' | h'
    · exact h'
    · rw [Array.getElem?_eq_none h'] at h1; cases h1
  exact ⟨cs, ty, fr, (hb.block 1 hlt).trans h1, h2⟩
/-! words for what is told of a run -/
def vt : Value := .bool true
def vf : Value := .bool false
def vi (n : Nat) : Value := .int .i64 (.ofNat n)
def vs (l : List UInt8) : Value := .string ⟨⟨l⟩⟩
def vp (k o : Nat) : Value := .pointer (some ⟨k, o, none⟩)
def vl (n c : Nat) : Value := .slice none n c
def vr (k o n c : Nat) : Value := .slice (some ⟨k, o, none⟩) n c
def oc (l : List Value) : LObj := .cells l
/-- the three parts of a run -/
noncomputable def part1 (k : Nat) (ring : Bool) (E : List (Nat × Value)) (N : Nat) (L : List (Nat × LObj)) : Bool :=
  okCut 116 E N ((1, .ro tab0) :: L) (exF Tryz.prog 2 100000 none (takeSeq 4 setRest) (setEnv k ring) h0)
noncomputable def part2 (E E2 : List (Nat × Value)) (N N2 : Nat) (L : List (Nat × LObj)) : Bool :=
  okCut 116 E2 N2 ((1, .ro tab0) :: L) (exF Tryz.prog 2 100000 none (takeSeq 1 (dropSeq 4 setRest)) ⟨116, puts E, []⟩ ⟨N, puts ((1, .ro tab0) :: L), N⟩)
noncomputable def part3 (E : List (Nat × Value)) (N : Nat) (L : List (Nat × LObj)) : Bool :=
  endTrue Tryz.f3.results.toList (exF Tryz.prog 2 100000 none (dropSeq 1 (dropSeq 4 setRest)) ⟨116, puts E, []⟩ ⟨N, puts ((1, .ro tab0) :: L), N⟩)
theorem and_fst {a b : Bool} (h : (and a b) = true) : a = true := by cases a <;> first | rfl | cases h
theorem and_snd {a b : Bool} (h : (and a b) = true) : b = true := by cases a <;> first | exact h | cases h
/-- a run, whole -/
def Runs (k : Nat) (ring : Bool) : Prop := ∃ E N L E2 N2, part1 k ring E N L = true ∧ part2 E E2 N N2 L = true ∧ part3 E2 N2 L = true
end Go.Proofs.YtfigbldiffjmbaaGreatDoor
