/- FloatRound holds: called with any fraction and any whole number of 64 bits, the law returns true, without a panic, and leaves every argument as it read before; no condition. -/
import Derived.Test.YtmpefgemlpnbiaaGreatRows
import Derived.Test.YtmpefgemlpnbiaaGreatMpm
import Derived.WalkKit
import Derived.ProofKit
import Derived.OpenShut
import Derived.ChangeOld
import Derived.Below
import Derived.Lib.SmallJoins
namespace Go.Proofs.YtmpefgemlpnbiaaGreat
open Go.ChangeShapes Go.WideShapes Go.ChangeAt Go.RowKit Go.Joins
set_option linter.unusedVariables false
theorem ownNone : ownKnob Tryz.prog.godebug = none := by kernel_rfl
theorem laidAll : laidOutB Tryz.prog = true := by kernel_rfl
theorem Tryz.cells24 : Tryz.prog.cellsOf 24 = 2 := by kernel_rfl
theorem Tryz.cells26 : Tryz.prog.cellsOf 26 = 4 := by kernel_rfl
theorem Tryz.cells47 : Tryz.prog.cellsOf 47 = 1 := by kernel_rfl
theorem Tryz.cells4 : Tryz.prog.cellsOf 4 = 1 := by kernel_rfl
theorem Tryz.cells22 : Tryz.prog.cellsOf 22 = 1 := by kernel_rfl
section
variable {H : Type} {enc : TypeId × Value → H} {W : World}
set_option maxRecDepth 100000 in
theorem big_trod {n : Nat} {v0 v1 : Value} {x : DataW H × List MemPlace} (h : DataW.trod enc Tryz.prog W 0 (fun _ => true) true n 24 [v0, v1] = some x) :
    ∃ (b : Bool) (a : Option Addr) (cap : Nat) (zs : List Int), v0 = .bool b ∧ v1 = .slice a zs.length cap ∧ Row W .u32 4294967296 a cap zs := by
  obtain ⟨xs, k, hk, hxy, _, hxl, hf⟩ := DataW.trod_struct Tryz.underlying24 h
  match xs, hxl with
  | [y0, y1], _ =>
    have g0 := hf 0 _ rfl
    have g1 := hf 1 _ rfl
    simp [Tryz.cells4, Tryz.cells22] at g0 g1
    obtain ⟨b, e0, _⟩ := DataW.trod_bool Tryz.underlying4 g0
    simp at e0
    subst e0
    rcases open_ints Tryz.underlying22 Tryz.underlying47 Tryz.cells47 g1 with ⟨hcs, _⟩ | ⟨x, l, c, zs, hcs, _, hl, hm, hz, _, hcell, hwz⟩
    · simp at hcs
      subst hcs
      exact ⟨b, none, 0, [], rfl, rfl, Row.empty _ _ _⟩
    · simp at hcs hz
      subst hcs
      have hlen : (zs.take l).length = l := by rw [List.length_take]; omega
      refine ⟨b, some x, c, zs.take l, rfl, by rw [hlen], ⟨by omega, hm, fun h => (by cases h), fun x' hx i hi => ?_, fun n hn => ?_⟩⟩
      · cases hx
        rw [hcell i (by omega), List.getElem?_take_of_lt (by omega)]
        simp
      · have := hwz n (List.mem_of_mem_take hn)
        simp [Lit.wf, IntKind.min, IntKind.max, IntKind.signed, IntKind.bits] at this
        omega
set_option maxRecDepth 100000 in
/-- A fraction that was handed in. -/
theorem open_rat {b0 : Nat} {v : Value} {d : DataW H} {p : List MemPlace} (hv : Value.okWide Tryz.prog W .any b0 26 v) (h : DataW.Trod enc Tryz.prog W 0 (fun _ => true) true 26 v d p) :
    ∃ (n : Bool) (a : Option Addr) (cap : Nat) (zs : List Int) (n' : Bool) (a' : Option Addr) (cap' : Nat) (zs' : List Int), v = .agg #[.bool n, .slice a zs.length cap, .bool n', .slice a' zs'.length cap'] ∧ Row W .u32 4294967296 a cap zs ∧ Row W .u32 4294967296 a' cap' zs' := by
  obtain ⟨cs, rfl, hsz⟩ := okWide_struct Tryz.underlying26 hv
  rw [Tryz.cells26] at hsz
  obtain ⟨u0, u1, u2, u3, rfl⟩ : ∃ u0 u1 u2 u3, cs = #[u0, u1, u2, u3] := by
    obtain ⟨l⟩ := cs
    match l, hsz with
    | [u0, u1, u2, u3], _ => exact ⟨u0, u1, u2, u3, rfl⟩
  obtain ⟨m, hm⟩ := h
  obtain ⟨xs, k, hk, hxy, _, hxl, hf⟩ := DataW.trod_struct Tryz.underlying26 hm
  match xs, hxl with
  | [y0, y1], _ =>
    have g0 := hf 0 _ rfl
    have g1 := hf 1 _ rfl
    simp [Tryz.cells24, Value.cells] at g0 g1
    obtain ⟨b, a, cap, zs, rfl, rfl, r0⟩ := big_trod g0
    obtain ⟨b', a', cap', zs', rfl, rfl, r1⟩ := big_trod g1
    exact ⟨b, a, cap, zs, b', a', cap', zs', rfl, r0, r1⟩
end
set_option maxRecDepth 100000 in
theorem floatRound_lifted (os : Os) (started : os.Started) (H : Type) (enc : TypeId × Value → H) :
    ReturnsInHanded {} Tryz.checked os 3 .any (Rows.floatRoundSpec.pre6 enc Tryz.prog Tryz.f3 Rows.floatRoundRow.domain false) (Rows.floatRoundSpec.post enc Tryz.prog Tryz.f3 false true false false) := by
  refine returnsInHanded_of_change (C := Tryz.checked) ownNone started (by kernel_rfl) Tryz.func3
    (ChangeSpec.witness6 (enc := enc) (C := Tryz.checked) false ⟨#[], #[.agg #[.bool false, .slice none 0 0, .bool false, .slice none 0 0], .int .i64 0], []⟩ 8 (by kernel_rfl) (by kernel_rfl) (by kernel_rfl) (by kernel_rfl)) ?_
  intro W base args ds gs before hval0 hW hcnd _
  have hval : ∀ (j : Nat) t v, Tryz.f3.params[j]? = some t → args[j]? = some v → Value.okWide Tryz.prog W .any base t v := hval0
  have hW' := hW
  obtain ⟨p, q, hA0, hV, rfl, hfz, hnd⟩ := hW
  have hA : DataW.TrodAll enc Tryz.prog W 0 (fun _ => true) true Tryz.f3.params.toList args.toList ds p := hA0
  rw [Tryz.params3] at hA hval
  obtain ⟨v0, vs0, d0, ds0, p0, q0, hargs, rfl, rfl, h0, r0⟩ := trodAll_cons hA
  obtain ⟨v1, vs1, d1, ds1, p1, q1, rfl, rfl, rfl, h1, r1⟩ := trodAll_cons r0
  obtain ⟨rfl, rfl, rfl⟩ := trodAll_nil r1
  obtain rfl : args = #[v0, v1] := by cases args; simp_all
  obtain ⟨rfl, rfl⟩ := trodVars_none hV
  have k0 := h0
  have lt0 : ∀ x ∈ p0, x.block < W.heap.size := by obtain ⟨m, hm⟩ := k0; exact DataW.trod_lt m _ _ _ hm
  obtain ⟨n1, x1, c1, xs1, n2, x2, c2, xs2, rfl, w1, w2⟩ := open_rat (hval 0 26 v0 rfl rfl) h0
  obtain ⟨a1, rfl, rfl, rfl, w3⟩ := open_int Tryz.underlying3 (hval 1 3 v1 rfl rfl) h1
  clear hA0 hval0
  refine (floatRound_any n1 x1 c1 xs1 n2 x2 c2 xs2 a1 W w1 w2).mono fun e W' ⟨he, bel⟩ => ?_
  subst he
  exact ⟨_, rfl, _, _, _, [], _, [], hW', trodAll_mk1 (shut_bool Tryz.underlying4 _), (trodAll_cons_mk (Below.trod laidAll (by kernel_rfl) (of_decide_eq_true (by kernel_rfl)) k0 bel lt0) (trodAll_cons_mk (shut_int Tryz.underlying3 w3) trodAll_mk0)), rfl, bel.frame _, fun h => by cases h⟩
theorem floatRound_over : Rows.floatRoundRow.holds Tryz.pinned (OpenSpec.ofChange Rows.floatRoundSpec) :=
  OpenClaim.holds_of_wide 3 Tryz.f3 rfl rfl rfl rfl rfl rfl rfl ⟨rfl, rfl, rfl, rfl, rfl⟩ rfl rfl rfl rfl rfl (by kernel_rfl) Tryz.func3 (by kernel_rfl)
    (of_decide_eq_true (by kernel_rfl)) (by unfold Func.isWrapper; first | (rw [if_pos (by decide +kernel)]; kernel_rfl) | (rw [if_neg (by decide +kernel)]; exact ⟨rfl, rfl⟩))
    (fun os started H enc _ => floatRound_lifted os started H enc)
/-- The statement. -/
theorem floatRound_holds : Rows.FloatRoundSaid := floatRound_over
end Go.Proofs.YtmpefgemlpnbiaaGreat
