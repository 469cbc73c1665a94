/- SourceNorm holds: called with any tree, the law returns true, without a panic, and leaves its argument as it read before; no condition. -/
import Derived.Test.YtkngjljcjgagbaaRo
import Derived.Test.YtkngjljcjgagbaaSp
import Derived.SizedLaws
namespace Go.Proofs.Ytkngjljcjgagbaa
set_option linter.unusedVariables false
open Go.ChangeShapes Go.WideShapes Go.ChangeAt Go.RowKit Go.Joins
theorem RowNS.take {w : World} {a : Option Addr} {cap : Nat} {xs : List NS} (h : RowNS w a cap xs) (n : Nat) : RowNS w a cap (xs.take n) := by
  refine ⟨by have := h.le; rw [List.length_take]; omega, h.max, h.nil, fun p hp i hi => ?_, fun p hp i hi => ?_⟩
  · have hi' : i < xs.length := by rw [List.length_take] at hi; omega
    rw [h.cell0 p hp i hi', List.getElem_take]
  · have hi' : i < xs.length := by rw [List.length_take] at hi; omega
    rw [h.cell1 p hp i hi', List.getElem_take]
theorem law_norm_any (a : Option Addr) (cap : Nat) (ps : List (NS × PD)) (w : World) (h : RowNS w a cap (ps.map Prod.fst)) (hp : ∀ q ∈ ps, PkgRaw w q.1 q.2) : Calls Try.prog 3 #[.agg #[.slice a ps.length cap]] w fun e w' => e = .returned (.bool true) ∧ Below w.heap.size w w' := by
  haveI : Inhabited NS := ⟨⟨⟨#[]⟩, none, 0, 0⟩⟩
  obtain ⟨X, Y, Bd, hT, hps, hat, hX⟩ := inT_of h hp
  refine law_norm begun_any a cap ps.length X Y Bd w hT fun N w1 hb _ hN0 h30 => ?_
  have hl : (ps.take N).length = N := by rw [List.length_take]; omega
  have hsnd : (ps.take N).map Prod.snd = pdOf N X Y Bd := by
    rw [List.map_take, hps]
    unfold pdOf
    rw [← List.map_take, List.take_range, Nat.min_eq_left hN0]
  have k := Norm_any a cap (ps.take N) w1 (by rw [List.map_take]; exact (h.next hb).take N) (fun q hq => by
    obtain ⟨i, hi, rfl⟩ := List.getElem_of_mem hq
    have hi' : i < ps.length := by omega
    have hj : (X i).n ≤ 30 := h30 i (by omega)
    rw [List.getElem_take]
    rw [hX i hi'] at hj
    exact (hat ps[i] (List.getElem_mem hi') (by omega)).next hb) (by omega)
  rw [hsnd, hl] at k
  refine k.mono ?_
  rintro e w' ⟨hB, ⟨hna, rfl⟩ | ⟨hA, G, capQ, Qs, rfl, hO⟩⟩
  · exact ⟨hB, .inl ⟨fun hh => hna ((apartT_iff N X Y Bd).2 hh), rfl⟩⟩
  · have hA' := (apartT_iff N X Y Bd).1 hA
    obtain ⟨hlen, Z, V, Vb, hOT⟩ := outT_of hO hA'
    exact ⟨hB, .inr ⟨hA', G, capQ, Z, V, Vb, by rw [hlen], by rw [← hlen]; exact hO.le, hO.max, hOT⟩⟩
set_option maxRecDepth 100000 in
theorem sourceNorm_lifted (os : Os) (started : os.Started) (H : Type) (enc : TypeId × Value → H) :
    ReturnsInHanded {} Try.checked os 3 .any (Rows.sourceNormSpec.pre6 enc Try.prog Try.f3 Rows.sourceNormRow.domain false) (Rows.sourceNormSpec.post enc Try.prog Try.f3 false true false false) := by
  refine returnsInHanded_of_change_sized (C := Try.checked) ownNone started (by kernel_rfl) Try.func3
    (ChangeSpec.witness6 (enc := enc) (C := Try.checked) false ⟨#[], #[.agg #[.slice none 0 0]], []⟩ 8 (by kernel_rfl) (by kernel_rfl) (by kernel_rfl) (by kernel_rfl)) ?_
  intro W base args ds gs before hval0 hW hcnd hsz0 _
  have hval : ∀ (j : Nat) t v, Try.f3.params[j]? = some t → args[j]? = some v → Value.okWide Try.prog W .any base t v := hval0
  have hW' := hW
  obtain ⟨p, q, hA0, hV, rfl, hfz, hnd⟩ := hW
  have hA : DataW.TrodAll enc Try.prog W 0 (fun _ => true) true Try.f3.params.toList args.toList ds p := hA0
  have hsz : (DataW.weightsEach Try.prog (Try.f3.params.toList ++ Rows.sourceNormSpec.plain.varTypes Try.prog) (ds ++ gs)).all (· ≤ reachBytes) = true := hsz0
  rw [Try.params3] at hA hval hsz
  obtain ⟨v0, vs0, d0, ds0, p0, q0, hargs, rfl, rfl, h0, r0⟩ := trodAll_cons hA
  obtain ⟨rfl, rfl, rfl⟩ := trodAll_nil r0
  obtain rfl : args = #[v0] := by cases args; simp_all
  obtain ⟨rfl, rfl⟩ := trodVars_none hV
  have k0 := h0
  have lt0 : ∀ x ∈ p0, x.block < W.heap.size := by obtain ⟨m, hm⟩ := k0; exact DataW.trod_lt m _ _ _ hm
  have hz : ∀ k ∈ d0.weights Try.prog 24, k ≤ reachBytes := fun k hk => by
    have := List.all_eq_true.1 hsz k (DataW.weights_mem_each (j := 0) rfl rfl k hk)
    simpa using this
  obtain ⟨a, cap, ps, rfl, hrow, hraw⟩ := open_tree (hval 0 24 v0 rfl rfl) h0 hz
  clear hA0 hval0
  refine (law_norm_any a cap ps W hrow hraw).mono fun e W' ⟨he, bel⟩ => ?_
  subst he
  exact ⟨_, rfl, _, _, _, [], _, [], hW', trodAll_mk1 (shut_bool Try.underlying4 _), (trodAll_cons_mk (Below.trod laidAll (by kernel_rfl) (of_decide_eq_true (by kernel_rfl)) k0 bel lt0) trodAll_mk0), rfl, bel.frame _, fun h => by cases h⟩
theorem sourceNorm_over : Rows.sourceNormRow.holds Try.pinned (OpenSpec.ofChange Rows.sourceNormSpec) :=
  OpenClaim.holds_of_wide 3 Try.f3 rfl rfl rfl rfl rfl rfl rfl ⟨rfl, rfl, rfl, rfl, rfl⟩ rfl rfl rfl rfl rfl (by kernel_rfl) Try.func3 (by kernel_rfl)
    (of_decide_eq_true (by kernel_rfl)) (by unfold Func.isWrapper; first | (rw [if_pos (by decide +kernel)]; kernel_rfl) | (rw [if_neg (by decide +kernel)]; exact ⟨rfl, rfl⟩))
    (fun os started H enc _ => sourceNorm_lifted os started H enc)
/-- The statement. -/
theorem sourceNorm_holds : Rows.SourceNormSaid := sourceNorm_over
end Go.Proofs.Ytkngjljcjgagbaa
