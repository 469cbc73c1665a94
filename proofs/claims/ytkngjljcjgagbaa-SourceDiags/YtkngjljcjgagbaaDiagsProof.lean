/- SourceDiags holds: called with any list of what is told, the law returns true, without a panic, and leaves its argument as it read before; no condition. -/
import Derived.Test.YtkngjljcjgagbaaRo
import Derived.Test.YtkngjljcjgagbaaSn
import Derived.Deep.Slices
namespace Go.Proofs.Ytkngjljcjgagbaa
open Go.ChangeShapes Go.WideShapes Go.ChangeAt Go.RowKit Go.Joins
open Go.ChangeMaps (open_string shut_string)
theorem Try.cells41 : Try.prog.cellsOf 41 = 3 := by kernel_rfl
theorem Try.cells9 : Try.prog.cellsOf 9 = 1 := by kernel_rfl
theorem Try.cells3 : Try.prog.cellsOf 3 = 1 := by kernel_rfl
set_option maxRecDepth 100000 in
/-- What was told, handed in. -/
theorem open_diags {H : Type} {enc : TypeId × Value → H} {W : World} {b0 : Nat} {v : Value} {d : DataW H} {p : List MemPlace} (hv : Value.okWide Try.prog W .any b0 38 v) (h : DataW.Trod enc Try.prog W 0 (fun _ => true) true 38 v d p) :
    ∃ (a : Option Addr) (cap : Nat) (L : List DG), v = .slice a L.length cap ∧ RowDG W a cap L := by
  haveI : Inhabited DG := ⟨⟨⟨#[]⟩, ⟨#[]⟩, 0⟩⟩
  obtain ⟨a0, len, cap, rfl⟩ := okWide_slice Try.underlying38 hv
  obtain ⟨m, hm'⟩ := h
  rcases Go.Deep.open_slice Try.underlying38 hm' with ⟨hcs, _⟩ | ⟨x, l, c, m2, n, D, Pl, hcs, _, hl, hmax, hm2, _, hx⟩
  · simp [Value.cells] at hcs
    obtain ⟨rfl, rfl, rfl⟩ := hcs
    exact ⟨none, 0, [], rfl, ⟨Nat.le_refl _, by decide, fun _ => rfl, fun q hq => (by cases hq)⟩⟩
  · simp [Value.cells] at hcs
    obtain ⟨rfl, rfl, rfl⟩ := hcs
    simp only [if_true] at hm2
    have each : ∀ i, i < m2 → ∃ q : DG, W.cell? (x.add (i * 3)) = some (.string q.pkg) ∧ W.cell? (x.add (i * 3 + 1)) = some (.string q.file) ∧ W.cell? (x.add (i * 3 + 2)) = some (.int .i64 q.at') := by
      intro i hi
      obtain ⟨cs', h1, h2⟩ := hx i hi
      rw [Try.cells41] at h1
      obtain ⟨_, hlen, hcell⟩ := World.cells?_some h1
      obtain ⟨xs, k, hk, hxy, _, hxl, hf⟩ := DataW.trod_struct Try.underlying41 h2
      match xs, hxl, cs', hlen with
      | [y0, y1, y2], _, [v0, v1, v2], _ =>
        have g0 := hf 0 _ rfl
        have g1 := hf 1 _ rfl
        have g2 := hf 2 _ rfl
        simp [Try.cells9, Try.cells3] at g0 g1 g2
        obtain ⟨s0, e0, _⟩ := DataW.trod_string Try.underlying9 g0
        obtain ⟨s1, e1, _⟩ := DataW.trod_string Try.underlying9 g1
        obtain ⟨z2, e2, _⟩ := DataW.trod_int Try.underlying3 g2
        simp at e0 e1 e2
        subst e0 e1 e2
        have c0 := hcell 0 (by omega)
        have c1 := hcell 1 (by omega)
        have c2 := hcell 2 (by omega)
        rw [Addr.add_add] at c0 c1 c2
        exact ⟨⟨s0, s1, z2⟩, by simpa using c0, by simpa using c1, by simpa using c2⟩
    obtain ⟨q, hq⟩ := Go.Deep.choose_lt each
    refine ⟨some x, cap, (List.range len).map q, by simp, ⟨by simpa using hl, hmax, fun h => (by cases h), fun y hy j u hj => ?_⟩⟩
    cases hy
    have hlen : ((List.range len).map q).length = len := by simp
    have hj3 : j < len * 3 := by
      by_cases hh : j < len * 3
      · exact hh
      · rw [List.getElem?_eq_none (by rw [flatDG_len, hlen]; omega)] at hj; cases hj
    have hi : j / 3 < ((List.range len).map q).length := by rw [hlen]; omega
    obtain ⟨f0, f1, f2⟩ := flatDG_get _ (j / 3) hi
    have hn : nth ((List.range len).map q) (j / 3) = q (j / 3) := by
      simp [nth, show j / 3 < len by omega]
    rw [hn] at f0 f1 f2
    obtain ⟨k0, k1, k2⟩ := hq (j / 3) (by omega)
    rcases (show j % 3 = 0 ∨ j % 3 = 1 ∨ j % 3 = 2 by omega) with e | e | e
    · rw [show j / 3 * 3 = j by omega] at f0 k0
      rw [f0] at hj; cases hj; exact k0
    · rw [show j / 3 * 3 + 1 = j by omega] at f1 k1
      rw [f1] at hj; cases hj; exact k1
    · rw [show j / 3 * 3 + 2 = j by omega] at f2 k2
      rw [f2] at hj; cases hj; exact k2
set_option maxRecDepth 100000 in
theorem sourceDiags_lifted (os : Os) (started : os.Started) (H : Type) (enc : TypeId × Value → H) :
    ReturnsInHanded {} Try.checked os 5 .any (Rows.sourceDiagsSpec.pre6 enc Try.prog Try.f5 Rows.sourceDiagsRow.domain false) (Rows.sourceDiagsSpec.post enc Try.prog Try.f5 false true false false) := by
  refine returnsInHanded_of_change (C := Try.checked) ownNone started (by kernel_rfl) Try.func5
    (ChangeSpec.witness6 (enc := enc) (C := Try.checked) false ⟨#[], #[.slice none 0 0], []⟩ 8 (by kernel_rfl) (by kernel_rfl) (by kernel_rfl) (by kernel_rfl)) ?_
  intro W base args ds gs before hval0 hW hcnd _
  have hval : ∀ (j : Nat) t v, Try.f5.params[j]? = some t → args[j]? = some v → Value.okWide Try.prog W .any base t v := hval0
  have hW' := hW
  obtain ⟨p, q, hA0, hV, rfl, hfz, hnd⟩ := hW
  have hA : DataW.TrodAll enc Try.prog W 0 (fun _ => true) true Try.f5.params.toList args.toList ds p := hA0
  rw [Try.params5] at hA hval
  obtain ⟨v0, vs0, d0, ds0, p0, q0, hargs, rfl, rfl, h0, r0⟩ := trodAll_cons hA
  obtain ⟨rfl, rfl, rfl⟩ := trodAll_nil r0
  obtain rfl : args = #[v0] := by cases args; simp_all
  obtain ⟨rfl, rfl⟩ := trodVars_none hV
  have k0 := h0
  have lt0 : ∀ x ∈ p0, x.block < W.heap.size := by obtain ⟨m, hm⟩ := k0; exact DataW.trod_lt m _ _ _ hm
  obtain ⟨a, cap, L, rfl, hrow⟩ := open_diags (hval 0 38 v0 rfl rfl) h0
  clear hA0 hval0
  refine (law_diags a cap L W hrow).mono fun e W' ⟨he, bel⟩ => ?_
  subst he
  exact ⟨_, rfl, _, _, _, [], _, [], hW', trodAll_mk1 (shut_bool Try.underlying4 _), (trodAll_cons_mk (Below.trod laidAll (by kernel_rfl) (of_decide_eq_true (by kernel_rfl)) k0 bel lt0) trodAll_mk0), rfl, bel.frame _, fun h => by cases h⟩
theorem sourceDiags_over : Rows.sourceDiagsRow.holds Try.pinned (OpenSpec.ofChange Rows.sourceDiagsSpec) :=
  OpenClaim.holds_of_wide 5 Try.f5 rfl rfl rfl rfl rfl rfl rfl ⟨rfl, rfl, rfl, rfl, rfl⟩ rfl rfl rfl rfl rfl (by kernel_rfl) Try.func5 (by kernel_rfl)
    (of_decide_eq_true (by kernel_rfl)) (by unfold Func.isWrapper; first | (rw [if_pos (by decide +kernel)]; kernel_rfl) | (rw [if_neg (by decide +kernel)]; exact ⟨rfl, rfl⟩))
    (fun os started H enc _ => sourceDiags_lifted os started H enc)
/-- The statement. -/
theorem sourceDiags_holds : Rows.SourceDiagsSaid := sourceDiags_over
end Go.Proofs.Ytkngjljcjgagbaa
