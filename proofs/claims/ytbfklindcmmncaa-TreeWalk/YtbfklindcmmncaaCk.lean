/- A tree, handed in. -/
import Derived.Test.YtbfklindcmmncaaAg
import Derived.Test.YtbfklindcmmncaaRows
import Derived.WalkKit
import Derived.ProofKit
import Derived.OpenShut
import Derived.ChangeOld
import Derived.Below
import Derived.Lib.SmallJoins
import Derived.ChangeMaps5
import Derived.Deep.Slices
namespace Go.Proofs.Ytbfklindcmmncaa
open Go.ChangeShapes Go.WideShapes Go.ChangeAt Go.RowKit Go.Joins
theorem ownNone : ownKnob Try.prog.godebug = none := by kernel_rfl
theorem laidAll : laidOutB Try.prog = true := by kernel_rfl
theorem cells24 : Try.prog.cellsOf 24 = 4 := by kernel_rfl
theorem cells3 : Try.prog.cellsOf 3 = 1 := by kernel_rfl
theorem cells9 : Try.prog.cellsOf 9 = 1 := by kernel_rfl
theorem cells22 : Try.prog.cellsOf 22 = 1 := by kernel_rfl
section
variable {H : Type} {enc : TypeId × Value → H} {W : World}
theorem kids_list {P : Nat → Prop} {x : Addr} : ∀ (ts : List Tr) (o : Nat), (∀ i, (hi : i < ts.length) → ∃ k a s y l c, P x.block ∧ W.cell? (x.add ((o + i) * 4)) = some (.int .i64 k) ∧ W.cell? ((x.add ((o + i) * 4)).add 1) = some (.int .i64 a) ∧ W.cell? ((x.add ((o + i) * 4)).add 2) = some (.string s) ∧ W.cell? ((x.add ((o + i) * 4)).add 3) = some (.slice y l c) ∧ TrV W P (.agg #[.int .i64 k, .int .i64 a, .string s, .slice y l c]) ts[i]) → KidsAt W P (some x) o ts
  | [], o, _ => by unfold KidsAt; trivial
  | t :: ts, o, h => by
    unfold KidsAt
    refine ⟨?_, kids_list ts (o + 1) fun i hi => ?_⟩
    · obtain ⟨k, a, s, y, l, c, h0, h1, h2, h3, h4, h5⟩ := h 0 (by simp)
      rw [Nat.add_zero] at h1 h2 h3 h4
      have e : ∀ (p : Addr) (j : Nat), 0 < j → p.add j = ⟨p.block, p.off + j, none⟩ := fun p j hj => by unfold Addr.add; rw [if_neg (by omega)]
      rw [e _ _ (by omega)] at h2 h3 h4
      exact ⟨x, k, a, s, y, l, c, rfl, h0, h1, h2, h3, h4, h5⟩
    · have := h (i + 1) (by simpa using hi)
      rw [show o + (i + 1) = o + 1 + i by omega] at this
      exact this
set_option maxRecDepth 100000 in
theorem tree_trod : ∀ (n : Nat) {cs : List Value} {D : DataW H × List MemPlace}, DataW.trod enc Try.prog W 0 (fun _ => true) true n 24 cs = some D → ∃ (c : NC) (t : Tr), cs = [.int .i64 c.k, .int .i64 c.a, .string c.s, .slice c.x c.l c.c] ∧ TrV W (fun b => b < W.heap.size) c.val t := by
  intro n
  induction n using Nat.strongRecOn with
  | _ n ih =>
    intro cs D h
    obtain ⟨xs, k, hk, hxy, hcl, hxl, hf⟩ := DataW.trod_struct Try.underlying24 h
    rw [cells24] at hcl
    match xs, hxl, cs, hcl with
    | [y0, y1, y2, y3], _, [v0, v1, v2, v3], _ =>
      have g0 := hf 0 _ rfl
      have g1 := hf 1 _ rfl
      have g2 := hf 2 _ rfl
      have g3 := hf 3 _ rfl
      simp [cells3, cells9, cells22] at g0 g1 g2 g3
      obtain ⟨k0, e0, _⟩ := DataW.trod_int Try.underlying3 g0
      obtain ⟨k1, e1, _⟩ := DataW.trod_int Try.underlying3 g1
      obtain ⟨s2, e2, _⟩ := DataW.trod_string Try.underlying9 g2
      simp at e0 e1 e2
      subst e0 e1 e2
      rcases DataW.trod_slice Try.underlying22 g3 with ⟨e3, _⟩ | ⟨x, l, c, el, re, m, hm, e3, _, _, hlc, hmx, hlen, hel, _, _⟩
      · simp at e3
        subst e3
        refine ⟨⟨k0, k1, s2, none, 0, 0⟩, .node k0 k1 s2 [], rfl, ?_⟩
        unfold TrV
        exact ⟨none, 0, 0, rfl, rfl, Nat.le_refl _, by decide, by unfold KidsAt; trivial⟩
      · simp at e3
        subst e3
        rw [cells24] at hel
        have each : ∀ i, i < l → ∃ q : NC × Tr, W.cell? (x.add (i * 4)) = some (.int .i64 q.1.k) ∧ W.cell? ((x.add (i * 4)).add 1) = some (.int .i64 q.1.a) ∧ W.cell? ((x.add (i * 4)).add 2) = some (.string q.1.s) ∧ W.cell? ((x.add (i * 4)).add 3) = some (.slice q.1.x q.1.l q.1.c) ∧ TrV W (fun b => b < W.heap.size) q.1.val q.2 := fun i hi => by
          have key := hel i hi
          rw [List.getElem?_eq_getElem (by omega)] at key
          obtain ⟨cs', h1, h2⟩ := Option.bind_eq_some_iff.1 key
          obtain ⟨c', t', rfl, ht⟩ := ih m (by omega) h2
          obtain ⟨_, _, hcell⟩ := World.cells?_some h1
          have c0 := hcell 0 (by omega)
          have c1 := hcell 1 (by omega)
          have c2 := hcell 2 (by omega)
          have c3 := hcell 3 (by omega)
          rw [show (x.add (i * 4)).add 0 = x.add (i * 4) by rw [Addr.add_add]; rfl] at c0
          exact ⟨(c', t'), by simpa using c0, by simpa using c1, by simpa using c2, by simpa using c3, ht⟩
        haveI : Inhabited (NC × Tr) := ⟨(⟨0, 0, ⟨#[]⟩, none, 0, 0⟩, .node 0 0 ⟨#[]⟩ [])⟩
        obtain ⟨q, hq⟩ := Go.Deep.choose_lt each
        refine ⟨⟨k0, k1, s2, some x, l, c⟩, .node k0 k1 s2 ((List.range l).map fun i => (q i).2), rfl, ?_⟩
        unfold TrV
        refine ⟨some x, l, c, rfl, by simp, hlc, hmx, kids_list _ 0 fun i hi => ?_⟩
        have hi' : i < l := by simpa using hi
        obtain ⟨h0, h1, h2, h3, h4⟩ := hq i hi'
        rw [Nat.zero_add]
        refine ⟨_, _, _, _, _, _, ?_, h0, h1, h2, h3, by simpa [NC.val] using h4⟩
        have := cell_lt h0
        rw [add_block] at this
        exact this
end
end Go.Proofs.Ytbfklindcmmncaa
