/- A row copied by append to nil. -/
import Derived.Test.YthiiglhecajhbaaGreatOut
import Derived.Lib.AppendZeros
namespace Go.Proofs.YthiiglhecajhbaaGreat
open Go.RowKit
theorem app_none (w : World) (x : Option Addr) (ca : Nat) (t : TypeId) : (Builtin.append_ #[22, 22] t #[.slice none 0 0, .slice x 0 ca]).run Tryz.prog w = .ok (.slice none 0 0) w := by
  obtain ⟨i0, hi, _, _, _⟩ := info_parts Tryz.info74
  cases x <;> simp [Builtin.append_, run_underlying Tryz.underlying22, sizeOf, typeInfo, hi, Builtin.lenOf, Builtin.firstCells, loadCells, loadCellsFrom]
theorem app_copy (w : World) (x : Option Addr) (ca : Nat) (xs : List Int) (t : TypeId) (ha : Row w .u32 4294967296 x ca xs) (hl : xs.length ≤ 1000000) : ∃ a' cap' w', (Builtin.append_ #[22, 22] t #[.slice none 0 0, .slice x xs.length ca]).run Tryz.prog w = .ok (.slice a' xs.length cap') w' ∧ Own w' w.heap.size .u32 74 4294967296 a' cap' xs ∧ Below w.heap.size w w' := by
  by_cases hx : xs = []
  · subst hx
    exact ⟨none, 0, w, app_none w x ca t, Own.empty _ _ _ _ _, Below.refl _ _⟩
  · have hpos : 0 < xs.length := List.length_pos_iff.2 hx
    obtain ⟨ad, rfl⟩ := ha.some_of hpos
    obtain ⟨i0, hi, hz0, hz1, hz2⟩ := info_parts Tryz.info74
    obtain ⟨g, cap, w', hr, hown, hgrow, hat, hlt⟩ := run_append_lies (P := Tryz.prog) w 22 t w.heap.size 74 i0 (.int .u32 0) 1 4 Tryz.underlying22 hi hz0 hz1 hz2 rfl (by omega) (.slice none 0 0) 0 [] (World.ownsRow_nil _ _ _ _) ad xs.length ca (xs.map (Value.int .u32)) (by simp) (news_of_row ha) (one_ints _ _) hpos (by unfold maxLen; omega) (by omega) (Nat.le_refl _) w.heap.size rfl
    simp only [Nat.zero_add, List.nil_append] at hr hown
    refine ⟨_, cap, w', hr, (Blk.of_owns hown).own ha.words ?_, (Below.refl _ w).grown hgrow (Nat.le_refl _) (by intro k hk; simp [Value.ownBlock] at hk)⟩
    rcases hat with h | h
    · simp [Value.ownBlock] at h
    · omega
/-- An append whose run is known, at a step of a region that draws its order. -/
theorem step_append_run {P : Program} {ops : Array Oper} {o : Oper} {a : Act} {w : World} {K : Act → World → Prop} {Q : Exit → Act → World → Prop} {E : Prop} (hgd : o.guard = none) (s x : Operand) (t tn : TypeId)
    (ho : o.op = .call { callee := .builtin .append, args := #[s, x], argTypes := #[t, tn] }) (vs vx : Value) (hs : a.eval s = vs) (hx : a.eval x = vx)
    (v' : Value) (w' : World) (hr : (Builtin.append_ #[t, tn] o.type #[vs, vx]).run P w = .ok v' w') (h : K (a.put o.dst v') w') : if Region.wanted o (yielded ops a.tmps) = true then Oper.wp P o a w K Q else E := by
  have hw : Region.wanted o (yielded ops a.tmps) = true := by simp [Region.wanted, hgd]
  rw [if_pos hw]
  exact Lib.wp_append_run w s x t tn ho vs vx hs hx v' w' hr h
end Go.Proofs.YthiiglhecajhbaaGreat
