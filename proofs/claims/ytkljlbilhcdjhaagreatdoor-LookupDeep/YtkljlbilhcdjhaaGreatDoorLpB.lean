/- LookupDeep: every input. -/
import Derived.Test.YtkljlbilhcdjhaaGreatDoorLpA
import Derived.Deep.DrawnRows
namespace Go.Proofs.YtkljlbilhcdjhaaGreatDoor
open Go.RowKit Go.Lib Go.Sort
open Cx
set_option linter.unusedVariables false
attribute [local go_sem ↓] Go.wp_at_zero Go.wp_at_succ
set_option maxRecDepth 20000 in
set_option maxHeartbeats 4000000 in
theorem deep_out (n : Int) (near twice : Bool) (W : World) (hW : Tb W) (hn : n < 1 ∨ 20 < n) : Calls Tryz.prog 3 #[.int .i64 n, .bool near, .bool twice] W fun e W' => e = .returned (.bool true) ∧ Below W.heap.size W W' := by
  have kB := begun_any W hW
  clear hW
  rcases hn with hn | hn
  · go_enter Tryz.func3, Tryz.ntmps3
    go_wp2_with (go_at_call 4; refine kB.mono ?_; rintro e w1 ⟨rfl, hB1⟩)
    go_ret
    exact ⟨rfl, hB1⟩
  · have h1 : ¬ n < 1 := by omega
    go_enter Tryz.func3, Tryz.ntmps3
    go_wp2_with (go_at_call 4; refine kB.mono ?_; rintro e w1 ⟨rfl, hB1⟩)
    go_ret
    exact ⟨rfl, hB1⟩
/-- the opening of LookupDeep, its rest a name -/
theorem deep_split {Q : Exit → Act → World → Prop} {a : Act} {w : World} (h : ∀ R, R = deepRest → ∀ c, (match Tryz.f3.body with | some (.seq r0 (.seq r1 (.seq b _))) => some (.seq r0 (.seq r1 (.seq b R))) | x => x) = some c → c.wp Tryz.prog Q a w) {c : Code} (hc : Tryz.f3.body = some c) : c.wp Tryz.prog Q a w :=
  h deepRest rfl c (hc ▸ by kernel_rfl)
set_option maxRecDepth 20000 in
set_option maxHeartbeats 4000000 in
theorem deep_in (k : Nat) (near twice : Bool) (W : World) (hW : Tb W) (h1 : 1 ≤ k) (h2 : k ≤ 20) (hrun : deepTrue k near twice = true) : Calls Tryz.prog 3 #[.int .i64 k, .bool near, .bool twice] W fun e W' => e = .returned (.bool true) ∧ Below W.heap.size W W' := by
  have kB := begun_any W hW
  have kT := fun W1 (hB : Below W.heap.size W W1) => hW.next hB
  clear hW
  replace kT := (show Hid _ from kT)
  replace hrun := (show Hid _ from hrun)
  refine calls_of_wp Tryz.func3 rfl ?_
  refine deep_split (fun R hR c hc => ?_) rfl
  replace hR := (show Hid _ from hR)
  obtain rfl := Option.some.inj hc
  clear hc
  simp only [Tryz.ntmps3, List.size_toArray, List.length_cons, List.length_nil, Nat.reduceAdd, Nat.reduceSub, Array.replicate_succ,
     Array.replicate_zero, List.push_toArray, List.append_toArray, List.nil_append, List.cons_append]
  have g1 : ¬ (k : Int) < 1 := by omega
  have g2 : ¬ (20 : Int) < k := by omega
  go_wp2_with (go_at_call 4; refine kB.mono ?_; rintro e w1 ⟨rfl, hB1⟩)
  have hrun' := hrun.out
  have hW1 := kT.out w1 hB1
  obtain rfl := hR.out
  refine rest_ok (e0 := deepEnv k near twice) (n := 100000) (fn := Tryz.f3) hrun' hW1 ⟨rfl, fun t v hv => ?_⟩ rfl rfl fun a' W' hd hr hB => bodyPost_ret hr hd ⟨rfl, hB1.trans (hB.mono hB1.size)⟩
  unfold deepEnv at hv
  simp only [T.get_put, T.get_nil] at hv
  split at hv
  · rename_i e; subst e; simp only [Option.some.injEq] at hv; subst hv; exact ⟨_, rfl, .bool _⟩
  · split at hv
    · rename_i e; subst e; simp only [Option.some.injEq] at hv; subst hv; exact ⟨_, rfl, .bool _⟩
    · split at hv
      · rename_i e; subst e; simp only [Option.some.injEq] at hv; subst hv; exact ⟨_, rfl, .bool _⟩
      · split at hv
        · rename_i e; subst e; simp only [Option.some.injEq] at hv; subst hv; exact ⟨_, rfl, .bool _⟩
        · split at hv
          · rename_i e; subst e; simp only [Option.some.injEq] at hv; subst hv; exact ⟨_, rfl, .int _ _⟩
          · cases hv
end Go.Proofs.YtkljlbilhcdjhaaGreatDoor
