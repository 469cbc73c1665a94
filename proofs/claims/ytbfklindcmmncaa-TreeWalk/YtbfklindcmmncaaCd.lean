/- a region that draws its order within a round; Backward over parts. -/
import Derived.Test.YtbfklindcmmncaaCb
namespace Go.Proofs.Ytbfklindcmmncaa
open Go.RowKit Go.Shelf
theorem rowsIn_wide {n : Nat} {P : Program} {row : String} {args : Array Value} {w : World} {R : Value → World → Prop} (h : Rows P row args w R) (l : Nat) : RowsIn (Fw.inRound l) n P row args w R := fun c cs _ => by
  obtain ⟨v, w', r, s⟩ := h c cs
  exact ⟨v, w', r, stepsIn_wide.2 s⟩
theorem uponIn_round {P : Program} {o : Oper} {a : Act} {next : Act → World → Prop} {Q : Exit → Act → World → Prop} {l n : Nat} (r : Result Next) (h : o.upon P a next Q r) : o.uponIn (Fw.inRound l) n P a next Q r := by
  cases r with
  | ok x w =>
    cases x <;> first
      | exact h
      | exact ⟨(fun h' => by cases h'), CallsIn.inRound l (callsIn_wide.2 h)⟩
      | exact ⟨(fun h' => by cases h'), rowsIn_wide h l⟩
      | exact h.elim
  | halt x w => cases x <;> exact h
theorem anyIn_round {P : Program} {md : Region.Mode} {ops : Array Oper} {Q : Exit → Act → World → Prop} {l n : Nat} (hd : ∀ (i : Nat) (o : Oper), ops[i]? = some o → ∀ c, o.op ≠ .defer c) (hQ : ¬ LetsOut Q) : ∀ (fuel : Nat) (listed : Array Bool) (a : Act) (w : World), wpAny P md ops Q fuel listed a w → wpAnyIn (Fw.inRound l) n P md ops Q fuel listed a w
  | 0, _, _, _, h => h
  | fuel + 1, listed, a, w, h => by
    refine ⟨h.1, fun i hi => ?_⟩
    have h2 := h.2 i hi
    unfold wpOp at h2
    unfold wpOpIn
    cases ho : ops[i]? with
    | none => rw [ho] at h2; exact anyIn_round hd hQ fuel _ _ _ h2
    | some o =>
      rw [ho] at h2
      simp only at h2 ⊢
      split
      · rename_i hw
        rw [if_pos hw] at h2
        rcases h2 with h2 | h2
        · refine Oper.wpIn_mono (anyIn_round hd hQ fuel _) ?_
          unfold Oper.wpIn
          refine ⟨fun _ _ => trivial, ?_⟩
          rw [Oper.semAt_eq _ _ _ (hd i o ho)]
          exact uponIn_round _ h2
        · exact absurd h2.2 hQ
      · rename_i hw
        rw [if_neg hw] at h2
        exact ⟨fun _ _ => trivial, anyIn_round hd hQ fuel _ _ _ h2⟩
theorem region_round {P : Program} {id : Nat} {ops : Array Oper} {Q : Exit → Act → World → Prop} {a : Act} {w : World} {l n : Nat} (hm : P.follows .mixedOrders = true) (hd : ∀ (i : Nat) (o : Oper), ops[i]? = some o → ∀ c, o.op ≠ .defer c) (hQ : ¬ LetsOut Q) (h : wpAny P .any ops Q ops.size (Array.replicate ops.size false) a { w with drawn := w.drawn + 1 }) : (Code.region id ops true).wpIn (Fw.inRound l) n P Q a w :=
  wpIn_region_any hm (anyIn_round hd hQ _ _ _ _ h)
attribute [local go_sem] Oper.semAt_some
set_option maxHeartbeats 1000000 in
theorem BackwardP_in (n : Nat) (x : Option Addr) (l c : Nat) (w : World) : CallsIn Fw n Try.prog 29 #[.slice x l c] w fun e w' => e = .returned (.func (.func 41) #[] #[.pointer (some ⟨w.heap.size, 0, none⟩)]) ∧ w' = w.alloc (.cells #[.slice x l c] 48) := by
  refine callsIn_of_wp Try.func29 rfl trivial ?_ rfl
  simp only [Try.ntmps29, List.size_toArray, List.length_cons, List.length_nil, Nat.reduceAdd, Nat.reduceSub, Array.replicate_succ, Array.replicate_zero, List.push_toArray, List.append_toArray, List.nil_append, List.cons_append]
  gi_wp2
  go_ret
  exact ⟨rfl, rfl⟩
set_option maxRecDepth 100000 in
set_option maxHeartbeats 4000000 in
theorem BackwardP1_in (l Bs cap g : Nat) (vs : List Value) (hlm : vs.length ≤ 1000) (J : List (Int × Value) → World → Prop) (Kp : World → Prop)
    (hK : ∀ W, Kp W → W.cell? ⟨Bs, 0, none⟩ = some (.slice (some ⟨g, 0, none⟩) vs.length cap) ∧ ∀ j v, vs[j]? = some v → W.cell? ⟨g, j, none⟩ = some v)
    (hY : ∀ pre y W, J pre W → Kp W → (∃ T u, y.2 = .iface T u) → pre.length < vs.length → YieldAt Fw 0 Try.prog l #[.int .i64 y.1, y.2] W fun e W' => e = .returned (.bool true) ∧ J (pre ++ [y]) W' ∧ Kp W')
    (hv : ∀ v ∈ vs, ∃ T u, v = .iface T u) (W : World) (hW : Kp W) (h0 : J [] W) :
    CallsIn Fw 0 Try.prog 41 #[.func (.yield l) #[] #[], .pointer (some ⟨Bs, 0, none⟩)] W fun e W' => (∃ v, e = .returned v) ∧ ∃ ys, ys.map (·.2) = vs.reverse ∧ J ys W' ∧ Kp W' := by
  have hBs := (hK W hW).1
  have hw0 : IntKind.i64.wrap ((vs.length : Int) - 1) = (vs.length : Int) - 1 := by rw [IntKind.wrap_i64]; omega
  refine callsIn_of_wp Try.func41 rfl trivial ?_ rfl
  simp only [Try.ntmps41, List.size_toArray, List.length_cons, List.length_nil, Nat.reduceAdd, Nat.reduceSub, Array.replicate_succ, Array.replicate_zero, List.push_toArray, List.append_toArray, List.nil_append, List.cons_append]
  gi_wp2
  gi_loopw [3] (fun iv wr => ∃ (j : Nat) (pre : List (Int × Value)), j ≤ vs.length ∧ iv = .int .i64 ((j : Int) - 1) ∧ Hid (pre.map (·.2) = (vs.drop j).reverse) ∧ J pre wr ∧ Kp wr) (fun iv _ => (intOf iv + 1).toNat)
  case atStart => exact ⟨vs.length, [], Nat.le_refl _, rfl, by show [] = _; simp, h0, hW⟩
  case round =>
    obtain ⟨j, pre, hj, rfl, hp, hJs, hk⟩ := hrel
    obtain ⟨hb', hcs⟩ := hK wr hk
    cases j with
    | zero =>
      have d0 : decide ((0 : Int) ≤ ((0 : Nat) : Int) - 1) = false := by decide
      gi_wp2
      go_end0
      exact ⟨⟨_, rfl⟩, pre, by have := hp.out; simpa using this, hJs, hk⟩
    | succ j =>
      have hlt : j < vs.length := by omega
      obtain ⟨T, u, hTu⟩ := hv (vs[j]'hlt) (List.getElem_mem hlt)
      have c0 := hcs j _ (List.getElem?_eq_getElem hlt)
      rw [hTu] at c0
      have hlen : pre.length < vs.length := by
        have := congrArg List.length hp.out
        simp at this
        omega
      obtain ⟨fn, tmps, assign, body, hy, hRd⟩ := hY pre ((j : Int), .iface T u) wr hJs hk ⟨T, u, rfl⟩ hlen
      dsimp only at hy
      have e1 : ((j + 1 : Nat) : Int) - 1 = (j : Int) := by omega
      rw [e1]
      have d1 : decide ((0 : Int) ≤ (j : Int)) = true := decide_eq_true (by omega)
      have i1 : (j : Int) < (vs.length : Int) := by omega
      have w1 : IntKind.i64.wrap ((j : Int) - 1) = (j : Int) - 1 := by rw [IntKind.wrap_i64]; omega
      have hp2 : Hid ((pre ++ [((j : Int), Value.iface T u)]).map (·.2) = (vs.drop j).reverse) := by
        show _ = _
        rw [List.map_append, hp.out, List.drop_eq_getElem_cons hlt, List.reverse_cons, hTu]
        rfl
      gi_wp2
      refine ⟨rfl, hRd.mono ?_⟩
      rintro e W3 ⟨rfl, hJ3, hk3⟩
      gi_wp2
      go_roundw
      case rel => exact ⟨j, _, by omega, rfl, hp2, hJ3, hk3⟩
      case measure => simp [intOf]
end Go.Proofs.Ytbfklindcmmncaa
