/- slices.Backward over nodes. -/
import Derived.Test.YtbfklindcmmncaaBa
namespace Go.Proofs.Ytbfklindcmmncaa
open Go.RowKit Go.Shelf
attribute [local go_sem] Oper.semAt_some
set_option maxHeartbeats 1000000 in
theorem Backward_in (n : Nat) (x : Option Addr) (l c : Nat) (w : World) : CallsIn Fw n Try.prog 25 #[.slice x l c] w fun e w' => e = .returned (.func (.func 31) #[] #[.pointer (some ⟨w.heap.size, 0, none⟩)]) ∧ w' = w.alloc (.cells #[.slice x l c] 22) := by
  refine callsIn_of_wp Try.func25 rfl trivial ?_ rfl
  simp only [Try.ntmps25, List.size_toArray, List.length_cons, List.length_nil, Nat.reduceAdd, Nat.reduceSub, Array.replicate_succ, Array.replicate_zero, List.push_toArray, List.append_toArray, List.nil_append, List.cons_append]
  gi_wp2
  go_ret
  exact ⟨rfl, rfl⟩
/-- The cells of a row of nodes. -/
def RowAt (w : World) (x : Option Addr) (ns : List NC) : Prop := ∀ j (hj : j < ns.length), ∃ ad, x = some ad ∧ w.cell? (ad.add (j * 4)) = some (.int .i64 (ns[j]'hj).k) ∧ w.cell? ⟨(ad.add (j * 4)).block, (ad.add (j * 4)).off + 1, none⟩ = some (.int .i64 (ns[j]'hj).a) ∧ w.cell? ⟨(ad.add (j * 4)).block, (ad.add (j * 4)).off + 2, none⟩ = some (.string (ns[j]'hj).s) ∧ w.cell? ⟨(ad.add (j * 4)).block, (ad.add (j * 4)).off + 3, none⟩ = some (.slice (ns[j]'hj).x (ns[j]'hj).l (ns[j]'hj).c)
theorem RowAt.same {w w' : World} {x : Option Addr} {ns : List NC} (h : RowAt w x ns) (hb : ∀ ad, x = some ad → ns ≠ [] → w'.heap[ad.block]? = w.heap[ad.block]?) : RowAt w' x ns := fun j hj => by
  have hne : ns ≠ [] := fun e => by rw [e] at hj; simp at hj
  obtain ⟨ad, rfl, c0, c1, c2, c3⟩ := h j hj
  have hk : ∀ p : Addr, p.block = ad.block → w'.cell? p = w.cell? p := fun p hp => World.cell?_of_block (by rw [hp]; exact hb ad rfl hne)
  have hn := add_block ad (j * 4)
  exact ⟨ad, rfl, (hk _ hn).trans c0, (hk ⟨(ad.add (j * 4)).block, _, none⟩ hn).trans c1, (hk ⟨(ad.add (j * 4)).block, _, none⟩ hn).trans c2, (hk ⟨(ad.add (j * 4)).block, _, none⟩ hn).trans c3⟩
/-- What the body keeps: the slice's box, the row's block. -/
def KpB (Bs : Nat) (x : Option Addr) (ns : List NC) (W W' : World) : Prop := W'.heap[Bs]? = W.heap[Bs]? ∧ ∀ ad, x = some ad → ns ≠ [] → W'.heap[ad.block]? = W.heap[ad.block]?
theorem KpB.refl {Bs : Nat} {x : Option Addr} {ns : List NC} (W : World) : KpB Bs x ns W W := ⟨rfl, fun _ _ _ => rfl⟩
theorem KpB.trans {Bs : Nat} {x : Option Addr} {ns : List NC} {X Y Z : World} (h : KpB Bs x ns X Y) (k : KpB Bs x ns Y Z) : KpB Bs x ns X Z := ⟨k.1.trans h.1, fun ad e hn => (k.2 ad e hn).trans (h.2 ad e hn)⟩
theorem KpB.box {Bs : Nat} {x : Option Addr} {ns : List NC} {W W' : World} (h : KpB Bs x ns W W') {u : Value} (hc : W.cell? ⟨Bs, 0, none⟩ = some u) : W'.cell? ⟨Bs, 0, none⟩ = some u := (World.cell?_of_block (a := ⟨Bs, 0, none⟩) h.1).trans hc
set_option maxRecDepth 100000 in
set_option maxHeartbeats 4000000 in
theorem Backward1_in (l Bs cap : Nat) (x : Option Addr) (ns : List NC) (hlc : ns.length ≤ cap) (hcm : cap ≤ maxLen) (J Jx : List (Int × NC) → World → Prop)
    (hY : ∀ pre y W, J pre W → pre.length < ns.length → YieldAt Fw 0 Try.prog l #[.int .i64 y.1, y.2.val] W fun e W' => (e = .returned (.bool true) ∧ J (pre ++ [y]) W' ∧ KpB Bs x ns W W') ∨ (e = .returned (.bool false) ∧ Jx (pre ++ [y]) W'))
    (W : World) (hBs : W.cell? ⟨Bs, 0, none⟩ = some (.slice x ns.length cap)) (hR : RowAt W x ns) (h0 : J [] W) :
    CallsIn Fw 0 Try.prog 31 #[.func (.yield l) #[] #[], .pointer (some ⟨Bs, 0, none⟩)] W fun e W' => (∃ v, e = .returned v) ∧ ((∃ ys, ys.map (·.2) = ns.reverse ∧ J ys W') ∨ ∃ pre, Jx pre W') := by
  have hm : maxLen ≤ 9223372036854775807 := by decide
  have hm1 : (ns.length : Int) ≤ 9223372036854775807 := by omega
  have hw0 : IntKind.i64.wrap ((ns.length : Int) - 1) = (ns.length : Int) - 1 := by rw [IntKind.wrap_i64]; omega
  refine callsIn_of_wp Try.func31 rfl trivial ?_ rfl
  simp only [Try.ntmps31, List.size_toArray, List.length_cons, List.length_nil, Nat.reduceAdd, Nat.reduceSub, Array.replicate_succ, Array.replicate_zero, List.push_toArray, List.append_toArray, List.nil_append, List.cons_append]
  gi_wp2
  gi_loopw [3] (fun iv wr => ∃ (j : Nat) (pre : List (Int × NC)), j ≤ ns.length ∧ iv = .int .i64 ((j : Int) - 1) ∧ Hid (pre.map (·.2) = (ns.drop j).reverse) ∧ J pre wr ∧ KpB Bs x ns W wr) (fun iv _ => (intOf iv + 1).toNat)
  case atStart => exact ⟨ns.length, [], Nat.le_refl _, rfl, by show [] = _; simp, h0, KpB.refl W⟩
  case round =>
    obtain ⟨j, pre, hj, rfl, hp, hJs, hk⟩ := hrel
    have hb' := hk.box hBs
    cases j with
    | zero =>
      have d0 : decide ((0 : Int) ≤ ((0 : Nat) : Int) - 1) = false := by decide
      gi_wp2
      go_end0
      exact ⟨⟨_, rfl⟩, .inl ⟨pre, by have := hp.out; simpa using this, hJs⟩⟩
    | succ j =>
      obtain ⟨ad, rfl, c0, c1, c2, c3⟩ := (hR.same hk.2) j (by omega)
      have hlen : pre.length < ns.length := by
        have := congrArg List.length hp.out
        simp at this
        omega
      obtain ⟨fn, tmps, assign, body, hy, hRd⟩ := hY pre ((j : Int), ns[j]'(by omega)) wr hJs hlen
      dsimp only [NC.val] at hy
      have e1 : ((j + 1 : Nat) : Int) - 1 = (j : Int) := by omega
      rw [e1]
      have d1 : decide ((0 : Int) ≤ (j : Int)) = true := decide_eq_true (by omega)
      have i1 : (j : Int) < (ns.length : Int) := by omega
      have w1 : IntKind.i64.wrap ((j : Int) - 1) = (j : Int) - 1 := by rw [IntKind.wrap_i64]; omega
      have hp2 : Hid ((pre ++ [((j : Int), ns[j]'(by omega))]).map (·.2) = (ns.drop j).reverse) := by
        show _ = _
        rw [List.map_append, hp.out, List.drop_eq_getElem_cons (by omega : j < ns.length), List.reverse_cons]
        rfl
      gi_wp2
      refine ⟨rfl, hRd.mono ?_⟩
      rintro e W3 (⟨rfl, hJ3, hk3⟩ | ⟨rfl, hJx3⟩)
      · gi_wp2
        go_roundw
        case rel => exact ⟨j, _, by omega, rfl, hp2, hJ3, hk.trans hk3⟩
        case measure => simp [intOf]
      · gi_wp2
        refine bodyPost_ret (results_none rfl _ _ _) rfl ?_
        exact ⟨⟨_, rfl⟩, .inr ⟨_, hJx3⟩⟩
theorem Backward_side {C : World → Nat → Prop} (l Bs cap : Nat) (x : Option Addr) (ns : List NC) (hlc : ns.length ≤ cap) (hcm : cap ≤ maxLen) (J : List (Int × NC) → World → Prop) (W1 : World) (hBs : W1.cell? ⟨Bs, 0, none⟩ = some (.slice x ns.length cap)) (hR : RowAt W1 x ns) (hB1 : Bs < W1.heap.size) (hB2 : ¬ C W1 Bs) (hx : ∀ ad, x = some ad → ns ≠ [] → ad.block < W1.heap.size ∧ ¬ C W1 ad.block)
    (hY : ∀ ys y W, J ys W → ys.length < ns.length → YieldAt Fw 0 Try.prog l #[.int .i64 y.1, y.2.val] W fun e W' => e = .returned (.bool true) ∧ J (ys ++ [y]) W' ∧ Rnd C W W') (h0 : J [] W1) :
    CallsIn Fw 0 Try.prog 31 #[.func (.yield l) #[] #[], .pointer (some ⟨Bs, 0, none⟩)] W1 fun e W' => (∃ v, e = .returned v) ∧ ∃ xs, xs.map (·.2) = ns.reverse ∧ J xs W' ∧ Rnd C W1 W' := by
  refine (Backward1_in l Bs cap x ns hlc hcm (fun ys W => J ys W ∧ Rnd C W1 W) (fun _ _ => False) ?_ W1 hBs hR ⟨h0, Rnd.refl _ _⟩).mono ?_
  · rintro pre y W ⟨hj, hr⟩ hlen
    obtain ⟨fn, tmps, assign, body, hy, hRd⟩ := hY pre y W hj hlen
    refine ⟨fn, tmps, assign, body, hy, hRd.mono ?_⟩
    rintro e W' ⟨rfl, hj', hr'⟩
    have hk : ∀ b, b < W1.heap.size → ¬ C W1 b → W'.heap[b]? = W.heap[b]? := fun b hb hc => hr'.block b (Nat.lt_of_lt_of_le hb hr.size) (fun h => by rcases hr.own b h with h1 | h1; exact hc h1; omega)
    exact .inl ⟨rfl, ⟨hj', hr.trans hr'⟩, hk Bs hB1 hB2, fun ad e hn => hk _ (hx ad e hn).1 (hx ad e hn).2⟩
  · rintro e W' ⟨he, ⟨ys, h1, h2, h3⟩ | ⟨_, h⟩⟩
    · exact ⟨he, ys, h1, h2, h3⟩
    · exact h.elim
end Go.Proofs.Ytbfklindcmmncaa
