/- Closed runs: which operations of a region always come ahead of which. -/
import Derived.Test.YtfigbldiffjmbaaGreatDoorCxd
namespace Go.Proofs.YtfigbldiffjmbaaGreatDoor
namespace Cx
open Go

section
theorem fold_bits {α : Type} (b : α → Bool) (on c : α → Nat) (i : Nat) : ∀ (l : List α) (s : Nat), (l.foldl (fun s e => if b e = true then s ||| 2 ^ on e ||| c e else s) s).testBit i = true → s.testBit i = true ∨ ∃ e ∈ l, b e = true ∧ (on e = i ∨ (c e).testBit i = true)
  | [], s, h => .inl h
  | x :: l, s, h => by
    rw [List.foldl_cons] at h
    rcases fold_bits b on c i l _ h with h1 | ⟨e, he, h1⟩
    · by_cases hb : b x = true
      · rw [if_pos hb, Nat.testBit_or, Nat.testBit_or, Nat.testBit_two_pow] at h1
        simp only [Bool.or_eq_true, decide_eq_true_eq] at h1
        rcases h1 with (h1 | h1) | h1
        · exact .inl h1
        · exact .inr ⟨x, by simp, hb, .inl h1⟩
        · exact .inr ⟨x, by simp, hb, .inr h1⟩
      · rw [if_neg hb] at h1; exact .inl h1
    · exact .inr ⟨e, by simp [he], h1⟩

theorem fold_push {α β : Type} (g : Array β → α → β) : ∀ (l : List α) (acc : Array β), (l.foldl (fun acc o => acc.push (g acc o)) acc).size = acc.size + l.length ∧ (∀ j, j < acc.size → (l.foldl (fun acc o => acc.push (g acc o)) acc)[j]? = acc[j]?) ∧
    ∀ m o, l[m]? = some o → ∃ pre : Array β, pre.size = acc.size + m ∧ (∀ j, j < pre.size → (l.foldl (fun acc o => acc.push (g acc o)) acc)[j]? = pre[j]?) ∧ (l.foldl (fun acc o => acc.push (g acc o)) acc)[acc.size + m]? = some (g pre o)
  | [], acc => ⟨by simp, fun _ _ => rfl, fun m o h => by simp at h⟩
  | x :: l, acc => by
    obtain ⟨h1, h2, h3⟩ := fold_push g l (acc.push (g acc x))
    simp only [List.foldl_cons]
    refine ⟨by rw [h1]; simp; omega, fun j hj => ?_, fun m o hm => ?_⟩
    · rw [h2 j (by simp; omega), Array.getElem?_push]
      have : ¬ j = acc.size := by omega
      simp [this]
    · cases m with
      | zero =>
        simp at hm; subst hm
        refine ⟨acc, by simp, fun j hj => ?_, ?_⟩
        · rw [h2 j (by simp; omega), Array.getElem?_push]
          have : ¬ j = acc.size := by omega
          simp [this]
        · rw [Nat.add_zero, h2 acc.size (by simp)]; simp
      | succ m =>
        obtain ⟨pre, p1, p2, p3⟩ := h3 m o (by simpa using hm)
        refine ⟨pre, by rw [p1]; simp; omega, p2, ?_⟩
        rw [show acc.size + (m + 1) = (acc.push (g acc x)).size + m by simp; omega]
        exact p3

theorem ahead_inv {ops : Array Oper} {i j : Nat} {o : Oper} (ho : ops[j]? = some o) (hlt : ∀ e ∈ o.after, Region.binds .any e = true → e.on < j) (h : ahead ops i j = true) : ∃ e ∈ o.after, Region.binds .any e = true ∧ (e.on = i ∨ ahead ops i e.on = true) := by
  have hdef : Region.before ops = ops.toList.foldl (fun acc o => acc.push (o.after.foldl (fun s e => if Region.binds .any e then s ||| 2 ^ e.on ||| acc.getD e.on 0 else s) 0)) #[] := by
    unfold Region.before; rw [← Array.foldl_toList]
  obtain ⟨_, _, h3⟩ := fold_push (fun (acc : Array Nat) (o : Oper) => o.after.foldl (fun s e => if Region.binds .any e then s ||| 2 ^ e.on ||| acc.getD e.on 0 else s) 0) ops.toList #[]
  obtain ⟨pre, p1, p2, p3⟩ := h3 j o (by simpa using ho)
  simp only [Array.size_empty, Nat.zero_add] at p1 p3
  unfold ahead at h
  rw [hdef, p3] at h
  simp only [Option.getD_some] at h
  rw [← Array.foldl_toList] at h
  rcases fold_bits (fun e => Region.binds .any e) (·.on) (fun e => pre.getD e.on 0) i o.after.toList 0 h with h1 | ⟨e, he, hb, h1⟩
  · simp at h1
  · refine ⟨e, by simpa using he, hb, h1.imp id fun hh => ?_⟩
    have hon := hlt e (by simpa using he) hb
    unfold ahead
    rw [hdef, p2 e.on (by omega)]
    simpa using hh

/-- each pair of operations: always in one order, or apart -/
structure DrawOk (ops : Array Oper) : Prop where
  low : ∀ (j : Nat) (y : Oper), ops[j]? = some y → ∀ e ∈ y.after, Region.binds .any e = true → e.on < j
  pair : ∀ (i j : Nat) (x y : Oper), i < j → ops[i]? = some x → ops[j]? = some y → ahead ops i j = true ∨ Oper.apart ops x y = true
theorem drawOk_spec {ops : Array Oper} (h : drawOk ops = true) : DrawOk ops := by
  have hall : ∀ j, j < ops.size → _ := fun j hj => List.all_eq_true.1 h j (List.mem_range.2 hj)
  constructor
  · intro j y hy e he hb
    have h1 := hall j (Array.getElem?_eq_some_iff.1 hy).1
    simp only [hy, Bool.and_eq_true] at h1
    have h2 := Array.all_eq_true_iff_forall_mem.1 h1.1 e he
    simp only [hb, Bool.not_true, Bool.false_or, decide_eq_true_eq] at h2
    exact h2
  · intro i j x y hij hx hy
    have h1 := hall j (Array.getElem?_eq_some_iff.1 hy).1
    simp only [hy, Bool.and_eq_true] at h1
    have h2 := List.all_eq_true.1 h1.2 i (List.mem_range.2 hij)
    simp only [hx, Bool.or_eq_true] at h2
    exact h2
theorem ahead_lt {ops : Array Oper} (hd : DrawOk ops) : ∀ (j i : Nat), j < ops.size → ahead ops i j = true → i < j := by
  intro j
  induction j using Nat.strongRecOn with
  | _ j ih =>
    intro i hj h
    have ho : ops[j]? = some ops[j] := Array.getElem?_eq_getElem hj
    obtain ⟨e, he, hb, h1⟩ := ahead_inv ho (hd.low j _ ho) h
    have hon := hd.low j _ ho e he hb
    rcases h1 with h1 | h1
    · omega
    · have := ih e.on hon i (by omega) h1; omega
/-- what has been done so far holds with each operation all that always come ahead of it -/
theorem ahead_done {ops : Array Oper} (hd : DrawOk ops) {D : Nat → Prop} (hD : ∀ (j : Nat) (o : Oper), ops[j]? = some o → D j → ∀ e ∈ o.after, Region.binds .any e = true → D e.on) : ∀ (j i : Nat) (o : Oper), ops[j]? = some o → (∀ e ∈ o.after, Region.binds .any e = true → D e.on) → ahead ops i j = true → D i := by
  intro j
  induction j using Nat.strongRecOn with
  | _ j ih =>
    intro i o ho hpre h
    obtain ⟨e, he, hb, h1⟩ := ahead_inv ho (hd.low j o ho) h
    have hon := hd.low j o ho e he hb
    rcases h1 with h1 | h1
    · rw [← h1]; exact hpre e he hb
    · have hlt : e.on < ops.size := by have := (Array.getElem?_eq_some_iff.1 ho).1; omega
      have ho2 : ops[e.on]? = some ops[e.on] := Array.getElem?_eq_getElem hlt
      exact ih e.on hon i _ ho2 (hD e.on _ ho2 (hpre e he hb)) h1
end
end Cx
end Go.Proofs.YtfigbldiffjmbaaGreatDoor
