/- Closed runs: what a value and a memory of the executor stand for. -/
import Derived.Test.YtkljlbilhcdjhaaGreatDoorCx
import Derived.Below
import Derived.Laws.IdiomCopy
import Derived.Laws.Cells
namespace Go.Proofs.YtkljlbilhcdjhaaGreatDoor
namespace Cx
open Go

theorem beq0 (n : Nat) : Nat.beq n 0 = decide (n = 0) := by cases n <;> rfl
theorem beqN (n m : Nat) : Nat.beq n m = decide (n = m) := by
  rw [Bool.eq_iff_iff]; simp [Nat.beq_eq]


noncomputable def GF.ap {β γ : Type} (g : GF β γ) (b : β) : γ := GF.rec (fun g => g b) g
noncomputable def PF.ap {α β : Type} (p : PF α β) (F : α → α) (b : β) : β := PF.rec (fun p => p F b) p
noncomputable abbrev selg {α : Type} (i : Nat) (t : N16 α) : α := (selG α i).ap t
noncomputable abbrev selu {α : Type} (i : Nat) (F : α → α) (t : N16 α) : N16 α := (selU α i).ap F t
theorem sel_law {α : Type} (i j : Nat) (hi : i < 16) (hj : j < 16) (F : α → α) (t : N16 α) : selg i (selu j F t) = if i = j then F (selg i t) else selg i t := by
  obtain ⟨c0, c1, c2, c3, c4, c5, c6, c7, c8, c9, c10, c11, c12, c13, c14, c15⟩ := t
  rcases i with _|_|_|_|_|_|_|_|_|_|_|_|_|_|_|_|i <;> first | (exfalso; omega) | (rcases j with _|_|_|_|_|_|_|_|_|_|_|_|_|_|_|_|j <;> first | rfl | (exfalso; omega))
theorem sel_all {α : Type} (i : Nat) (hi : i < 16) (x : α) : selg i (N16.all x) = x := by
  rcases i with _|_|_|_|_|_|_|_|_|_|_|_|_|_|_|_|i <;> first | rfl | (exfalso; omega)
theorem blt_true {a b : Nat} (h : a < b) : Nat.blt a b = true := Nat.ble_eq_true_of_le h
theorem blt_false {a b : Nat} (h : b ≤ a) : Nat.blt a b = false := by
  cases e : Nat.blt a b with
  | false => rfl
  | true => have : a + 1 ≤ b := Nat.le_of_ble_eq_true e; omega
section
variable {α : Type} (t : T α) (x : α)
theorem T.get_def (n : Nat) : t.get n = (gfn α n).ap t := rfl
theorem T.put_def (n : Nat) : T.put x t n = (pfn α n).ap (setTo x) t := rfl
theorem gfn_1 {n : Nat} (h : n < 16) : gfn α n = gfn1 α n := by unfold gfn; rw [blt_true h]
theorem gfn_2 {n : Nat} (h : 16 ≤ n) (h' : n < 272) : gfn α n = gfn2 α (n - 16) := by unfold gfn; rw [blt_false h, blt_true h']; rfl
theorem gfn_3 {n : Nat} (h : 272 ≤ n) (h' : n < 4368) : gfn α n = gfn3 α (n - 272) := by unfold gfn; rw [blt_false (show 16 ≤ n by omega), blt_false h, blt_true h']; rfl
theorem gfn_4 {n : Nat} (h : 4368 ≤ n) (h' : n < 69904) : gfn α n = gfn4 α (n - 4368) := by unfold gfn; rw [blt_false (show 16 ≤ n by omega), blt_false (show 272 ≤ n by omega), blt_false h, blt_true h']; rfl
theorem gfn_5 {n : Nat} (h : 69904 ≤ n) : gfn α n = GF.mk (fun t => t.f n) := by unfold gfn; rw [blt_false (show 16 ≤ n by omega), blt_false (show 272 ≤ n by omega), blt_false (show 4368 ≤ n by omega), blt_false h]
theorem pfn_1 {n : Nat} (h : n < 16) : pfn α n = pfn1 α n := by unfold pfn; rw [blt_true h]
theorem pfn_2 {n : Nat} (h : 16 ≤ n) (h' : n < 272) : pfn α n = pfn2 α (n - 16) := by unfold pfn; rw [blt_false h, blt_true h']; rfl
theorem pfn_3 {n : Nat} (h : 272 ≤ n) (h' : n < 4368) : pfn α n = pfn3 α (n - 272) := by unfold pfn; rw [blt_false (show 16 ≤ n by omega), blt_false h, blt_true h']; rfl
theorem pfn_4 {n : Nat} (h : 4368 ≤ n) (h' : n < 69904) : pfn α n = pfn4 α (n - 4368) := by unfold pfn; rw [blt_false (show 16 ≤ n by omega), blt_false (show 272 ≤ n by omega), blt_false h, blt_true h']; rfl
theorem pfn_5 {n : Nat} (h : 69904 ≤ n) : pfn α n = PF.mk (fun F t => T.uf n F t) := by unfold pfn; rw [blt_false (show 16 ≤ n by omega), blt_false (show 272 ≤ n by omega), blt_false (show 4368 ≤ n by omega), blt_false h]
theorem get_1 (n : Nat) : (gfn1 α n).ap t = selg n t.a := by unfold gfn1 selg; cases selG (Option α) n; rfl
theorem get_2 (n : Nat) : (gfn2 α n).ap t = selg (n % 16) (selg (n / 16) t.b) := by
  show (gfn2 α n).ap t = selg (Nat.mod n 16) (selg (Nat.div n 16) t.b)
  unfold gfn2 selg; generalize Nat.div n 16 = i, Nat.mod n 16 = j
  cases selG (N16 (Option α)) i; cases selG (Option α) j; rfl
theorem get_3 (n : Nat) : (gfn3 α n).ap t = selg (n % 16) (selg (n / 16 % 16) (selg (n / 256) t.c)) := by
  show (gfn3 α n).ap t = selg (Nat.mod n 16) (selg (Nat.mod (Nat.div n 16) 16) (selg (Nat.div n 256) t.c))
  unfold gfn3 selg; generalize Nat.mod n 16 = i, Nat.mod (Nat.div n 16) 16 = j, Nat.div n 256 = k
  cases selG (N16 (N16 (Option α))) k; cases selG (N16 (Option α)) j; cases selG (Option α) i; rfl
theorem get_4 (n : Nat) : (gfn4 α n).ap t = selg (n % 16) (selg (n / 16 % 16) (selg (n / 256 % 16) (selg (n / 4096) t.d))) := by
  show (gfn4 α n).ap t = selg (Nat.mod n 16) (selg (Nat.mod (Nat.div n 16) 16) (selg (Nat.mod (Nat.div n 256) 16) (selg (Nat.div n 4096) t.d)))
  unfold gfn4 selg; generalize Nat.mod n 16 = i, Nat.mod (Nat.div n 16) 16 = j, Nat.mod (Nat.div n 256) 16 = k, Nat.div n 4096 = l
  cases selG (N16 (N16 (N16 (Option α)))) l; cases selG (N16 (N16 (Option α))) k; cases selG (N16 (Option α)) j; cases selG (Option α) i; rfl
variable (F : Option α → Option α)
theorem put_1 (n : Nat) : (pfn1 α n).ap F t = T.ua (selu n F) t := by unfold pfn1 selu; cases selU (Option α) n; rfl
theorem put_2 (n : Nat) : (pfn2 α n).ap F t = T.ub (selu (n / 16) (selu (n % 16) F)) t := by
  show (pfn2 α n).ap F t = T.ub (selu (Nat.div n 16) (selu (Nat.mod n 16) F)) t
  unfold pfn2 selu; generalize Nat.div n 16 = i, Nat.mod n 16 = j
  cases selU (N16 (Option α)) i; cases selU (Option α) j; rfl
theorem put_3 (n : Nat) : (pfn3 α n).ap F t = T.uc (selu (n / 256) (selu (n / 16 % 16) (selu (n % 16) F))) t := by
  show (pfn3 α n).ap F t = T.uc (selu (Nat.div n 256) (selu (Nat.mod (Nat.div n 16) 16) (selu (Nat.mod n 16) F))) t
  unfold pfn3 selu; generalize Nat.mod n 16 = i, Nat.mod (Nat.div n 16) 16 = j, Nat.div n 256 = k
  cases selU (N16 (N16 (Option α))) k; cases selU (N16 (Option α)) j; cases selU (Option α) i; rfl
theorem put_4 (n : Nat) : (pfn4 α n).ap F t = T.ud (selu (n / 4096) (selu (n / 256 % 16) (selu (n / 16 % 16) (selu (n % 16) F)))) t := by
  show (pfn4 α n).ap F t = T.ud (selu (Nat.div n 4096) (selu (Nat.mod (Nat.div n 256) 16) (selu (Nat.mod (Nat.div n 16) 16) (selu (Nat.mod n 16) F)))) t
  unfold pfn4 selu; generalize Nat.mod n 16 = i, Nat.mod (Nat.div n 16) 16 = j, Nat.mod (Nat.div n 256) 16 = k, Nat.div n 4096 = l
  cases selU (N16 (N16 (N16 (Option α)))) l; cases selU (N16 (N16 (Option α))) k; cases selU (N16 (Option α)) j; cases selU (Option α) i; rfl
theorem ua_b (G : N16 (Option α) → N16 (Option α)) : (T.ua G t).b = t.b ∧ (T.ua G t).c = t.c ∧ (T.ua G t).d = t.d ∧ (T.ua G t).f = t.f ∧ (T.ua G t).a = G t.a := by cases t; exact ⟨rfl, rfl, rfl, rfl, rfl⟩
theorem ub_b (G : N16 (N16 (Option α)) → N16 (N16 (Option α))) : (T.ub G t).a = t.a ∧ (T.ub G t).c = t.c ∧ (T.ub G t).d = t.d ∧ (T.ub G t).f = t.f ∧ (T.ub G t).b = G t.b := by cases t; exact ⟨rfl, rfl, rfl, rfl, rfl⟩
theorem uc_b (G : N16 (N16 (N16 (Option α))) → N16 (N16 (N16 (Option α)))) : (T.uc G t).a = t.a ∧ (T.uc G t).b = t.b ∧ (T.uc G t).d = t.d ∧ (T.uc G t).f = t.f ∧ (T.uc G t).c = G t.c := by cases t; exact ⟨rfl, rfl, rfl, rfl, rfl⟩
theorem ud_b (G : N16 (N16 (N16 (N16 (Option α)))) → N16 (N16 (N16 (N16 (Option α))))) : (T.ud G t).a = t.a ∧ (T.ud G t).b = t.b ∧ (T.ud G t).c = t.c ∧ (T.ud G t).f = t.f ∧ (T.ud G t).d = G t.d := by cases t; exact ⟨rfl, rfl, rfl, rfl, rfl⟩
theorem uf_b (n : Nat) : (T.uf n F t).a = t.a ∧ (T.uf n F t).b = t.b ∧ (T.uf n F t).c = t.c ∧ (T.uf n F t).d = t.d ∧ (T.uf n F t).f = fun m => cond (Nat.beq m n) (F (t.f m)) (t.f m) := by cases t; exact ⟨rfl, rfl, rfl, rfl, rfl⟩
end
theorem setTo_eq {α : Type} (x : α) (y : Option α) : setTo x y = some x := rfl
theorem get_put_1 {α : Type} (x : α) (t : T α) (n m : Nat) (h : n < 16) : (T.put x t n).get m = if m = n then some x else t.get m := by
  rw [T.get_def, T.get_def, T.put_def, pfn_1 h, put_1]
  have q := ua_b t (selu n (setTo x))
  generalize T.ua (selu n (setTo x)) t = t2 at q ⊢
  obtain ⟨e1, e2, e3, e4, e5⟩ := q
  rcases Nat.lt_or_ge m 16 with g1 | g1
  · rw [gfn_1 g1, get_1, get_1, e5, sel_law m n g1 h, setTo_eq]
  rcases Nat.lt_or_ge m 272 with g2 | g2
  · rw [if_neg (by omega), gfn_2 g1 g2, get_2, get_2, e1]
  rcases Nat.lt_or_ge m 4368 with g3 | g3
  · rw [if_neg (by omega), gfn_3 g2 g3, get_3, get_3, e2]
  rcases Nat.lt_or_ge m 69904 with g4 | g4
  · rw [if_neg (by omega), gfn_4 g3 g4, get_4, get_4, e3]
  rw [if_neg (by omega), gfn_5 g4]
  show t2.f m = t.f m
  rw [e4]
theorem get_put_2 {α : Type} (x : α) (t : T α) (n m : Nat) (h : 16 ≤ n) (h2 : n < 272) : (T.put x t n).get m = if m = n then some x else t.get m := by
  rw [T.get_def, T.get_def, T.put_def, pfn_2 h h2, put_2]
  have q := ub_b t (selu ((n - 16) / 16) (selu ((n - 16) % 16) (setTo x)))
  generalize T.ub (selu ((n - 16) / 16) (selu ((n - 16) % 16) (setTo x))) t = t2 at q ⊢
  obtain ⟨e1, e2, e3, e4, e5⟩ := q
  rcases Nat.lt_or_ge m 16 with g1 | g1
  · rw [if_neg (by omega), gfn_1 g1, get_1, get_1, e1]
  rcases Nat.lt_or_ge m 272 with g2 | g2
  · rw [gfn_2 g1 g2, get_2, get_2, e5]
    rw [sel_law ((m - 16) / 16) ((n - 16) / 16) (by omega) (by omega)]
    by_cases q0 : (m - 16) / 16 = (n - 16) / 16
    · rw [if_pos q0]
      rw [sel_law ((m - 16) % 16) ((n - 16) % 16) (by omega) (by omega)]
      by_cases q1 : (m - 16) % 16 = (n - 16) % 16
      · rw [if_pos q1]
        rw [if_pos (by omega), setTo_eq]
      · rw [if_neg q1, if_neg (fun e => q1 (by rw [e]))]
    · rw [if_neg q0, if_neg (fun e => q0 (by rw [e]))]
  rcases Nat.lt_or_ge m 4368 with g3 | g3
  · rw [if_neg (by omega), gfn_3 g2 g3, get_3, get_3, e2]
  rcases Nat.lt_or_ge m 69904 with g4 | g4
  · rw [if_neg (by omega), gfn_4 g3 g4, get_4, get_4, e3]
  rw [if_neg (by omega), gfn_5 g4]
  show t2.f m = t.f m
  rw [e4]
theorem get_put_3 {α : Type} (x : α) (t : T α) (n m : Nat) (h : 272 ≤ n) (h2 : n < 4368) : (T.put x t n).get m = if m = n then some x else t.get m := by
  rw [T.get_def, T.get_def, T.put_def, pfn_3 h h2, put_3]
  have q := uc_b t (selu ((n - 272) / 256) (selu ((n - 272) / 16 % 16) (selu ((n - 272) % 16) (setTo x))))
  generalize T.uc (selu ((n - 272) / 256) (selu ((n - 272) / 16 % 16) (selu ((n - 272) % 16) (setTo x)))) t = t2 at q ⊢
  obtain ⟨e1, e2, e3, e4, e5⟩ := q
  rcases Nat.lt_or_ge m 16 with g1 | g1
  · rw [if_neg (by omega), gfn_1 g1, get_1, get_1, e1]
  rcases Nat.lt_or_ge m 272 with g2 | g2
  · rw [if_neg (by omega), gfn_2 g1 g2, get_2, get_2, e2]
  rcases Nat.lt_or_ge m 4368 with g3 | g3
  · rw [gfn_3 g2 g3, get_3, get_3, e5]
    rw [sel_law ((m - 272) / 256) ((n - 272) / 256) (by omega) (by omega)]
    by_cases q0 : (m - 272) / 256 = (n - 272) / 256
    · rw [if_pos q0]
      rw [sel_law ((m - 272) / 16 % 16) ((n - 272) / 16 % 16) (by omega) (by omega)]
      by_cases q1 : (m - 272) / 16 % 16 = (n - 272) / 16 % 16
      · rw [if_pos q1]
        rw [sel_law ((m - 272) % 16) ((n - 272) % 16) (by omega) (by omega)]
        by_cases q2 : (m - 272) % 16 = (n - 272) % 16
        · rw [if_pos q2]
          rw [if_pos (by omega), setTo_eq]
        · rw [if_neg q2, if_neg (fun e => q2 (by rw [e]))]
      · rw [if_neg q1, if_neg (fun e => q1 (by rw [e]))]
    · rw [if_neg q0, if_neg (fun e => q0 (by rw [e]))]
  rcases Nat.lt_or_ge m 69904 with g4 | g4
  · rw [if_neg (by omega), gfn_4 g3 g4, get_4, get_4, e3]
  rw [if_neg (by omega), gfn_5 g4]
  show t2.f m = t.f m
  rw [e4]
theorem get_put_4 {α : Type} (x : α) (t : T α) (n m : Nat) (h : 4368 ≤ n) (h2 : n < 69904) : (T.put x t n).get m = if m = n then some x else t.get m := by
  rw [T.get_def, T.get_def, T.put_def, pfn_4 h h2, put_4]
  have q := ud_b t (selu ((n - 4368) / 4096) (selu ((n - 4368) / 256 % 16) (selu ((n - 4368) / 16 % 16) (selu ((n - 4368) % 16) (setTo x)))))
  generalize T.ud (selu ((n - 4368) / 4096) (selu ((n - 4368) / 256 % 16) (selu ((n - 4368) / 16 % 16) (selu ((n - 4368) % 16) (setTo x))))) t = t2 at q ⊢
  obtain ⟨e1, e2, e3, e4, e5⟩ := q
  rcases Nat.lt_or_ge m 16 with g1 | g1
  · rw [if_neg (by omega), gfn_1 g1, get_1, get_1, e1]
  rcases Nat.lt_or_ge m 272 with g2 | g2
  · rw [if_neg (by omega), gfn_2 g1 g2, get_2, get_2, e2]
  rcases Nat.lt_or_ge m 4368 with g3 | g3
  · rw [if_neg (by omega), gfn_3 g2 g3, get_3, get_3, e3]
  rcases Nat.lt_or_ge m 69904 with g4 | g4
  · rw [gfn_4 g3 g4, get_4, get_4, e5]
    rw [sel_law ((m - 4368) / 4096) ((n - 4368) / 4096) (by omega) (by omega)]
    by_cases q0 : (m - 4368) / 4096 = (n - 4368) / 4096
    · rw [if_pos q0]
      rw [sel_law ((m - 4368) / 256 % 16) ((n - 4368) / 256 % 16) (by omega) (by omega)]
      by_cases q1 : (m - 4368) / 256 % 16 = (n - 4368) / 256 % 16
      · rw [if_pos q1]
        rw [sel_law ((m - 4368) / 16 % 16) ((n - 4368) / 16 % 16) (by omega) (by omega)]
        by_cases q2 : (m - 4368) / 16 % 16 = (n - 4368) / 16 % 16
        · rw [if_pos q2]
          rw [sel_law ((m - 4368) % 16) ((n - 4368) % 16) (by omega) (by omega)]
          by_cases q3 : (m - 4368) % 16 = (n - 4368) % 16
          · rw [if_pos q3]
            rw [if_pos (by omega), setTo_eq]
          · rw [if_neg q3, if_neg (fun e => q3 (by rw [e]))]
        · rw [if_neg q2, if_neg (fun e => q2 (by rw [e]))]
      · rw [if_neg q1, if_neg (fun e => q1 (by rw [e]))]
    · rw [if_neg q0, if_neg (fun e => q0 (by rw [e]))]
  rw [if_neg (by omega), gfn_5 g4]
  show t2.f m = t.f m
  rw [e4]
theorem get_put_5 {α : Type} (x : α) (t : T α) (n m : Nat) (h : 69904 ≤ n) : (T.put x t n).get m = if m = n then some x else t.get m := by
  rw [T.get_def, T.get_def, T.put_def, pfn_5 h]
  show (gfn α m).ap (T.uf n (setTo x) t) = _
  have q := uf_b t (setTo x) n
  generalize T.uf n (setTo x) t = t2 at q ⊢
  obtain ⟨e1, e2, e3, e4, e5⟩ := q
  rcases Nat.lt_or_ge m 16 with g1 | g1
  · rw [if_neg (by omega), gfn_1 g1, get_1, get_1, e1]
  rcases Nat.lt_or_ge m 272 with g2 | g2
  · rw [if_neg (by omega), gfn_2 g1 g2, get_2, get_2, e2]
  rcases Nat.lt_or_ge m 4368 with g3 | g3
  · rw [if_neg (by omega), gfn_3 g2 g3, get_3, get_3, e3]
  rcases Nat.lt_or_ge m 69904 with g4 | g4
  · rw [if_neg (by omega), gfn_4 g3 g4, get_4, get_4, e4]
  rw [gfn_5 g4]
  show t2.f m = if m = n then some x else t.f m
  rw [e5]
  by_cases hq : m = n
  · subst hq; simp [setTo]
  · have : Nat.beq m n = false := by
      cases e : Nat.beq m n with
      | false => rfl
      | true => exact absurd (Nat.eq_of_beq_eq_true e) hq
    simp [this, hq]
theorem T.get_put {α : Type} (x : α) (t : T α) (n m : Nat) : (T.put x t n).get m = if m = n then some x else t.get m := by
  rcases Nat.lt_or_ge n 16 with h1 | h1
  · exact get_put_1 x t n m h1
  rcases Nat.lt_or_ge n 272 with h2 | h2
  · exact get_put_2 x t n m h1 h2
  rcases Nat.lt_or_ge n 4368 with h3 | h3
  · exact get_put_3 x t n m h2 h3
  rcases Nat.lt_or_ge n 69904 with h4 | h4
  · exact get_put_4 x t n m h3 h4
  exact get_put_5 x t n m h4
theorem T.get_nil {α : Type} (m : Nat) : (T.nil : T α).get m = none := by
  rw [T.get_def]
  rcases Nat.lt_or_ge m 16 with h1 | h1
  · rw [gfn_1 h1, get_1]; exact sel_all _ h1 _
  · rcases Nat.lt_or_ge m 272 with h2 | h2
    · rw [gfn_2 h1 h2, get_2]; show selg _ (selg _ (N16.all (N16.all none))) = none; rw [sel_all _ (by omega), sel_all _ (by omega)]
    · rcases Nat.lt_or_ge m 4368 with h3 | h3
      · rw [gfn_3 h2 h3, get_3]; show selg _ (selg _ (selg _ (N16.all (N16.all (N16.all none))))) = none; rw [sel_all _ (by omega), sel_all _ (by omega), sel_all _ (by omega)]
      · rcases Nat.lt_or_ge m 69904 with h4 | h4
        · rw [gfn_4 h3 h4, get_4]; show selg _ (selg _ (selg _ (selg _ (N16.all (N16.all (N16.all (N16.all none))))))) = none; rw [sel_all _ (by omega), sel_all _ (by omega), sel_all _ (by omega), sel_all _ (by omega)]
        · rw [gfn_5 h4]; rfl

/-- Where a block of the executor lies: a block of the model's, the first cell, how many cells there are. -/
abbrev Mu := Nat → Option (Nat × Nat × Nat)

mutual
inductive VR (μ : Mu) : Value → Value → Prop
  | bool (b : Bool) : VR μ (.bool b) (.bool b)
  | int (k : IntKind) (n : Int) : VR μ (.int k n) (.int k n)
  | float (k : FloatKind) (n : Nat) : VR μ (.float k n) (.float k n)
  | string (s : ByteArray) : VR μ (.string s) (.string s)
  | nilPtr : VR μ (.pointer none) (.pointer none)
  | ptr {k o b p s : Nat} (h : μ k = some (b, p, s)) : VR μ (.pointer (some ⟨k, o, none⟩)) (.pointer (some ⟨b, p + o, none⟩))
  | nilSlice (c : Nat) : VR μ (.slice none 0 c) (.slice none 0 0)
  | slice {k o n es b p s cap adr : Nat} (h : μ k = some (b, p, s)) (hn : n ≤ cap) (hc : cap = 0 ∨ adr = p + o ∧ o + cap * es ≤ s) (he : 0 < es) : VR μ (.slice (some ⟨k, o, none⟩) n es) (.slice (some ⟨b, adr, none⟩) n cap)
  | nilMap : VR μ (.map none) (.map none)
  | map {k b p s : Nat} (h : μ k = some (b, p, s)) : VR μ (.map (some k)) (.map (some b))
  | nilFunc : VR μ .nilFunc .nilFunc
  | nilIface : VR μ .nilIface .nilIface
  | iface (t : TypeId) {v v' : Value} (h : VR μ v v') : VR μ (.iface t v) (.iface t v')
  | func (f : FuncId) {a a' b b' : Array Value} (h1 : VRL μ a.toList a'.toList) (h2 : VRL μ b.toList b'.toList) : VR μ (.func (.func f) a b) (.func (.func f) a' b')
  | yield {l b p s : Nat} (h : μ l = some (b, p, s)) : VR μ (.func (.yield l) #[] #[]) (.func (.yield b) #[] #[])
  | agg {a a' : Array Value} (h : VRL μ a.toList a'.toList) : VR μ (.agg a) (.agg a')
  | tuple {a a' : Array Value} (h : VRL μ a.toList a'.toList) : VR μ (.tuple a) (.tuple a')
inductive VRL (μ : Mu) : List Value → List Value → Prop
  | nil : VRL μ [] []
  | cons {v v' : Value} {l l' : List Value} (h : VR μ v v') (t : VRL μ l l') : VRL μ (v :: l) (v' :: l')
end

def Mu.le (μ μ' : Mu) : Prop := ∀ k x, μ k = some x → μ' k = some x
theorem Mu.le_refl (μ : Mu) : Mu.le μ μ := fun _ _ h => h
theorem Mu.le_trans {μ μ' μ'' : Mu} (h : Mu.le μ μ') (h' : Mu.le μ' μ'') : Mu.le μ μ'' := fun k x e => h' k x (h k x e)

mutual
theorem VR.mono {μ μ' : Mu} (hm : Mu.le μ μ') {v v' : Value} (h : VR μ v v') : VR μ' v v' := by
  cases h with
  | bool b => exact .bool b
  | int k n => exact .int k n
  | float k n => exact .float k n
  | string s => exact .string s
  | nilPtr => exact .nilPtr
  | ptr h => exact .ptr (hm _ _ h)
  | nilSlice c => exact .nilSlice c
  | slice h hn hc he => exact .slice (hm _ _ h) hn hc he
  | nilMap => exact .nilMap
  | map h => exact .map (hm _ _ h)
  | nilFunc => exact .nilFunc
  | nilIface => exact .nilIface
  | iface t h => exact .iface t (VR.mono hm h)
  | func f h1 h2 => exact .func f (VRL.mono hm h1) (VRL.mono hm h2)
  | yield h => exact .yield (hm _ _ h)
  | agg h => exact .agg (VRL.mono hm h)
  | tuple h => exact .tuple (VRL.mono hm h)
theorem VRL.mono {μ μ' : Mu} (hm : Mu.le μ μ') {l l' : List Value} (h : VRL μ l l') : VRL μ' l l' := by
  cases h with
  | nil => exact .nil
  | cons h t => exact .cons (VR.mono hm h) (VRL.mono hm t)
end

theorem VR.scalar {μ : Mu} {v v' : Value} (h : VR μ v v') (hs : scalar v = true) : v' = v := by
  cases h <;> first | rfl | (simp [Cx.scalar] at hs)
theorem VRL.length {μ : Mu} {l l' : List Value} : VRL μ l l' → l'.length = l.length := by
  intro h
  induction l generalizing l' with
  | nil => cases h; rfl
  | cons v l ih => cases h with | cons h t => simp [ih t]
theorem VRL.get {μ : Mu} {l l' : List Value} (h : VRL μ l l') : ∀ (i : Nat) (v : Value), l[i]? = some v → ∃ v', l'[i]? = some v' ∧ VR μ v v' := by
  induction l generalizing l' with
  | nil => intro i v e; simp at e
  | cons x l ih =>
    cases h with
    | cons h t =>
      intro i v e
      cases i with
      | zero => simp at e; subst e; exact ⟨_, rfl, h⟩
      | succ i => simp at e ⊢; exact ih t i v e
theorem VRL.of {μ : Mu} : ∀ {l l' : List Value}, l'.length = l.length → (∀ (i : Nat) (v : Value), l[i]? = some v → ∃ v', l'[i]? = some v' ∧ VR μ v v') → VRL μ l l'
  | [], [], _, _ => .nil
  | [], _ :: _, h, _ => by simp at h
  | _ :: _, [], h, _ => by simp at h
  | v :: l, v' :: l', h, hh => by
    obtain ⟨x, hx, hv⟩ := hh 0 v rfl
    simp at hx; subst hx
    exact .cons hv (VRL.of (by simpa using h) fun i u hu => hh (i + 1) u (by simpa using hu))
theorem VRL.append {μ : Mu} {a a' b b' : List Value} (h : VRL μ a a') (k : VRL μ b b') : VRL μ (a ++ b) (a' ++ b') := by
  induction a generalizing a' with
  | nil => cases h; exact k
  | cons v l ih => cases h with | cons h t => exact .cons h (ih t)
theorem VRL.scalars {μ : Mu} {l l' : List Value} (h : VRL μ l l') (hs : l.all scalar = true) : l' = l := by
  induction l generalizing l' with
  | nil => cases h; rfl
  | cons v l ih => cases h with | cons h t => simp at hs; rw [h.scalar hs.1, ih t (by simpa using hs.2)]
theorem VRL.refl {μ : Mu} : ∀ {l : List Value}, (∀ v ∈ l, VR μ v v) → VRL μ l l
  | [], _ => .nil
  | v :: l, h => .cons (h v (by simp)) (VRL.refl fun u hu => h u (by simp [hu]))

theorem simple_refl (μ : Mu) {v : Value} (h : simple v = true) : VR μ v v := by
  unfold simple at h
  split at h <;> first | constructor | (exact absurd h (by simp))
theorem constOk_refl (μ : Mu) {v : Value} (h : constOk v = true) : VR μ v v := by
  unfold constOk at h
  split at h
  · exact .agg (VRL.refl fun v hv => simple_refl μ (List.all_eq_true.1 h v hv))
  · exact .tuple (VRL.refl fun v hv => simple_refl μ (List.all_eq_true.1 h v hv))
  · exact simple_refl μ h
theorem undef_refl (μ : Mu) : VR μ undef undef := .tuple .nil
theorem VR.cells {μ : Mu} {v v' : Value} (h : VR μ v v') : VRL μ v.cells.toList v'.cells.toList := by
  cases h with
  | agg h => exact h
  | _ => exact .cons (by constructor <;> assumption) .nil
end Cx
end Go.Proofs.YtkljlbilhcdjhaaGreatDoor
namespace Go.Proofs.YtkljlbilhcdjhaaGreatDoor
set_option linter.unusedVariables false
namespace Cx
open Go

def LObj.live : LObj → Bool
  | .dead => false
  | .other => false
  | _ => true
def LObj.isRo : LObj → Bool
  | .ro _ => true
  | _ => false

/-- the temporaries -/
structure TR (μ : Mu) (e : En) (tmps : Array Value) : Prop where
  size : tmps.size = e.sz
  get : ∀ t v, e.t.get t = some v → ∃ v', tmps[t]? = some v' ∧ VR μ v v'
inductive ER (μ : Mu) : List (Value × Value) → List MapEntry → Prop
  | nil : ER μ [] []
  | cons {k v k' v' : Value} {born : Nat} {l : List (Value × Value)} {l' : List MapEntry} (hk : scalar k = true) (h1 : VR μ k k') (h2 : VR μ v v') (t : ER μ l l') : ER μ ((k, v) :: l) (⟨k', v', born⟩ :: l')
/-- what kind of key it is -/
def kindV : Value → Value
  | .int k _ => .int k 0
  | .string _ => .string ⟨#[]⟩
  | .bool _ => .bool false
  | v => v
/-- a map's entries, in whatever order: keys apart and of one kind, stamps apart and elder than the clock -/
structure ME (μ : Mu) (es : List (Value × Value)) (ents : List MapEntry) (clock : Nat) : Prop where
  nd : (es.map (·.1)).Nodup
  kd : ∀ x ∈ es, ∀ y ∈ es, kindV x.1 = kindV y.1
  rel : ∃ l, l.Perm ents ∧ ER μ es l
  old : ∀ en ∈ ents, en.born < clock
  bn : (ents.map (·.born)).Nodup
def LoopR : Bool → Option Code → Loop → Prop
  | false, p, l => l.state = .ready ∧ p = none ∧ l.pending = none
  | true, none, l => l.state = .busy
  | true, some c, l => l.state = .done ∧ l.pending = some c

def OR (μ : Mu) (w : World) (b p s : Nat) : LObj → Prop
  | .cells vs => ∃ c ty lo hi, w.heap[b]? = some (.cells c ty (lo, hi)) ∧ p + s ≤ c.size ∧ vs.length ≤ s ∧ (lo ≤ hi ∧ ∀ i, i < c.size → ¬ (lo ≤ i ∧ i < hi)) ∧ ∀ (i : Nat) (v : Value), vs[i]? = some v → ∃ v', c[p + i]? = some v' ∧ VR μ v v'
  | .ro vs => ∃ c ty fr, w.heap[b]? = some (.cells c ty fr) ∧ ∀ (i : Nat) (v : Value), vs[i]? = some v → ∃ v', c[p + i]? = some v' ∧ VR μ v v'
  | .map es => ∃ ents clock, w.heap[b]? = some (.map ents clock) ∧ ME μ es ents.toList clock
  | .defs => w.heap[b]? = some (.deferred (some []))
  | .kmap r => p = 0 ∧ ∃ bm ty fr, (∃ p' s', μ r = some (bm, p', s')) ∧ w.heap[b]? = some (.cells #[.map (some bm)] ty fr)
  | .loop busy pend e ps as bd => ∃ l : Loop, w.heap[b]? = some (.loop l) ∧ LoopR busy pend l ∧ l.params.toList = ps ∧ l.assign = as ∧ l.body = bd ∧ TR μ e l.tmps
  | .dead => True
  | .other => True

theorem TR.mono {μ μ' : Mu} (hm : Mu.le μ μ') {e : En} {a : Array Value} (h : TR μ e a) : TR μ' e a :=
  ⟨h.size, fun t v e => let ⟨v', h1, h2⟩ := h.get t v e; ⟨v', h1, h2.mono hm⟩⟩
theorem ER.mono {μ μ' : Mu} (hm : Mu.le μ μ') {l : List (Value × Value)} {l' : List MapEntry} (h : ER μ l l') : ER μ' l l' := by
  induction h with
  | nil => exact .nil
  | cons hk h1 h2 _ ih => exact .cons hk (h1.mono hm) (h2.mono hm) ih
theorem ME.mono {μ μ' : Mu} (hm : Mu.le μ μ') {l : List (Value × Value)} {l' : List MapEntry} {c : Nat} (h : ME μ l l' c) : ME μ' l l' c :=
  ⟨h.nd, h.kd, let ⟨q, h1, h2⟩ := h.rel; ⟨q, h1, h2.mono hm⟩, h.old, h.bn⟩
theorem OR.mono {μ μ' : Mu} (hm : Mu.le μ μ') {w : World} {b p s : Nat} {o : LObj} (h : OR μ w b p s o) : OR μ' w b p s o := by
  cases o with
  | cells vs => obtain ⟨c, ty, lo, hi, h1, h2, h3, h4, h5⟩ := h; exact ⟨c, ty, lo, hi, h1, h2, h3, h4, fun i v e => let ⟨v', a, b⟩ := h5 i v e; ⟨v', a, b.mono hm⟩⟩
  | ro vs => obtain ⟨c, ty, fr, h1, h5⟩ := h; exact ⟨c, ty, fr, h1, fun i v e => let ⟨v', a, b⟩ := h5 i v e; ⟨v', a, b.mono hm⟩⟩
  | map es => obtain ⟨x, y, h1, h2⟩ := h; exact ⟨x, y, h1, h2.mono hm⟩
  | kmap r => obtain ⟨h1, bm, ty, fr, ⟨p', s', h2⟩, h3⟩ := h; exact ⟨h1, bm, ty, fr, ⟨p', s', hm _ _ h2⟩, h3⟩
  | loop busy pend e ps as bd => obtain ⟨l, h1, h2, h3, h4, h5, h6⟩ := h; exact ⟨l, h1, h2, h3, h4, h5, h6.mono hm⟩
  | defs => exact h
  | dead => trivial
  | other => trivial
/-- an object reads as it did where its block is as it was -/
theorem OR.same {μ : Mu} {w w' : World} {b p s : Nat} {o : LObj} (h : OR μ w b p s o) (hb : w'.heap[b]? = w.heap[b]?) : OR μ w' b p s o := by
  cases o with
  | cells vs => obtain ⟨c, ty, lo, hi, h1, h2⟩ := h; exact ⟨c, ty, lo, hi, hb.trans h1, h2⟩
  | ro vs => obtain ⟨c, ty, fr, h1, h2⟩ := h; exact ⟨c, ty, fr, hb.trans h1, h2⟩
  | map es => obtain ⟨x, y, h1, h2⟩ := h; exact ⟨x, y, hb.trans h1, h2⟩
  | kmap r => obtain ⟨h1, bm, ty, fr, h2, h3⟩ := h; exact ⟨h1, bm, ty, fr, h2, hb.trans h3⟩
  | loop busy pend e ps as bd => obtain ⟨l, h1, h2⟩ := h; exact ⟨l, hb.trans h1, h2⟩
  | defs => exact hb.trans h
  | dead => trivial
  | other => trivial

/-- The memory V of the executor, of n blocks, lies in the model's world; what it may change lies from B on. -/
structure HR (B : Nat) (μ : Mu) (n : Nat) (V : Nat → Option LObj) (w : World) : Prop where
  lt : ∀ k b p s, μ k = some (b, p, s) → k < n ∧ b < w.heap.size
  obj : ∀ k b p s o, μ k = some (b, p, s) → V k = some o → OR μ w b p s o
  inj : ∀ k k' b p s p' s' o o', μ k = some (b, p, s) → μ k' = some (b, p', s') → V k = some o → V k' = some o' → o.live = true → o'.live = true → k = k'
  own : ∀ k b p s o, μ k = some (b, p, s) → V k = some o → o.live = true → o.isRo = true ∨ B ≤ b

theorem HR.heap {B : Nat} {μ : Mu} {n : Nat} {V : Nat → Option LObj} {w w' : World} (h : HR B μ n V w) (he : w'.heap = w.heap) : HR B μ n V w' :=
  ⟨fun k b p s e => he ▸ h.lt k b p s e, fun k b p s o e1 e2 => (h.obj k b p s o e1 e2).same (by rw [he]), h.inj, h.own⟩

/-- How both go on. -/
structure St (μ : Mu) (h : Hp) (w : World) (μ' : Mu) (h' : Hp) (w' : World) : Prop where
  le : Mu.le μ μ'
  dom : ∀ k, k < h.n → μ' k = μ k
  n : h.n ≤ h'.n
  low : h'.low ≤ h.low
  kept : ∀ k, k < h.n → k < h'.low → h'.t.get k = h.t.get k
  alive : ∀ k o, k < h.n → h'.t.get k = some o → o.live = true → ∃ o0, h.t.get k = some o0 ∧ o0.live = true ∧ (o0.isRo = o.isRo)
  os : w'.os = w.os
  tape : w'.tape = w.tape
  output : w'.output = w.output
  size : w.heap.size ≤ w'.heap.size
  frame : ∀ b, b < w.heap.size → (∀ k p s o, μ k = some (b, p, s) → h.t.get k = some o → o.live = true → o.isRo = true ∨ k < h'.low) → w'.heap[b]? = w.heap[b]?
  fresh : ∀ k b p s, h.n ≤ k → μ' k = some (b, p, s) → w.heap.size ≤ b ∨ ∃ k0 p0 s0 o0, μ k0 = some (b, p0, s0) ∧ h.t.get k0 = some o0 ∧ o0.live = true ∧ o0.isRo = false ∧ h'.low ≤ k0

theorem St.refl (μ : Mu) (h : Hp) (w : World) (hb : ∀ k x, μ k = some x → k < h.n) : St μ h w μ h w :=
  ⟨Mu.le_refl _, fun _ _ => rfl, Nat.le_refl _, Nat.le_refl _, fun _ _ _ => rfl, fun k o _ e hl => ⟨o, e, hl, rfl⟩, rfl, rfl, rfl, Nat.le_refl _, fun _ _ _ => rfl, fun k b p s hk e => absurd (hb k _ e) (by omega)⟩
theorem St.trans {μ μ' μ'' : Mu} {h h' h'' : Hp} {w w' w'' : World} (a : St μ h w μ' h' w') (b : St μ' h' w' μ'' h'' w'') (hlt : ∀ k x, μ k = some x → k < h.n) : St μ h w μ'' h'' w'' := by
  refine ⟨Mu.le_trans a.le b.le, fun k hk => (b.dom k (Nat.lt_of_lt_of_le hk a.n)).trans (a.dom k hk), Nat.le_trans a.n b.n, Nat.le_trans b.low a.low, fun k hk hl => (b.kept k (Nat.lt_of_lt_of_le hk a.n) hl).trans (a.kept k hk (Nat.lt_of_lt_of_le hl b.low)), ?_, b.os.trans a.os, b.tape.trans a.tape, b.output.trans a.output, Nat.le_trans a.size b.size, ?_, ?_⟩
  · intro k o hk e hl
    obtain ⟨o1, h1, h2, h3⟩ := b.alive k o (Nat.lt_of_lt_of_le hk a.n) e hl
    obtain ⟨o2, h4, h5, h6⟩ := a.alive k o1 hk h1 h2
    exact ⟨o2, h4, h5, h6.trans h3⟩
  · intro x hx hno
    have hno' : ∀ k p s o, μ k = some (x, p, s) → h.t.get k = some o → o.live = true → o.isRo = true ∨ k < h'.low := fun k p s o e1 e2 e3 => (hno k p s o e1 e2 e3).imp id fun hh => Nat.lt_of_lt_of_le hh b.low
    refine (b.frame x (Nat.lt_of_lt_of_le hx a.size) ?_).trans (a.frame x hx hno')
    intro k p s o e1 e2 hl
    by_cases hk : k < h.n
    · rw [a.dom k hk] at e1
      obtain ⟨o1, h1, h2, h3⟩ := a.alive k o hk e2 hl
      rw [← h3]; exact hno k p s o1 e1 h1 h2
    · rcases a.fresh k x p s (by omega) e1 with h1 | ⟨k0, p0, s0, o0, h1, h2, h3, h4, h5⟩
      · omega
      · rcases hno' k0 p0 s0 o0 h1 h2 h3 with hh | hh
        · rw [hh] at h4; cases h4
        · omega
  · intro k x p s hk e
    by_cases hk' : k < h'.n
    · rw [b.dom k hk'] at e
      rcases a.fresh k x p s hk e with h1 | ⟨k0, p0, s0, o0, h1, h2, h3, h4, h5⟩
      · exact .inl h1
      · exact .inr ⟨k0, p0, s0, o0, h1, h2, h3, h4, Nat.le_trans b.low h5⟩
    · rcases b.fresh k x p s (by omega) e with h1 | ⟨k0, p0, s0, o0, h1, h2, h3, h4, h5⟩
      · exact .inl (Nat.le_trans a.size h1)
      · by_cases hk0 : k0 < h.n
        · rw [a.dom k0 hk0] at h1
          obtain ⟨o1, g1, g2, g3⟩ := a.alive k0 o0 hk0 h2 h3
          exact .inr ⟨k0, p0, s0, o1, h1, g1, g2, g3.trans h4, h5⟩
        · rcases a.fresh k0 x p0 s0 (by omega) h1 with g1 | ⟨k1, p1, s1, o1, g1, g2, g3, g4, g5⟩
          · exact .inl g1
          · exact .inr ⟨k1, p1, s1, o1, g1, g2, g3, g4, Nat.le_trans b.low g5⟩

/-- the draws of a world say nothing of its memory -/
theorem St.heap {μ : Mu} {h : Hp} {w w' : World} (hb : ∀ k x, μ k = some x → k < h.n) (he : w'.heap = w.heap) (ho : w'.os = w.os) (ht : w'.tape = w.tape) (hp : w'.output = w.output) : St μ h w μ h w' :=
  ⟨Mu.le_refl _, fun _ _ => rfl, Nat.le_refl _, Nat.le_refl _, fun _ _ _ => rfl, fun k o _ e hl => ⟨o, e, hl, rfl⟩, ho, ht, hp, by rw [he]; exact Nat.le_refl _, fun _ _ _ => by rw [he], fun k b p s hk e => absurd (hb k _ e) (by omega)⟩

/-- All in one: the memories lie in each other, and have gone on. -/
structure Good (B : Nat) (μ : Mu) (h : Hp) (w : World) (μ' : Mu) (h' : Hp) (w' : World) : Prop where
  hr : HR B μ' h'.n h'.t.get w'
  st : St μ h w μ' h' w'

theorem HR.dom {B : Nat} {μ : Mu} {n : Nat} {V : Nat → Option LObj} {w : World} (h : HR B μ n V w) : ∀ k x, μ k = some x → k < n := fun k x e => (h.lt k x.1 x.2.1 x.2.2 e).1
theorem Good.refl {B : Nat} {μ : Mu} {h : Hp} {w : World} (hr : HR B μ h.n h.t.get w) : Good B μ h w μ h w := ⟨hr, .refl _ _ _ hr.dom⟩
theorem Good.trans {B : Nat} {μ μ' μ'' : Mu} {h h' h'' : Hp} {w w' w'' : World} (hr : HR B μ h.n h.t.get w) (a : Good B μ h w μ' h' w') (b : Good B μ' h' w' μ'' h'' w'') : Good B μ h w μ'' h'' w'' :=
  ⟨b.hr, a.st.trans b.st hr.dom⟩
theorem Good.drew {B : Nat} {μ : Mu} {h : Hp} {w w' : World} (hr : HR B μ h.n h.t.get w) (he : w'.heap = w.heap) (ho : w'.os = w.os) (ht : w'.tape = w.tape) (hp : w'.output = w.output) : Good B μ h w μ h w' :=
  ⟨hr.heap he, .heap hr.dom he ho ht hp⟩

/-- a place more -/
def Mu.add (μ : Mu) (n : Nat) (x : Nat × Nat × Nat) : Mu := fun k => if k = n then some x else μ k
theorem Mu.add_le {μ : Mu} {n : Nat} {x : Nat × Nat × Nat} (h : ∀ y, μ n ≠ some y) : Mu.le μ (μ.add n x) := fun k y e => by
  unfold Mu.add
  by_cases hk : k = n
  · subst hk; exact absurd e (h y)
  · simp [hk, e]

/-- a new block -/
theorem new_ok {B : Nat} {μ : Mu} {h : Hp} {w : World} (hr : HR B μ h.n h.t.get w) (hB : B ≤ w.heap.size) (ob : Obj) (o : LObj) (s : Nat) (hro : o.isRo = false)
    (ho : OR (μ.add h.n (w.heap.size, 0, s)) { w with heap := w.heap.push ob } w.heap.size 0 s o) :
    Good B μ h w (μ.add h.n (w.heap.size, 0, s)) (h.new o) { w with heap := w.heap.push ob } := by
  have hle : Mu.le μ (μ.add h.n (w.heap.size, 0, s)) := Mu.add_le fun y e => by have := hr.dom _ _ e; omega
  have hold : ∀ b, b < w.heap.size → (w.heap.push ob)[b]? = w.heap[b]? := fun b hb => by simp [Array.getElem?_push, Nat.ne_of_lt hb]
  have hget : ∀ k, (h.new o).t.get k = if k = h.n then some o else h.t.get k := fun k => T.get_put _ _ _ _
  refine ⟨⟨?_, ?_, ?_, ?_⟩, ⟨hle, ?_, Nat.le_succ _, Nat.le_refl _, ?_, ?_, rfl, rfl, rfl, by simp, fun b hb _ => hold b hb, ?_⟩⟩
  · intro k b p s' e
    unfold Mu.add at e
    by_cases hk : k = h.n
    · simp [hk] at e; obtain ⟨rfl, rfl, rfl⟩ := e; exact ⟨by subst hk; exact Nat.lt_succ_self _, by simp⟩
    · simp [hk] at e; have := hr.lt k b p s' e; exact ⟨Nat.lt_succ_of_lt this.1, by simp; omega⟩
  · intro k b p s' o' e1 e2
    rw [hget] at e2
    unfold Mu.add at e1
    by_cases hk : k = h.n
    · simp [hk] at e1 e2; obtain ⟨rfl, rfl, rfl⟩ := e1; subst e2; exact ho
    · simp [hk] at e1 e2
      exact ((hr.obj k b p s' o' e1 e2).mono hle).same (hold b (hr.lt k b p s' e1).2)
  · intro k k' b p s' p' s'' o1 o2 e1 e2 e3 e4 l1 l2
    rw [hget] at e3 e4
    unfold Mu.add at e1 e2
    by_cases hk : k = h.n
    · by_cases hk' : k' = h.n
      · rw [hk, hk']
      · simp [hk, hk'] at e1 e2; obtain ⟨rfl, _⟩ := e1; exact absurd (hr.lt k' _ _ _ e2).2 (by omega)
    · by_cases hk' : k' = h.n
      · simp [hk, hk'] at e1 e2; obtain ⟨rfl, _⟩ := e2; exact absurd (hr.lt k _ _ _ e1).2 (by omega)
      · simp [hk, hk'] at e1 e2 e3 e4; exact hr.inj k k' b p s' p' s'' o1 o2 e1 e2 e3 e4 l1 l2
  · intro k b p s' o' e1 e2 l
    rw [hget] at e2
    unfold Mu.add at e1
    by_cases hk : k = h.n
    · simp [hk] at e1; obtain ⟨rfl, _⟩ := e1; exact .inr hB
    · simp [hk] at e1 e2; exact hr.own k b p s' o' e1 e2 l
  · intro k hk
    have : k ≠ h.n := by omega
    simp [Mu.add, this]
  · intro k hk _
    have : k ≠ h.n := by omega
    rw [hget]; simp [this]
  · intro k o' hk e hl
    have : k ≠ h.n := by omega
    rw [hget] at e; simp [this] at e
    exact ⟨o', e, hl, rfl⟩
  · intro k b p s' hk e
    unfold Mu.add at e
    by_cases hk' : k = h.n
    · simp [hk'] at e; obtain ⟨rfl, _⟩ := e; exact .inl (Nat.le_refl _)
    · simp [hk'] at e; exact absurd (hr.lt k b p s' e).1 (by omega)

theorem set_get (h : Hp) (k : Nat) (o : LObj) (j : Nat) : (h.set k o).t.get j = if j = k then some o else h.t.get j := T.get_put _ _ _ _
theorem set_low (h : Hp) (k : Nat) (o : LObj) : (h.set k o).low ≤ h.low ∧ (h.set k o).low ≤ k := by
  show cond (Nat.ble h.low k) h.low k ≤ h.low ∧ cond (Nat.ble h.low k) h.low k ≤ k
  cases e : Nat.ble h.low k
  · have : ¬ h.low ≤ k := fun hh => by rw [Nat.ble_eq_true_of_le hh] at e; cases e
    simp; omega
  · have : h.low ≤ k := Nat.le_of_ble_eq_true e
    simp; omega

/-- a block changed on both sides, all others as they were -/
theorem set_ok {B : Nat} {μ : Mu} {h : Hp} {w w' : World} (hr : HR B μ h.n h.t.get w) {k b p s : Nat} {o0 o : LObj} (hk : μ k = some (b, p, s)) (h0 : h.t.get k = some o0) (l0 : o0.live = true) (r0 : o0.isRo = false) (r1 : o.isRo = false)
    (hos : w'.os = w.os) (ht : w'.tape = w.tape) (hout : w'.output = w.output) (hsz : w'.heap.size = w.heap.size) (hother : ∀ b', b' ≠ b → w'.heap[b']? = w.heap[b']?) (ho : OR μ w' b p s o) :
    Good B μ h w μ (h.set k o) w' := by
  have hlow := set_low h k o
  refine ⟨⟨fun j b' p' s' e => ⟨(hr.lt j b' p' s' e).1, by rw [hsz]; exact (hr.lt j b' p' s' e).2⟩, ?_, ?_, ?_⟩, ⟨Mu.le_refl _, fun _ _ => rfl, Nat.le_refl _, hlow.1, ?_, ?_, hos, ht, hout, by rw [hsz]; exact Nat.le_refl _, ?_, fun j b' p' s' hj e => absurd (hr.lt j b' p' s' e).1 (by omega)⟩⟩
  · intro j b' p' s' o' e1 e2
    rw [set_get] at e2
    by_cases hj : j = k
    · subst hj; simp at e2; subst e2; rw [hk] at e1; simp at e1; obtain ⟨rfl, rfl, rfl⟩ := e1; exact ho
    · simp [hj] at e2
      by_cases hb : b' = b
      · subst hb
        by_cases hl : o'.live = true
        · exact absurd (hr.inj j k b' p' s' p s o' o0 e1 hk e2 h0 hl l0) hj
        · cases o' <;> first | trivial | exact absurd rfl hl
      · exact (hr.obj j b' p' s' o' e1 e2).same (hother b' hb)
  · intro j j' b' p' s' p'' s'' o1 o2 e1 e2 e3 e4 l1 l2
    rw [set_get] at e3 e4
    by_cases hj : j = k
    · by_cases hj' : j' = k
      · rw [hj, hj']
      · simp [hj'] at e4; subst hj; exact hr.inj j j' b' p' s' p'' s'' o0 o2 e1 e2 h0 e4 l0 l2
    · by_cases hj' : j' = k
      · simp [hj] at e3; subst hj'; exact hr.inj j j' b' p' s' p'' s'' o1 o0 e1 e2 e3 h0 l1 l0
      · simp [hj] at e3; simp [hj'] at e4; exact hr.inj j j' b' p' s' p'' s'' o1 o2 e1 e2 e3 e4 l1 l2
  · intro j b' p' s' o' e1 e2 l
    rw [set_get] at e2
    by_cases hj : j = k
    · subst hj
      rcases hr.own j b' p' s' o0 e1 h0 l0 with h1 | h1
      · rw [r0] at h1; cases h1
      · exact .inr h1
    · simp [hj] at e2; exact hr.own j b' p' s' o' e1 e2 l
  · intro j hj hjl
    rw [set_get]
    have : j ≠ k := by omega
    simp [this]
  · intro j o' hj e hl
    rw [set_get] at e
    by_cases hjk : j = k
    · subst hjk; simp at e; subst e; exact ⟨o0, h0, l0, by rw [r0, r1]⟩
    · simp [hjk] at e; exact ⟨o', e, hl, rfl⟩
  · intro b' hb' hno
    refine hother b' fun hbb => ?_
    subst hbb
    rcases hno k p s o0 hk h0 l0 with hh | hh
    · rw [r0] at hh; cases hh
    · omega
end Cx
end Go.Proofs.YtkljlbilhcdjhaaGreatDoor
namespace Go.Proofs.YtkljlbilhcdjhaaGreatDoor
namespace Cx
open Go

theorem cut0_cons {α : Type} (x : α) (l : List α) (n : Nat) : cut0 (x :: l) n = cond (Nat.beq n 0) (some []) (match cut0 l (Nat.pred n) with | some r => some (x :: r) | none => none) := rfl
theorem cut0_spec {α : Type} : ∀ (l : List α) (n : Nat) (r : List α), cut0 l n = some r → n ≤ l.length ∧ r = l.take n
  | [], n, r, h => by
    have h' : cond (Nat.beq n 0) (some ([] : List α)) none = some r := h
    rw [beq0] at h'
    by_cases hn : n = 0
    · simp [hn] at h'; exact ⟨by simp [hn], by simp [hn, ← h']⟩
    · simp [hn] at h'
  | x :: l, n, r, h => by
    rw [cut0_cons, beq0] at h
    by_cases hn : n = 0
    · simp [hn] at h; exact ⟨by simp [hn], by simp [hn, ← h]⟩
    · simp only [hn, decide_false, cond_false] at h
      cases hq : cut0 l (Nat.pred n) with
      | none => rw [hq] at h; simp at h
      | some q =>
        rw [hq] at h; simp at h
        obtain ⟨h1, h2⟩ := cut0_spec l _ _ hq
        obtain ⟨m, rfl⟩ : ∃ m, n = m + 1 := ⟨n - 1, by omega⟩
        simp at h1 h2
        exact ⟨by simp; omega, by rw [← h, h2]; simp⟩
theorem cut_spec {α : Type} : ∀ (l : List α) (o n : Nat) (r : List α), cut l o n = some r → o + n ≤ l.length ∧ r = (l.drop o).take n
  | [], o, n, r, h => by
    have h' : cond (Nat.beq o 0) (cut0 ([] : List α) n) none = some r := h
    rw [beq0] at h'
    by_cases ho : o = 0
    · simp [ho] at h'; obtain ⟨h1, h2⟩ := cut0_spec _ _ _ h'; exact ⟨by simpa [ho] using h1, by simpa [ho] using h2⟩
    · simp [ho] at h'
  | x :: l, o, n, r, h => by
    have h' : cond (Nat.beq o 0) (cut0 (x :: l) n) (cut l (Nat.pred o) n) = some r := h
    rw [beq0] at h'
    by_cases ho : o = 0
    · simp [ho] at h'; obtain ⟨h1, h2⟩ := cut0_spec _ _ _ h'; exact ⟨by simpa [ho] using h1, by simpa [ho] using h2⟩
    · simp only [ho, decide_false, cond_false] at h'
      obtain ⟨h1, h2⟩ := cut_spec l _ _ _ h'
      obtain ⟨m, rfl⟩ : ∃ m, o = m + 1 := ⟨o - 1, by omega⟩
      simp at h1 h2
      exact ⟨by simp; omega, by simpa using h2⟩
theorem cut_get {α : Type} {l r : List α} {o n : Nat} (h : cut l o n = some r) : r.length = n ∧ o + n ≤ l.length ∧ ∀ i, i < n → r[i]? = l[o + i]? := by
  obtain ⟨h1, rfl⟩ := cut_spec l o n r h
  refine ⟨by simp; omega, h1, fun i hi => ?_⟩
  simp [hi]

theorem over0_spec {α : Type} : ∀ (l r q : List α), over0 l r = some q → r.length ≤ l.length ∧ q = r ++ l.drop r.length
  | [], [], q, h => by have h' : some ([] : List α) = some q := h; simp at h'; simp [← h']
  | [], y :: r, q, h => by have h' : (none : Option (List α)) = some q := h; simp at h'
  | x :: l, [], q, h => by have h' : some (x :: l) = some q := h; simp at h'; simp [← h']
  | x :: l, y :: r, q, h => by
    have h' : (match over0 l r with | some q => some (y :: q) | none => none) = some q := h
    cases hq : over0 l r with
    | none => rw [hq] at h'; simp at h'
    | some q' =>
      rw [hq] at h'; simp at h'
      obtain ⟨h1, h2⟩ := over0_spec l r q' hq
      exact ⟨by simpa using h1, by rw [← h', h2]; simp⟩
theorem over_spec {α : Type} : ∀ (l : List α) (o : Nat) (r q : List α), over l o r = some q → o + r.length ≤ l.length ∧ q = l.take o ++ (r ++ l.drop (o + r.length))
  | [], o, r, q, h => by
    have h' : cond (Nat.beq o 0) (over0 [] r) none = some q := h
    rw [beq0] at h'
    by_cases ho : o = 0
    · simp [ho] at h'; obtain ⟨h1, h2⟩ := over0_spec _ _ _ h'; exact ⟨by simpa [ho] using h1, by simpa [ho] using h2⟩
    · simp [ho] at h'
  | x :: l, o, r, q, h => by
    have h' : cond (Nat.beq o 0) (over0 (x :: l) r) (match over l (Nat.pred o) r with | some q => some (x :: q) | none => none) = some q := h
    rw [beq0] at h'
    by_cases ho : o = 0
    · simp [ho] at h'; obtain ⟨h1, h2⟩ := over0_spec _ _ _ h'; exact ⟨by simpa [ho] using h1, by simpa [ho] using h2⟩
    · simp only [ho, decide_false, cond_false] at h'
      cases hq : over l (Nat.pred o) r with
      | none => rw [hq] at h'; simp at h'
      | some q' =>
        rw [hq] at h'; simp at h'
        obtain ⟨h1, h2⟩ := over_spec l _ r q' hq
        obtain ⟨m, rfl⟩ : ∃ m, o = m + 1 := ⟨o - 1, by omega⟩
        simp at h1 h2
        refine ⟨by simp; omega, ?_⟩
        rw [← h', h2]
        simp [show m + 1 + r.length = (m + r.length) + 1 by omega]
theorem over_get {α : Type} {l r q : List α} {o : Nat} (h : over l o r = some q) : q.length = l.length ∧ o + r.length ≤ l.length ∧ (∀ i, i < r.length → q[o + i]? = r[i]?) ∧ (∀ i, (i < o ∨ o + r.length ≤ i) → q[i]? = l[i]?) := by
  obtain ⟨h1, rfl⟩ := over_spec l o r q h
  have hl : (l.take o).length = o := by simp; omega
  refine ⟨by simp; omega, h1, fun i hi => ?_, fun i hi => ?_⟩
  · rw [List.getElem?_append_right (by omega), hl, List.getElem?_append_left (by omega)]
    congr 1; omega
  · rcases hi with hi | hi
    · rw [List.getElem?_append_left (by omega)]; simp [hi]
    · rw [List.getElem?_append_right (by omega), hl, List.getElem?_append_right (by omega), List.getElem?_drop]
      congr 1; omega

theorem addA (b p i : Nat) : (⟨b, p, none⟩ : Addr).add i = ⟨b, p + i, none⟩ := by unfold Addr.add; split <;> simp_all
theorem cell_of {w : World} {b : Nat} {c : Array Value} {ty : TypeId} {fr : Nat × Nat} (hb : w.heap[b]? = some (.cells c ty fr)) (i : Nat) : w.cell? ⟨b, i, none⟩ = c[i]? := by
  simp [World.cell?, hb]
theorem frozen_of {w : World} {b : Nat} {c : Array Value} {ty : TypeId} {lo hi : Nat} (hb : w.heap[b]? = some (.cells c ty (lo, hi))) (i : Nat) : w.frozen? ⟨b, i, none⟩ = (decide (lo ≤ i) && decide (i < hi)) := by
  simp [World.frozen?, hb]

section
variable {P : Program} {B : Nat} {μ : Mu} {h : Hp} {w : World}

/-- what cells read as -/
theorem read_ok {vs : List Value} {c : Array Value} {p o n : Nat} {l : List Value} (hv : ∀ (i : Nat) (v : Value), vs[i]? = some v → ∃ v', c[p + i]? = some v' ∧ VR μ v v') (hl : cut vs o n = some l) :
    ∃ l', VRL μ l l' ∧ l'.length = n ∧ ∀ (j : Nat) (v : Value), l'[j]? = some v → c[p + o + j]? = some v := by
  obtain ⟨h1, h2, h3⟩ := cut_get hl
  have hex : ∀ j, j < n → ∃ v v', l[j]? = some v ∧ c[p + o + j]? = some v' ∧ VR μ v v' := fun j hj => by
    have hlt : o + j < vs.length := by omega
    obtain ⟨v', g1, g2⟩ := hv (o + j) _ (List.getElem?_eq_getElem hlt)
    exact ⟨_, v', (h3 j hj).trans (List.getElem?_eq_getElem hlt), by rw [Nat.add_assoc]; exact g1, g2⟩
  have hin : ∀ j, j < n → p + o + j < c.size := fun j hj => by
    obtain ⟨_, _, _, g, _⟩ := hex j hj
    exact (Array.getElem?_eq_some_iff.1 g).1
  refine ⟨(c.toList.drop (p + o)).take n, ?_, ?_, ?_⟩
  · refine VRL.of ?_ ?_
    · rw [h1]; simp
      rcases Nat.eq_zero_or_pos n with h0 | h0
      · omega
      · have := hin (n - 1) (by omega); omega
    · intro i v e
      have hi : i < n := by have := (List.getElem?_eq_some_iff.1 e).1; omega
      obtain ⟨u, v', g1, g2, g3⟩ := hex i hi
      rw [g1] at e; simp at e; subst e
      exact ⟨v', by simpa [List.getElem?_take, hi] using g2, g3⟩
  · simp
    rcases Nat.eq_zero_or_pos n with h0 | h0
    · omega
    · have := hin (n - 1) (by omega); omega
  · intro j v e
    have hj : j < n := by have := (List.getElem?_eq_some_iff.1 e).1; simp at this; omega
    simpa [List.getElem?_take, hj] using e

theorem rd_ok (hr : HR B μ h.n h.t.get w) {k o n b p s : Nat} {l : List Value} (hk : μ k = some (b, p, s)) (hl : h.rd k o n = some l) :
    ∃ l', VRL μ l l' ∧ l'.length = n ∧ ∀ (j : Nat) (v : Value), l'[j]? = some v → w.cell? ((⟨b, p + o, none⟩ : Addr).add j) = some v := by
  unfold Hp.rd at hl
  split at hl
  · rename_i vs hv
    obtain ⟨c, ty, lo, hi, h1, h2, h3, h4, h5⟩ := hr.obj k b p s _ hk hv
    obtain ⟨l', g1, g2, g3⟩ := read_ok h5 hl
    exact ⟨l', g1, g2, fun j v e => by rw [addA, cell_of h1]; exact g3 j v e⟩
  · rename_i vs hv
    obtain ⟨c, ty, fr, h1, h5⟩ := hr.obj k b p s _ hk hv
    obtain ⟨l', g1, g2, g3⟩ := read_ok h5 hl
    exact ⟨l', g1, g2, fun j v e => by rw [addA, cell_of h1]; exact g3 j v e⟩
  · cases hl

theorem run_underlying (t : TypeId) {d : TypeDesc} (hd : P.underlying t = some d) : (underlying t).run P w = .ok d w := by
  simp [underlying, program, Sem.run, hd]
theorem run_size (t : TypeId) {n : Nat} (hn : size P t = some n) : (sizeOf t).run P w = .ok n w := by
  unfold size at hn
  split at hn
  · rename_i i hi; simp at hn; simp [sizeOf, typeInfo, program, Sem.run, hi, hn]
  · cases hn
theorem run_isAgg (t : TypeId) {b : Bool} (hb : agg P t = some b) : (isAgg t).run P w = .ok b w := by
  unfold agg at hb
  split at hb
  · rename_i fs hd; simp at hb; subst hb; simp [isAgg, run_underlying t hd]
  · rename_i x y hd; simp at hb; subst hb; simp [isAgg, run_underlying t hd]
  · rename_i d h1 h2 hd
    simp at hb; subst hb
    simp only [isAgg, Sem.run_bind, run_underlying t hd, Result.andThen_ok]
    cases d <;> first | rfl | exact absurd hd (h1 _) | exact absurd hd (h2 _ _)
  · cases hb
theorem run_zero (t : TypeId) {z : Value} (hz : zero P t = some z) : (zeroValue t).run P w = .ok z w ∧ constOk z = true := by
  unfold zero at hz
  split at hz
  · rename_i i hi
    split at hz
    · rename_i z' hz'
      cases hc : constOk z' with
      | false => rw [hc] at hz; cases hz
      | true =>
        rw [hc] at hz; simp at hz; subst hz
        exact ⟨by simp [zeroValue, typeInfo, program, Sem.run, hi, hz'], hc⟩
    · cases hz
  · cases hz

theorem ld_ok (hr : HR B μ h.n h.t.get w) {t : TypeId} {k o b p s : Nat} {v : Value} (hk : μ k = some (b, p, s)) (hv : ldAt P h t k o = some v) :
    ∃ v', (loadVar t ⟨b, p + o, none⟩).run P w = .ok v' w ∧ VR μ v v' := by
  unfold ldAt at hv
  split at hv
  · rename_i hag
    split at hv
    · rename_i n hn
      split at hv
      · rename_i l hl
        simp at hv; subst hv
        obtain ⟨l', g1, g2, g3⟩ := rd_ok hr hk hl
        refine ⟨.agg l'.toArray, ?_, .agg (by simpa using g1)⟩
        have := run_loadCells_list (P := P) w ⟨b, p + o, none⟩ l' g3
        rw [g2] at this
        simp [loadVar, run_isAgg t hag, run_size t hn, this]
      · cases hv
    · cases hv
  · rename_i hag
    split at hv
    · rename_i u hl
      simp at hv; subst hv
      obtain ⟨l', g1, g2, g3⟩ := rd_ok hr hk hl
      cases g1 with
      | cons hu ht =>
        cases ht
        rename_i u'
        refine ⟨u', ?_, hu⟩
        have := g3 0 u' rfl
        rw [addA] at this
        simp at this
        simp [loadVar, run_isAgg t hag, load, Sem.run, this]
    · cases hv
  · cases hv
end
end Cx
end Go.Proofs.YtkljlbilhcdjhaaGreatDoor
