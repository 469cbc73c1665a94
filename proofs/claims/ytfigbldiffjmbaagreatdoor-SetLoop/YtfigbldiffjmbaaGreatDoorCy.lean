/- Closed runs: what a value and a memory of the executor stand for. -/
import Derived.Test.YtfigbldiffjmbaaGreatDoorCx
import Derived.Below
namespace Go.Proofs.YtfigbldiffjmbaaGreatDoor
namespace Cx
open Go

theorem beq0 (n : Nat) : Nat.beq n 0 = decide (n = 0) := by cases n <;> rfl
theorem beqN (n m : Nat) : Nat.beq n m = decide (n = m) := by
  rw [Bool.eq_iff_iff]; simp [Nat.beq_eq]


noncomputable def GF.ap {β γ : Type} (g : GF β γ) (b : β) : γ := GF.rec (fun g => g b) g
noncomputable def PF.ap {α β : Type} (p : PF α β) (F : α → α) (b : β) : β := PF.rec (fun p => p F b) p
noncomputable abbrev selg {α : Type} (i : Nat) (t : N16 α) : α := (selG α i).ap t
noncomputable abbrev selu {α : Type} (i : Nat) (F : α → α) (t : N16 α) : N16 α := (selU α i).ap F t
theorem sel_law {α : Type} (i j : Nat) (hi : i < 16) (hj : j < 16) (F : α → α) (t : N16 α) : selg i (selu j F t) = if i = j then F (selg i t) else selg i t := by
  obtain ⟨c0, c1, c2, c3, c4, c5, c6, c7, c8, c9, c10, c11, c12, c13, c14, c15⟩ := t
  rcases i with _|_|_|_|_|_|_|_|_|_|_|_|_|_|_|_|i <;> first | (exfalso; omega) | (rcases j with _|_|_|_|_|_|_|_|_|_|_|_|_|_|_|_|j <;> first | rfl | (exfalso; omega))
theorem sel_all {α : Type} (i : Nat) (hi : i < 16) (x : α) : selg i (N16.all x) = x := by
  rcases i with _|_|_|_|_|_|_|_|_|_|_|_|_|_|_|_|i <;> first | rfl | (exfalso; omega)
theorem blt_true {a b : Nat} (h : a < b) : Nat.blt a b = true := Nat.ble_eq_true_of_le h
theorem blt_false {a b : Nat} (h : b ≤ a) : Nat.blt a b = false := by
  cases e : Nat.blt a b with
  | false => rfl
  | true => have : a + 1 ≤ b := Nat.le_of_ble_eq_true e; omega
section
variable {α : Type} (t : T α) (x : α)
theorem T.get_def (n : Nat) : t.get n = (gfn α n).ap t := rfl
theorem T.put_def (n : Nat) : T.put x t n = (pfn α n).ap (setTo x) t := rfl
theorem gfn_1 {n : Nat} (h : n < 16) : gfn α n = gfn1 α n := by unfold gfn; rw [blt_true h]
theorem gfn_2 {n : Nat} (h : 16 ≤ n) (h' : n < 272) : gfn α n = gfn2 α (n - 16) := by unfold gfn; rw [blt_false h, blt_true h']; rfl
theorem gfn_3 {n : Nat} (h : 272 ≤ n) (h' : n < 4368) : gfn α n = gfn3 α (n - 272) := by unfold gfn; rw [blt_false (show 16 ≤ n by omega), blt_false h, blt_true h']; rfl
theorem gfn_4 {n : Nat} (h : 4368 ≤ n) (h' : n < 69904) : gfn α n = gfn4 α (n - 4368) := by unfold gfn; rw [blt_false (show 16 ≤ n by omega), blt_false (show 272 ≤ n by omega), blt_false h, blt_true h']; rfl
theorem gfn_5 {n : Nat} (h : 69904 ≤ n) : gfn α n = GF.mk (fun t => t.f n) := by unfold gfn; rw [blt_false (show 16 ≤ n by omega), blt_false (show 272 ≤ n by omega), blt_false (show 4368 ≤ n by omega), blt_false h]
theorem pfn_1 {n : Nat} (h : n < 16) : pfn α n = pfn1 α n := by unfold pfn; rw [blt_true h]
theorem pfn_2 {n : Nat} (h : 16 ≤ n) (h' : n < 272) : pfn α n = pfn2 α (n - 16) := by unfold pfn; rw [blt_false h, blt_true h']; rfl
theorem pfn_3 {n : Nat} (h : 272 ≤ n) (h' : n < 4368) : pfn α n = pfn3 α (n - 272) := by unfold pfn; rw [blt_false (show 16 ≤ n by omega), blt_false h, blt_true h']; rfl
theorem pfn_4 {n : Nat} (h : 4368 ≤ n) (h' : n < 69904) : pfn α n = pfn4 α (n - 4368) := by unfold pfn; rw [blt_false (show 16 ≤ n by omega), blt_false (show 272 ≤ n by omega), blt_false h, blt_true h']; rfl
theorem pfn_5 {n : Nat} (h : 69904 ≤ n) : pfn α n = PF.mk (fun F t => T.uf n F t) := by unfold pfn; rw [blt_false (show 16 ≤ n by omega), blt_false (show 272 ≤ n by omega), blt_false (show 4368 ≤ n by omega), blt_false h]
theorem get_1 (n : Nat) : (gfn1 α n).ap t = selg n t.a := by unfold gfn1 selg; cases selG (Option α) n; rfl
theorem get_2 (n : Nat) : (gfn2 α n).ap t = selg (n % 16) (selg (n / 16) t.b) := by
  show (gfn2 α n).ap t = selg (Nat.mod n 16) (selg (Nat.div n 16) t.b)
  unfold gfn2 selg; generalize Nat.div n 16 = i, Nat.mod n 16 = j
  cases selG (N16 (Option α)) i; cases selG (Option α) j; rfl
theorem get_3 (n : Nat) : (gfn3 α n).ap t = selg (n % 16) (selg (n / 16 % 16) (selg (n / 256) t.c)) := by
  show (gfn3 α n).ap t = selg (Nat.mod n 16) (selg (Nat.mod (Nat.div n 16) 16) (selg (Nat.div n 256) t.c))
  unfold gfn3 selg; generalize Nat.mod n 16 = i, Nat.mod (Nat.div n 16) 16 = j, Nat.div n 256 = k
  cases selG (N16 (N16 (Option α))) k; cases selG (N16 (Option α)) j; cases selG (Option α) i; rfl
theorem get_4 (n : Nat) : (gfn4 α n).ap t = selg (n % 16) (selg (n / 16 % 16) (selg (n / 256 % 16) (selg (n / 4096) t.d))) := by
  show (gfn4 α n).ap t = selg (Nat.mod n 16) (selg (Nat.mod (Nat.div n 16) 16) (selg (Nat.mod (Nat.div n 256) 16) (selg (Nat.div n 4096) t.d)))
  unfold gfn4 selg; generalize Nat.mod n 16 = i, Nat.mod (Nat.div n 16) 16 = j, Nat.mod (Nat.div n 256) 16 = k, Nat.div n 4096 = l
  cases selG (N16 (N16 (N16 (Option α)))) l; cases selG (N16 (N16 (Option α))) k; cases selG (N16 (Option α)) j; cases selG (Option α) i; rfl
variable (F : Option α → Option α)
theorem put_1 (n : Nat) : (pfn1 α n).ap F t = T.ua (selu n F) t := by unfold pfn1 selu; cases selU (Option α) n; rfl
theorem put_2 (n : Nat) : (pfn2 α n).ap F t = T.ub (selu (n / 16) (selu (n % 16) F)) t := by
  show (pfn2 α n).ap F t = T.ub (selu (Nat.div n 16) (selu (Nat.mod n 16) F)) t
  unfold pfn2 selu; generalize Nat.div n 16 = i, Nat.mod n 16 = j
  cases selU (N16 (Option α)) i; cases selU (Option α) j; rfl
theorem put_3 (n : Nat) : (pfn3 α n).ap F t = T.uc (selu (n / 256) (selu (n / 16 % 16) (selu (n % 16) F))) t := by
  show (pfn3 α n).ap F t = T.uc (selu (Nat.div n 256) (selu (Nat.mod (Nat.div n 16) 16) (selu (Nat.mod n 16) F))) t
  unfold pfn3 selu; generalize Nat.mod n 16 = i, Nat.mod (Nat.div n 16) 16 = j, Nat.div n 256 = k
  cases selU (N16 (N16 (Option α))) k; cases selU (N16 (Option α)) j; cases selU (Option α) i; rfl
theorem put_4 (n : Nat) : (pfn4 α n).ap F t = T.ud (selu (n / 4096) (selu (n / 256 % 16) (selu (n / 16 % 16) (selu (n % 16) F)))) t := by
  show (pfn4 α n).ap F t = T.ud (selu (Nat.div n 4096) (selu (Nat.mod (Nat.div n 256) 16) (selu (Nat.mod (Nat.div n 16) 16) (selu (Nat.mod n 16) F)))) t
  unfold pfn4 selu; generalize Nat.mod n 16 = i, Nat.mod (Nat.div n 16) 16 = j, Nat.mod (Nat.div n 256) 16 = k, Nat.div n 4096 = l
  cases selU (N16 (N16 (N16 (Option α)))) l; cases selU (N16 (N16 (Option α))) k; cases selU (N16 (Option α)) j; cases selU (Option α) i; rfl
theorem ua_b (G : N16 (Option α) → N16 (Option α)) : (T.ua G t).b = t.b ∧ (T.ua G t).c = t.c ∧ (T.ua G t).d = t.d ∧ (T.ua G t).f = t.f ∧ (T.ua G t).a = G t.a := by cases t; exact ⟨rfl, rfl, rfl, rfl, rfl⟩
theorem ub_b (G : N16 (N16 (Option α)) → N16 (N16 (Option α))) : (T.ub G t).a = t.a ∧ (T.ub G t).c = t.c ∧ (T.ub G t).d = t.d ∧ (T.ub G t).f = t.f ∧ (T.ub G t).b = G t.b := by cases t; exact ⟨rfl, rfl, rfl, rfl, rfl⟩
theorem uc_b (G : N16 (N16 (N16 (Option α))) → N16 (N16 (N16 (Option α)))) : (T.uc G t).a = t.a ∧ (T.uc G t).b = t.b ∧ (T.uc G t).d = t.d ∧ (T.uc G t).f = t.f ∧ (T.uc G t).c = G t.c := by cases t; exact ⟨rfl, rfl, rfl, rfl, rfl⟩
theorem ud_b (G : N16 (N16 (N16 (N16 (Option α)))) → N16 (N16 (N16 (N16 (Option α))))) : (T.ud G t).a = t.a ∧ (T.ud G t).b = t.b ∧ (T.ud G t).c = t.c ∧ (T.ud G t).f = t.f ∧ (T.ud G t).d = G t.d := by cases t; exact ⟨rfl, rfl, rfl, rfl, rfl⟩
theorem uf_b (n : Nat) : (T.uf n F t).a = t.a ∧ (T.uf n F t).b = t.b ∧ (T.uf n F t).c = t.c ∧ (T.uf n F t).d = t.d ∧ (T.uf n F t).f = fun m => cond (Nat.beq m n) (F (t.f m)) (t.f m) := by cases t; exact ⟨rfl, rfl, rfl, rfl, rfl⟩
end
theorem setTo_eq {α : Type} (x : α) (y : Option α) : setTo x y = some x := rfl
theorem get_put_1 {α : Type} (x : α) (t : T α) (n m : Nat) (h : n < 16) : (T.put x t n).get m = if m = n then some x else t.get m := by
  rw [T.get_def, T.get_def, T.put_def, pfn_1 h, put_1]
  have q := ua_b t (selu n (setTo x))
  generalize T.ua (selu n (setTo x)) t = t2 at q ⊢
  obtain ⟨e1, e2, e3, e4, e5⟩ := q
  rcases Nat.lt_or_ge m 16 with g1 | g1
  · rw [gfn_1 g1, get_1, get_1, e5, sel_law m n g1 h, setTo_eq]
  rcases Nat.lt_or_ge m 272 with g2 | g2
  · rw [if_neg (by omega), gfn_2 g1 g2, get_2, get_2, e1]
  rcases Nat.lt_or_ge m 4368 with g3 | g3
  · rw [if_neg (by omega), gfn_3 g2 g3, get_3, get_3, e2]
  rcases Nat.lt_or_ge m 69904 with g4 | g4
  · rw [if_neg (by omega), gfn_4 g3 g4, get_4, get_4, e3]
  rw [if_neg (by omega), gfn_5 g4]
  show t2.f m = t.f m
  rw [e4]
theorem get_put_2 {α : Type} (x : α) (t : T α) (n m : Nat) (h : 16 ≤ n) (h2 : n < 272) : (T.put x t n).get m = if m = n then some x else t.get m := by
  rw [T.get_def, T.get_def, T.put_def, pfn_2 h h2, put_2]
  have q := ub_b t (selu ((n - 16) / 16) (selu ((n - 16) % 16) (setTo x)))
  generalize T.ub (selu ((n - 16) / 16) (selu ((n - 16) % 16) (setTo x))) t = t2 at q ⊢
  obtain ⟨e1, e2, e3, e4, e5⟩ := q
  rcases Nat.lt_or_ge m 16 with g1 | g1
  · rw [if_neg (by omega), gfn_1 g1, get_1, get_1, e1]
  rcases Nat.lt_or_ge m 272 with g2 | g2
  · rw [gfn_2 g1 g2, get_2, get_2, e5]
    rw [sel_law ((m - 16) / 16) ((n - 16) / 16) (by omega) (by omega)]
    by_cases q0 : (m - 16) / 16 = (n - 16) / 16
    · rw [if_pos q0]
      rw [sel_law ((m - 16) % 16) ((n - 16) % 16) (by omega) (by omega)]
      by_cases q1 : (m - 16) % 16 = (n - 16) % 16
      · rw [if_pos q1]
        rw [if_pos (by omega), setTo_eq]
      · rw [if_neg q1, if_neg (fun e => q1 (by rw [e]))]
    · rw [if_neg q0, if_neg (fun e => q0 (by rw [e]))]
  rcases Nat.lt_or_ge m 4368 with g3 | g3
  · rw [if_neg (by omega), gfn_3 g2 g3, get_3, get_3, e2]
  rcases Nat.lt_or_ge m 69904 with g4 | g4
  · rw [if_neg (by omega), gfn_4 g3 g4, get_4, get_4, e3]
  rw [if_neg (by omega), gfn_5 g4]
  show t2.f m = t.f m
  rw [e4]
theorem get_put_3 {α : Type} (x : α) (t : T α) (n m : Nat) (h : 272 ≤ n) (h2 : n < 4368) : (T.put x t n).get m = if m = n then some x else t.get m := by
  rw [T.get_def, T.get_def, T.put_def, pfn_3 h h2, put_3]
  have q := uc_b t (selu ((n - 272) / 256) (selu ((n - 272) / 16 % 16) (selu ((n - 272) % 16) (setTo x))))
  generalize T.uc (selu ((n - 272) / 256) (selu ((n - 272) / 16 % 16) (selu ((n - 272) % 16) (setTo x)))) t = t2 at q ⊢
  obtain ⟨e1, e2, e3, e4, e5⟩ := q
  rcases Nat.lt_or_ge m 16 with g1 | g1
  · rw [if_neg (by omega), gfn_1 g1, get_1, get_1, e1]
  rcases Nat.lt_or_ge m 272 with g2 | g2
  · rw [if_neg (by omega), gfn_2 g1 g2, get_2, get_2, e2]
  rcases Nat.lt_or_ge m 4368 with g3 | g3
  · rw [gfn_3 g2 g3, get_3, get_3, e5]
    rw [sel_law ((m - 272) / 256) ((n - 272) / 256) (by omega) (by omega)]
    by_cases q0 : (m - 272) / 256 = (n - 272) / 256
    · rw [if_pos q0]
      rw [sel_law ((m - 272) / 16 % 16) ((n - 272) / 16 % 16) (by omega) (by omega)]
      by_cases q1 : (m - 272) / 16 % 16 = (n - 272) / 16 % 16
      · rw [if_pos q1]
        rw [sel_law ((m - 272) % 16) ((n - 272) % 16) (by omega) (by omega)]
        by_cases q2 : (m - 272) % 16 = (n - 272) % 16
        · rw [if_pos q2]
          rw [if_pos (by omega), setTo_eq]
        · rw [if_neg q2, if_neg (fun e => q2 (by rw [e]))]
      · rw [if_neg q1, if_neg (fun e => q1 (by rw [e]))]
    · rw [if_neg q0, if_neg (fun e => q0 (by rw [e]))]
  rcases Nat.lt_or_ge m 69904 with g4 | g4
  · rw [if_neg (by omega), gfn_4 g3 g4, get_4, get_4, e3]
  rw [if_neg (by omega), gfn_5 g4]
  show t2.f m = t.f m
  rw [e4]
theorem get_put_4 {α : Type} (x : α) (t : T α) (n m : Nat) (h : 4368 ≤ n) (h2 : n < 69904) : (T.put x t n).get m = if m = n then some x else t.get m := by
  rw [T.get_def, T.get_def, T.put_def, pfn_4 h h2, put_4]
  have q := ud_b t (selu ((n - 4368) / 4096) (selu ((n - 4368) / 256 % 16) (selu ((n - 4368) / 16 % 16) (selu ((n - 4368) % 16) (setTo x)))))
  generalize T.ud (selu ((n - 4368) / 4096) (selu ((n - 4368) / 256 % 16) (selu ((n - 4368) / 16 % 16) (selu ((n - 4368) % 16) (setTo x))))) t = t2 at q ⊢
  obtain ⟨e1, e2, e3, e4, e5⟩ := q
  rcases Nat.lt_or_ge m 16 with g1 | g1
  · rw [if_neg (by omega), gfn_1 g1, get_1, get_1, e1]
  rcases Nat.lt_or_ge m 272 with g2 | g2
  · rw [if_neg (by omega), gfn_2 g1 g2, get_2, get_2, e2]
  rcases Nat.lt_or_ge m 4368 with g3 | g3
  · rw [if_neg (by omega), gfn_3 g2 g3, get_3, get_3, e3]
  rcases Nat.lt_or_ge m 69904 with g4 | g4
  · rw [gfn_4 g3 g4, get_4, get_4, e5]
    rw [sel_law ((m - 4368) / 4096) ((n - 4368) / 4096) (by omega) (by omega)]
    by_cases q0 : (m - 4368) / 4096 = (n - 4368) / 4096
    · rw [if_pos q0]
      rw [sel_law ((m - 4368) / 256 % 16) ((n - 4368) / 256 % 16) (by omega) (by omega)]
      by_cases q1 : (m - 4368) / 256 % 16 = (n - 4368) / 256 % 16
      · rw [if_pos q1]
        rw [sel_law ((m - 4368) / 16 % 16) ((n - 4368) / 16 % 16) (by omega) (by omega)]
        by_cases q2 : (m - 4368) / 16 % 16 = (n - 4368) / 16 % 16
        · rw [if_pos q2]
          rw [sel_law ((m - 4368) % 16) ((n - 4368) % 16) (by omega) (by omega)]
          by_cases q3 : (m - 4368) % 16 = (n - 4368) % 16
          · rw [if_pos q3]
            rw [if_pos (by omega), setTo_eq]
          · rw [if_neg q3, if_neg (fun e => q3 (by rw [e]))]
        · rw [if_neg q2, if_neg (fun e => q2 (by rw [e]))]
      · rw [if_neg q1, if_neg (fun e => q1 (by rw [e]))]
    · rw [if_neg q0, if_neg (fun e => q0 (by rw [e]))]
  rw [if_neg (by omega), gfn_5 g4]
  show t2.f m = t.f m
  rw [e4]
theorem get_put_5 {α : Type} (x : α) (t : T α) (n m : Nat) (h : 69904 ≤ n) : (T.put x t n).get m = if m = n then some x else t.get m := by
  rw [T.get_def, T.get_def, T.put_def, pfn_5 h]
  show (gfn α m).ap (T.uf n (setTo x) t) = _
  have q := uf_b t (setTo x) n
  generalize T.uf n (setTo x) t = t2 at q ⊢
  obtain ⟨e1, e2, e3, e4, e5⟩ := q
  rcases Nat.lt_or_ge m 16 with g1 | g1
  · rw [if_neg (by omega), gfn_1 g1, get_1, get_1, e1]
  rcases Nat.lt_or_ge m 272 with g2 | g2
  · rw [if_neg (by omega), gfn_2 g1 g2, get_2, get_2, e2]
  rcases Nat.lt_or_ge m 4368 with g3 | g3
  · rw [if_neg (by omega), gfn_3 g2 g3, get_3, get_3, e3]
  rcases Nat.lt_or_ge m 69904 with g4 | g4
  · rw [if_neg (by omega), gfn_4 g3 g4, get_4, get_4, e4]
  rw [gfn_5 g4]
  show t2.f m = if m = n then some x else t.f m
  rw [e5]
  by_cases hq : m = n
  · subst hq; simp [setTo]
  · have : Nat.beq m n = false := by
      cases e : Nat.beq m n with
      | false => rfl
      | true => exact absurd (Nat.eq_of_beq_eq_true e) hq
    simp [this, hq]
theorem T.get_put {α : Type} (x : α) (t : T α) (n m : Nat) : (T.put x t n).get m = if m = n then some x else t.get m := by
  rcases Nat.lt_or_ge n 16 with h1 | h1
  · exact get_put_1 x t n m h1
  rcases Nat.lt_or_ge n 272 with h2 | h2
  · exact get_put_2 x t n m h1 h2
  rcases Nat.lt_or_ge n 4368 with h3 | h3
  · exact get_put_3 x t n m h2 h3
  rcases Nat.lt_or_ge n 69904 with h4 | h4
  · exact get_put_4 x t n m h3 h4
  exact get_put_5 x t n m h4
theorem T.get_nil {α : Type} (m : Nat) : (T.nil : T α).get m = none := by
  rw [T.get_def]
  rcases Nat.lt_or_ge m 16 with h1 | h1
  · rw [gfn_1 h1, get_1]; exact sel_all _ h1 _
  · rcases Nat.lt_or_ge m 272 with h2 | h2
    · rw [gfn_2 h1 h2, get_2]; show selg _ (selg _ (N16.all (N16.all none))) = none; rw [sel_all _ (by omega), sel_all _ (by omega)]
    · rcases Nat.lt_or_ge m 4368 with h3 | h3
      · rw [gfn_3 h2 h3, get_3]; show selg _ (selg _ (selg _ (N16.all (N16.all (N16.all none))))) = none; rw [sel_all _ (by omega), sel_all _ (by omega), sel_all _ (by omega)]
      · rcases Nat.lt_or_ge m 69904 with h4 | h4
        · rw [gfn_4 h3 h4, get_4]; show selg _ (selg _ (selg _ (selg _ (N16.all (N16.all (N16.all (N16.all none))))))) = none; rw [sel_all _ (by omega), sel_all _ (by omega), sel_all _ (by omega), sel_all _ (by omega)]
        · rw [gfn_5 h4]; rfl

/-- Where a block of the executor lies: a block of the model's, the first cell, how many cells there are. -/
abbrev Mu := Nat → Option (Nat × Nat × Nat)

mutual
inductive VR (μ : Mu) : Value → Value → Prop
  | bool (b : Bool) : VR μ (.bool b) (.bool b)
  | int (k : IntKind) (n : Int) : VR μ (.int k n) (.int k n)
  | float (k : FloatKind) (n : Nat) : VR μ (.float k n) (.float k n)
  | string (s : ByteArray) : VR μ (.string s) (.string s)
  | nilPtr : VR μ (.pointer none) (.pointer none)
  | ptr {k o b p s : Nat} (h : μ k = some (b, p, s)) : VR μ (.pointer (some ⟨k, o, none⟩)) (.pointer (some ⟨b, p + o, none⟩))
  | nilSlice (c : Nat) : VR μ (.slice none 0 c) (.slice none 0 0)
  | slice {k o n es b p s cap adr : Nat} (h : μ k = some (b, p, s)) (hn : n ≤ cap) (hc : cap = 0 ∨ adr = p + o ∧ o + cap * es ≤ s) (he : 0 < es) : VR μ (.slice (some ⟨k, o, none⟩) n es) (.slice (some ⟨b, adr, none⟩) n cap)
  | nilMap : VR μ (.map none) (.map none)
  | map {k b p s : Nat} (h : μ k = some (b, p, s)) : VR μ (.map (some k)) (.map (some b))
  | nilFunc : VR μ .nilFunc .nilFunc
  | nilIface : VR μ .nilIface .nilIface
  | iface (t : TypeId) {v v' : Value} (h : VR μ v v') : VR μ (.iface t v) (.iface t v')
  | func (f : FuncId) {a a' b b' : Array Value} (h1 : VRL μ a.toList a'.toList) (h2 : VRL μ b.toList b'.toList) : VR μ (.func (.func f) a b) (.func (.func f) a' b')
  | yield {l b p s : Nat} (h : μ l = some (b, p, s)) : VR μ (.func (.yield l) #[] #[]) (.func (.yield b) #[] #[])
  | agg {a a' : Array Value} (h : VRL μ a.toList a'.toList) : VR μ (.agg a) (.agg a')
  | tuple {a a' : Array Value} (h : VRL μ a.toList a'.toList) : VR μ (.tuple a) (.tuple a')
inductive VRL (μ : Mu) : List Value → List Value → Prop
  | nil : VRL μ [] []
  | cons {v v' : Value} {l l' : List Value} (h : VR μ v v') (t : VRL μ l l') : VRL μ (v :: l) (v' :: l')
end

def Mu.le (μ μ' : Mu) : Prop := ∀ k x, μ k = some x → μ' k = some x
theorem Mu.le_refl (μ : Mu) : Mu.le μ μ := fun _ _ h => h
theorem Mu.le_trans {μ μ' μ'' : Mu} (h : Mu.le μ μ') (h' : Mu.le μ' μ'') : Mu.le μ μ'' := fun k x e => h' k x (h k x e)

mutual
theorem VR.mono {μ μ' : Mu} (hm : Mu.le μ μ') {v v' : Value} (h : VR μ v v') : VR μ' v v' := by
  cases h with
  | bool b => exact .bool b
  | int k n => exact .int k n
  | float k n => exact .float k n
  | string s => exact .string s
  | nilPtr => exact .nilPtr
  | ptr h => exact .ptr (hm _ _ h)
  | nilSlice c => exact .nilSlice c
  | slice h hn hc he => exact .slice (hm _ _ h) hn hc he
  | nilMap => exact .nilMap
  | map h => exact .map (hm _ _ h)
  | nilFunc => exact .nilFunc
  | nilIface => exact .nilIface
  | iface t h => exact .iface t (VR.mono hm h)
  | func f h1 h2 => exact .func f (VRL.mono hm h1) (VRL.mono hm h2)
  | yield h => exact .yield (hm _ _ h)
  | agg h => exact .agg (VRL.mono hm h)
  | tuple h => exact .tuple (VRL.mono hm h)
theorem VRL.mono {μ μ' : Mu} (hm : Mu.le μ μ') {l l' : List Value} (h : VRL μ l l') : VRL μ' l l' := by
  cases h with
  | nil => exact .nil
  | cons h t => exact .cons (VR.mono hm h) (VRL.mono hm t)
end

theorem VR.scalar {μ : Mu} {v v' : Value} (h : VR μ v v') (hs : scalar v = true) : v' = v := by
  cases h <;> first | rfl | (simp [Cx.scalar] at hs)
theorem VRL.length {μ : Mu} {l l' : List Value} : VRL μ l l' → l'.length = l.length := by
  intro h
  induction l generalizing l' with
  | nil => cases h; rfl
  | cons v l ih => cases h with | cons h t => simp [ih t]
theorem VRL.get {μ : Mu} {l l' : List Value} (h : VRL μ l l') : ∀ (i : Nat) (v : Value), l[i]? = some v → ∃ v', l'[i]? = some v' ∧ VR μ v v' := by
  induction l generalizing l' with
  | nil => intro i v e; simp at e
  | cons x l ih =>
    cases h with
    | cons h t =>
      intro i v e
      cases i with
      | zero => simp at e; subst e; exact ⟨_, rfl, h⟩
      | succ i => simp at e ⊢; exact ih t i v e
theorem VRL.of {μ : Mu} : ∀ {l l' : List Value}, l'.length = l.length → (∀ (i : Nat) (v : Value), l[i]? = some v → ∃ v', l'[i]? = some v' ∧ VR μ v v') → VRL μ l l'
  | [], [], _, _ => .nil
  | [], _ :: _, h, _ => by simp at h
  | _ :: _, [], h, _ => by simp at h
  | v :: l, v' :: l', h, hh => by
    obtain ⟨x, hx, hv⟩ := hh 0 v rfl
    simp at hx; subst hx
    exact .cons hv (VRL.of (by simpa using h) fun i u hu => hh (i + 1) u (by simpa using hu))
theorem VRL.append {μ : Mu} {a a' b b' : List Value} (h : VRL μ a a') (k : VRL μ b b') : VRL μ (a ++ b) (a' ++ b') := by
  induction a generalizing a' with
  | nil => cases h; exact k
  | cons v l ih => cases h with | cons h t => exact .cons h (ih t)
theorem VRL.scalars {μ : Mu} {l l' : List Value} (h : VRL μ l l') (hs : l.all scalar = true) : l' = l := by
  induction l generalizing l' with
  | nil => cases h; rfl
  | cons v l ih => cases h with | cons h t => simp at hs; rw [h.scalar hs.1, ih t (by simpa using hs.2)]
theorem VRL.refl {μ : Mu} : ∀ {l : List Value}, (∀ v ∈ l, VR μ v v) → VRL μ l l
  | [], _ => .nil
  | v :: l, h => .cons (h v (by simp)) (VRL.refl fun u hu => h u (by simp [hu]))

theorem simple_refl (μ : Mu) {v : Value} (h : simple v = true) : VR μ v v := by
  unfold simple at h
  split at h <;> first | constructor | (exact absurd h (by simp))
theorem constOk_refl (μ : Mu) {v : Value} (h : constOk v = true) : VR μ v v := by
  unfold constOk at h
  split at h
  · exact .agg (VRL.refl fun v hv => simple_refl μ (List.all_eq_true.1 h v hv))
  · exact .tuple (VRL.refl fun v hv => simple_refl μ (List.all_eq_true.1 h v hv))
  · exact simple_refl μ h
theorem undef_refl (μ : Mu) : VR μ undef undef := .tuple .nil
theorem VR.cells {μ : Mu} {v v' : Value} (h : VR μ v v') : VRL μ v.cells.toList v'.cells.toList := by
  cases h with
  | agg h => exact h
  | _ => exact .cons (by constructor <;> assumption) .nil
end Cx
end Go.Proofs.YtfigbldiffjmbaaGreatDoor
