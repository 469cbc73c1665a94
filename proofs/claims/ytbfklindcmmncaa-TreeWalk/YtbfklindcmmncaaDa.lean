/- trees: Count and Depth of the second road. -/
import Derived.Test.YtbfklindcmmncaaBf
namespace Go.Proofs.Ytbfklindcmmncaa
open Go.RowKit
attribute [local go_sem ↓] Go.wp_at_zero Go.wp_at_succ
theorem szTake {ks : List Tr} {j : Nat} (hj : j < ks.length) : sizes (ks.take (j + 1)) = sizes (ks.take j) + (ks[j]'hj).size := by
  induction ks generalizing j with
  | nil => simp at hj
  | cons t ts ih =>
    cases j with
    | zero => simp [sizes]
    | succ j =>
      have := ih (j := j) (by simpa using hj)
      simp only [List.take_succ_cons, sizes, List.getElem_cons_succ]
      omega
theorem szLe (ks : List Tr) (j : Nat) : sizes (ks.take j) ≤ sizes ks := by
  induction ks generalizing j with
  | nil => simp
  | cons t ts ih =>
    cases j with
    | zero => simp [sizes]
    | succ j => have := ih j; simp only [List.take_succ_cons, sizes]; omega
set_option maxRecDepth 20000 in
set_option maxHeartbeats 2000000 in
theorem rCount_any (n : Nat) : ∀ (t : Tr), t.size ≤ n → n ≤ 1000 → ∀ (w : World) (P : Nat → Prop) (va : Value), TrV w P va t → Calls Try.prog 12 #[va] w fun e w' => e = .returned (.int .i64 (t.size : Int)) ∧ Below w.heap.size w w' := by
  induction n with
  | zero => intro t h; have := size_pos t; omega
  | succ n ih =>
    intro t hsz hn w P va ha
    obtain ⟨k, a, s, ks⟩ := t
    unfold TrV at ha
    obtain ⟨x, l, cap, rfl, rfl, hlc, hcm, hK⟩ := ha
    obtain ⟨W, hW⟩ : ∃ W, W = w.alloc (.cells #[.int .i64 k, .int .i64 a, .string s, .slice x ks.length cap] 24) := ⟨_, rfl⟩
    have hbW : Below w.heap.size w W := by rw [hW]; exact (Below.refl _ _).alloc (Nat.le_refl _) _
    obtain ⟨g0, g1, g2, g3, _, _⟩ := node_cells (w := W) (b := w.heap.size) (by rw [hW]; exact new_at _ _)
    have hKW : Hid _ := KidsAt.next hK hbW
    clear hK
    have hm : maxLen ≤ 9223372036854775807 := by decide
    have hss : Hid (1 + sizes ks ≤ n + 1) := by show _ ≤ _; unfold Tr.size at hsz; exact hsz
    have hsE : Hid (Tr.size (.node k a s ks) = 1 + sizes ks) := by show _ = _; unfold Tr.size; rfl
    obtain ⟨TS, hTS⟩ : ∃ TS, TS = Tr.size (.node k a s ks) := ⟨_, rfl⟩
    rw [← hTS] at hsE ⊢
    clear hsz hTS
    have hnh : Hid (n + 1 ≤ 1000) := hn
    clear hn
    go_enter Try.func12, Try.ntmps12
    go_upto_region 1 with fail
    rw [← hW]
    clear hW
    obtain ⟨b1, hb1⟩ : ∃ b1, b1 = w.heap.size := ⟨_, rfl⟩
    rw [← hb1] at g3 ⊢
    clear hb1 g0 g1 g2
    go_wp2
    go_loopw [3, 4] (fun sv iv wr => ∃ j : Nat, j ≤ ks.length ∧ sv = .int .i64 ((1 + sizes (ks.take j) : Nat) : Int) ∧ iv = .int .i64 j ∧ Below W.heap.size W wr) (fun _ iv _ => ks.length - (intOf iv).toNat)
    case atStart => exact ⟨0, Nat.zero_le _, by simp [sizes], rfl, Below.refl _ _⟩
    case round =>
      obtain ⟨j, hj, rfl, rfl, hbel⟩ := hrel
      replace g3 := keep_cell hbel g3
      by_cases hlt : j < ks.length
      · have d1 : decide ((j : Int) < (ks.length : Int)) = true := decide_eq_true (by omega)
        have i1 : (j : Int) < (ks.length : Int) := by omega
        obtain ⟨ad, q1, q2, q3, q4, q5, q6, hx, hP, c0, c1, c2, c3, hT⟩ := KidsAt.at (KidsAt.next hKW.out hbel) j hlt
        rw [Nat.zero_add] at c0 c1 c2 c3
        subst hx
        have hk := size_kid hlt
        have hst := szTake hlt
        have hsl := szLe ks (j + 1)
        have h1 := hss.out
        have h2 := hnh.out
        have kE : Hid _ := ih (ks[j]'hlt) (by omega) (by omega) wr P _ hT
        obtain ⟨S1, hS1⟩ : ∃ S1, S1 = sizes (ks.take j) := ⟨_, rfl⟩
        obtain ⟨S2, hS2⟩ : ∃ S2, S2 = (ks[j]'hlt).size := ⟨_, rfl⟩
        rw [← hS1] at hst ⊢
        rw [← hS2] at hst kE
        have hbd : S1 + S2 ≤ 1000 := by omega
        have hbd1 : ((1 + S1 : Nat) : Int) + (S2 : Int) < 9223372036854775808 := by omega
        have hsth : Hid _ := hst
        clear hst hsl hk hS1 hS2 hT h1 h2
        go_wp2_with (go_at_call 12; refine Calls.mono kE.out ?_; rintro e w4 ⟨rfl, b4⟩)
        go_wp2
        go_roundw
        case rel => exact ⟨j + 1, by omega, by rw [hsth.out]; congr 1; omega, by go_num, bthen hbel b4⟩
        case measure => simp [intOf]; omega
      · obtain rfl : j = ks.length := by omega
        have d1 : decide ((ks.length : Int) < (ks.length : Int)) = false := decide_eq_false (by omega)
        rw [List.take_length]
        go_wp2
        go_ret
        exact ⟨by rw [hsE.out]; rfl, bthen hbW hbel⟩
mutual
def depT : Tr → Nat
  | .node _ _ _ ks => depK ks + 1
def depK : List Tr → Nat
  | [] => 0
  | t :: ts => max (depT t) (depK ts)
end
mutual
theorem dep_pre : ∀ (t : Tr) (d : Nat), maxD (pre0 d t) + 1 = d + depT t
  | .node k a s ks, d => by
    have := dep_preK ks d
    unfold pre0 depT maxD
    omega
theorem dep_preK : ∀ (ts : List Tr) (d : Nat), max d (maxD (preK (d + 1) ts)) = d + depK ts
  | [], d => by unfold preK depK maxD; omega
  | t :: ts, d => by
    have h1 := dep_pre t (d + 1)
    have h2 := dep_preK ts d
    unfold preK depK
    rw [maxD_app]
    omega
end
mutual
theorem dep_size : ∀ t : Tr, depT t ≤ t.size
  | .node k a s ks => by have := depK_size ks; unfold depT Tr.size; omega
theorem depK_size : ∀ ts : List Tr, depK ts ≤ sizes ts
  | [] => by unfold depK; omega
  | t :: ts => by have h1 := dep_size t; have h2 := depK_size ts; unfold depK sizes; omega
end
theorem depK_take {ks : List Tr} {j : Nat} (hj : j < ks.length) : depK (ks.take (j + 1)) = max (depK (ks.take j)) (depT (ks[j]'hj)) := by
  induction ks generalizing j with
  | nil => simp at hj
  | cons t ts ih =>
    cases j with
    | zero => simp [depK]
    | succ j =>
      have := ih (j := j) (by simpa using hj)
      simp only [List.take_succ_cons, depK, List.getElem_cons_succ]
      omega
set_option maxRecDepth 20000 in
set_option maxHeartbeats 2000000 in
theorem rDepth_any (n : Nat) : ∀ (t : Tr), t.size ≤ n → n ≤ 1000 → ∀ (w : World) (P : Nat → Prop) (va : Value), TrV w P va t → Calls Try.prog 14 #[va] w fun e w' => e = .returned (.int .i64 (depT t : Int)) ∧ Below w.heap.size w w' := by
  induction n with
  | zero => intro t h; have := size_pos t; omega
  | succ n ih =>
    intro t hsz hn w P va ha
    obtain ⟨k, a, s, ks⟩ := t
    unfold TrV at ha
    obtain ⟨x, l, cap, rfl, rfl, hlc, hcm, hK⟩ := ha
    obtain ⟨W, hW⟩ : ∃ W, W = w.alloc (.cells #[.int .i64 k, .int .i64 a, .string s, .slice x ks.length cap] 24) := ⟨_, rfl⟩
    have hbW : Below w.heap.size w W := by rw [hW]; exact (Below.refl _ _).alloc (Nat.le_refl _) _
    obtain ⟨g0, g1, g2, g3, _, _⟩ := node_cells (w := W) (b := w.heap.size) (by rw [hW]; exact new_at _ _)
    have hKW : Hid _ := KidsAt.next hK hbW
    clear hK
    have hm : maxLen ≤ 9223372036854775807 := by decide
    have hss : Hid (1 + sizes ks ≤ n + 1) := by show _ ≤ _; unfold Tr.size at hsz; exact hsz
    have hsE : Hid (depT (.node k a s ks) = depK ks + 1) := by show _ = _; unfold depT; rfl
    obtain ⟨TS, hTS⟩ : ∃ TS, TS = depT (.node k a s ks) := ⟨_, rfl⟩
    rw [← hTS] at hsE ⊢
    clear hsz hTS
    have hnh : Hid (n + 1 ≤ 1000) := hn
    clear hn
    go_enter Try.func14, Try.ntmps14
    go_upto_region 1 with fail
    rw [← hW]
    clear hW
    obtain ⟨b1, hb1⟩ : ∃ b1, b1 = w.heap.size := ⟨_, rfl⟩
    rw [← hb1] at g3 ⊢
    clear hb1 g0 g1 g2
    go_wp2
    go_loopw [3, 4, 5] (fun sv iv _ wr => ∃ j : Nat, j ≤ ks.length ∧ sv = .int .i64 ((depK (ks.take j) : Nat) : Int) ∧ iv = .int .i64 j ∧ Below W.heap.size W wr) (fun _ iv _ _ => ks.length - (intOf iv).toNat)
    case atStart => exact ⟨0, Nat.zero_le _, by simp [depK], rfl, Below.refl _ _⟩
    case round =>
      obtain ⟨j, hj, rfl, rfl, hbel⟩ := hrel
      replace g3 := keep_cell hbel g3
      by_cases hlt : j < ks.length
      · have d1 : decide ((j : Int) < (ks.length : Int)) = true := decide_eq_true (by omega)
        have i1 : (j : Int) < (ks.length : Int) := by omega
        obtain ⟨ad, q1, q2, q3, q4, q5, q6, hx, hP, c0, c1, c2, c3, hT⟩ := KidsAt.at (KidsAt.next hKW.out hbel) j hlt
        rw [Nat.zero_add] at c0 c1 c2 c3
        subst hx
        have hk := size_kid hlt
        have hst := depK_take hlt
        have h1 := hss.out
        have h2 := hnh.out
        have kE : Hid _ := ih (ks[j]'hlt) (by omega) (by omega) wr P _ hT
        obtain ⟨S1, hS1⟩ : ∃ S1, S1 = depK (ks.take j) := ⟨_, rfl⟩
        obtain ⟨S2, hS2⟩ : ∃ S2, S2 = depT (ks[j]'hlt) := ⟨_, rfl⟩
        rw [← hS1] at hst ⊢
        rw [← hS2] at hst kE
        have hsth : Hid _ := hst
        clear hst hk hS1 hS2 hT h1 h2
        by_cases hgt : S1 < S2
        · have hd : decide ((S1 : Int) < (S2 : Int)) = true := decide_eq_true (by omega)
          have hd2 : (S1 : Int) < (S2 : Int) := by omega
          go_wp2_with (go_at_call 14; refine Calls.mono kE.out ?_; rintro e w4 ⟨rfl, b4⟩)
          go_wp2
          go_roundw
          case rel => exact ⟨j + 1, by omega, by rw [hsth.out]; congr 1; omega, by go_num, bthen hbel b4⟩
          case measure => simp [intOf]; omega
        · have hd : decide ((S1 : Int) < (S2 : Int)) = false := decide_eq_false (by omega)
          have hd2 : ¬ (S1 : Int) < (S2 : Int) := by omega
          go_wp2_with (go_at_call 14; refine Calls.mono kE.out ?_; rintro e w4 ⟨rfl, b4⟩)
          go_wp2
          go_roundw
          case rel => exact ⟨j + 1, by omega, by rw [hsth.out]; congr 1; omega, by go_num, bthen hbel b4⟩
          case measure => simp [intOf]; omega
      · obtain rfl : j = ks.length := by omega
        have d1 : decide ((ks.length : Int) < (ks.length : Int)) = false := decide_eq_false (by omega)
        rw [List.take_length]
        have hb2 : depK ks ≤ 1000 := by have := depK_size ks; have := hss.out; have := hnh.out; omega
        go_wp2
        go_ret
        exact ⟨by rw [hsE.out]; rfl, bthen hbW hbel⟩
end Go.Proofs.Ytbfklindcmmncaa
