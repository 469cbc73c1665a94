/- Path: the program's and the document's. -/
import Derived.Test.YtkngjljcjgagbaaChecked
import Derived.Test.YtkngjljcjgagbaaBase
import Derived.WalkKit
import Derived.WalkSpells
import Derived.WalkLawsBesides
import Derived.Outline
import Derived.Deep.QuietTactic
import Derived.BigQuiet
import Derived.OpenShut
import Derived.Lib.BitFns
import Derived.Deep.AppendLies
import Derived.Deep.DrawnRows
import Derived.Test.YtkngjljcjgagbaaStp
namespace Go.Proofs.Ytkngjljcjgagbaa
open Go.RowKit
attribute [local go_sem ↓] Go.wp_at_zero Go.wp_at_succ
/-- May the byte stand in a path? -/
def okB (c : Int) : Bool := decide (c = 95 ∨ c = 47 ∨ c = 46 ∨ c = 45 ∨ (97 ≤ c ∧ c ≤ 122) ∨ (65 ≤ c ∧ c ≤ 90) ∨ (48 ≤ c ∧ c ≤ 57))
set_option maxHeartbeats 1000000 in
theorem inPath_any (c : Int) (w : World) : Calls Try.prog 20 #[.int .u8 c] w fun e w' => e = .returned (.bool (okB c)) ∧ w' = w := by
  have h1 : (c = 95 ∨ c = 47 ∨ c = 46 ∨ c = 45) ∨ ¬ (c = 95 ∨ c = 47 ∨ c = 46 ∨ c = 45) := by omega
  rcases h1 with (rfl | rfl | rfl | rfl) | h1
  · go_enter Try.func20, Try.ntmps20
    go_wp2
    go_ret
    exact ⟨rfl, rfl⟩
  · go_enter Try.func20, Try.ntmps20
    go_wp2
    go_ret
    exact ⟨rfl, rfl⟩
  · go_enter Try.func20, Try.ntmps20
    go_wp2
    go_ret
    exact ⟨rfl, rfl⟩
  · go_enter Try.func20, Try.ntmps20
    go_wp2
    go_ret
    exact ⟨rfl, rfl⟩
  · have a1 : ¬ c = 95 := by omega
    have a2 : ¬ c = 47 := by omega
    have a3 : ¬ c = 46 := by omega
    have a4 : ¬ c = 45 := by omega
    clear h1
    go_enter Try.func20, Try.ntmps20
    go_wp2
    all_goals go_ret
    all_goals refine ⟨congrArg (fun b => Ending.returned (.bool b)) ?_, rfl⟩
    all_goals rw [Bool.eq_iff_iff]
    all_goals simp [okB]
    all_goals omega
/-- What may be a path. -/
def PathP (s : ByteArray) : Prop := 0 < s.size ∧ s.size ≤ 100 ∧ (∀ h : 0 < s.size, ((s[0]'h).toNat : Int) ≠ 47) ∧ (∀ h : s.size - 1 < s.size, ((s[s.size - 1]'h).toNat : Int) ≠ 47) ∧ ∀ i (h : i < s.size), okB ((s[i]'h).toNat : Int) = true
/-- A truth is answered, and memory stays. -/
def BoolIs (e : Ending) (w w' : World) (p : Prop) : Prop := ∃ b, e = .returned (.bool b) ∧ (b = true ↔ p) ∧ w' = w
theorem isEmpty_of (s : ByteArray) (h : s.size = 0) : s.toList.isEmpty = true := by
  rw [ByteArray.toList_eq]
  have h' : s.data.toList.length = s.size := by simp
  rw [h] at h'
  rw [List.eq_nil_of_length_eq_zero h']
  rfl
theorem toList_nonempty (s : ByteArray) (h : 0 < s.size) : s.toList.isEmpty = false := by
  rw [ByteArray.toList_eq]
  have h' : s.data.toList.length = s.size := by simp
  cases hl : s.data.toList with
  | nil => rw [hl] at h'; simp at h'; omega
  | cons => rfl
set_option maxRecDepth 20000 in
set_option maxHeartbeats 2000000 in
theorem path12_any (s : ByteArray) (w : World) : Calls Try.prog 12 #[.string s] w fun e w' => BoolIs e w w' (PathP s) := by
  by_cases h0 : s.size = 0
  · have hse := isEmpty_of s h0
    have hno : ¬ PathP s := fun h => by have := h.1; omega
    replace hno : Hid _ := hno
    clear h0
    go_enter Try.func12, Try.ntmps12
    go_wp2
    go_ret
    exact ⟨false, rfl, ⟨fun h => (Bool.false_ne_true h).elim, fun h => (hno.out h).elim⟩, rfl⟩
  have hp : 0 < s.size := by omega
  have hse := toList_nonempty s hp
  by_cases h1 : 100 < s.size
  · have hno : ¬ PathP s := fun h => by have := h.2.1; omega
    replace hno : Hid _ := hno
    go_enter Try.func12, Try.ntmps12
    go_wp2
    go_ret
    exact ⟨false, rfl, ⟨fun h => (Bool.false_ne_true h).elim, fun h => (hno.out h).elim⟩, rfl⟩
  by_cases h2 : ((s[0]'hp).toNat : Int) = 47
  · have hno : ¬ PathP s := fun h => h.2.2.1 hp h2
    replace hno : Hid _ := hno
    have h2' : (((s[0]'hp).toNat : Int) == 47) = true := by simp [h2]
    go_enter Try.func12, Try.ntmps12
    go_wp2
    go_ret
    exact ⟨false, rfl, ⟨fun h => (Bool.false_ne_true h).elim, fun h => (hno.out h).elim⟩, rfl⟩
  have hl : s.size - 1 < s.size := by omega
  have h2' : (((s[0]'hp).toNat : Int) == 47) = false := by simp [h2]
  have e1 : ((s.size : Int) - 1).toNat = s.size - 1 := by omega
  by_cases h3 : ((s[s.size - 1]'hl).toNat : Int) = 47
  · have hno : ¬ PathP s := fun h => h.2.2.2.1 hl h3
    replace hno : Hid _ := hno
    have h3' : (((s[s.size - 1]'hl).toNat : Int) == 47) = true := by simp [h3]
    go_enter Try.func12, Try.ntmps12
    go_wp2
    go_ret
    exact ⟨false, rfl, ⟨fun h => (Bool.false_ne_true h).elim, fun h => (hno.out h).elim⟩, rfl⟩
  have h3' : (((s[s.size - 1]'hl).toNat : Int) == 47) = false := by simp [h3]
  have hyes : (∀ i (h : i < s.size), okB ((s[i]'h).toNat : Int) = true) → PathP s := fun h => ⟨hp, by omega, fun _ => h2, fun _ => h3, h⟩
  replace hyes : Hid _ := hyes
  go_enter Try.func12, Try.ntmps12
  go_wp2
  go_loop [3, 26] (fun _ i => ∃ k : Nat, k ≤ s.size ∧ i = .int .i64 k ∧ Hid (∀ j (h : j < s.size), j < k → okB ((s[j]'h).toNat : Int) = true)) (fun _ i => s.size - (intOf i).toNat)
  case atStart => exact ⟨0, Nat.zero_le _, rfl, fun j _ h => by omega⟩
  case round =>
    obtain ⟨k, hk, rfl, hr⟩ := hrel
    by_cases hlt : k < s.size
    · cases hok : okB ((s[k]'hlt).toNat : Int) with
      | true =>
        have hok' : Hid _ := hok
        go_wp2_with (go_at_call 20; refine (inPath_any _ _).mono ?_; rintro e w' ⟨rfl, rfl⟩; rw [hok'.out])
        go_round
        case rel => exact ⟨k + 1, by omega, by go_num, fun j h hj => by
          by_cases e : j = k
          · subst e; exact hok'.out
          · exact hr.out j h (by omega)⟩
        case measure => simp [intOf]; omega
      | false =>
        have hno : ¬ PathP s := fun h => by rw [h.2.2.2.2 k hlt] at hok; cases hok
        replace hno : Hid _ := hno
        have hok' : Hid _ := hok
        go_wp2_with (go_at_call 20; refine (inPath_any _ _).mono ?_; rintro e w' ⟨rfl, rfl⟩; rw [hok'.out])
        go_ret
        exact ⟨false, rfl, ⟨fun h => (Bool.false_ne_true h).elim, fun h => (hno.out h).elim⟩, rfl⟩
    · obtain rfl : k = s.size := by omega
      have hy : PathP s := hyes.out (fun i h => hr.out i h h)
      replace hy : Hid _ := hy
      go_wp2
      go_ret
      exact ⟨true, rfl, ⟨fun _ => hy.out, fun _ => rfl⟩, rfl⟩

set_option maxRecDepth 20000 in
set_option maxHeartbeats 2000000 in
theorem path13_any (s : ByteArray) (w : World) : Calls Try.prog 13 #[.string s] w fun e w' => BoolIs e w w' (PathP s) := by
  by_cases h0 : s.size = 0
  · have hse := isEmpty_of s h0
    have hno : ¬ PathP s := fun h => by have := h.1; omega
    replace hno : Hid _ := hno
    clear h0
    go_enter Try.func13, Try.ntmps13
    go_wp2
    go_ret
    exact ⟨false, rfl, ⟨fun h => (Bool.false_ne_true h).elim, fun h => (hno.out h).elim⟩, rfl⟩
  have hp : 0 < s.size := by omega
  have hse := toList_nonempty s hp
  by_cases h1 : 100 < s.size
  · have hno : ¬ PathP s := fun h => by have := h.2.1; omega
    replace hno : Hid _ := hno
    go_enter Try.func13, Try.ntmps13
    go_wp2
    go_ret
    exact ⟨false, rfl, ⟨fun h => (Bool.false_ne_true h).elim, fun h => (hno.out h).elim⟩, rfl⟩
  by_cases h2 : ((s[0]'hp).toNat : Int) = 47
  · have hno : ¬ PathP s := fun h => h.2.2.1 hp h2
    replace hno : Hid _ := hno
    have h2' : (((s[0]'hp).toNat : Int) == 47) = true := by simp [h2]
    go_enter Try.func13, Try.ntmps13
    go_wp2
    go_ret
    exact ⟨false, rfl, ⟨fun h => (Bool.false_ne_true h).elim, fun h => (hno.out h).elim⟩, rfl⟩
  have hl : s.size - 1 < s.size := by omega
  have h2' : (((s[0]'hp).toNat : Int) == 47) = false := by simp [h2]
  have e1 : ((s.size : Int) - 1).toNat = s.size - 1 := by omega
  by_cases h3 : ((s[s.size - 1]'hl).toNat : Int) = 47
  · have hno : ¬ PathP s := fun h => h.2.2.2.1 hl h3
    replace hno : Hid _ := hno
    have h3' : (((s[s.size - 1]'hl).toNat : Int) == 47) = true := by simp [h3]
    go_enter Try.func13, Try.ntmps13
    go_wp2
    go_ret
    exact ⟨false, rfl, ⟨fun h => (Bool.false_ne_true h).elim, fun h => (hno.out h).elim⟩, rfl⟩
  have h3' : (((s[s.size - 1]'hl).toNat : Int) == 47) = false := by simp [h3]
  have hyes : (∀ i (h : i < s.size), okB ((s[i]'h).toNat : Int) = true) → PathP s := fun h => ⟨hp, by omega, fun _ => h2, fun _ => h3, h⟩
  replace hyes : Hid _ := hyes
  go_enter Try.func13, Try.ntmps13
  go_wp2
  go_loop [3, 4] (fun i _ => ∃ k : Nat, k ≤ s.size ∧ i = .int .i64 k ∧ Hid (∀ j (h : j < s.size), j < k → okB ((s[j]'h).toNat : Int) = true)) (fun i _ => s.size - (intOf i).toNat)
  case atStart => exact ⟨0, Nat.zero_le _, rfl, fun j _ h => by omega⟩
  case round =>
    obtain ⟨k, hk, rfl, hr⟩ := hrel
    by_cases hlt : k < s.size
    · have hcl : ((s[k]'hlt).toNat : Int) < 45 ∨ ((s[k]'hlt).toNat : Int) = 45 ∨ ((s[k]'hlt).toNat : Int) = 46 ∨ ((s[k]'hlt).toNat : Int) = 47 ∨ (48 ≤ ((s[k]'hlt).toNat : Int) ∧ ((s[k]'hlt).toNat : Int) ≤ 57) ∨ (58 ≤ ((s[k]'hlt).toNat : Int) ∧ ((s[k]'hlt).toNat : Int) ≤ 64) ∨ (65 ≤ ((s[k]'hlt).toNat : Int) ∧ ((s[k]'hlt).toNat : Int) ≤ 90) ∨ (91 ≤ ((s[k]'hlt).toNat : Int) ∧ ((s[k]'hlt).toNat : Int) ≤ 94) ∨ ((s[k]'hlt).toNat : Int) = 95 ∨ ((s[k]'hlt).toNat : Int) = 96 ∨ (97 ≤ ((s[k]'hlt).toNat : Int) ∧ ((s[k]'hlt).toNat : Int) ≤ 122) ∨ 123 ≤ ((s[k]'hlt).toNat : Int) := by omega
      clear hse
      rcases hcl with h4 | h4 | h4 | h4 | ⟨h4, h5⟩ | ⟨h4, h5⟩ | ⟨h4, h5⟩ | ⟨h4, h5⟩ | h4 | h4 | ⟨h4, h5⟩ | h4
      · have hok : okB ((s[k]'hlt).toNat : Int) = false := by unfold okB; exact decide_eq_false (by omega)
        have hno : ¬ PathP s := fun h => by rw [h.2.2.2.2 k hlt] at hok; cases hok
        replace hno : Hid _ := hno
        clear hok
        have q1 : (((s[k]'hlt).toNat : Int) == 95) = false := by rw [beq_eq_false_iff_ne]; omega
        have q2 : (((s[k]'hlt).toNat : Int) == 47) = false := by rw [beq_eq_false_iff_ne]; omega
        have q3 : (((s[k]'hlt).toNat : Int) == 46) = false := by rw [beq_eq_false_iff_ne]; omega
        have q4 : (((s[k]'hlt).toNat : Int) == 45) = false := by rw [beq_eq_false_iff_ne]; omega
        go_wp2
        all_goals first
          | (go_ret; exact ⟨false, rfl, ⟨fun h => (Bool.false_ne_true h).elim, fun h => (hno.out h).elim⟩, rfl⟩)
          | (exfalso; rename_i hh; simp at hh; omega)
      · have hok' : Hid (okB ((s[k]'hlt).toNat : Int) = true) := by show okB _ = true; unfold okB; exact decide_eq_true (by omega)
        go_wp2
        go_round
        case rel => exact ⟨k + 1, by omega, by go_num, fun j h hj => by
          by_cases e : j = k
          · subst e; exact hok'.out
          · exact hr.out j h (by omega)⟩
        case measure => simp [intOf]; omega
      · have hok' : Hid (okB ((s[k]'hlt).toNat : Int) = true) := by show okB _ = true; unfold okB; exact decide_eq_true (by omega)
        go_wp2
        go_round
        case rel => exact ⟨k + 1, by omega, by go_num, fun j h hj => by
          by_cases e : j = k
          · subst e; exact hok'.out
          · exact hr.out j h (by omega)⟩
        case measure => simp [intOf]; omega
      · have hok' : Hid (okB ((s[k]'hlt).toNat : Int) = true) := by show okB _ = true; unfold okB; exact decide_eq_true (by omega)
        go_wp2
        go_round
        case rel => exact ⟨k + 1, by omega, by go_num, fun j h hj => by
          by_cases e : j = k
          · subst e; exact hok'.out
          · exact hr.out j h (by omega)⟩
        case measure => simp [intOf]; omega
      · have hok' : Hid (okB ((s[k]'hlt).toNat : Int) = true) := by show okB _ = true; unfold okB; exact decide_eq_true (by omega)
        go_wp2
        go_round
        case rel => exact ⟨k + 1, by omega, by go_num, fun j h hj => by
          by_cases e : j = k
          · subst e; exact hok'.out
          · exact hr.out j h (by omega)⟩
        case measure => simp [intOf]; omega
      · have hok : okB ((s[k]'hlt).toNat : Int) = false := by unfold okB; exact decide_eq_false (by omega)
        have hno : ¬ PathP s := fun h => by rw [h.2.2.2.2 k hlt] at hok; cases hok
        replace hno : Hid _ := hno
        clear hok
        have q1 : (((s[k]'hlt).toNat : Int) == 95) = false := by rw [beq_eq_false_iff_ne]; omega
        have q2 : (((s[k]'hlt).toNat : Int) == 47) = false := by rw [beq_eq_false_iff_ne]; omega
        have q3 : (((s[k]'hlt).toNat : Int) == 46) = false := by rw [beq_eq_false_iff_ne]; omega
        have q4 : (((s[k]'hlt).toNat : Int) == 45) = false := by rw [beq_eq_false_iff_ne]; omega
        go_wp2
        all_goals first
          | (exfalso; rename_i hh; simp at hh; omega)
          | (go_ret; exact ⟨false, rfl, ⟨fun h => (Bool.false_ne_true h).elim, fun h => (hno.out h).elim⟩, rfl⟩)
      · have hok' : Hid (okB ((s[k]'hlt).toNat : Int) = true) := by show okB _ = true; unfold okB; exact decide_eq_true (by omega)
        go_wp2
        go_round
        case rel => exact ⟨k + 1, by omega, by go_num, fun j h hj => by
          by_cases e : j = k
          · subst e; exact hok'.out
          · exact hr.out j h (by omega)⟩
        case measure => simp [intOf]; omega
      · have hok : okB ((s[k]'hlt).toNat : Int) = false := by unfold okB; exact decide_eq_false (by omega)
        have hno : ¬ PathP s := fun h => by rw [h.2.2.2.2 k hlt] at hok; cases hok
        replace hno : Hid _ := hno
        clear hok
        have q1 : (((s[k]'hlt).toNat : Int) == 95) = false := by rw [beq_eq_false_iff_ne]; omega
        have q2 : (((s[k]'hlt).toNat : Int) == 47) = false := by rw [beq_eq_false_iff_ne]; omega
        have q3 : (((s[k]'hlt).toNat : Int) == 46) = false := by rw [beq_eq_false_iff_ne]; omega
        have q4 : (((s[k]'hlt).toNat : Int) == 45) = false := by rw [beq_eq_false_iff_ne]; omega
        go_wp2
        all_goals first
          | (exfalso; rename_i hh; simp at hh; omega)
          | (go_ret; exact ⟨false, rfl, ⟨fun h => (Bool.false_ne_true h).elim, fun h => (hno.out h).elim⟩, rfl⟩)
      · have hok' : Hid (okB ((s[k]'hlt).toNat : Int) = true) := by show okB _ = true; unfold okB; exact decide_eq_true (by omega)
        go_wp2
        go_round
        case rel => exact ⟨k + 1, by omega, by go_num, fun j h hj => by
          by_cases e : j = k
          · subst e; exact hok'.out
          · exact hr.out j h (by omega)⟩
        case measure => simp [intOf]; omega
      · have hok : okB ((s[k]'hlt).toNat : Int) = false := by unfold okB; exact decide_eq_false (by omega)
        have hno : ¬ PathP s := fun h => by rw [h.2.2.2.2 k hlt] at hok; cases hok
        replace hno : Hid _ := hno
        clear hok
        have q1 : (((s[k]'hlt).toNat : Int) == 95) = false := by rw [beq_eq_false_iff_ne]; omega
        have q2 : (((s[k]'hlt).toNat : Int) == 47) = false := by rw [beq_eq_false_iff_ne]; omega
        have q3 : (((s[k]'hlt).toNat : Int) == 46) = false := by rw [beq_eq_false_iff_ne]; omega
        have q4 : (((s[k]'hlt).toNat : Int) == 45) = false := by rw [beq_eq_false_iff_ne]; omega
        go_wp2
        all_goals first
          | (exfalso; rename_i hh; simp at hh; omega)
          | (go_ret; exact ⟨false, rfl, ⟨fun h => (Bool.false_ne_true h).elim, fun h => (hno.out h).elim⟩, rfl⟩)
      · have hok' : Hid (okB ((s[k]'hlt).toNat : Int) = true) := by show okB _ = true; unfold okB; exact decide_eq_true (by omega)
        go_wp2
        go_round
        case rel => exact ⟨k + 1, by omega, by go_num, fun j h hj => by
          by_cases e : j = k
          · subst e; exact hok'.out
          · exact hr.out j h (by omega)⟩
        case measure => simp [intOf]; omega
      · have hok : okB ((s[k]'hlt).toNat : Int) = false := by unfold okB; exact decide_eq_false (by omega)
        have hno : ¬ PathP s := fun h => by rw [h.2.2.2.2 k hlt] at hok; cases hok
        replace hno : Hid _ := hno
        clear hok
        have q1 : (((s[k]'hlt).toNat : Int) == 95) = false := by rw [beq_eq_false_iff_ne]; omega
        have q2 : (((s[k]'hlt).toNat : Int) == 47) = false := by rw [beq_eq_false_iff_ne]; omega
        have q3 : (((s[k]'hlt).toNat : Int) == 46) = false := by rw [beq_eq_false_iff_ne]; omega
        have q4 : (((s[k]'hlt).toNat : Int) == 45) = false := by rw [beq_eq_false_iff_ne]; omega
        go_wp2
        all_goals first
          | (exfalso; rename_i hh; simp at hh; omega)
          | (go_ret; exact ⟨false, rfl, ⟨fun h => (Bool.false_ne_true h).elim, fun h => (hno.out h).elim⟩, rfl⟩)
    · obtain rfl : k = s.size := by omega
      have hy : PathP s := hyes.out (fun i h => hr.out i h h)
      replace hy : Hid _ := hy
      go_wp2
      go_ret
      exact ⟨true, rfl, ⟨fun _ => hy.out, fun _ => rfl⟩, rfl⟩

end Go.Proofs.Ytkngjljcjgagbaa
