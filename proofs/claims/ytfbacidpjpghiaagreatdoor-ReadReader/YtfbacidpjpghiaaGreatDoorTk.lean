/- scan, the second road: words. -/
import Derived.Test.YtfbacidpjpghiaaGreatDoorSq
namespace Go.Proofs.YtfbacidpjpghiaaGreatDoor
open Go.RowKit
attribute [local go_sem ↓] Go.wp_at_zero Go.wp_at_succ
def wordsW : List (List UInt8) := [[98, 114, 101, 97, 107], [99, 97, 115, 101], [99, 104, 97, 110], [99, 111, 110, 115, 116], [99, 111, 110, 116, 105, 110, 117, 101], [100, 101, 102, 97, 117, 108, 116], [100, 101, 102, 101, 114], [101, 108, 115, 101], [102, 97, 108, 108, 116, 104, 114, 111, 117, 103, 104], [102, 111, 114], [102, 117, 110, 99], [103, 111], [103, 111, 116, 111], [105, 102], [105, 109, 112, 111, 114, 116], [105, 110, 116, 101, 114, 102, 97, 99, 101], [109, 97, 112], [112, 97, 99, 107, 97, 103, 101], [114, 97, 110, 103, 101], [114, 101, 116, 117, 114, 110], [115, 101, 108, 101, 99, 116], [115, 116, 114, 117, 99, 116], [115, 119, 105, 116, 99, 104], [116, 121, 112, 101], [118, 97, 114]]
theorem wordB_any (l : List UInt8) : wordB l = wordsW.any (fun x => x == l) := by
  unfold wordB wordsW
  have h : ∀ x : List UInt8, (x == l) = (l == x) := fun x => BEq.comm
  simp only [List.any_cons, List.any_nil, Bool.or_false, Bool.or_assoc, h]
def wordCells : Array Value := #[.string ⟨#[98, 114, 101, 97, 107]⟩, .string ⟨#[99, 97, 115, 101]⟩, .string ⟨#[99, 104, 97, 110]⟩, .string ⟨#[99, 111, 110, 115, 116]⟩, .string ⟨#[99, 111, 110, 116, 105, 110, 117, 101]⟩, .string ⟨#[100, 101, 102, 97, 117, 108, 116]⟩, .string ⟨#[100, 101, 102, 101, 114]⟩, .string ⟨#[101, 108, 115, 101]⟩, .string ⟨#[102, 97, 108, 108, 116, 104, 114, 111, 117, 103, 104]⟩, .string ⟨#[102, 111, 114]⟩, .string ⟨#[102, 117, 110, 99]⟩, .string ⟨#[103, 111]⟩, .string ⟨#[103, 111, 116, 111]⟩, .string ⟨#[105, 102]⟩, .string ⟨#[105, 109, 112, 111, 114, 116]⟩, .string ⟨#[105, 110, 116, 101, 114, 102, 97, 99, 101]⟩, .string ⟨#[109, 97, 112]⟩, .string ⟨#[112, 97, 99, 107, 97, 103, 101]⟩, .string ⟨#[114, 97, 110, 103, 101]⟩, .string ⟨#[114, 101, 116, 117, 114, 110]⟩, .string ⟨#[115, 101, 108, 101, 99, 116]⟩, .string ⟨#[115, 116, 114, 117, 99, 116]⟩, .string ⟨#[115, 119, 105, 116, 99, 104]⟩, .string ⟨#[116, 121, 112, 101]⟩, .string ⟨#[118, 97, 114]⟩]
theorem wordW_cell (w : World) (k : Nat) (hk : k < 25) : ∃ X : ByteArray, (w.alloc (.cells wordCells 9)).cell? ⟨w.heap.size, k, none⟩ = some (.string X) ∧ X.toList = wordsW[k]?.getD [] := by
  have e : (w.alloc (.cells wordCells 9)).cell? ⟨w.heap.size, k, none⟩ = wordCells[k]? := by
    have hh : (w.alloc (.cells wordCells 9)).heap[w.heap.size]? = some (.cells wordCells 9) := by
      show (w.heap.push _)[w.heap.size]? = _
      simp
    unfold World.cell?
    rw [hh]
    rfl
  rw [e]
  match k, hk with
  | 0, _ => exact ⟨_, rfl, by rw [ByteArray.toList_eq]; rfl⟩
  | 1, _ => exact ⟨_, rfl, by rw [ByteArray.toList_eq]; rfl⟩
  | 2, _ => exact ⟨_, rfl, by rw [ByteArray.toList_eq]; rfl⟩
  | 3, _ => exact ⟨_, rfl, by rw [ByteArray.toList_eq]; rfl⟩
  | 4, _ => exact ⟨_, rfl, by rw [ByteArray.toList_eq]; rfl⟩
  | 5, _ => exact ⟨_, rfl, by rw [ByteArray.toList_eq]; rfl⟩
  | 6, _ => exact ⟨_, rfl, by rw [ByteArray.toList_eq]; rfl⟩
  | 7, _ => exact ⟨_, rfl, by rw [ByteArray.toList_eq]; rfl⟩
  | 8, _ => exact ⟨_, rfl, by rw [ByteArray.toList_eq]; rfl⟩
  | 9, _ => exact ⟨_, rfl, by rw [ByteArray.toList_eq]; rfl⟩
  | 10, _ => exact ⟨_, rfl, by rw [ByteArray.toList_eq]; rfl⟩
  | 11, _ => exact ⟨_, rfl, by rw [ByteArray.toList_eq]; rfl⟩
  | 12, _ => exact ⟨_, rfl, by rw [ByteArray.toList_eq]; rfl⟩
  | 13, _ => exact ⟨_, rfl, by rw [ByteArray.toList_eq]; rfl⟩
  | 14, _ => exact ⟨_, rfl, by rw [ByteArray.toList_eq]; rfl⟩
  | 15, _ => exact ⟨_, rfl, by rw [ByteArray.toList_eq]; rfl⟩
  | 16, _ => exact ⟨_, rfl, by rw [ByteArray.toList_eq]; rfl⟩
  | 17, _ => exact ⟨_, rfl, by rw [ByteArray.toList_eq]; rfl⟩
  | 18, _ => exact ⟨_, rfl, by rw [ByteArray.toList_eq]; rfl⟩
  | 19, _ => exact ⟨_, rfl, by rw [ByteArray.toList_eq]; rfl⟩
  | 20, _ => exact ⟨_, rfl, by rw [ByteArray.toList_eq]; rfl⟩
  | 21, _ => exact ⟨_, rfl, by rw [ByteArray.toList_eq]; rfl⟩
  | 22, _ => exact ⟨_, rfl, by rw [ByteArray.toList_eq]; rfl⟩
  | 23, _ => exact ⟨_, rfl, by rw [ByteArray.toList_eq]; rfl⟩
  | 24, _ => exact ⟨_, rfl, by rw [ByteArray.toList_eq]; rfl⟩
  | n + 25, h => omega
theorem wordW_drop (k : Nat) (hk : k < 25) : wordsW.drop k = (wordsW[k]?.getD []) :: wordsW.drop (k + 1) := by
  have hl : k < wordsW.length := hk
  rw [List.drop_eq_getElem_cons hl, List.getElem?_eq_getElem hl]
  rfl
set_option maxRecDepth 20000 in
set_option maxHeartbeats 4000000 in
theorem refWord_any (s : ByteArray) (w : World) : Calls Tryz.prog 28 #[.string s] w fun e w' => e = .returned (.bool (wordB s.toList)) ∧ Below w.heap.size w w' := by
  rw [wordB_any]
  obtain ⟨R, hR⟩ : ∃ R, R = wordsW.any (fun x => x == s.toList) := ⟨_, rfl⟩
  rw [← hR]
  obtain ⟨W, hW⟩ : ∃ W, W = w.alloc (.cells wordCells 9) := ⟨_, rfl⟩
  have hcell : Hid (∀ k, k < 25 → ∃ X : ByteArray, W.cell? ⟨w.heap.size, k, none⟩ = some (.string X) ∧ X.toList = wordsW[k]?.getD []) := by rw [hW]; exact fun k hk => wordW_cell w k hk
  have hbW : Below w.heap.size w W := by rw [hW]; exact (Below.refl _ _).alloc (Nat.le_refl _) _
  replace hR : Hid _ := hR
  unfold wordCells at hW
  go_enter Tryz.func28, Tryz.ntmps28
  go_upto_region 2 with fail
  rw [← hW]
  clear hW
  go_wp2
  go_loop [4] (fun vi => ∃ k : Nat, vi = .int .i64 k ∧ k ≤ 25 ∧ Hid (R = (wordsW.drop k).any (fun x => x == s.toList))) (fun vi => 25 - (intOf vi).toNat)
  case atStart => exact ⟨0, rfl, by decide, by rw [List.drop_zero]; exact hR.out⟩
  case round =>
    obtain ⟨k, rfl, hk, hI⟩ := hrel
    have hI' := hI.out
    clear hI hR
    by_cases hlt : k < 25
    · have d1 : decide ((k : Int) < 25) = true := decide_eq_true (by omega)
      obtain ⟨X, hc, hX⟩ := hcell.out k hlt
      rw [wordW_drop k hlt, List.any_cons, ← hX] at hI'
      have hw1 : IntKind.i64.wrap ((k : Int) + 1) = ((k + 1 : Nat) : Int) := by rw [IntKind.wrap_i64]; omega
      clear hX
      by_cases he : (X.toList == s.toList) = true
      · rw [he, Bool.true_or] at hI'
        subst hI'
        go_wp2
        go_ret
        exact ⟨rfl, hbW⟩
      · have hf : (X.toList == s.toList) = false := by simpa using he
        rw [hf, Bool.false_or] at hI'
        clear he
        replace hI' : Hid _ := hI'
        go_wp2
        refine ⟨⟨k + 1, rfl, by omega, hI'⟩, by simp [intOf]; omega⟩
    · obtain rfl : k = 25 := by omega
      have hRf : R = false := by rw [hI']; rfl
      subst hRf
      clear hI'
      go_wp2
      go_ret
      exact ⟨rfl, hbW⟩
end Go.Proofs.YtfbacidpjpghiaaGreatDoor
