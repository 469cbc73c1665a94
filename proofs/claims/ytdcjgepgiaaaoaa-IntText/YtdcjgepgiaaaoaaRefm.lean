/- Plain mathematics for the second road: words of 32 bits cut into digits of 16 bits, and put together again. -/
import Derived.Test.YtdcjgepgiaaaoaaMath
namespace Go.Proofs.Ytdcjgepgiaaaoaa

/-- Each word as its two digits. -/
def halves : List Int → List Int
  | [] => []
  | d :: ds => d % 65536 :: d / 65536 :: halves ds
theorem halves_len (zs : List Int) : (halves zs).length = 2 * zs.length := by
  induction zs with
  | nil => rfl
  | cons d ds ih => simp only [halves, List.length_cons, ih]; omega
theorem halves_snoc (xs : List Int) (d : Int) : halves (xs ++ [d]) = halves xs ++ [d % 65536, d / 65536] := by
  induction xs with
  | nil => rfl
  | cons e es ih => simp [halves, ih]
theorem halves_words {zs : List Int} (h : Words 4294967296 zs) : Words 65536 (halves zs) := by
  induction zs with
  | nil => exact Words.nil _
  | cons d ds ih => have := h.head; exact Words.cons (by omega) (Words.cons (by omega) (ih h.tail))
theorem halves_val (zs : List Int) : val 65536 (halves zs) = val 4294967296 zs := by
  induction zs with
  | nil => rfl
  | cons d ds ih => simp only [halves, val_cons, ih]; omega
theorem halves_take (zs : List Int) (k : Nat) (h : k < zs.length) : halves (zs.take (k + 1)) = halves (zs.take k) ++ [zs[k]?.getD 0 % 65536, zs[k]?.getD 0 / 65536] := by
  rw [List.take_succ_eq_append_getElem h, halves_snoc, List.getElem?_eq_getElem h]; rfl
/-- Two digits each put together to a word. -/
def paired : List Int → List Int
  | [] => []
  | [d] => [d]
  | d :: e :: ds => (d + 65536 * e) :: paired ds
theorem paired_len : (zs : List Int) → (paired zs).length = (zs.length + 1) / 2
  | [] => rfl
  | [_] => by simp [paired]
  | _ :: _ :: ds => by simp only [paired, List.length_cons, paired_len ds]; omega
theorem paired_val : (zs : List Int) → val 4294967296 (paired zs) = val 65536 zs
  | [] => rfl
  | [d] => by simp [paired, val]
  | d :: e :: ds => by simp only [paired, val_cons, paired_val ds]; omega
theorem paired_words : (zs : List Int) → Words 65536 zs → Words 4294967296 (paired zs)
  | [], _ => Words.nil _
  | [_], h => Words.one (by have := h.head; omega)
  | d :: e :: ds, h => by
    have h1 := h.head
    have h2 := h.tail.head
    exact Words.cons (by omega) (paired_words ds h.tail.tail)
theorem paired_ne : (zs : List Int) → zs ≠ [] → paired zs ≠ []
  | [], h => absurd rfl h
  | [_], _ => by simp [paired]
  | _ :: _ :: _, _ => by simp [paired]
theorem paired_nrm : (zs : List Int) → Words 65536 zs → nrm zs → nrm (paired zs)
  | [], _, _ => trivial
  | [_], _, h => h
  | d :: e :: ds, hw, h => by
    have h1 := hw.head
    have h2 := hw.tail.head
    refine ⟨fun he => ?_, paired_nrm ds hw.tail.tail h.2.2⟩
    have hds : ds = [] := by
      by_cases hh : ds = []
      · exact hh
      · exact absurd he (paired_ne ds hh)
    have := h.2.1 hds
    omega
theorem paired_even : (xs ys : List Int) → (k : Nat) → xs.length = 2 * k → paired (xs ++ ys) = paired xs ++ paired ys
  | [], _, _, _ => rfl
  | [_], _, k, h => by simp at h; omega
  | d :: e :: ds, ys, k, h => by
    simp only [List.length_cons] at h
    simp only [List.cons_append, paired, paired_even ds ys (k - 1) (by omega)]
theorem paired_two (zs : List Int) (k : Nat) (h : 2 * k + 1 < zs.length) : paired (zs.take (2 * (k + 1))) = paired (zs.take (2 * k)) ++ [zs[2 * k]?.getD 0 + 65536 * zs[2 * k + 1]?.getD 0] := by
  rw [show 2 * (k + 1) = (2 * k + 1) + 1 from by omega, List.take_succ_eq_append_getElem h, List.take_succ_eq_append_getElem (by omega), List.append_assoc, paired_even _ _ k (by rw [List.length_take]; omega), List.getElem?_eq_getElem h, List.getElem?_eq_getElem (i := 2 * k) (by omega)]; rfl
theorem paired_one (zs : List Int) (k : Nat) (h : 2 * k + 1 = zs.length) : paired (zs.take (2 * (k + 1))) = paired (zs.take (2 * k)) ++ [zs[2 * k]?.getD 0] := by
  have e : zs.take (2 * (k + 1)) = zs.take (2 * k + 1) := by rw [List.take_of_length_le (by omega), List.take_of_length_le (by omega)]
  rw [e, List.take_succ_eq_append_getElem (by omega), paired_even _ _ k (by rw [List.length_take]; omega), List.getElem?_eq_getElem (by omega)]; rfl
/-- The number a normal form stands for is one, at whichever base: so the words are the digits' pairs. -/
theorem paired_unique {m n : Bool} {xs ys : List Int} (hx : Words 4294967296 xs) (hy : Words 65536 ys) (nx : Norm m xs) (ny : Norm n ys) : (num 4294967296 m xs = num 65536 n ys) ↔ (m = n ∧ xs = paired ys) := by
  have hny : Norm n (paired ys) := ⟨paired_nrm ys hy ny.1, fun h => paired_ne ys (ny.2 h)⟩
  have hv : num 4294967296 n (paired ys) = num 65536 n ys := by simp [num, paired_val]
  constructor
  · intro h; exact norm_unique (by decide) hx (paired_words ys hy) nx hny (by rw [h, hv])
  · rintro ⟨rfl, rfl⟩; exact hv
end Go.Proofs.Ytdcjgepgiaaaoaa
