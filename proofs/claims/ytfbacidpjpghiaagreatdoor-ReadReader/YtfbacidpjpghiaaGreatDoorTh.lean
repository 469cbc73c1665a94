/- scan, the second road: a string at a place. -/
import Derived.Test.YtfbacidpjpghiaaGreatDoorTg
import Derived.Test.YtfbacidpjpghiaaGreatDoorSkm
import Derived.Deep.AppendLies
namespace Go.Proofs.YtfbacidpjpghiaaGreatDoor
open Go.RowKit
attribute [local go_sem ↓] Go.wp_at_zero Go.wp_at_succ
/-- A string that begins at i, read up to k: its length and what it says; 0: it is wrong. -/
def txtGo (l : List UInt8) (q : Int) (i : Nat) : Nat → Nat → List UInt8 → Option (Nat × List UInt8)
  | 0, _, _ => none
  | f + 1, k, acc => if k < l.length then (if byteAt l k = q then some (k + 1 - i, acc) else match pieceM (l.drop k) q with
      | some (t, n + 1) => txtGo l q i f (k + (n + 1)) (acc ++ t)
      | _ => some (0, [])) else some (0, [])
theorem Tryz.info5' : (Tryz.prog.info? 5).map (fun i => (i.zero, i.size, i.bytes)) = some (some (.int .u8 0), 1, 1) := by kernel_rfl
theorem add_block (a : Addr) (n : Nat) : (a.add n).block = a.block := by unfold Addr.add; split <;> rfl
theorem add_succ (a : Addr) (n : Nat) : a.add (n + 1) = ⟨a.block, a.off + (n + 1), none⟩ := by unfold Addr.add; rw [if_neg (by omega)]
theorem BytesAt.next {w w' : World} {ad : Addr} {B : Nat} {l : List UInt8} (h : BytesAt w ad l) (hb : Below B w w') (hg : ad.block < B) : BytesAt w' ad l := fun j hj => (hb.cell (by rw [add_block]; exact hg)).trans (h j hj)
theorem one_news (w : World) (x : Int) : ∀ j u, ([.int .u8 x] : List Value)[j]? = some u → (w.alloc (.cells #[.int .u8 x] 5)).cell? ((⟨w.heap.size, 0, none⟩ : Addr).add j) = some u := by
  intro j u hj
  rw [addr_add]
  match j, hj with
  | 0, hj => simp at hj; subst hj; simp [go_sem]
theorem one_cell (x : Int) : ∀ u ∈ ([.int .u8 x] : List Value), u.oneCell' = true := by
  intro u hu
  simp at hu
  subst hu
  rfl
/-- What the loop holds: what was said so far lies in a row of its own. -/
def Said (w wr : World) (v : Value) (acc : List UInt8) : Prop := wr.ownsRow w.heap.size 5 1 v acc.length (Lib.byteCells acc) ∧ Below w.heap.size w wr
theorem esc_len {l t : List UInt8} {n : Nat} (h : escM l = some (t, n + 1)) : t.length ≤ n + 1 := by
  unfold escM at h
  split at h
  · cases h
  · split at h
    · cases h; simp; omega
    · split at h
      · cases h; simp
      · split at h
        · cases h; simp
        · split at h
          · unfold byteM at h
            split at h
            · cases h
            · cases h; simp
          · split at h
            · unfold pointM at h
              split at h
              · cases h
              · split at h
                · have := encode_le (by assumption : Nat)
                  cases h
                  exact Nat.le_trans (encode_le _) (by decide)
                · cases h
            · cases h
theorem take2_drop1 (l : List UInt8) (k : Nat) (hk1 : k + 1 < l.length) : ((l.drop k).take 2).drop 1 = [l.getD (k + 1) 0] := by
  have hg : l.getD (k + 1) 0 = l[k + 1]'hk1 := by simp [List.getD, List.getElem?_eq_getElem hk1]
  rw [hg, List.drop_take, List.drop_drop, List.drop_eq_getElem_cons hk1]
  rfl
/-- What a piece is, arm by arm. -/
theorem piece_arms (l : List UInt8) (k : Nat) (hk : k < l.length) (q : Nat) (t : List UInt8) (n : Nat) (_hq2 : q = 34 ∨ q = 96) (hp : pieceM (l.drop k) (q : Int) = some (t, n)) :
    (q = 34 ∧ (l.getD k 0).toNat = 10 ∧ t = [] ∧ n = 0) ∨ (q = 34 ∧ (l.getD k 0).toNat = 92 ∧ escM (l.drop k) = some (t, n)) ∨ (q = 96 ∧ (l.getD k 0).toNat = 13 ∧ t = [] ∧ n = 1 ∧ utfM l k = 1) ∨
    ((q = 34 → (l.getD k 0).toNat ≠ 10 ∧ (l.getD k 0).toNat ≠ 92) ∧ (q = 96 → (l.getD k 0).toNat ≠ 13) ∧ utfM l k = n ∧ (0 < n → t = (l.drop k).take n) ∧ n ≤ l.length - k) := by
  have h0 : byteAt (l.drop k) 0 = ((l.getD k 0).toNat : Int) := by rw [byteAt_drop, Nat.add_zero, byteAt_get l k hk]
  have hle : (runeL (l.drop k)).2 ≤ l.length - k := by
    have hs : (⟨(l.drop k).toArray⟩ : ByteArray).toList = l.drop k := by rw [ByteArray.toList_eq]
    have := (runeL_le ⟨(l.drop k).toArray⟩ (by show 0 < (l.drop k).toArray.size; simp; omega)).1
    rw [hs] at this
    simpa [ByteArray.size] using this
  have hu := utf_eq l k hk
  unfold pieceM at hp
  rw [h0] at hp
  by_cases a1 : (q : Int) = 96 ∧ ((l.getD k 0).toNat : Int) = 13
  · rw [if_pos a1] at hp
    obtain ⟨rfl, rfl⟩ := Prod.mk.inj (Option.some.inj hp)
    exact .inr (.inr (.inl ⟨by omega, by omega, rfl, rfl, by unfold utfM; rw [if_pos (by omega)]⟩))
  · rw [if_neg a1] at hp
    by_cases a2 : (q : Int) = 34 ∧ ((l.getD k 0).toNat : Int) = 10
    · rw [if_pos a2] at hp
      obtain ⟨rfl, rfl⟩ := Prod.mk.inj (Option.some.inj hp)
      exact .inl ⟨by omega, by omega, rfl, rfl⟩
    · rw [if_neg a2] at hp
      by_cases a3 : (q : Int) = 34 ∧ ((l.getD k 0).toNat : Int) = 92
      · rw [if_pos a3] at hp
        exact .inr (.inl ⟨by omega, by omega, hp⟩)
      · rw [if_neg a3] at hp
        right; right; right
        by_cases a4 : (runeL (l.drop k)).1 = 65533 ∧ (runeL (l.drop k)).2 = 1
        · rw [if_pos a4] at hp hu
          obtain ⟨rfl, rfl⟩ := Prod.mk.inj (Option.some.inj hp)
          exact ⟨by omega, by omega, hu, fun h => by omega, Nat.zero_le _⟩
        · rw [if_neg a4] at hp hu
          obtain ⟨rfl, rfl⟩ := Prod.mk.inj (Option.some.inj hp)
          exact ⟨by omega, by omega, hu, fun _ => rfl, hle⟩
end Go.Proofs.YtfbacidpjpghiaaGreatDoor
