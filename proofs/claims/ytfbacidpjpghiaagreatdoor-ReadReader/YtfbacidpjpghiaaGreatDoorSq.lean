/- scan: Value. -/
import Derived.Test.YtfbacidpjpghiaaGreatDoorSp
namespace Go.Proofs.YtfbacidpjpghiaaGreatDoor
open Go.RowKit
attribute [local go_sem ↓] Go.wp_at_zero Go.wp_at_succ
theorem strGo_ge (l : List UInt8) (q : Int) (f a r : Nat) (ha : 1 ≤ a) (h : strGo l q f a = some r) : r = 0 ∨ 2 ≤ r := by
  induction f generalizing a with
  | zero => cases h
  | succ f ih =>
    unfold strGo at h
    split at h
    · split at h
      · cases h
      · cases h; exact .inl rfl
      · exact ih _ (by omega) h
    · split at h
      · cases h; exact .inl rfl
      · cases h; exact .inr (by omega)
theorem strM_ge (l : List UInt8) (r : Nat) (h : strM l = some r) : r = 0 ∨ 2 ≤ r := by
  unfold strM at h
  split at h
  · cases h; exact .inl rfl
  · exact strGo_ge _ _ _ _ _ (Nat.le_refl _) h
/-- What the pieces say. -/
def valGo (q : Int) : Nat → List UInt8 → Option (List UInt8)
  | 0, _ => none
  | f + 1, l => if l = [] then some [] else match pieceM l q with
      | none => none
      | some (_, 0) => none
      | some (t, n + 1) => (valGo q f (l.drop (n + 1))).map (fun r => t ++ r)
def valM (l : List UInt8) : Option (List UInt8 × Bool) :=
  if l = [] then some ([], false) else match strM l with
    | none => none
    | some r => if r = l.length then (valGo (byteAt l 0) (l.length + 1) ((l.take (l.length - 1)).drop 1)).map (fun t => (t, true)) else some ([], false)
theorem BuilderAt_next {B b : Nat} {p : Value} {bs : List Value} {w w' : World} (h : Lib.BuilderAt 52 5 B b p bs w) (hb : Below w.heap.size w w') : Lib.BuilderAt 52 5 B b p bs w' := by
  obtain ⟨h1, v, h2, h3, h4⟩ := h
  have hlt : b < w.heap.size := by
    rcases Nat.lt_or_ge b w.heap.size with h' | h'
    · exact h'
    · simp [Array.getElem?_eq_none h'] at h2
  refine ⟨h1, v, by rw [hb.block b hlt]; exact h2, h3.kept (grownBy_of_below hb none) ?_, h4⟩
  rcases h : v.ownBlock with _ | k
  · exact .inl rfl
  · exact .inr (by simp)
theorem strCells_ba (s : ByteArray) : Lib.strCells s = Lib.byteCells s.toList := by
  unfold Lib.strCells Lib.byteCells
  rw [ByteArray.toList_eq]
theorem byteCells_app (a b : List UInt8) : Lib.byteCells a ++ Lib.byteCells b = Lib.byteCells (a ++ b) := by simp [Lib.byteCells]
theorem piece_text {l : List UInt8} {q : Int} {t : List UInt8} {n : Nat} (h : pieceM l q = some (t, n)) : t.length ≤ l.length + 1 := by
  unfold pieceM at h
  split at h
  · cases h; simp
  · split at h
    · cases h; simp
    · split at h
      · unfold escM at h
        split at h
        · cases h; simp
        · split at h
          · cases h; simp; omega
          · split at h
            · cases h; simp
            · split at h
              · cases h; simp
              · split at h
                · have h2 := (byteM_le l).2
                  rw [Option.some.inj h] at h2
                  exact h2
                · split at h
                  · have h2 := (pointM_le l).2
                    rw [Option.some.inj h] at h2
                    exact h2
                  · cases h; simp
      · split at h
        · cases h; simp
        · cases h; simp; omega
end Go.Proofs.YtfbacidpjpghiaaGreatDoor
