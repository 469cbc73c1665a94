/- Boxes of numbers: no digits lie there. -/
import Derived.Test.YtdcjgepgiaaaoaaRw
import Derived.Test.YtdcjgepgiaaaoaaSums
namespace Go.Proofs.Ytdcjgepgiaaaoaa
open Go.RowKit
theorem Rint.sign {w : World} {m : Bool} {a : Option Addr} {l c : Nat} {z : Int} {n : Nat} (h : Rint w (.agg #[.bool m, .slice a l c]) z n) : m = decide (z < 0) := by
  obtain ⟨neg, a', cap, ds, hv, hr, hn, hz, _⟩ := h
  simp at hv
  obtain ⟨rfl, rfl, rfl, rfl⟩ := hv
  have h0 := val_nonneg (B := 65536) (by decide) hr.words
  cases m with
  | false => simp [num] at hz; simp; omega
  | true => have := nrm_val_pos (B := 65536) (by decide) hr.words hn.1 (hn.2 rfl); simp [num] at hz; simp; omega
/-- Block b holds a number's two cells: no digits lie there. -/
def PBox (w : World) (b : Nat) : Prop := ∃ m a l c T fr, w.heap[b]? = some (.cells #[.bool m, .slice a l c] T fr)
theorem PBox.apart {w : World} {b : Nat} (h : PBox w b) {k : IntKind} {B : Int} {x : Addr} {cap : Nat} {ds : List Int} (hr : Row w k B (some x) cap ds) (hne : ds ≠ []) : x.block ≠ b := by
  obtain ⟨m, a, l, c, T, fr, h⟩ := h
  intro e
  have hc := hr.cell x rfl 0 (List.length_pos_iff.2 hne)
  unfold World.cell? at hc
  rw [add_block, e, h] at hc
  simp only at hc
  split at hc
  · cases hc
  · rcases ho : (x.add 0).off with _ | _ | n <;> rw [ho] at hc <;> simp at hc
theorem PBox.next {w w' : World} {b : Nat} (h : PBox w b) (hb : Below w.heap.size w w') : PBox w' b := by
  obtain ⟨m, a, l, c, T, fr, h⟩ := h
  have hlt : b < w.heap.size := by
    by_cases hg : b < w.heap.size
    · exact hg
    · rw [Array.getElem?_eq_none (by omega)] at h; cases h
  exact ⟨m, a, l, c, T, fr, (hb.block b hlt).trans h⟩
theorem PBox.set0 {w : World} {b : Nat} (h : PBox w b) (m' : Bool) : PBox (w.setCell ⟨b, 0, none⟩ (.bool m')) b := by
  obtain ⟨m, a, l, c, T, fr, h⟩ := h
  exact ⟨m', a, l, c, T, fr, by simp [World.setCell, Array.getElem?_modify, h]⟩
theorem PBox.set1 {w : World} {b : Nat} (h : PBox w b) (a' : Option Addr) (l' c' : Nat) : PBox (w.setCell ⟨b, 1, none⟩ (.slice a' l' c')) b := by
  obtain ⟨m, a, l, c, T, fr, h⟩ := h
  exact ⟨m, a', l', c', T, fr, by simp [World.setCell, Array.getElem?_modify, h]⟩
theorem PBox.other {w : World} {b : Nat} (h : PBox w b) {p : Addr} {u : Value} (hp : p.block ≠ b) : PBox (w.setCell p u) b := by
  obtain ⟨m, a, l, c, T, fr, h⟩ := h
  exact ⟨m, a, l, c, T, fr, (Below.heap_setCell _ _ _ _ (Ne.symm hp)).trans h⟩
theorem PBox.new (w : World) (m : Bool) (a : Option Addr) (l c : Nat) (T : TypeId) : PBox (w.alloc (.cells #[.bool m, .slice a l c] T)) w.heap.size :=
  ⟨m, a, l, c, T, (0, 0), by show (w.heap.push _)[w.heap.size]? = _; simp⟩
theorem PBox.new2 (w : World) (o : Obj) (m : Bool) (a : Option Addr) (l c : Nat) (T : TypeId) : PBox ((w.alloc o).alloc (.cells #[.bool m, .slice a l c] T)) (w.heap.size + 1) := by
  have h := PBox.new (w.alloc o) m a l c T
  rwa [show (w.alloc o).heap.size = w.heap.size + 1 from by simp] at h
theorem PBox.alloc {w : World} {b : Nat} (h : PBox w b) (o : Obj) : PBox (w.alloc o) b := h.next ((Below.refl _ _).alloc (Nat.le_refl _) _)
theorem Row.box {w : World} {k : IntKind} {B : Int} {a : Option Addr} {cap : Nat} {ds : List Int} (h : Row w k B a cap ds) {b : Nat} (hb : PBox w b) (i : Nat) (u : Value) : Row (w.setCell ⟨b, i, none⟩ u) k B a cap ds := by
  refine ⟨h.le, h.max, h.nil, fun x hx i hi => keep_set (h.cell x hx i hi) ?_, h.words⟩
  rw [add_block]
  subst hx
  exact Ne.symm (hb.apart h (by intro e; subst e; simp at hi))
theorem Rint.box {w : World} {v : Value} {z : Int} {n : Nat} (h : Rint w v z n) {b : Nat} (hb : PBox w b) (i : Nat) (u : Value) : Rint (w.setCell ⟨b, i, none⟩ u) v z n := by
  obtain ⟨neg, a, cap, ds, hv, hr, r⟩ := h
  exact ⟨neg, a, cap, ds, hv, hr.box hb i u, r⟩
theorem Rint.alloc {w : World} {v : Value} {z : Int} {n : Nat} (h : Rint w v z n) (o : Obj) : Rint (w.alloc o) v z n := h.next ((Below.refl _ _).alloc (Nat.le_refl _) _)
/-- A number put into a number's box. -/
theorem Rint.put {w : World} {v : Value} {z : Int} {n : Nat} (h : Rint w v z n) {b : Nat} (hb : PBox w b) (m : Bool) (a : Option Addr) (l c : Nat) : Rint ((w.setCell ⟨b, 0, none⟩ (.bool m)).setCell ⟨b, 1, none⟩ (.slice a l c)) v z n :=
  (h.box hb 0 _).box (hb.set0 m) 1 _
end Go.Proofs.Ytdcjgepgiaaaoaa
