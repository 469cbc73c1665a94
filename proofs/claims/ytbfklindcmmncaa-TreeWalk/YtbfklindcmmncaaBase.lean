/- Rows of numbers in memory: a slice that reads as a list of numbers, a block of the call's own that holds one; how they last. -/
import Derived.Test.YtbfklindcmmncaaMath
import Derived.Below
import Derived.Deep.OwnRows
namespace Go.Proofs.Ytbfklindcmmncaa
open Go.RowKit

/-- The cells of a row of numbers. -/
def cellsOf (k : IntKind) (zs : List Int) : Array Value := (zs.map (Value.int k)).toArray
def zeros (n : Nat) : List Int := List.replicate n 0
theorem zeros_len (n : Nat) : (zeros n).length = n := by simp [zeros]
theorem zeros_val (B : Int) (n : Nat) : val B (zeros n) = 0 := val_zeros B n
theorem zeros_words {B : Int} (hB : 0 < B) (n : Nat) : Words B (zeros n) := Words.zeros hB n
theorem zeros_at (n i : Nat) : (zeros n)[i]?.getD 0 = 0 := by
  unfold zeros; rw [List.getElem?_replicate]; split <;> rfl
theorem cellsOf_size (k : IntKind) (zs : List Int) : (cellsOf k zs).size = zs.length := by simp [cellsOf]

/-- Block g, of cap cells, begins with the row of numbers zs, and may be written. -/
def Blk (w : World) (g : Nat) (k : IntKind) (T : TypeId) (cap : Nat) (zs : List Int) : Prop :=
  ∃ cur : Array Value, w.heap[g]? = some (.cells cur T (0, 0)) ∧ cur.size = cap ∧ zs.length ≤ cap ∧ cap ≤ maxLen ∧ ∀ i, i < zs.length → cur[i]? = some (.int k (zs[i]?.getD 0))
section
variable {w w' : World} {g : Nat} {k : IntKind} {T : TypeId} {cap : Nat} {zs : List Int}
theorem Blk.lt (h : Blk w g k T cap zs) : g < w.heap.size := by
  obtain ⟨cur, h, _⟩ := h
  by_cases hg : g < w.heap.size
  · exact hg
  · rw [Array.getElem?_eq_none (by omega)] at h; cases h
theorem Blk.le (h : Blk w g k T cap zs) : zs.length ≤ cap := by obtain ⟨_, _, _, h, _⟩ := h; exact h
theorem Blk.max (h : Blk w g k T cap zs) : cap ≤ maxLen := by obtain ⟨_, _, _, _, h, _⟩ := h; exact h
theorem Blk.cell (h : Blk w g k T cap zs) (i : Nat) (hi : i < zs.length) : w.cell? ⟨g, i, none⟩ = some (.int k (zs[i]?.getD 0)) := by
  obtain ⟨cur, h, _, _, _, hc⟩ := h
  simp [World.cell?, h, hc i hi]
theorem Blk.frozen (h : Blk w g k T cap zs) (i : Nat) : w.frozen? ⟨g, i, none⟩ = false := by
  obtain ⟨cur, h, _⟩ := h
  simp [World.frozen?, h]
theorem Blk.same (h : Blk w g k T cap zs) (hb : w'.heap[g]? = w.heap[g]?) : Blk w' g k T cap zs := by
  obtain ⟨cur, h, r⟩ := h
  exact ⟨cur, hb.trans h, r⟩
theorem Blk.below {B : Nat} (h : Blk w g k T cap zs) (hb : Below B w w') (hg : g < B) : Blk w' g k T cap zs := h.same (hb.block g hg)
theorem Blk.next (h : Blk w g k T cap zs) (hb : Below w.heap.size w w') : Blk w' g k T cap zs := h.below hb h.lt
theorem Blk.drew (h : Blk w g k T cap zs) : Blk w.drew g k T cap zs := h
theorem Blk.alloc (h : Blk w g k T cap zs) (o : Obj) : Blk (w.alloc o) g k T cap zs := h.same (Below.heap_alloc _ _ _ h.lt)
theorem Blk.new (w : World) (k : IntKind) (T : TypeId) (zs : List Int) (hm : zs.length ≤ maxLen) : Blk (w.alloc (.cells (cellsOf k zs) T)) w.heap.size k T zs.length zs := by
  refine ⟨cellsOf k zs, ?_, cellsOf_size k zs, Nat.le_refl _, hm, fun i hi => ?_⟩
  · show (w.heap.push _)[w.heap.size]? = _
    simp
  · simp [cellsOf, hi]
theorem Blk.set (h : Blk w g k T cap zs) (i : Nat) (x : Int) : Blk (w.setCell ⟨g, i, none⟩ (.int k x)) g k T cap (zs.set i x) := by
  obtain ⟨cur, h, hs, hl, hm, hc⟩ := h
  refine ⟨cur.setIfInBounds i (.int k x), ?_, by simpa using hs, by simpa using hl, hm, fun j hj => ?_⟩
  · simp [World.setCell, Array.getElem?_modify, h]
  · simp at hj
    have hjc : j < cur.size := by omega
    by_cases e : i = j
    · subst e; simp [hj, hjc]
    · rw [Array.getElem?_setIfInBounds_ne e, List.getElem?_set_ne e]; exact hc j hj
theorem Blk.other (h : Blk w g k T cap zs) (p : Addr) (u : Value) (hp : p.block ≠ g) : Blk (w.setCell p u) g k T cap zs := h.same (Below.heap_setCell _ _ _ _ (Ne.symm hp))
theorem Blk.take (h : Blk w g k T cap zs) (n : Nat) : Blk w g k T cap (zs.take n) := by
  obtain ⟨cur, h, hs, hl, hm, hc⟩ := h
  refine ⟨cur, h, hs, by rw [List.length_take]; omega, hm, fun i hi => ?_⟩
  rw [List.length_take] at hi
  rw [hc i (by omega), List.getElem?_take_of_lt (by omega)]
theorem Blk.owns (h : Blk w g k T cap zs) (base : Nat) (hb : base ≤ g) : w.ownsRow base T 1 (.slice (some ⟨g, 0, none⟩) zs.length cap) zs.length (zs.map (Value.int k)) := by
  obtain ⟨cur, h, hs, hl, hm, hc⟩ := h
  refine ⟨by simp, .inr ⟨g, cap, cur, rfl, hb, h, hl, hm, by simpa using hs, ?_⟩⟩
  apply List.ext_getElem?
  intro i
  rw [Nat.mul_one]
  by_cases hi : i < zs.length
  · rw [List.getElem?_take_of_lt hi, Array.getElem?_toList, hc i hi]; simp [hi]
  · rw [List.getElem?_eq_none (by rw [List.length_take]; omega), List.getElem?_eq_none (by simp; omega)]
theorem Blk.of_owns {base n : Nat} (h : w.ownsRow base T 1 (.slice (some ⟨g, 0, none⟩) n cap) n (zs.map (Value.int k))) : Blk w g k T cap zs := by
  obtain ⟨hl, h⟩ := h
  simp at hl
  rcases h with ⟨h, _⟩ | ⟨g', cap', cur, hv, hb, hh, hn, hm, hs, ht⟩
  · cases h
  · cases hv
    refine ⟨cur, hh, by simpa using hs, by omega, hm, fun i hi => ?_⟩
    have e := congrArg (·[i]?) ht
    simp only [Nat.mul_one] at e
    rw [List.getElem?_take_of_lt (by omega), Array.getElem?_toList] at e
    rw [e]; simp [hi]
end

theorem addr_add (g o i : Nat) : (⟨g, o, none⟩ : Addr).add i = ⟨g, o + i, none⟩ := by
  unfold Addr.add
  split
  · rename_i h; subst h; rfl
  · rfl
/-- The slice '.slice a zs.length cap' reads as the numbers zs, digits below B. -/
structure Row (w : World) (k : IntKind) (B : Int) (a : Option Addr) (cap : Nat) (zs : List Int) : Prop where
  le : zs.length ≤ cap
  max : cap ≤ maxLen
  nil : a = none → cap = 0
  cell : ∀ x, a = some x → ∀ i, i < zs.length → w.cell? (x.add i) = some (.int k (zs[i]?.getD 0))
  words : Words B zs
theorem cell_lt {w : World} {p : Addr} {v : Value} (h : w.cell? p = some v) : p.block < w.heap.size := by
  by_cases hp : p.block < w.heap.size
  · exact hp
  · simp [World.cell?, Array.getElem?_eq_none (Nat.le_of_not_lt hp)] at h
theorem Row.next {w w' : World} {k : IntKind} {B : Int} {a : Option Addr} {cap : Nat} {zs : List Int} (h : Row w k B a cap zs) (hb : Below w.heap.size w w') : Row w' k B a cap zs :=
  ⟨h.le, h.max, h.nil, fun x hx i hi => (hb.cell (cell_lt (h.cell x hx i hi))).trans (h.cell x hx i hi), h.words⟩
theorem Row.empty (w : World) (k : IntKind) (B : Int) : Row w k B none 0 [] := ⟨Nat.le_refl _, by decide, fun _ => rfl, fun x hx => (by cases hx), Words.nil B⟩
theorem Row.take {w : World} {k : IntKind} {B : Int} {a : Option Addr} {cap : Nat} {zs : List Int} (h : Row w k B a cap zs) (n : Nat) (hn : n ≤ zs.length) : Row w k B a cap (zs.take n) := by
  have hl : (zs.take n).length = n := by rw [List.length_take]; omega
  refine ⟨by have := h.le; omega, h.max, h.nil, fun x hx i hi => ?_, h.words.take n⟩
  rw [h.cell x hx i (by omega), List.getElem?_take_of_lt (by omega)]
theorem Row.nil_of {w : World} {k : IntKind} {B : Int} {cap : Nat} {zs : List Int} (h : Row w k B none cap zs) : cap = 0 ∧ zs = [] := by
  have h1 := h.nil rfl
  have h2 := h.le
  subst h1
  exact ⟨rfl, List.eq_nil_of_length_eq_zero (by omega)⟩
/-- Out of a block of one's own. -/
theorem Blk.row {w : World} {g : Nat} {k : IntKind} {T : TypeId} {cap : Nat} {zs : List Int} {B : Int} (h : Blk w g k T cap zs) (hB : Words B zs) : Row w k B (some ⟨g, 0, none⟩) cap zs := by
  refine ⟨h.le, h.max, fun h => (by cases h), fun x hx i hi => ?_, hB⟩
  cases hx
  rw [addr_add, Nat.zero_add]; exact h.cell i hi
/-- A slice of the call's own: nil, or at the head of a block from number base on, which it may write. -/
def Own (w : World) (base : Nat) (k : IntKind) (T : TypeId) (B : Int) (a : Option Addr) (cap : Nat) (zs : List Int) : Prop :=
  Words B zs ∧ ((a = none ∧ cap = 0 ∧ zs = []) ∨ ∃ g, a = some ⟨g, 0, none⟩ ∧ base ≤ g ∧ Blk w g k T cap zs)
section
variable {w w' : World} {base : Nat} {k : IntKind} {T : TypeId} {B : Int} {a : Option Addr} {cap : Nat} {zs : List Int}
theorem Own.words (h : Own w base k T B a cap zs) : Words B zs := h.1
theorem Own.row (h : Own w base k T B a cap zs) : Row w k B a cap zs := by
  obtain ⟨hw, ⟨rfl, rfl, rfl⟩ | ⟨g, rfl, _, hb⟩⟩ := h
  · exact Row.empty _ _ _
  · exact hb.row hw
theorem Own.next (h : Own w base k T B a cap zs) (hb : Below w.heap.size w w') : Own w' base k T B a cap zs := by
  obtain ⟨hw, h | ⟨g, ha, hg, hbl⟩⟩ := h
  · exact ⟨hw, .inl h⟩
  · exact ⟨hw, .inr ⟨g, ha, hg, hbl.next hb⟩⟩
theorem Own.set (h : Own w base k T B a cap zs) {p : Addr} (hp : p.block < base) (u : Value) : Own (w.setCell p u) base k T B a cap zs := by
  obtain ⟨hw, h | ⟨g, ha, hg, hbl⟩⟩ := h
  · exact ⟨hw, .inl h⟩
  · exact ⟨hw, .inr ⟨g, ha, hg, hbl.other p u (by omega)⟩⟩
theorem Own.mono {base' : Nat} (h : Own w base k T B a cap zs) (hb : base' ≤ base) : Own w base' k T B a cap zs := by
  obtain ⟨hw, h | ⟨g, ha, hg, hbl⟩⟩ := h
  · exact ⟨hw, .inl h⟩
  · exact ⟨hw, .inr ⟨g, ha, by omega, hbl⟩⟩
theorem Own.take (h : Own w base k T B a cap zs) (n : Nat) : Own w base k T B a cap (zs.take n) := by
  obtain ⟨hw, ⟨rfl, rfl, rfl⟩ | ⟨g, ha, hg, hbl⟩⟩ := h
  · exact ⟨hw.take n, .inl ⟨rfl, rfl, by simp⟩⟩
  · exact ⟨hw.take n, .inr ⟨g, ha, hg, hbl.take n⟩⟩
theorem Own.empty (w : World) (base : Nat) (k : IntKind) (T : TypeId) (B : Int) : Own w base k T B none 0 [] := ⟨Words.nil B, .inl ⟨rfl, rfl, rfl⟩⟩
theorem Blk.own {g : Nat} (h : Blk w g k T cap zs) (hw : Words B zs) (hg : base ≤ g) : Own w base k T B (some ⟨g, 0, none⟩) cap zs := ⟨hw, .inr ⟨g, rfl, hg, h⟩⟩
end
/-- What was there before stays: cells, marks. -/
theorem keep_cell {wk w' : World} {p : Addr} {v : Value} (hb : Below wk.heap.size wk w') (h : wk.cell? p = some v) : w'.cell? p = some v := (hb.cell (cell_lt h)).trans h
theorem keep_frozen {wk w' : World} {p : Addr} {v : Value} (hb : Below wk.heap.size wk w') (h : wk.cell? p = some v) (hf : wk.frozen? p = false) : w'.frozen? p = false := (hb.frozen (cell_lt h)).trans hf
theorem keep_set {w2 : World} {p q : Addr} {u v : Value} (h : w2.cell? p = some v) (hq : q.block ≠ p.block) : (w2.setCell q u).cell? p = some v := (World.cell?_of_block (Below.heap_setCell _ _ _ _ (Ne.symm hq))).trans h
theorem bthen {w wk w' : World} (h : Below w.heap.size w wk) (hb : Below wk.heap.size wk w') : Below w.heap.size w w' := h.trans (hb.mono h.size)
theorem zeros_made (k : IntKind) (n : Nat) : madeCells #[Value.int k 0] n = cellsOf k (zeros n) := by
  unfold madeCells cellsOf zeros
  apply Array.ext
  · simp
  · intro i h1 h2
    simp [Nat.mod_one]
theorem run_zeros {P : Program} (t e : TypeId) (k : IntKind) (bytes : Nat) (ht : P.underlying t = some (.slice e)) (hinfo : (P.info? e).map (fun i => (i.zero, i.size, i.bytes)) = some (some (.int k 0), 1, bytes)) (m : Int) (h0 : 0 ≤ m) (hb : bytes * m.toNat ≤ 281474976710656) (h63 : m ≤ 9223372036854775807) (w : World) :
    (Instr.makeSlice t (.int .i64 m) (.int .i64 m)).run P w = .ok (.slice (some ⟨w.heap.size, 0, none⟩) m.toNat m.toNat) (w.alloc (.cells (cellsOf k (zeros m.toNat)) e)) := by
  obtain ⟨n, rfl⟩ := Int.eq_ofNat_of_zero_le h0
  rw [run_make_row' t e (.int k 0) bytes ht hinfo rfl .i64 .i64 n (by simpa using hb) (by omega) w, zeros_made]
  simp
end Go.Proofs.Ytbfklindcmmncaa
