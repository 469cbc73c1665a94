/- Cut, and what laws share. -/
import Derived.Test.YtdcjgepgiaaaoabBeg
import Derived.Deep.Cut
import Derived.Deep.Light
import Derived.Deep.RegionWith
import Derived.Test.YtdcjgepgiaaaoabApp
import Derived.Test.YtdcjgepgiaaaoabBeg3
import Derived.Deep.RegionLaw
namespace Go.Proofs.Ytdcjgepgiaaaoab
open Go.RowKit
attribute [local go_sem ↓] Go.wp_at_zero Go.wp_at_succ
/-- Cut: the first n words; two new blocks. -/
theorem Cut_exact (n : Bool) (x : Option Addr) (ca m : Nat) (xs : List Int) (w : World) (ha : Row w .u32 4294967296 x ca xs) (hm : m ≤ 1000) :
    Calls Try.prog 5 #[.agg #[.bool n, .slice x xs.length ca], .int .i64 m] w fun e w' => e = .returned (.agg #[.bool n, .slice x (xs.take m).length ca]) ∧ ∃ o1 o2, w' = (w.alloc o1).alloc o2 := by
  have hle := ha.le
  have hmx := ha.max
  unfold maxLen at hmx
  rw [List.length_take]
  by_cases h : m < xs.length
  · rw [Nat.min_eq_left (by omega)]
    obtain ⟨x, rfl⟩ := ha.some_of (i := m) h
    go_enter Try.func5, Try.ntmps5
    go_wp2
    exact bodyPost_ret (v := .agg #[.bool n, .slice (some x) m ca]) (by simp [results, Try.results5, go_sem]) rfl ⟨rfl, _, _, rfl⟩
  · rw [Nat.min_eq_right (by omega)]
    go_enter Try.func5, Try.ntmps5
    go_wp2
    exact bodyPost_ret (v := .agg #[.bool n, .slice x xs.length ca]) (by simp [results, Try.results5, go_sem]) rfl ⟨rfl, _, _, rfl⟩
theorem Cut10 (n : Bool) (x : Option Addr) (ca : Nat) (xs : List Int) (w : World) (ha : Row w .u32 4294967296 x ca xs) :
    Calls Try.prog 5 #[.agg #[.bool n, .slice x xs.length ca], .int .i64 10] w fun e w' => e = .returned (.agg #[.bool n, .slice x (xs.take 10).length ca]) ∧ ∃ o1 o2, w' = (w.alloc o1).alloc o2 := Cut_exact n x ca 10 xs w ha (by decide)
theorem Row.take' {w : World} {k : IntKind} {B : Int} {a : Option Addr} {cap : Nat} {zs : List Int} (h : Row w k B a cap zs) (n : Nat) : Row w k B a cap (zs.take n) := by
  by_cases hn : n ≤ zs.length
  · exact h.take n hn
  · rw [List.take_of_length_le (by omega)]; exact h
theorem Out.zero {w : World} {b : Nat} {v : Value} {n : Nat} (h : Out w b v 0 n) : ∃ a cap, v = .agg #[.bool false, .slice a 0 cap] := by
  obtain ⟨neg, a, cap, ds, rfl, ho, hn, hz, _⟩ := h
  have hu := norm_unique (B := 4294967296) (by decide) ho.words (Words.nil _) hn (n := false) ⟨trivial, fun h => by cases h⟩ (by rw [hz]; rfl)
  obtain ⟨rfl, rfl⟩ := hu
  exact ⟨a, cap, rfl⟩
theorem Num.more {w : World} {v : Value} {z : Int} {n m : Nat} (h : n ≤ m) (hn : Num w v z n) : Num w v z m := by
  obtain ⟨neg, a, cap, ds, r1, r2, r3, r4⟩ := hn
  exact ⟨neg, a, cap, ds, r1, r2, r3, by omega⟩
theorem Own.lt {w : World} {base : Nat} {k : IntKind} {T : TypeId} {B : Int} {a : Option Addr} {cap : Nat} {zs : List Int} (h : Own w base k T B a cap zs) (g : Nat) (hg : ownB a = Option.some g) : base ≤ g ∧ g < w.heap.size := by
  obtain ⟨_, ⟨rfl, _⟩ | ⟨g2, rfl, hb2, hb⟩⟩ := h
  · cases hg
  · simp [ownB] at hg; subst hg; exact ⟨hb2, hb.lt⟩
def BegunSaid : Prop := ∀ w : World, Calls Try.prog 4 #[] w fun e w' => e = .returned (.bool true) ∧ Below w.heap.size w w'
theorem three_boxes (w : World) (v0 v1 v2 v3 v4 v5 : Value) (T : TypeId) : ∃ W, W = ((w.alloc (.cells #[v0, v1] T)).alloc (.cells #[v2, v3] T)).alloc (.cells #[v4, v5] T) ∧ Below w.heap.size w W ∧ w.heap.size + 1 + 1 < W.heap.size ∧
    (W.cell? ⟨w.heap.size, 0, none⟩ = some v0 ∧ W.cell? ⟨w.heap.size, 1, none⟩ = some v1 ∧ W.cell? ⟨w.heap.size + 1, 0, none⟩ = some v2 ∧ W.cell? ⟨w.heap.size + 1, 1, none⟩ = some v3 ∧ W.cell? ⟨w.heap.size + 1 + 1, 0, none⟩ = some v4 ∧ W.cell? ⟨w.heap.size + 1 + 1, 1, none⟩ = some v5) ∧
    (∀ o, W.frozen? ⟨w.heap.size, o, none⟩ = false) ∧ (∀ o, W.frozen? ⟨w.heap.size + 1, o, none⟩ = false) ∧ (∀ o, W.frozen? ⟨w.heap.size + 1 + 1, o, none⟩ = false) := by
  refine ⟨_, rfl, (((Below.refl _ _).alloc (Nat.le_refl _) _).alloc (by simp) _).alloc (by simp; omega) _, by simp, ⟨?_, ?_, ?_, ?_, ?_, ?_⟩, ?_, ?_, ?_⟩ <;> (try intro o) <;> simp [go_sem, World.cell?_alloc_past, World.frozen?_alloc_past]
theorem ring_cut {w wc : World} {na nb nc : Bool} {x y z : Option Addr} {ca cb cc : Nat} {xs ys zs : List Int} (ha : Row w .u32 4294967296 x ca xs) (hb : Row w .u32 4294967296 y cb ys) (hc : Row w .u32 4294967296 z cc zs) (hB : Below w.heap.size w wc)
    (c0 : wc.cell? ⟨w.heap.size, 0, none⟩ = some (.bool na)) (c1 : wc.cell? ⟨w.heap.size, 1, none⟩ = some (.slice x (xs.take 10).length ca)) (c2 : wc.cell? ⟨w.heap.size + 1, 0, none⟩ = some (.bool nb)) (c3 : wc.cell? ⟨w.heap.size + 1, 1, none⟩ = some (.slice y (ys.take 10).length cb)) (c4 : wc.cell? ⟨w.heap.size + 1 + 1, 0, none⟩ = some (.bool nc)) (c5 : wc.cell? ⟨w.heap.size + 1 + 1, 1, none⟩ = some (.slice z (zs.take 10).length cc)) (hl : w.heap.size + 1 + 1 < wc.heap.size) :
    wc.cell? ⟨w.heap.size, 0, none⟩ = some (.bool na) ∧ wc.cell? ⟨w.heap.size, 1, none⟩ = some (.slice x (xs.take 10).length ca) ∧ wc.cell? ⟨w.heap.size + 1, 0, none⟩ = some (.bool nb) ∧ wc.cell? ⟨w.heap.size + 1, 1, none⟩ = some (.slice y (ys.take 10).length cb) ∧ wc.cell? ⟨w.heap.size + 1 + 1, 0, none⟩ = some (.bool nc) ∧ wc.cell? ⟨w.heap.size + 1 + 1, 1, none⟩ = some (.slice z (zs.take 10).length cc) ∧ Row wc .u32 4294967296 x ca (xs.take 10) ∧ Row wc .u32 4294967296 y cb (ys.take 10) ∧ Row wc .u32 4294967296 z cc (zs.take 10) ∧ Below w.heap.size w wc ∧ w.heap.size + 1 + 1 < wc.heap.size :=
  ⟨c0, c1, c2, c3, c4, c5, (ha.next hB).take' 10, (hb.next hB).take' 10, (hc.next hB).take' 10, hB, hl⟩
end Go.Proofs.Ytdcjgepgiaaaoab
