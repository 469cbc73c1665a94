/- Values that read as numbers, for the second road; what IntOwn wants. -/
import Derived.Test.YtdcjgepgiaaaoabRf
import Derived.Test.YtdcjgepgiaaaoabCutx
namespace Go.Proofs.Ytdcjgepgiaaaoab
open Go.RowKit
theorem From_num {w : World} {u : Value} {y : Int} {m : Nat} (hu : Num w u y m) (hm : m ≤ 1000) :
    Calls Try.prog 12 #[u] w fun e w' => ∃ t, e = .returned t ∧ Rout w' w.heap.size t y (2 * m) ∧ Below w.heap.size w w' := by
  obtain ⟨na, x, ca, xs, rfl, ha, rfl, hl⟩ := hu
  refine (From_any na x ca xs w ha (by omega)).mono ?_
  rintro e w' ⟨t, rfl, ⟨neg, a, cap, ds, r1, r2, r3, r4, r5⟩, h⟩
  exact ⟨t, rfl, ⟨neg, a, cap, ds, r1, r2, r3, r4, by omega⟩, h⟩
/-- An answer in normal form, wherever it lies. -/
def OutE (w : World) (v : Value) (z : Int) (n : Nat) : Prop := ∃ b, Out w b v z n
theorem OutE.next {w w' : World} {v : Value} {z : Int} {n : Nat} (h : OutE w v z n) (hb : Below w.heap.size w w') : OutE w' v z n := by
  obtain ⟨b, h⟩ := h
  exact ⟨b, h.next hb⟩
theorem Is_num {w : World} {u v : Value} {y z : Int} {m n : Nat} (hu : OutE w u y m) (hv : Rint w v z n) (hm : m ≤ 1000) (hn : n ≤ 1000) :
    Calls Try.prog 10 #[u, v] w fun e w' => e = .returned (.bool (decide (y = z))) ∧ Below w.heap.size w w' := by
  obtain ⟨b, na, x, ca, xs, rfl, ha, hna, rfl, hl⟩ := hu
  obtain ⟨nb, x', cb, ys, rfl, hb, hnb, rfl, hl'⟩ := hv
  exact Is_any na nb x x' ca cb xs ys w ha.row hna hb hnb (by omega) (by omega)
theorem rAdd_num {w : World} {u v : Value} {y z : Int} {m n : Nat} (hu : Rint w u y m) (hv : Rint w v z n) (hm : m ≤ 1000) (hn : n ≤ 1000) :
    Calls Try.prog 11 #[u, v] w fun e w' => ∃ t, e = .returned t ∧ Rint w' t (y + z) (max m n + 1) ∧ Below w.heap.size w w' := by
  obtain ⟨na, x, ca, xs, rfl, ha, hna, rfl, hl⟩ := hu
  obtain ⟨nb, x', cb, ys, rfl, hb, hnb, rfl, hl'⟩ := hv
  refine (rAdd_any na nb x x' ca cb xs ys w ha hna hb hnb (by omega) (by omega)).mono ?_
  rintro e w' ⟨t, rfl, ho, h⟩
  exact ⟨t, rfl, ho.rint.mono (by omega), h⟩
theorem two_boxes (w : World) (v0 v1 v2 v3 : Value) (T : TypeId) : ∃ W, W = (w.alloc (.cells #[v0, v1] T)).alloc (.cells #[v2, v3] T) ∧ Below w.heap.size w W ∧ w.heap.size + 1 < W.heap.size ∧
    (W.cell? ⟨w.heap.size, 0, none⟩ = some v0 ∧ W.cell? ⟨w.heap.size, 1, none⟩ = some v1 ∧ W.cell? ⟨w.heap.size + 1, 0, none⟩ = some v2 ∧ W.cell? ⟨w.heap.size + 1, 1, none⟩ = some v3) ∧
    (∀ o, W.frozen? ⟨w.heap.size, o, none⟩ = false) ∧ (∀ o, W.frozen? ⟨w.heap.size + 1, o, none⟩ = false) := by
  refine ⟨_, rfl, ((Below.refl _ _).alloc (Nat.le_refl _) _).alloc (by simp) _, by simp, ⟨?_, ?_, ?_, ?_⟩, ?_, ?_⟩ <;> (try intro o) <;> simp [go_sem, World.cell?_alloc_past, World.frozen?_alloc_past]
theorem Cut6 (n : Bool) (x : Option Addr) (ca : Nat) (xs : List Int) (w : World) (ha : Row w .u32 4294967296 x ca xs) :
    Calls Try.prog 5 #[.agg #[.bool n, .slice x xs.length ca], .int .i64 6] w fun e w' => e = .returned (.agg #[.bool n, .slice x (xs.take 6).length ca]) ∧ ∃ o1 o2, w' = (w.alloc o1).alloc o2 := Cut_exact n x ca 6 xs w ha (by decide)
theorem own_cut {w wc : World} {na nb : Bool} {x y : Option Addr} {ca cb : Nat} {xs ys : List Int} (ha : Row w .u32 4294967296 x ca xs) (hb : Row w .u32 4294967296 y cb ys) (hB : Below w.heap.size w wc)
    (c0 : wc.cell? ⟨w.heap.size, 0, none⟩ = some (.bool na)) (c1 : wc.cell? ⟨w.heap.size, 1, none⟩ = some (.slice x (xs.take 6).length ca)) (c2 : wc.cell? ⟨w.heap.size + 1, 0, none⟩ = some (.bool nb)) (c3 : wc.cell? ⟨w.heap.size + 1, 1, none⟩ = some (.slice y (ys.take 6).length cb)) (hl : w.heap.size + 1 < wc.heap.size) :
    wc.cell? ⟨w.heap.size, 0, none⟩ = some (.bool na) ∧ wc.cell? ⟨w.heap.size, 1, none⟩ = some (.slice x (xs.take 6).length ca) ∧ wc.cell? ⟨w.heap.size + 1, 0, none⟩ = some (.bool nb) ∧ wc.cell? ⟨w.heap.size + 1, 1, none⟩ = some (.slice y (ys.take 6).length cb) ∧ Row wc .u32 4294967296 x ca (xs.take 6) ∧ Row wc .u32 4294967296 y cb (ys.take 6) ∧ Below w.heap.size w wc ∧ w.heap.size + 1 < wc.heap.size :=
  ⟨c0, c1, c2, c3, (ha.next hB).take' 6, (hb.next hB).take' 6, hB, hl⟩
/-- The list of four answers: its cells, and each answer's own row, whatever stands in it. -/
def Lst (w : World) (H gl : Nat) (La : Nat → Option Addr) (Ll Lc : Nat → Nat) : Prop :=
  (∀ j, j < 4 → w.cell? ⟨gl, 2 * j + 1, none⟩ = some (.slice (La j) (Ll j) (Lc j))) ∧ (∀ j, j < 4 → ∃ zs, Own w H .u32 30 4294967296 (La j) (Lc j) zs ∧ zs.length = Ll j)
/-- No two answers share a block, none lies in the list's. -/
def Apart (H gl : Nat) (La : Nat → Option Addr) : Prop := (∀ i j, i < 4 → j < 4 → i ≠ j → ∀ g, ownB (La i) = some g → ownB (La j) ≠ some g) ∧ ∀ j, j < 4 → ∀ g, ownB (La j) = some g → g ≠ gl ∧ H ≤ g
theorem Lst.write {w : World} {H gl : Nat} {La : Nat → Option Addr} {Ll Lc : Nat → Nat} (h : Lst w H gl La Ll Lc) (hd : Apart H gl La) {i k : Nat} (hi : i < 4) (hk : k < Ll i) :
    ∃ g z, La i = some ⟨g, 0, none⟩ ∧ g ≠ gl ∧ H ≤ g ∧ w.cell? ⟨g, k, none⟩ = some (.int .u32 z) ∧ w.frozen? ⟨g, k, none⟩ = false ∧ 0 ≤ z ∧ z < 4294967296 ∧ Ll i ≤ Lc i ∧ Lc i ≤ maxLen ∧ ∀ u, 0 ≤ u → u < 4294967296 → Lst (w.setCell ⟨g, k, none⟩ (.int .u32 u)) H gl La Ll Lc := by
  obtain ⟨zs, ho, hl⟩ := h.2 i hi
  obtain ⟨hw, ⟨_, _, rfl⟩ | ⟨g, hg, hH, hb⟩⟩ := ho
  · simp at hl; omega
  · have hown : ownB (La i) = some g := by rw [hg]; rfl
    obtain ⟨hgl, _⟩ := hd.2 i hi g hown
    have hz := hw.at (by decide) k
    refine ⟨g, zs[k]?.getD 0, hg, hgl, hH, hb.cell k (by omega), hb.frozen k, hz.1, hz.2, by rw [← hl]; exact hb.le, hb.max, fun u hu0 hu1 => ⟨fun j hj => ?_, fun j hj => ?_⟩⟩
    · exact keep_set (h.1 j hj) (by simpa using hgl)
    · by_cases e : i = j
      · subst e
        exact ⟨zs.set k u, ⟨hw.set k ⟨hu0, hu1⟩, .inr ⟨g, hg, hH, hb.set k u⟩⟩, by simpa using hl⟩
      · obtain ⟨zs', ho', hl'⟩ := h.2 j hj
        refine ⟨zs', ?_, hl'⟩
        obtain ⟨hw', h' | ⟨g', hg', hH', hb'⟩⟩ := ho'
        · exact ⟨hw', .inl h'⟩
        · refine ⟨hw', .inr ⟨g', hg', hH', hb'.other _ _ ?_⟩⟩
          have := hd.1 i j hi hj e g hown
          rw [hg'] at this
          simp [ownB] at this
          exact fun e => this e.symm
def pick4 {α : Type} (a b c d : α) (j : Nat) : α := match j with
  | 0 => a
  | 1 => b
  | 2 => c
  | _ => d
theorem four (j : Nat) (h : j < 4) : j = 0 ∨ j = 1 ∨ j = 2 ∨ j = 3 := by omega
theorem Out.own {w : World} {b : Nat} {m : Bool} {a : Option Addr} {l c : Nat} {z : Int} {n : Nat} (h : Out w b (.agg #[.bool m, .slice a l c]) z n) : ∃ zs, Own w b .u32 30 4294967296 a c zs ∧ zs.length = l := by
  obtain ⟨neg, a', cap, ds, hv, ho, _⟩ := h
  simp at hv
  obtain ⟨rfl, rfl, rfl, rfl⟩ := hv
  exact ⟨ds, ho, rfl⟩
theorem lst_of {v4 : World} {H b1 b2 b3 b4 : Nat} {n1 n2 n3 n4 : Bool} {a1 a2 a3 a4 : Option Addr} {l1 l2 l3 l4 c1 c2 c3 c4 : Nat} (h1 : ∃ zs, Own v4 H .u32 30 4294967296 a1 c1 zs ∧ zs.length = l1) (h2 : ∃ zs, Own v4 H .u32 30 4294967296 a2 c2 zs ∧ zs.length = l2) (h3 : ∃ zs, Own v4 H .u32 30 4294967296 a3 c3 zs ∧ zs.length = l3) (h4 : ∃ zs, Own v4 H .u32 30 4294967296 a4 c4 zs ∧ zs.length = l4)
    (k1 : ∀ g, ownB a1 = some g → H ≤ g ∧ g < b1) (k2 : ∀ g, ownB a2 = some g → b1 ≤ g ∧ g < b2) (k3 : ∀ g, ownB a3 = some g → b2 ≤ g ∧ g < b3) (k4 : ∀ g, ownB a4 = some g → b3 ≤ g ∧ g < b4) (hb : H ≤ b1 ∧ b1 ≤ b2 ∧ b2 ≤ b3 ∧ b3 ≤ b4 ∧ b4 ≤ v4.heap.size) :
    Lst (v4.alloc (.cells #[.bool n1, .slice a1 l1 c1, .bool n2, .slice a2 l2 c2, .bool n3, .slice a3 l3 c3, .bool n4, .slice a4 l4 c4] 24)) H v4.heap.size (pick4 a1 a2 a3 a4) (pick4 l1 l2 l3 l4) (pick4 c1 c2 c3 c4) ∧ Apart H v4.heap.size (pick4 a1 a2 a3 a4) := by
  have hn : Below v4.heap.size v4 (v4.alloc (.cells #[.bool n1, .slice a1 l1 c1, .bool n2, .slice a2 l2 c2, .bool n3, .slice a3 l3 c3, .bool n4, .slice a4 l4 c4] 24)) := (Below.refl _ _).alloc (Nat.le_refl _) _
  refine ⟨⟨fun j hj => ?_, fun j hj => ?_⟩, fun i j hi hj hne g hg hg' => ?_, fun j hj g hg => ?_⟩
  · rcases four j hj with rfl | rfl | rfl | rfl <;> simp [go_sem, pick4]
  · rcases four j hj with rfl | rfl | rfl | rfl
    · obtain ⟨zs, h, e⟩ := h1; exact ⟨zs, h.next hn, e⟩
    · obtain ⟨zs, h, e⟩ := h2; exact ⟨zs, h.next hn, e⟩
    · obtain ⟨zs, h, e⟩ := h3; exact ⟨zs, h.next hn, e⟩
    · obtain ⟨zs, h, e⟩ := h4; exact ⟨zs, h.next hn, e⟩
  · have q1 := k1 g
    have q2 := k2 g
    have q3 := k3 g
    have q4 := k4 g
    rcases four i hi with rfl | rfl | rfl | rfl <;> rcases four j hj with rfl | rfl | rfl | rfl <;> first | exact absurd rfl hne | (simp only [pick4] at hg hg'; first | (have := q1 hg; have := q2 hg'; omega) | (have := q1 hg; have := q3 hg'; omega) | (have := q1 hg; have := q4 hg'; omega) | (have := q2 hg; have := q1 hg'; omega) | (have := q2 hg; have := q3 hg'; omega) | (have := q2 hg; have := q4 hg'; omega) | (have := q3 hg; have := q1 hg'; omega) | (have := q3 hg; have := q2 hg'; omega) | (have := q3 hg; have := q4 hg'; omega) | (have := q4 hg; have := q1 hg'; omega) | (have := q4 hg; have := q2 hg'; omega) | (have := q4 hg; have := q3 hg'; omega))
  · rcases four j hj with rfl | rfl | rfl | rfl <;> simp only [pick4] at hg
    · have := k1 g hg; omega
    · have := k2 g hg; omega
    · have := k3 g hg; omega
    · have := k4 g hg; omega
end Go.Proofs.Ytdcjgepgiaaaoab
