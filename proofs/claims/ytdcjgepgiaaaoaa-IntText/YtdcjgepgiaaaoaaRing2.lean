/- The walk of IntRing. -/
import Derived.Test.YtdcjgepgiaaaoaaBeg
import Derived.Deep.Cut
import Derived.Deep.Light
import Derived.Deep.RegionWith
import Derived.Test.YtdcjgepgiaaaoaaApp
import Derived.Test.YtdcjgepgiaaaoaaBeg3
import Derived.Deep.RegionLaw
namespace Go.Proofs.Ytdcjgepgiaaaoaa
open Go.RowKit
attribute [local go_sem ↓] Go.wp_at_zero Go.wp_at_succ
/-- Cut: the first n words; two new blocks. -/
theorem Cut_exact (n : Bool) (x : Option Addr) (ca m : Nat) (xs : List Int) (w : World) (ha : Row w .u32 4294967296 x ca xs) (hm : m ≤ 1000) :
    Calls Try.prog 10 #[.agg #[.bool n, .slice x xs.length ca], .int .i64 m] w fun e w' => e = .returned (.agg #[.bool n, .slice x (xs.take m).length ca]) ∧ ∃ o1 o2, w' = (w.alloc o1).alloc o2 := by
  have hle := ha.le
  have hmx := ha.max
  unfold maxLen at hmx
  rw [List.length_take]
  by_cases h : m < xs.length
  · rw [Nat.min_eq_left (by omega)]
    obtain ⟨x, rfl⟩ := ha.some_of (i := m) h
    go_enter Try.func10, Try.ntmps10
    go_wp2
    exact bodyPost_ret (v := .agg #[.bool n, .slice (some x) m ca]) (by simp [results, Try.results10, go_sem]) rfl ⟨rfl, _, _, rfl⟩
  · rw [Nat.min_eq_right (by omega)]
    go_enter Try.func10, Try.ntmps10
    go_wp2
    exact bodyPost_ret (v := .agg #[.bool n, .slice x xs.length ca]) (by simp [results, Try.results10, go_sem]) rfl ⟨rfl, _, _, rfl⟩
theorem Cut10 (n : Bool) (x : Option Addr) (ca : Nat) (xs : List Int) (w : World) (ha : Row w .u32 4294967296 x ca xs) :
    Calls Try.prog 10 #[.agg #[.bool n, .slice x xs.length ca], .int .i64 10] w fun e w' => e = .returned (.agg #[.bool n, .slice x (xs.take 10).length ca]) ∧ ∃ o1 o2, w' = (w.alloc o1).alloc o2 := Cut_exact n x ca 10 xs w ha (by decide)
theorem Row.take' {w : World} {k : IntKind} {B : Int} {a : Option Addr} {cap : Nat} {zs : List Int} (h : Row w k B a cap zs) (n : Nat) : Row w k B a cap (zs.take n) := by
  by_cases hn : n ≤ zs.length
  · exact h.take n hn
  · rw [List.take_of_length_le (by omega)]; exact h
theorem Out.zero {w : World} {b : Nat} {v : Value} {n : Nat} (h : Out w b v 0 n) : ∃ a cap, v = .agg #[.bool false, .slice a 0 cap] := by
  obtain ⟨neg, a, cap, ds, rfl, ho, hn, hz, _⟩ := h
  have hu := norm_unique (B := 4294967296) (by decide) ho.words (Words.nil _) hn (n := false) ⟨trivial, fun h => by cases h⟩ (by rw [hz]; rfl)
  obtain ⟨rfl, rfl⟩ := hu
  exact ⟨a, cap, rfl⟩
theorem Num.more {w : World} {v : Value} {z : Int} {n m : Nat} (h : n ≤ m) (hn : Num w v z n) : Num w v z m := by
  obtain ⟨neg, a, cap, ds, r1, r2, r3, r4⟩ := hn
  exact ⟨neg, a, cap, ds, r1, r2, r3, by omega⟩
theorem Own.lt {w : World} {base : Nat} {k : IntKind} {T : TypeId} {B : Int} {a : Option Addr} {cap : Nat} {zs : List Int} (h : Own w base k T B a cap zs) (g : Nat) (hg : ownB a = Option.some g) : base ≤ g ∧ g < w.heap.size := by
  obtain ⟨_, ⟨rfl, _⟩ | ⟨g2, rfl, hb2, hb⟩⟩ := h
  · cases hg
  · simp [ownB] at hg; subst hg; exact ⟨hb2, hb.lt⟩
def BegunSaid : Prop := ∀ w : World, Calls Try.prog 9 #[] w fun e w' => e = .returned (.bool true) ∧ Below w.heap.size w w'
theorem three_boxes (w : World) (v0 v1 v2 v3 v4 v5 : Value) (T : TypeId) : ∃ W, W = ((w.alloc (.cells #[v0, v1] T)).alloc (.cells #[v2, v3] T)).alloc (.cells #[v4, v5] T) ∧ Below w.heap.size w W ∧ w.heap.size + 1 + 1 < W.heap.size ∧
    (W.cell? ⟨w.heap.size, 0, none⟩ = some v0 ∧ W.cell? ⟨w.heap.size, 1, none⟩ = some v1 ∧ W.cell? ⟨w.heap.size + 1, 0, none⟩ = some v2 ∧ W.cell? ⟨w.heap.size + 1, 1, none⟩ = some v3 ∧ W.cell? ⟨w.heap.size + 1 + 1, 0, none⟩ = some v4 ∧ W.cell? ⟨w.heap.size + 1 + 1, 1, none⟩ = some v5) ∧
    (∀ o, W.frozen? ⟨w.heap.size, o, none⟩ = false) ∧ (∀ o, W.frozen? ⟨w.heap.size + 1, o, none⟩ = false) ∧ (∀ o, W.frozen? ⟨w.heap.size + 1 + 1, o, none⟩ = false) := by
  refine ⟨_, rfl, (((Below.refl _ _).alloc (Nat.le_refl _) _).alloc (by simp) _).alloc (by simp; omega) _, by simp, ⟨?_, ?_, ?_, ?_, ?_, ?_⟩, ?_, ?_, ?_⟩ <;> (try intro o) <;> simp [go_sem, World.cell?_alloc_past, World.frozen?_alloc_past]
theorem ring_cut {w wc : World} {na nb nc : Bool} {x y z : Option Addr} {ca cb cc : Nat} {xs ys zs : List Int} (ha : Row w .u32 4294967296 x ca xs) (hb : Row w .u32 4294967296 y cb ys) (hc : Row w .u32 4294967296 z cc zs) (hB : Below w.heap.size w wc)
    (c0 : wc.cell? ⟨w.heap.size, 0, none⟩ = some (.bool na)) (c1 : wc.cell? ⟨w.heap.size, 1, none⟩ = some (.slice x (xs.take 10).length ca)) (c2 : wc.cell? ⟨w.heap.size + 1, 0, none⟩ = some (.bool nb)) (c3 : wc.cell? ⟨w.heap.size + 1, 1, none⟩ = some (.slice y (ys.take 10).length cb)) (c4 : wc.cell? ⟨w.heap.size + 1 + 1, 0, none⟩ = some (.bool nc)) (c5 : wc.cell? ⟨w.heap.size + 1 + 1, 1, none⟩ = some (.slice z (zs.take 10).length cc)) (hl : w.heap.size + 1 + 1 < wc.heap.size) :
    wc.cell? ⟨w.heap.size, 0, none⟩ = some (.bool na) ∧ wc.cell? ⟨w.heap.size, 1, none⟩ = some (.slice x (xs.take 10).length ca) ∧ wc.cell? ⟨w.heap.size + 1, 0, none⟩ = some (.bool nb) ∧ wc.cell? ⟨w.heap.size + 1, 1, none⟩ = some (.slice y (ys.take 10).length cb) ∧ wc.cell? ⟨w.heap.size + 1 + 1, 0, none⟩ = some (.bool nc) ∧ wc.cell? ⟨w.heap.size + 1 + 1, 1, none⟩ = some (.slice z (zs.take 10).length cc) ∧ Row wc .u32 4294967296 x ca (xs.take 10) ∧ Row wc .u32 4294967296 y cb (ys.take 10) ∧ Row wc .u32 4294967296 z cc (zs.take 10) ∧ Below w.heap.size w wc ∧ w.heap.size + 1 + 1 < wc.heap.size :=
  ⟨c0, c1, c2, c3, c4, c5, (ha.next hB).take' 10, (hb.next hB).take' 10, (hc.next hB).take' 10, hB, hl⟩
set_option maxRecDepth 20000 in
set_option maxHeartbeats 4000000 in
theorem ring_any (hbeg : BegunSaid) (na nb nc : Bool) (x y z : Option Addr) (ca cb cc : Nat) (xs ys zs : List Int) (k : Int) (w : World) (ha : Row w .u32 4294967296 x ca xs) (hb : Row w .u32 4294967296 y cb ys) (hc : Row w .u32 4294967296 z cc zs) (_hk0 : -9223372036854775808 ≤ k) (_hk1 : k ≤ 9223372036854775807) :
    Calls Try.prog 7 #[.agg #[.bool na, .slice x xs.length ca], .agg #[.bool nb, .slice y ys.length cb], .agg #[.bool nc, .slice z zs.length cc], .int .i64 k] w fun e w' => e = .returned (.bool true) ∧ Below w.heap.size w w' := by
  go_enter Try.func7, Try.ntmps7
  go_wp2_with fail
  obtain ⟨W, hW, hbW, hlt, ⟨c0, c1, c2, c3, c4, c5⟩, f0, f1, f2⟩ := three_boxes w (.bool na) (.slice x xs.length ca) (.bool nb) (.slice y ys.length cb) (.bool nc) (.slice z zs.length cc) 24
  rw [← hW]
  clear hW
  refine (hbeg _).mono ?_
  rintro e w1 ⟨rfl, hb1⟩
  have d0 := keep_cell hb1 c0
  have d1 := keep_cell hb1 c1
  have d2 := keep_cell hb1 c2
  have d3 := keep_cell hb1 c3
  have d4 := keep_cell hb1 c4
  have d5 := keep_cell hb1 c5
  have g0 := keep_frozen hb1 c0 (f0 0)
  have g1 := keep_frozen hb1 c1 (f0 1)
  have g2 := keep_frozen hb1 c2 (f1 0)
  have g3 := keep_frozen hb1 c3 (f1 1)
  have g4 := keep_frozen hb1 c4 (f2 0)
  have g5 := keep_frozen hb1 c5 (f2 1)
  have hx := (ha.next hbW).next hb1
  have hy := (hb.next hbW).next hb1
  have hz := (hc.next hbW).next hb1
  have hw1 := bthen hbW hb1
  have hsz := hb1.size
  have l0 : w.heap.size < w1.heap.size := by omega
  have l1 : w.heap.size + 1 < w1.heap.size := by omega
  have l2 : w.heap.size + 1 + 1 < w1.heap.size := by omega
  have m10 : w.heap.size < w1.heap.size + 1 := by omega
  have m11 : w.heap.size + 1 < w1.heap.size + 1 := by omega
  have m12 : w.heap.size + 1 + 1 < w1.heap.size + 1 := by omega
  have m20 : w.heap.size < w1.heap.size + 1 + 1 := by omega
  have m21 : w.heap.size + 1 < w1.heap.size + 1 + 1 := by omega
  have m22 : w.heap.size + 1 + 1 < w1.heap.size + 1 + 1 := by omega
  have m30 : w.heap.size < w1.heap.size + 1 + 1 + 1 := by omega
  have m31 : w.heap.size + 1 < w1.heap.size + 1 + 1 + 1 := by omega
  have m32 : w.heap.size + 1 + 1 < w1.heap.size + 1 + 1 + 1 := by omega
  have m40 : w.heap.size < w1.heap.size + 1 + 1 + 1 + 1 := by omega
  have m41 : w.heap.size + 1 < w1.heap.size + 1 + 1 + 1 + 1 := by omega
  have m42 : w.heap.size + 1 + 1 < w1.heap.size + 1 + 1 + 1 + 1 := by omega
  have m50 : w.heap.size < w1.heap.size + 1 + 1 + 1 + 1 + 1 := by omega
  have m51 : w.heap.size + 1 < w1.heap.size + 1 + 1 + 1 + 1 + 1 := by omega
  have m52 : w.heap.size + 1 + 1 < w1.heap.size + 1 + 1 + 1 + 1 + 1 := by omega
  have m60 : w.heap.size < w1.heap.size + 1 + 1 + 1 + 1 + 1 + 1 := by omega
  have m61 : w.heap.size + 1 < w1.heap.size + 1 + 1 + 1 + 1 + 1 + 1 := by omega
  have m62 : w.heap.size + 1 + 1 < w1.heap.size + 1 + 1 + 1 + 1 + 1 + 1 := by omega
  clear c0 c1 c2 c3 c4 c5 f0 f1 f2 hbW hb1
  go_wp2
  go_cut [] from 16 (fun wc => wc.cell? ⟨w.heap.size, 0, none⟩ = some (.bool na) ∧ wc.cell? ⟨w.heap.size, 1, none⟩ = some (.slice x (xs.take 10).length ca) ∧ wc.cell? ⟨w.heap.size + 1, 0, none⟩ = some (.bool nb) ∧ wc.cell? ⟨w.heap.size + 1, 1, none⟩ = some (.slice y (ys.take 10).length cb) ∧ wc.cell? ⟨w.heap.size + 1 + 1, 0, none⟩ = some (.bool nc) ∧ wc.cell? ⟨w.heap.size + 1 + 1, 1, none⟩ = some (.slice z (zs.take 10).length cc) ∧ Row wc .u32 4294967296 x ca (xs.take 10) ∧ Row wc .u32 4294967296 y cb (ys.take 10) ∧ Row wc .u32 4294967296 z cc (zs.take 10) ∧ Below w.heap.size w wc ∧ w.heap.size + 1 + 1 < wc.heap.size)
  case first =>
   go_region_with (first
     | (go_at_call_of 10 (Value.slice x xs.length ca); refine (Cut10 na x ca xs _ (hx.next ?q)).mono ?_; (case q => ((repeat' (first | with_reducible refine Below.alloc ?_ ?_ _ | with_reducible refine Below.setCell ?_ ?_ _ | with_reducible refine Below.drew ?_ | with_reducible assumption | with_reducible exact Below.refl _ _)) <;> first | omega | (simp; done) | (simp; omega))); rintro e w2 ⟨rfl, o1, o2, rfl⟩)
     | (go_at_call_of 10 (Value.slice y ys.length cb); refine (Cut10 nb y cb ys _ (hy.next ?q)).mono ?_; (case q => ((repeat' (first | with_reducible refine Below.alloc ?_ ?_ _ | with_reducible refine Below.setCell ?_ ?_ _ | with_reducible refine Below.drew ?_ | with_reducible assumption | with_reducible exact Below.refl _ _)) <;> first | omega | (simp; done) | (simp; omega))); rintro e w2 ⟨rfl, o3, o4, rfl⟩)
     | (go_at_call_of 10 (Value.slice z zs.length cc); refine (Cut10 nc z cc zs _ (hz.next ?q)).mono ?_; (case q => ((repeat' (first | with_reducible refine Below.alloc ?_ ?_ _ | with_reducible refine Below.setCell ?_ ?_ _ | with_reducible refine Below.drew ?_ | with_reducible assumption | with_reducible exact Below.refl _ _)) <;> first | omega | (simp; done) | (simp; omega))); rintro e w2 ⟨rfl, o5, o6, rfl⟩))
   all_goals
    go_wp2_with fail
    go_meet
    case rel =>
     go_light
     refine ring_cut ha hb hc ?_ ?_ ?_ ?_ ?_ ?_ ?_ ?_
     · ((repeat' (first | with_reducible refine Below.alloc ?_ ?_ _ | with_reducible refine Below.setCell ?_ ?_ _ | with_reducible refine Below.drew ?_ | with_reducible assumption | with_reducible exact Below.refl _ _)) <;> first | omega | (simp; done) | (simp; omega))
     · (clear ha hb hc hx hy hz hw1; simp [go_sem, *])
     · (clear ha hb hc hx hy hz hw1; simp [go_sem, *])
     · (clear ha hb hc hx hy hz hw1; simp [go_sem, *])
     · (clear ha hb hc hx hy hz hw1; simp [go_sem, *])
     · (clear ha hb hc hx hy hz hw1; simp [go_sem, *])
     · (clear ha hb hc hx hy hz hw1; simp [go_sem, *])
     · (simp; omega)
  case rest =>
   obtain ⟨e0, e1, e2, e3, e4, e5, rx, ry, rz, hB, hl⟩ := hcut
   generalize wc = Wc at *
   clear d0 d1 d2 d3 d4 d5 g0 g1 g2 g3 g4 g5 hx hy hz hw1 hsz l0 l1 l2 m10 m11 m12 m20 m21 m22 m30 m31 m32 m40 m41 m42 m50 m51 m52 m60 m61 m62 ha hb hc hlt
   have lx : (xs.take 10).length ≤ 10 := by rw [List.length_take]; omega
   have ly : (ys.take 10).length ≤ 10 := by rw [List.length_take]; omega
   have lz : (zs.take 10).length ≤ 10 := by rw [List.length_take]; omega
   generalize xs.take 10 = xt at *
   generalize ys.take 10 = yt at *
   generalize zs.take 10 = zt at *
   go_wp2
   go_cut [10] from 22 (fun d w2 => ∃ bD a' cap', d = .pointer (some ⟨bD, 0, none⟩) ∧ Wc.heap.size ≤ bD ∧ w2.cell? ⟨bD, 0, none⟩ = some (.bool na) ∧ w2.cell? ⟨bD, 1, none⟩ = some (.slice a' xt.length cap') ∧ w2.frozen? ⟨bD, 1, none⟩ = false ∧ Own w2 Wc.heap.size .u32 61 4294967296 a' cap' xt ∧ Hid (∀ g, ownB a' = some g → g ≠ bD) ∧ Below Wc.heap.size Wc w2)
   case first =>
    have hD0 : Below Wc.heap.size Wc Wc.drew := (Below.refl _ _).drew
    have hD1 : Below Wc.heap.size Wc (Wc.alloc (.cells #[.bool false, .slice none 0 0] 24)).drew := ((Below.refl _ _).alloc (Nat.le_refl _) _).drew
    obtain ⟨a1, p1, w1', hr1, hown1, hbl1⟩ := app_copy Wc.drew x ca xt 22 (rx.next hD0) (by omega)
    obtain ⟨a2, p2, w2', hr2, hown2, hbl2⟩ := app_copy (Wc.alloc (.cells #[.bool false, .slice none 0 0] 24)).drew x ca xt 22 (rx.next hD1) (by omega)
    replace hr1 : Hid _ := hr1
    replace hr2 : Hid _ := hr2
    have hB1 : Below Wc.heap.size Wc w1' := bthen hD0 hbl1
    have hB2 : Below Wc.heap.size Wc w2' := bthen hD1 hbl2
    have hs1 := hB1.size
    have hs2 := hB2.size
    have hq2 : Wc.heap.size < w2'.heap.size := cell_lt (keep_cell hbl2 (p := ⟨Wc.heap.size, 0, none⟩) (v := .bool false) (by simp [go_sem]))
    have k0 := keep_cell hbl2 (p := ⟨Wc.heap.size, 0, none⟩) (v := .bool false) (by simp [go_sem])
    have k1 := keep_cell hbl2 (p := ⟨Wc.heap.size, 1, none⟩) (v := .slice none 0 0) (by simp [go_sem])
    have f0 := keep_frozen hbl2 (p := ⟨Wc.heap.size, 0, none⟩) (v := .bool false) (by simp [go_sem]) (by simp [go_sem])
    have f1 := keep_frozen hbl2 (p := ⟨Wc.heap.size, 1, none⟩) (v := .slice none 0 0) (by simp [go_sem]) (by simp [go_sem])
    go_region_held3 (fun w' => w'.cell? ⟨w.heap.size, 0, none⟩ = some (.bool na) ∧ w'.cell? ⟨w.heap.size, 1, none⟩ = some (.slice x xt.length ca) ∧ Below Wc.heap.size Wc w') ((refine (fun hX : Below Wc.heap.size Wc _ => ⟨keep_cell hX e0, keep_cell hX e1, hX⟩) ?_; ((repeat' (first | with_reducible refine Below.alloc ?_ ?_ _ | with_reducible refine Below.setCell ?_ ?_ _ | with_reducible refine Below.drew ?_ | with_reducible assumption | with_reducible exact Below.refl _ _)) <;> first | omega | (simp; done) | (simp; omega))))
      (first
        | (refine step_append_run (by rfl) (.const (.slice none 0 0)) (.tmp 25) 22 22 (by rfl) (.slice none 0 0) (.slice x xt.length ca) (by rfl) (by rfl) _ _ hr1.out ?_)
        | (refine step_append_run (by rfl) (.const (.slice none 0 0)) (.tmp 25) 22 22 (by rfl) (.slice none 0 0) (.slice x xt.length ca) (by rfl) (by rfl) _ _ hr2.out ?_))
    all_goals go_wp2_with fail
    all_goals go_meet
    · have hO := hown1.next ((Below.refl _ w1').alloc (Nat.le_refl _) (.cells #[.bool na, .slice a1 xt.length p1] 24))
      exact ⟨w1'.heap.size, a1, p1, rfl, hs1, by simp [go_sem], by simp [go_sem], by simp [go_sem], hO, fun g hg => Nat.ne_of_lt (hown1.lt g hg).2, hB1.alloc hs1 _⟩
    · have hb' : (Wc.alloc (.cells #[.bool false, .slice none 0 0] 24)).drew.heap.size = Wc.heap.size + 1 := by simp
      rw [hb'] at hown2
      exact ⟨Wc.heap.size, a2, p2, rfl, Nat.le_refl _, by simp [go_sem, k0], by simp [go_sem, k1], by simp [go_sem, f1], ((hown2.set (by simp) _).set (by simp) _).mono (by omega), fun g hg => by have := (hown2.lt g hg).1; omega, (hB2.setCell (by simp) _).setCell (by simp) _⟩
   case rest =>
    obtain ⟨bD, aD, pD, rfl, hbD, q0, q1, q2, hown, HO, hB2⟩ := hcut
    go_wp2
    go_loopw [11] (fun i wr => ∃ (j : Nat) (a' : Option Addr) (cap' : Nat), j ≤ 4 ∧ i = .int .i64 j ∧ wr.cell? ⟨bD, 0, none⟩ = some (.bool na) ∧ wr.cell? ⟨bD, 1, none⟩ = some (.slice a' (xt.length + j) cap') ∧ wr.frozen? ⟨bD, 1, none⟩ = false ∧ Own wr Wc.heap.size .u32 61 4294967296 a' cap' (xt ++ zeros j) ∧ Hid (∀ g, ownB a' = some g → g ≠ bD) ∧ Below Wc.heap.size Wc wr) (fun i _ => 4 - (intOf i).toNat)
    case atStart => exact ⟨0, aD, pD, by omega, rfl, q0, q1, q2, by simpa [zeros] using hown, HO, hB2⟩
    case round =>
     obtain ⟨j, a', cap', hj, rfl, r0, r1, r2, hown', HO', hB3⟩ := hrel
     by_cases hjk : (j : Int) < k
     · by_cases hj4 : (j : Int) < 4
       · obtain ⟨i0, hi, hz0, hz1, hz2⟩ := info_parts Try.info61
         have hs3 := hB3.size
         have hown2 := (hown'.next ((Below.refl _ wr).alloc (Nat.le_refl _) (.cells #[.int .u32 0] 61))).owns
         have hll : (xt ++ zeros j).length = xt.length + j := by rw [List.length_append, zeros_len]
         rw [hll] at hown2
         replace hown2 : Hid _ := hown2
         have hDlt := cell_lt r0
         go_wp2_with (at_builtin; refine wpList_append_lies _ (by rfl) (.tmp 38) (.tmp 39) 22 (by rfl) Wc.heap.size 61 i0 (.int .u32 0) 1 4 Try.underlying22 hi hz0 hz1 hz2 (by rfl) (by omega) (.slice a' (xt.length + j) cap') (xt.length + j) ((xt ++ zeros j).map (Value.int .u32)) (by rfl) hown2.out ⟨wr.heap.size, 0, none⟩ 1 1 [.int .u32 0] (by rfl) (by rfl) (news_one wr .u32 61 0) (one_one _ _) (by omega) (by unfold maxLen; omega) (by omega) (by simp; omega) (wr.heap.size + 1) (by simp) ?_)
         intro g' cap2 w1 hown3 hgrow hat hlt'
         rw [ownB_eq] at hgrow hat
         have hO2 : Blk w1 g' .u32 61 cap2 (xt ++ zeros (j + 1)) := by
           refine Blk.of_owns (base := Wc.heap.size) (n := xt.length + j + 1) ?_
           rw [show zeros (j + 1) = zeros j ++ [0] from by simp [zeros, List.replicate_succ'], ← List.append_assoc, List.map_append]
           simpa using hown3
         have hge : Wc.heap.size ≤ g' ∧ g' ≠ bD := by
           rcases hat with h | h
           · exact ⟨(hown'.lt g' h).1, HO'.out g' h⟩
           · exact ⟨by omega, by omega⟩
         have hgr := grown_alloc hgrow
         have hbo : w1.heap[bD]? = wr.heap[bD]? := hgr.block bD hDlt (fun e => HO'.out bD e.symm rfl)
         have s0 : w1.cell? ⟨bD, 0, none⟩ = some (.bool na) := (World.cell?_of_block hbo).trans r0
         have s1 : w1.cell? ⟨bD, 1, none⟩ = some (.slice a' (xt.length + j) cap') := (World.cell?_of_block hbo).trans r1
         have s2 : w1.frozen? ⟨bD, 1, none⟩ = false := (World.frozen?_of_block hbo).trans r2
         have hw2 : Words 4294967296 (xt ++ zeros (j + 1)) := rx.words.append (zeros_words (by decide) _)
         have hB4 : Below Wc.heap.size Wc w1 := hB3.trans ⟨hgr.os, hgr.tape, hgr.output, hgr.size, fun m hm => hgr.block m (by omega) (fun e => by have := (hown'.lt m e.symm).1; omega)⟩
         clear hown3 hgrow hat hown2 hgr hbo
         go_wp2
         go_roundw
         case rel => exact ⟨j + 1, _, _, by omega, by go_num, by simp [go_sem, s0], by simp [go_sem, s1]; omega, by simp [go_sem, s2], (hO2.other _ _ (by simpa using hge.2.symm)).own hw2 hge.1, fun g hg => by simp [ownB] at hg; subst hg; exact hge.2, hB4.setCell (by simpa using hbD) _⟩
         case measure => simp [intOf]; omega
       · have hj4' : decide ((j : Int) < 4) = false := by simpa using hj4
         go_wp2
         have hs3 := hB3.size
         have hDn : Num wr (.agg #[.bool na, .slice a' (xt.length + j) cap']) (num 4294967296 na xt) 14 := by
           refine ⟨na, a', cap', xt ++ zeros j, by rw [List.length_append, zeros_len], hown'.row, by simp [num, val_pad], by rw [List.length_append, zeros_len]; omega⟩
         have hAn : Num wr (.agg #[.bool na, .slice x xt.length ca]) (num 4294967296 na xt) 14 := ⟨na, x, ca, xt, rfl, rx.next hB3, rfl, by omega⟩
         have hBn : Num wr (.agg #[.bool nb, .slice y yt.length cb]) (num 4294967296 nb yt) 14 := ⟨nb, y, cb, yt, rfl, ry.next hB3, rfl, by omega⟩
         have hCn : Num wr (.agg #[.bool nc, .slice z zt.length cc]) (num 4294967296 nc zt) 14 := ⟨nc, z, cc, zt, rfl, rz.next hB3, rfl, by omega⟩
         have t0 := keep_cell hB3 e0
         have t1 := keep_cell hB3 e1
         have t2 := keep_cell hB3 e2
         have t3 := keep_cell hB3 e3
         have t4 := keep_cell hB3 e4
         have t5 := keep_cell hB3 e5
         have hwr : Below w.heap.size w wr := bthen hB hB3
         have hXY : Hid (num 4294967296 na xt * (num 4294967296 nb yt + num 4294967296 nc zt) = num 4294967296 na xt * num 4294967296 nb yt + num 4294967296 na xt * num 4294967296 nc zt) := Int.mul_add _ _ _
         generalize num 4294967296 na xt = A at *
         generalize num 4294967296 nb yt = B at *
         generalize num 4294967296 nc zt = C at *
         clear e0 e1 e2 e3 e4 e5 hB hB3 rx ry rz q0 q1 q2 hown HO hB2 hown' HO' hbD hl
         go_cut [12] from 42 (fun p w2 => ∃ b1 n1 a1 l1 p1, p = .pointer (some ⟨b1, 0, none⟩) ∧ w2.cell? ⟨b1, 0, none⟩ = some (.bool n1) ∧ w2.cell? ⟨b1, 1, none⟩ = some (.slice a1 l1 p1) ∧ Num w2 (.agg #[.bool n1, .slice a1 l1 p1]) (A * (B + C)) 60 ∧ Below wr.heap.size wr w2)
         case first =>
           have hD0 : Below wr.heap.size wr wr.drew := (Below.refl _ _).drew
           go_region_held3 (fun w' => (w'.cell? ⟨bD, 0, none⟩ = some (.bool na) ∧ w'.cell? ⟨bD, 1, none⟩ = some (.slice a' (xt.length + j) cap') ∧ w'.cell? ⟨w.heap.size + 1, 0, none⟩ = some (.bool nb) ∧ w'.cell? ⟨w.heap.size + 1, 1, none⟩ = some (.slice y yt.length cb) ∧ w'.cell? ⟨w.heap.size + 1 + 1, 0, none⟩ = some (.bool nc) ∧ w'.cell? ⟨w.heap.size + 1 + 1, 1, none⟩ = some (.slice z zt.length cc)) ∧ Below wr.heap.size wr w') ((refine (fun hX : Below wr.heap.size wr _ => ⟨⟨keep_cell hX r0, keep_cell hX r1, keep_cell hX t2, keep_cell hX t3, keep_cell hX t4, keep_cell hX t5⟩, hX⟩) ?_; ((repeat' (first | with_reducible refine Below.alloc ?_ ?_ _ | with_reducible refine Below.setCell ?_ ?_ _ | with_reducible refine Below.drew ?_ | with_reducible assumption | with_reducible exact Below.refl _ _)) <;> first | omega | (simp; done) | (simp; omega))))
             (first
               | (go_at_call 13; refine (Add_num (hBn.next ?q1) (hCn.next ?q2) (by decide) (by decide)).mono ?_; (case q1 => exact (And.right (by assumption))); (case q2 => exact (And.right (by assumption))); rintro e w5 ⟨v, rfl, hO5, hb5⟩; obtain ⟨n5, a5, l5, p5, rfl⟩ := hO5.form; have hX5 := hO5.num; clear hO5; have hy := hb5.size; (try simp at hy); have hBw5 : Below wr.heap.size wr w5 := bthen (And.right (by assumption)) hb5; have hsw5 := hBw5.size; (try (refine (fun q : wr.heap.size < w5.heap.size => ?_) ?_; rotate_left; (focus omega))); obtain ⟨hcw5, hfw5⟩ := bcell hb5)
               | (go_at_call 17; refine (Mul_num (hDn.next ?q1) (hX5.next ?q2) (by decide) (by decide)).mono ?_; (case q1 => exact (And.right (by assumption))); (case q2 => ((repeat' (first | with_reducible refine Below.alloc ?_ ?_ _ | with_reducible refine Below.setCell ?_ ?_ _ | with_reducible refine Below.drew ?_ | with_reducible assumption | with_reducible exact Below.refl _ _)) <;> first | omega | (simp; done) | (simp; omega))); rintro e w6 ⟨v, rfl, hO6, hb6⟩; obtain ⟨n6, a6, l6, p6, rfl⟩ := hO6.form; have hy := hb6.size; (try simp at hy); have hBw6 : Below wr.heap.size wr w6 := bthen (And.right (by assumption)) hb6; have hsw6 := hBw6.size; (try (refine (fun q : w5.heap.size < w6.heap.size => ?_) ?_; rotate_left; (focus omega))); (try (refine (fun q : wr.heap.size < w6.heap.size => ?_) ?_; rotate_left; (focus omega))); obtain ⟨hcw6, hfw6⟩ := bcell hb6))
           all_goals
             go_wp2_with fail
             go_meet
             case rel =>
              go_light
              have u1 : ∀ n : Nat, n < n + 1 + 1 := by omega
              have u2 : ∀ n : Nat, n < n + 1 := by omega
              have u3 : wr.heap.size < w5.heap.size + 1 := by omega
              refine ⟨_, n6, a6, l6, p6, rfl, ?x1, ?x2, ?x3, ?x4⟩
              case x3 => (refine Num.more (n := 14 + (max 14 14 + 1)) (by decide) ?_; apply Out.num; ((repeat' (first | with_reducible apply Out.alloc | with_reducible apply Out.drew | with_reducible apply Out.low | with_reducible exact hO6)) <;> first | omega | (simp; done) | (simp; omega)))
              case x4 => ((repeat' (first | with_reducible refine Below.alloc ?_ ?_ _ | with_reducible refine Below.setCell ?_ ?_ _ | with_reducible refine Below.drew ?_ | with_reducible assumption | with_reducible exact Below.refl _ _)) <;> first | omega | (simp; done) | (simp; omega))
              case x1 => (clear hO6; simp [go_sem, *])
              case x2 => (clear hO6; simp [go_sem, *])
         case rest =>
           obtain ⟨b1, n1, a1, l1, p1, rfl, x0, x1, hXn, hB5⟩ := hcut
           generalize wc = V at *
           replace hAn := hAn.next hB5
           replace hBn := hBn.next hB5
           replace hCn := hCn.next hB5
           replace hDn := hDn.next hB5
           replace t0 := keep_cell hB5 t0
           replace t1 := keep_cell hB5 t1
           replace t2 := keep_cell hB5 t2
           replace t3 := keep_cell hB5 t3
           replace t4 := keep_cell hB5 t4
           replace t5 := keep_cell hB5 t5
           replace r0 := keep_cell hB5 r0
           replace r1 := keep_cell hB5 r1
           replace hwr := bthen hwr hB5
           clear hB5 r2 hs3
           go_wp2
           go_cut [13] from 47 (fun p w2 => ∃ b1 n1 a1 l1 p1, p = .pointer (some ⟨b1, 0, none⟩) ∧ w2.cell? ⟨b1, 0, none⟩ = some (.bool n1) ∧ w2.cell? ⟨b1, 1, none⟩ = some (.slice a1 l1 p1) ∧ Num w2 (.agg #[.bool n1, .slice a1 l1 p1]) (A * B + A * C) 60 ∧ Below V.heap.size V w2)
           case first =>
             have hD0 : Below V.heap.size V V.drew := (Below.refl _ _).drew
             go_region_held3 (fun w' => (w'.cell? ⟨w.heap.size, 0, none⟩ = some (.bool na) ∧ w'.cell? ⟨w.heap.size, 1, none⟩ = some (.slice x xt.length ca) ∧ w'.cell? ⟨w.heap.size + 1, 0, none⟩ = some (.bool nb) ∧ w'.cell? ⟨w.heap.size + 1, 1, none⟩ = some (.slice y yt.length cb) ∧ w'.cell? ⟨w.heap.size + 1 + 1, 0, none⟩ = some (.bool nc) ∧ w'.cell? ⟨w.heap.size + 1 + 1, 1, none⟩ = some (.slice z zt.length cc)) ∧ Below V.heap.size V w') ((refine (fun hX : Below V.heap.size V _ => ⟨⟨keep_cell hX t0, keep_cell hX t1, keep_cell hX t2, keep_cell hX t3, keep_cell hX t4, keep_cell hX t5⟩, hX⟩) ?_; ((repeat' (first | with_reducible refine Below.alloc ?_ ?_ _ | with_reducible refine Below.setCell ?_ ?_ _ | with_reducible refine Below.drew ?_ | with_reducible assumption | with_reducible exact Below.refl _ _)) <;> first | omega | (simp; done) | (simp; omega))))
               (first
                 | (go_at_call_of 17 (Value.slice y yt.length cb); refine (Mul_num (hAn.next ?q1) (hBn.next ?q2) (by decide) (by decide)).mono ?_; (case q1 => exact (And.right (by assumption))); (case q2 => exact (And.right (by assumption))); rintro e w5 ⟨v, rfl, hO5, hb5⟩; obtain ⟨n5, a5, l5, p5, rfl⟩ := hO5.form; have hX5 := hO5.num; clear hO5; have hy := hb5.size; (try simp at hy); have hBw5 : Below V.heap.size V w5 := bthen (And.right (by assumption)) hb5; have hsw5 := hBw5.size; (try (refine (fun q : V.heap.size < w5.heap.size => ?_) ?_; rotate_left; (focus omega))); obtain ⟨hcw5, hfw5⟩ := bcell hb5)
                 | (go_at_call_of 17 (Value.slice z zt.length cc); refine (Mul_num (hAn.next ?q1) (hCn.next ?q2) (by decide) (by decide)).mono ?_; (case q1 => exact (And.right (by assumption))); (case q2 => exact (And.right (by assumption))); rintro e w6 ⟨v, rfl, hO6, hb6⟩; obtain ⟨n6, a6, l6, p6, rfl⟩ := hO6.form; have hX6 := hO6.num; clear hO6; have hy := hb6.size; (try simp at hy); have hBw6 : Below V.heap.size V w6 := bthen (And.right (by assumption)) hb6; have hsw6 := hBw6.size; (try (refine (fun q : w5.heap.size < w6.heap.size => ?_) ?_; rotate_left; (focus omega))); (try (refine (fun q : V.heap.size < w6.heap.size => ?_) ?_; rotate_left; (focus omega))); obtain ⟨hcw6, hfw6⟩ := bcell hb6)
                 | (go_at_call 13; refine (Add_num (hX5.next ?q1) (hX6.next ?q2) (by decide) (by decide)).mono ?_; (case q1 => (refine bthen (wk := w6) (bthen (wk := _) ?_ hb6) ?_; (· ((repeat' (first | with_reducible refine Below.alloc ?_ ?_ _ | with_reducible refine Below.setCell ?_ ?_ _ | with_reducible refine Below.drew ?_ | with_reducible assumption | with_reducible exact Below.refl _ _)) <;> first | omega | (simp; done) | (simp; omega))); (· ((repeat' (first | with_reducible refine Below.alloc ?_ ?_ _ | with_reducible refine Below.setCell ?_ ?_ _ | with_reducible refine Below.drew ?_ | with_reducible assumption | with_reducible exact Below.refl _ _)) <;> first | omega | (simp; done) | (simp; omega))))); (case q2 => ((repeat' (first | with_reducible refine Below.alloc ?_ ?_ _ | with_reducible refine Below.setCell ?_ ?_ _ | with_reducible refine Below.drew ?_ | with_reducible assumption | with_reducible exact Below.refl _ _)) <;> first | omega | (simp; done) | (simp; omega))); rintro e w7 ⟨v, rfl, hO7, hb7⟩; obtain ⟨n7, a7, l7, p7, rfl⟩ := hO7.form; have hy := hb7.size; (try simp at hy); have hBw7 : Below V.heap.size V w7 := bthen (And.right (by assumption)) hb7; have hsw7 := hBw7.size; (try (refine (fun q : w6.heap.size < w7.heap.size => ?_) ?_; rotate_left; (focus omega))); (try (refine (fun q : w5.heap.size < w7.heap.size => ?_) ?_; rotate_left; (focus omega))); (try (refine (fun q : V.heap.size < w7.heap.size => ?_) ?_; rotate_left; (focus omega))); obtain ⟨hcw7, hfw7⟩ := bcell hb7))
             all_goals
               go_wp2_with fail
               go_meet
               case rel =>
                go_light
                have u1 : ∀ n : Nat, n < n + 1 + 1 := by omega
                have u2 : ∀ n : Nat, n < n + 1 := by omega
                have u3 : V.heap.size < w5.heap.size + 1 := by omega
                have u4 : V.heap.size < w6.heap.size + 1 := by omega
                have u5 : w5.heap.size < w6.heap.size + 1 := by omega
                refine ⟨_, n7, a7, l7, p7, rfl, ?x1, ?x2, ?x3, ?x4⟩
                case x3 => (refine Num.more (n := max (14 + 14) (14 + 14) + 1) (by decide) ?_; apply Out.num; ((repeat' (first | with_reducible apply Out.alloc | with_reducible apply Out.drew | with_reducible apply Out.low | with_reducible exact hO7)) <;> first | omega | (simp; done) | (simp; omega)))
                case x4 => ((repeat' (first | with_reducible refine Below.alloc ?_ ?_ _ | with_reducible refine Below.setCell ?_ ?_ _ | with_reducible refine Below.drew ?_ | with_reducible assumption | with_reducible exact Below.refl _ _)) <;> first | omega | (simp; done) | (simp; omega))
                case x1 => (clear hO7; simp [go_sem, *])
                case x2 => (clear hO7; simp [go_sem, *])
           case rest =>
             obtain ⟨b2, n2, a2, l2, p2, rfl, y0, y1, hYn, hB6⟩ := hcut
             generalize wc = U at *
             replace hAn := hAn.next hB6
             replace hDn := hDn.next hB6
             replace hXn := hXn.next hB6
             replace t0 := keep_cell hB6 t0
             replace t1 := keep_cell hB6 t1
             replace r0 := keep_cell hB6 r0
             replace r1 := keep_cell hB6 r1
             replace x0 := keep_cell hB6 x0
             replace x1 := keep_cell hB6 x1
             replace hwr := bthen hwr hB6
             clear hB6 t2 t3 t4 t5 hBn hCn
             go_wp2_with fail
             refine (Sub_num hDn hAn (by decide) (by decide)).mono ?_
             rintro e w8 ⟨v, rfl, hO8, hb8⟩
             rw [Int.sub_self] at hO8
             obtain ⟨a8, p8, rfl⟩ := hO8.zero
             replace hAn := hAn.next hb8
             replace hDn := hDn.next hb8
             replace hXn := hXn.next hb8
             replace hYn := hYn.next hb8
             replace t0 := keep_cell hb8 t0
             replace t1 := keep_cell hb8 t1
             replace r0 := keep_cell hb8 r0
             replace r1 := keep_cell hb8 r1
             replace x0 := keep_cell hb8 x0
             replace x1 := keep_cell hb8 x1
             replace y0 := keep_cell hb8 y0
             replace y1 := keep_cell hb8 y1
             replace hwr := bthen hwr hb8
             clear hb8 hO8
             obtain ⟨T, hT, hbT, hltT, z0, z1, _, _⟩ := box1 w8 (.bool false) (.slice a8 0 p8) 24
             replace hT : Hid _ := hT
             replace hAn := hAn.next hbT
             replace hDn := hDn.next hbT
             replace hXn := hXn.next hbT
             replace hYn := hYn.next hbT
             have s0 := keep_cell hbT t0
             have s1 := keep_cell hbT t1
             have s2 := keep_cell hbT r0
             have s3 := keep_cell hbT r1
             have s4 := keep_cell hbT x0
             have s5 := keep_cell hbT x1
             have s6 := keep_cell hbT y0
             have s7 := keep_cell hbT y1
             replace hwr := bthen hwr hbT
             have lb1 : b1 < w8.heap.size := cell_lt x0
             have lb2 : b2 < w8.heap.size := cell_lt y0
             have lbD : bD < w8.heap.size := cell_lt r0
             have lbw : w.heap.size < w8.heap.size := cell_lt t0
             go_wp2_with fail
             rw [← hT.out]
             clear hT t0 t1 r0 r1 x0 x1 y0 y1 hbT
             refine (Cmp_num hXn hYn (by decide) (by decide)).mono ?_
             rintro e w9 ⟨rfl, hb9⟩
             rw [cmpI_eq hXY.out]
             have k0 := keep_cell hb9 s0
             have k1 := keep_cell hb9 s1
             have k2 := keep_cell hb9 s2
             have k3 := keep_cell hb9 s3
             have k4 := keep_cell hb9 z0
             have k5 := keep_cell hb9 z1
             replace hAn := hAn.next hb9
             replace hDn := hDn.next hb9
             replace hwr := bthen hwr hb9
             clear s0 s1 s2 s3 s4 s5 s6 s7 z0 z1 hb9 hXn hYn
             go_wp2_with fail
             refine (Cmp_num hAn hDn (by decide) (by decide)).mono ?_
             rintro e w10 ⟨rfl, hb10⟩
             rw [cmpI_eq rfl]
             have m4 := keep_cell hb10 k4
             have m5 := keep_cell hb10 k5
             replace hwr := bthen hwr hb10
             clear k0 k1 k2 k3 k4 k5 hb10 hAn hDn
             go_wp2
             go_ret
             exact ⟨rfl, hwr⟩

     · have hjk' : decide ((j : Int) < k) = false := by simpa using hjk
       go_wp2
       have hs3 := hB3.size
       have hDn : Num wr (.agg #[.bool na, .slice a' (xt.length + j) cap']) (num 4294967296 na xt) 14 := by
         refine ⟨na, a', cap', xt ++ zeros j, by rw [List.length_append, zeros_len], hown'.row, by simp [num, val_pad], by rw [List.length_append, zeros_len]; omega⟩
       have hAn : Num wr (.agg #[.bool na, .slice x xt.length ca]) (num 4294967296 na xt) 14 := ⟨na, x, ca, xt, rfl, rx.next hB3, rfl, by omega⟩
       have hBn : Num wr (.agg #[.bool nb, .slice y yt.length cb]) (num 4294967296 nb yt) 14 := ⟨nb, y, cb, yt, rfl, ry.next hB3, rfl, by omega⟩
       have hCn : Num wr (.agg #[.bool nc, .slice z zt.length cc]) (num 4294967296 nc zt) 14 := ⟨nc, z, cc, zt, rfl, rz.next hB3, rfl, by omega⟩
       have t0 := keep_cell hB3 e0
       have t1 := keep_cell hB3 e1
       have t2 := keep_cell hB3 e2
       have t3 := keep_cell hB3 e3
       have t4 := keep_cell hB3 e4
       have t5 := keep_cell hB3 e5
       have hwr : Below w.heap.size w wr := bthen hB hB3
       have hXY : Hid (num 4294967296 na xt * (num 4294967296 nb yt + num 4294967296 nc zt) = num 4294967296 na xt * num 4294967296 nb yt + num 4294967296 na xt * num 4294967296 nc zt) := Int.mul_add _ _ _
       generalize num 4294967296 na xt = A at *
       generalize num 4294967296 nb yt = B at *
       generalize num 4294967296 nc zt = C at *
       clear e0 e1 e2 e3 e4 e5 hB hB3 rx ry rz q0 q1 q2 hown HO hB2 hown' HO' hbD hl
       go_cut [12] from 42 (fun p w2 => ∃ b1 n1 a1 l1 p1, p = .pointer (some ⟨b1, 0, none⟩) ∧ w2.cell? ⟨b1, 0, none⟩ = some (.bool n1) ∧ w2.cell? ⟨b1, 1, none⟩ = some (.slice a1 l1 p1) ∧ Num w2 (.agg #[.bool n1, .slice a1 l1 p1]) (A * (B + C)) 60 ∧ Below wr.heap.size wr w2)
       case first =>
         have hD0 : Below wr.heap.size wr wr.drew := (Below.refl _ _).drew
         go_region_held3 (fun w' => (w'.cell? ⟨bD, 0, none⟩ = some (.bool na) ∧ w'.cell? ⟨bD, 1, none⟩ = some (.slice a' (xt.length + j) cap') ∧ w'.cell? ⟨w.heap.size + 1, 0, none⟩ = some (.bool nb) ∧ w'.cell? ⟨w.heap.size + 1, 1, none⟩ = some (.slice y yt.length cb) ∧ w'.cell? ⟨w.heap.size + 1 + 1, 0, none⟩ = some (.bool nc) ∧ w'.cell? ⟨w.heap.size + 1 + 1, 1, none⟩ = some (.slice z zt.length cc)) ∧ Below wr.heap.size wr w') ((refine (fun hX : Below wr.heap.size wr _ => ⟨⟨keep_cell hX r0, keep_cell hX r1, keep_cell hX t2, keep_cell hX t3, keep_cell hX t4, keep_cell hX t5⟩, hX⟩) ?_; ((repeat' (first | with_reducible refine Below.alloc ?_ ?_ _ | with_reducible refine Below.setCell ?_ ?_ _ | with_reducible refine Below.drew ?_ | with_reducible assumption | with_reducible exact Below.refl _ _)) <;> first | omega | (simp; done) | (simp; omega))))
           (first
             | (go_at_call 13; refine (Add_num (hBn.next ?q1) (hCn.next ?q2) (by decide) (by decide)).mono ?_; (case q1 => exact (And.right (by assumption))); (case q2 => exact (And.right (by assumption))); rintro e w5 ⟨v, rfl, hO5, hb5⟩; obtain ⟨n5, a5, l5, p5, rfl⟩ := hO5.form; have hX5 := hO5.num; clear hO5; have hy := hb5.size; (try simp at hy); have hBw5 : Below wr.heap.size wr w5 := bthen (And.right (by assumption)) hb5; have hsw5 := hBw5.size; (try (refine (fun q : wr.heap.size < w5.heap.size => ?_) ?_; rotate_left; (focus omega))); obtain ⟨hcw5, hfw5⟩ := bcell hb5)
             | (go_at_call 17; refine (Mul_num (hDn.next ?q1) (hX5.next ?q2) (by decide) (by decide)).mono ?_; (case q1 => exact (And.right (by assumption))); (case q2 => ((repeat' (first | with_reducible refine Below.alloc ?_ ?_ _ | with_reducible refine Below.setCell ?_ ?_ _ | with_reducible refine Below.drew ?_ | with_reducible assumption | with_reducible exact Below.refl _ _)) <;> first | omega | (simp; done) | (simp; omega))); rintro e w6 ⟨v, rfl, hO6, hb6⟩; obtain ⟨n6, a6, l6, p6, rfl⟩ := hO6.form; have hy := hb6.size; (try simp at hy); have hBw6 : Below wr.heap.size wr w6 := bthen (And.right (by assumption)) hb6; have hsw6 := hBw6.size; (try (refine (fun q : w5.heap.size < w6.heap.size => ?_) ?_; rotate_left; (focus omega))); (try (refine (fun q : wr.heap.size < w6.heap.size => ?_) ?_; rotate_left; (focus omega))); obtain ⟨hcw6, hfw6⟩ := bcell hb6))
         all_goals
           go_wp2_with fail
           go_meet
           case rel =>
            go_light
            have u1 : ∀ n : Nat, n < n + 1 + 1 := by omega
            have u2 : ∀ n : Nat, n < n + 1 := by omega
            have u3 : wr.heap.size < w5.heap.size + 1 := by omega
            refine ⟨_, n6, a6, l6, p6, rfl, ?x1, ?x2, ?x3, ?x4⟩
            case x3 => (refine Num.more (n := 14 + (max 14 14 + 1)) (by decide) ?_; apply Out.num; ((repeat' (first | with_reducible apply Out.alloc | with_reducible apply Out.drew | with_reducible apply Out.low | with_reducible exact hO6)) <;> first | omega | (simp; done) | (simp; omega)))
            case x4 => ((repeat' (first | with_reducible refine Below.alloc ?_ ?_ _ | with_reducible refine Below.setCell ?_ ?_ _ | with_reducible refine Below.drew ?_ | with_reducible assumption | with_reducible exact Below.refl _ _)) <;> first | omega | (simp; done) | (simp; omega))
            case x1 => (clear hO6; simp [go_sem, *])
            case x2 => (clear hO6; simp [go_sem, *])
       case rest =>
         obtain ⟨b1, n1, a1, l1, p1, rfl, x0, x1, hXn, hB5⟩ := hcut
         generalize wc = V at *
         replace hAn := hAn.next hB5
         replace hBn := hBn.next hB5
         replace hCn := hCn.next hB5
         replace hDn := hDn.next hB5
         replace t0 := keep_cell hB5 t0
         replace t1 := keep_cell hB5 t1
         replace t2 := keep_cell hB5 t2
         replace t3 := keep_cell hB5 t3
         replace t4 := keep_cell hB5 t4
         replace t5 := keep_cell hB5 t5
         replace r0 := keep_cell hB5 r0
         replace r1 := keep_cell hB5 r1
         replace hwr := bthen hwr hB5
         clear hB5 r2 hs3
         go_wp2
         go_cut [13] from 47 (fun p w2 => ∃ b1 n1 a1 l1 p1, p = .pointer (some ⟨b1, 0, none⟩) ∧ w2.cell? ⟨b1, 0, none⟩ = some (.bool n1) ∧ w2.cell? ⟨b1, 1, none⟩ = some (.slice a1 l1 p1) ∧ Num w2 (.agg #[.bool n1, .slice a1 l1 p1]) (A * B + A * C) 60 ∧ Below V.heap.size V w2)
         case first =>
           have hD0 : Below V.heap.size V V.drew := (Below.refl _ _).drew
           go_region_held3 (fun w' => (w'.cell? ⟨w.heap.size, 0, none⟩ = some (.bool na) ∧ w'.cell? ⟨w.heap.size, 1, none⟩ = some (.slice x xt.length ca) ∧ w'.cell? ⟨w.heap.size + 1, 0, none⟩ = some (.bool nb) ∧ w'.cell? ⟨w.heap.size + 1, 1, none⟩ = some (.slice y yt.length cb) ∧ w'.cell? ⟨w.heap.size + 1 + 1, 0, none⟩ = some (.bool nc) ∧ w'.cell? ⟨w.heap.size + 1 + 1, 1, none⟩ = some (.slice z zt.length cc)) ∧ Below V.heap.size V w') ((refine (fun hX : Below V.heap.size V _ => ⟨⟨keep_cell hX t0, keep_cell hX t1, keep_cell hX t2, keep_cell hX t3, keep_cell hX t4, keep_cell hX t5⟩, hX⟩) ?_; ((repeat' (first | with_reducible refine Below.alloc ?_ ?_ _ | with_reducible refine Below.setCell ?_ ?_ _ | with_reducible refine Below.drew ?_ | with_reducible assumption | with_reducible exact Below.refl _ _)) <;> first | omega | (simp; done) | (simp; omega))))
             (first
               | (go_at_call_of 17 (Value.slice y yt.length cb); refine (Mul_num (hAn.next ?q1) (hBn.next ?q2) (by decide) (by decide)).mono ?_; (case q1 => exact (And.right (by assumption))); (case q2 => exact (And.right (by assumption))); rintro e w5 ⟨v, rfl, hO5, hb5⟩; obtain ⟨n5, a5, l5, p5, rfl⟩ := hO5.form; have hX5 := hO5.num; clear hO5; have hy := hb5.size; (try simp at hy); have hBw5 : Below V.heap.size V w5 := bthen (And.right (by assumption)) hb5; have hsw5 := hBw5.size; (try (refine (fun q : V.heap.size < w5.heap.size => ?_) ?_; rotate_left; (focus omega))); obtain ⟨hcw5, hfw5⟩ := bcell hb5)
               | (go_at_call_of 17 (Value.slice z zt.length cc); refine (Mul_num (hAn.next ?q1) (hCn.next ?q2) (by decide) (by decide)).mono ?_; (case q1 => exact (And.right (by assumption))); (case q2 => exact (And.right (by assumption))); rintro e w6 ⟨v, rfl, hO6, hb6⟩; obtain ⟨n6, a6, l6, p6, rfl⟩ := hO6.form; have hX6 := hO6.num; clear hO6; have hy := hb6.size; (try simp at hy); have hBw6 : Below V.heap.size V w6 := bthen (And.right (by assumption)) hb6; have hsw6 := hBw6.size; (try (refine (fun q : w5.heap.size < w6.heap.size => ?_) ?_; rotate_left; (focus omega))); (try (refine (fun q : V.heap.size < w6.heap.size => ?_) ?_; rotate_left; (focus omega))); obtain ⟨hcw6, hfw6⟩ := bcell hb6)
               | (go_at_call 13; refine (Add_num (hX5.next ?q1) (hX6.next ?q2) (by decide) (by decide)).mono ?_; (case q1 => (refine bthen (wk := w6) (bthen (wk := _) ?_ hb6) ?_; (· ((repeat' (first | with_reducible refine Below.alloc ?_ ?_ _ | with_reducible refine Below.setCell ?_ ?_ _ | with_reducible refine Below.drew ?_ | with_reducible assumption | with_reducible exact Below.refl _ _)) <;> first | omega | (simp; done) | (simp; omega))); (· ((repeat' (first | with_reducible refine Below.alloc ?_ ?_ _ | with_reducible refine Below.setCell ?_ ?_ _ | with_reducible refine Below.drew ?_ | with_reducible assumption | with_reducible exact Below.refl _ _)) <;> first | omega | (simp; done) | (simp; omega))))); (case q2 => ((repeat' (first | with_reducible refine Below.alloc ?_ ?_ _ | with_reducible refine Below.setCell ?_ ?_ _ | with_reducible refine Below.drew ?_ | with_reducible assumption | with_reducible exact Below.refl _ _)) <;> first | omega | (simp; done) | (simp; omega))); rintro e w7 ⟨v, rfl, hO7, hb7⟩; obtain ⟨n7, a7, l7, p7, rfl⟩ := hO7.form; have hy := hb7.size; (try simp at hy); have hBw7 : Below V.heap.size V w7 := bthen (And.right (by assumption)) hb7; have hsw7 := hBw7.size; (try (refine (fun q : w6.heap.size < w7.heap.size => ?_) ?_; rotate_left; (focus omega))); (try (refine (fun q : w5.heap.size < w7.heap.size => ?_) ?_; rotate_left; (focus omega))); (try (refine (fun q : V.heap.size < w7.heap.size => ?_) ?_; rotate_left; (focus omega))); obtain ⟨hcw7, hfw7⟩ := bcell hb7))
           all_goals
             go_wp2_with fail
             go_meet
             case rel =>
              go_light
              have u1 : ∀ n : Nat, n < n + 1 + 1 := by omega
              have u2 : ∀ n : Nat, n < n + 1 := by omega
              have u3 : V.heap.size < w5.heap.size + 1 := by omega
              have u4 : V.heap.size < w6.heap.size + 1 := by omega
              have u5 : w5.heap.size < w6.heap.size + 1 := by omega
              refine ⟨_, n7, a7, l7, p7, rfl, ?x1, ?x2, ?x3, ?x4⟩
              case x3 => (refine Num.more (n := max (14 + 14) (14 + 14) + 1) (by decide) ?_; apply Out.num; ((repeat' (first | with_reducible apply Out.alloc | with_reducible apply Out.drew | with_reducible apply Out.low | with_reducible exact hO7)) <;> first | omega | (simp; done) | (simp; omega)))
              case x4 => ((repeat' (first | with_reducible refine Below.alloc ?_ ?_ _ | with_reducible refine Below.setCell ?_ ?_ _ | with_reducible refine Below.drew ?_ | with_reducible assumption | with_reducible exact Below.refl _ _)) <;> first | omega | (simp; done) | (simp; omega))
              case x1 => (clear hO7; simp [go_sem, *])
              case x2 => (clear hO7; simp [go_sem, *])
         case rest =>
           obtain ⟨b2, n2, a2, l2, p2, rfl, y0, y1, hYn, hB6⟩ := hcut
           generalize wc = U at *
           replace hAn := hAn.next hB6
           replace hDn := hDn.next hB6
           replace hXn := hXn.next hB6
           replace t0 := keep_cell hB6 t0
           replace t1 := keep_cell hB6 t1
           replace r0 := keep_cell hB6 r0
           replace r1 := keep_cell hB6 r1
           replace x0 := keep_cell hB6 x0
           replace x1 := keep_cell hB6 x1
           replace hwr := bthen hwr hB6
           clear hB6 t2 t3 t4 t5 hBn hCn
           go_wp2_with fail
           refine (Sub_num hDn hAn (by decide) (by decide)).mono ?_
           rintro e w8 ⟨v, rfl, hO8, hb8⟩
           rw [Int.sub_self] at hO8
           obtain ⟨a8, p8, rfl⟩ := hO8.zero
           replace hAn := hAn.next hb8
           replace hDn := hDn.next hb8
           replace hXn := hXn.next hb8
           replace hYn := hYn.next hb8
           replace t0 := keep_cell hb8 t0
           replace t1 := keep_cell hb8 t1
           replace r0 := keep_cell hb8 r0
           replace r1 := keep_cell hb8 r1
           replace x0 := keep_cell hb8 x0
           replace x1 := keep_cell hb8 x1
           replace y0 := keep_cell hb8 y0
           replace y1 := keep_cell hb8 y1
           replace hwr := bthen hwr hb8
           clear hb8 hO8
           obtain ⟨T, hT, hbT, hltT, z0, z1, _, _⟩ := box1 w8 (.bool false) (.slice a8 0 p8) 24
           replace hT : Hid _ := hT
           replace hAn := hAn.next hbT
           replace hDn := hDn.next hbT
           replace hXn := hXn.next hbT
           replace hYn := hYn.next hbT
           have s0 := keep_cell hbT t0
           have s1 := keep_cell hbT t1
           have s2 := keep_cell hbT r0
           have s3 := keep_cell hbT r1
           have s4 := keep_cell hbT x0
           have s5 := keep_cell hbT x1
           have s6 := keep_cell hbT y0
           have s7 := keep_cell hbT y1
           replace hwr := bthen hwr hbT
           have lb1 : b1 < w8.heap.size := cell_lt x0
           have lb2 : b2 < w8.heap.size := cell_lt y0
           have lbD : bD < w8.heap.size := cell_lt r0
           have lbw : w.heap.size < w8.heap.size := cell_lt t0
           go_wp2_with fail
           rw [← hT.out]
           clear hT t0 t1 r0 r1 x0 x1 y0 y1 hbT
           refine (Cmp_num hXn hYn (by decide) (by decide)).mono ?_
           rintro e w9 ⟨rfl, hb9⟩
           rw [cmpI_eq hXY.out]
           have k0 := keep_cell hb9 s0
           have k1 := keep_cell hb9 s1
           have k2 := keep_cell hb9 s2
           have k3 := keep_cell hb9 s3
           have k4 := keep_cell hb9 z0
           have k5 := keep_cell hb9 z1
           replace hAn := hAn.next hb9
           replace hDn := hDn.next hb9
           replace hwr := bthen hwr hb9
           clear s0 s1 s2 s3 s4 s5 s6 s7 z0 z1 hb9 hXn hYn
           go_wp2_with fail
           refine (Cmp_num hAn hDn (by decide) (by decide)).mono ?_
           rintro e w10 ⟨rfl, hb10⟩
           rw [cmpI_eq rfl]
           have m4 := keep_cell hb10 k4
           have m5 := keep_cell hb10 k5
           replace hwr := bthen hwr hb10
           clear k0 k1 k2 k3 k4 k5 hb10 hAn hDn
           go_wp2
           go_ret
           exact ⟨rfl, hwr⟩

end Go.Proofs.Ytdcjgepgiaaaoaa
