/- The contract of Quo. -/
import Derived.Test.YthiiglhecajhbaaGreatDiv
namespace Go.Proofs.YthiiglhecajhbaaGreat
open Go.RowKit
attribute [local go_sem ↓] Go.wp_at_zero Go.wp_at_succ
theorem boxes4 (w : World) (v0 v1 v2 v3 v4 v5 : Value) (T : TypeId) : ∃ W, W = (((w.alloc (.cells #[v0, v1] T)).alloc (.cells #[v2, v3] T)).alloc (.cells #[v4, v5] T)).alloc (.cells #[v4, v5] T) ∧ Below w.heap.size w W ∧ w.heap.size + 1 + 1 + 1 < W.heap.size ∧
    W.cell? ⟨w.heap.size, 0, none⟩ = some v0 ∧ W.cell? ⟨w.heap.size, 1, none⟩ = some v1 ∧ W.cell? ⟨w.heap.size + 1, 0, none⟩ = some v2 ∧ W.cell? ⟨w.heap.size + 1, 1, none⟩ = some v3 ∧ W.cell? ⟨w.heap.size + 1 + 1, 0, none⟩ = some v4 ∧ W.cell? ⟨w.heap.size + 1 + 1, 1, none⟩ = some v5 ∧ W.cell? ⟨w.heap.size + 1 + 1 + 1, 0, none⟩ = some v4 ∧ W.cell? ⟨w.heap.size + 1 + 1 + 1, 1, none⟩ = some v5 ∧
    W.frozen? ⟨w.heap.size + 1 + 1, 0, none⟩ = false ∧ W.frozen? ⟨w.heap.size + 1 + 1, 1, none⟩ = false ∧ W.frozen? ⟨w.heap.size + 1 + 1 + 1, 0, none⟩ = false ∧ W.frozen? ⟨w.heap.size + 1 + 1 + 1, 1, none⟩ = false := by
  refine ⟨_, rfl, ((((Below.refl _ _).alloc (Nat.le_refl _) _).alloc (by simp) _).alloc (by simp; omega) _).alloc (by simp; omega) _, by simp, ?_, ?_, ?_, ?_, ?_, ?_, ?_, ?_, ?_, ?_, ?_, ?_⟩ <;> simp [go_sem, World.cell?_alloc_past, World.frozen?_alloc_past]
theorem cell_set_ne {b' b : Nat} (h : b' ≠ b) {w2 : World} {o o' : Nat} {u : Value} : (w2.setCell ⟨b', o', none⟩ u).cell? ⟨b, o, none⟩ = w2.cell? ⟨b, o, none⟩ := World.cell?_of_block (Below.heap_setCell _ _ _ _ (Ne.symm h))
theorem tdiv_num {B : Int} (na nb : Bool) {xs ys qs rs : List Int} (h : val B xs = val B ys * val B qs + val B rs) (h0 : 0 ≤ val B qs) (h1 : 0 ≤ val B rs) (h2 : val B rs < val B ys) :
    num B (!na == nb) qs = (num B na xs).tdiv (num B nb ys) ∧ num B na rs = (num B na xs).tmod (num B nb ys) := by
  have hx : 0 ≤ val B xs := by rw [h]; have := Int.mul_nonneg (show 0 ≤ val B ys by omega) h0; omega
  have hq : (val B xs).tdiv (val B ys) = val B qs := by
    rw [Int.tdiv_eq_ediv_of_nonneg hx, h, Int.add_comm, Int.add_mul_ediv_left _ _ (by omega), Int.ediv_eq_zero_of_lt h1 h2]; omega
  have hr : (val B xs).tmod (val B ys) = val B rs := by
    rw [Int.tmod_eq_emod_of_nonneg hx, h, Int.add_comm, Int.add_mul_emod_self_left, Int.emod_eq_of_lt h1 h2]
  cases na <;> cases nb <;> simp [num, hq, hr, Int.neg_tdiv, Int.tdiv_neg, Int.neg_tmod, Int.tmod_neg]
set_option maxHeartbeats 1000000 in
theorem Quo_zero (na nb : Bool) (x y : Option Addr) (ca cb : Nat) (xs ys : List Int) (w : World) (ha : Row w .u32 4294967296 x ca xs) (hb : Row w .u32 4294967296 y cb ys) (_hl : xs.length ≤ 900000) (_hlb : ys.length ≤ 900000) (hz : trimmed ys = []) :
    Calls Tryz.prog 41 #[.agg #[.bool na, .slice x xs.length ca], .agg #[.bool nb, .slice y ys.length cb]] w fun e w' => e = .returned (.tuple #[.agg #[.bool false, .slice none 0 0], .agg #[.bool false, .slice none 0 0], .bool false]) ∧ Below w.heap.size w w' := by
  have hz' : (trimmed ys).length = 0 := by simp [hz]
  clear hz
  go_enter Tryz.func41, Tryz.ntmps41
  go_wp2
  obtain ⟨W, hW, hbW, hlt, c0, c1, c2, c3, c4, c5, c6, c7, f4, f5, f6, f7⟩ := boxes4 w (.bool na) (.slice x xs.length ca) (.bool nb) (.slice y ys.length cb) (.bool false) (.slice none 0 0) 24
  rw [← hW]
  clear hW
  have haD : Row W.drew .u32 4294967296 x ca xs := (ha.next hbW).next ((Below.refl _ _).drew)
  have hbD : Row W.drew .u32 4294967296 y cb ys := (hb.next hbW).next ((Below.refl _ _).drew)
  go_region_held3 (fun w' => w'.cell? ⟨w.heap.size, 1, none⟩ = some (.slice x xs.length ca) ∧ w'.cell? ⟨w.heap.size + 1, 1, none⟩ = some (.slice y ys.length cb)) (refine ⟨?_, ?_⟩ <;> first | assumption | exact c1 | exact c3)
    (first
      | (go_at_call_of 74 (Value.slice x xs.length ca); refine (trim_any x ca xs _ haD).mono ?_; rintro e w1 ⟨rfl, rfl⟩)
      | (go_at_call_of 74 (Value.slice y ys.length cb); refine (trim_any y cb ys _ hbD).mono ?_; rintro e w1 ⟨rfl, rfl⟩))
  go_wp2
  refine bodyPost_ret (v := .tuple #[.agg #[.bool false, .slice none 0 0], .agg #[.bool false, .slice none 0 0], .bool false]) (by simp [results, Tryz.results41, go_sem, c4, c5, c6, c7]) rfl ⟨rfl, ?_⟩
  exact ((((hbW.setCell (by simp; omega) _).setCell (by simp; omega) _).setCell (by simp; omega) _).setCell (by simp; omega) _).drew
set_option maxHeartbeats 2000000 in
theorem Quo_any (na nb : Bool) (x y : Option Addr) (ca cb : Nat) (xs ys : List Int) (w : World) (ha : Row w .u32 4294967296 x ca xs) (hb : Row w .u32 4294967296 y cb ys) (hl : xs.length ≤ 400000) (hlb : ys.length ≤ 400000) (hz : trimmed ys ≠ [])
    (hlong : (trimmed ys).length ≠ 1 → val 4294967296 ys ≤ val 4294967296 xs → LongSaid (trimmed xs) (trimmed ys)) :
    Calls Tryz.prog 41 #[.agg #[.bool na, .slice x xs.length ca], .agg #[.bool nb, .slice y ys.length cb]] w fun e w' => ∃ v1 v2, e = .returned (.tuple #[v1, v2, .bool true]) ∧ Out w' w.heap.size v1 ((num 4294967296 na xs).tdiv (num 4294967296 nb ys)) (xs.length + 1) ∧ Out w' w.heap.size v2 ((num 4294967296 na xs).tmod (num 4294967296 nb ys)) (xs.length + ys.length) ∧ Below w.heap.size w w' := by
  have hz' : 0 < (trimmed ys).length := List.length_pos_iff.2 hz
  have hz2 : (((trimmed ys).length : Int) == 0) = false := by simp; omega
  clear hz
  have tx := trimmed_le xs
  have ty := trimmed_le ys
  have HL : Hid ((trimmed ys).length ≠ 1 → val 4294967296 (trimmed ys) ≤ val 4294967296 (trimmed xs) → LongSaid (trimmed xs) (trimmed ys)) := by
    intro h1 h2
    exact hlong h1 (by rwa [trimmed_val, trimmed_val] at h2)
  clear hlong
  go_enter Tryz.func41, Tryz.ntmps41
  go_wp2
  obtain ⟨W, hW, hbW, hlt, c0, c1, c2, c3, c4, c5, c6, c7, f4, f5, f6, f7⟩ := boxes4 w (.bool na) (.slice x xs.length ca) (.bool nb) (.slice y ys.length cb) (.bool false) (.slice none 0 0) 24
  rw [← hW]
  clear hW
  have haD : Row W.drew .u32 4294967296 x ca xs := (ha.next hbW).next ((Below.refl _ _).drew)
  have hbD : Row W.drew .u32 4294967296 y cb ys := (hb.next hbW).next ((Below.refl _ _).drew)
  have hD0 : Below W.heap.size W W.drew := (Below.refl _ _).drew
  go_region_held3 (fun w' => w'.cell? ⟨w.heap.size, 1, none⟩ = some (.slice x xs.length ca) ∧ w'.cell? ⟨w.heap.size + 1, 1, none⟩ = some (.slice y ys.length cb)) (refine ⟨?_, ?_⟩ <;> first | assumption | exact c1 | exact c3)
    (first
      | (go_at_call_of 74 (Value.slice x xs.length ca); refine (trim_any x ca xs _ haD).mono ?_; rintro e w1 ⟨rfl, rfl⟩)
      | (go_at_call_of 74 (Value.slice y ys.length cb); refine (trim_any y cb ys _ hbD).mono ?_; rintro e w1 ⟨rfl, rfl⟩))
  go_wp2_with fail
  refine (divide_any x y ca cb (trimmed xs) (trimmed ys) _ haD.trim hbD.trim (by omega) (by omega) (trimmed_nrm xs) (trimmed_nrm ys) hz' HL.out).mono ?_
  rintro e w1 ⟨⟨qa, qc, qs, ra, rc, rs, rfl, h1, h2, h3, h4, h5, h6⟩, hb1⟩
  replace h3 : Hid _ := h3
  replace h4 : Hid _ := h4
  have hB1 : Below W.heap.size W w1 := bthen hD0 hb1
  have hD1 : Below W.heap.size W w1.drew := hB1.drew
  have h1D : Own w1.drew W.heap.size .u32 74 4294967296 qa qc qs := h1.next ((Below.refl _ _).drew)
  have h2D : Own w1.drew W.heap.size .u32 74 4294967296 ra rc rs := h2.next ((Below.refl _ _).drew)
  have e0 := keep_cell hB1 c0
  have e2 := keep_cell hB1 c2
  clear haD hbD hD0 HL
  have n1 : w.heap.size + 1 + 1 ≠ w.heap.size := by omega
  have n2 : w.heap.size + 1 + 1 ≠ w.heap.size + 1 := by omega
  have n3 : w.heap.size + 1 + 1 + 1 ≠ w.heap.size := by omega
  have n4 : w.heap.size + 1 + 1 + 1 ≠ w.heap.size + 1 := by omega
  go_wp2
  go_region_held3 (fun w' => w'.cell? ⟨w.heap.size, 0, none⟩ = some (.bool na) ∧ w'.cell? ⟨w.heap.size + 1, 0, none⟩ = some (.bool nb)) (((try simp only [cell_set_ne n1, cell_set_ne n2, cell_set_ne n3, cell_set_ne n4]); first | exact ⟨e0, e2⟩ | exact ⟨keep_cell hB2 c0, keep_cell hB2 c2⟩ | exact ⟨keep_cell hB3 c0, keep_cell hB3 c2⟩))
    (first
      | (go_at_call_of 72 (Value.slice qa qs.length qc); refine (number_any (!na == nb) qa qc qs W.heap.size _ h1D (by omega)).mono ?_; rintro e w2 ⟨v, rfl, ⟨neg, a, cap, ds, rfl, hr, hn, hz, hle⟩, hb2⟩; replace hz : Hid _ := hz; replace hn : Hid _ := hn; have hB2 : Below W.heap.size W w2 := bthen hD1 hb2)
      | (go_at_call_of 72 (Value.slice ra rs.length rc); refine (number_any na ra rc rs W.heap.size _ (h2D.next hb2) (by omega)).mono ?_; rintro e w3 ⟨v, rfl, ⟨neg', a', cap', ds', rfl, hr', hn', hzz', hle'⟩, hb3⟩; replace hzz' : Hid _ := hzz'; replace hn' : Hid _ := hn'; have hB3 : Below W.heap.size W w3 := bthen hB2 hb3; have k4 := keep_cell hB3 c4; have k5 := keep_cell hB3 c5; have g4 := keep_frozen hB3 c4 f4; have g5 := keep_frozen hB3 c5 f5; have k6 := keep_cell hB3 c6; have k7 := keep_cell hB3 c7; have g6 := keep_frozen hB3 c6 f6; have g7 := keep_frozen hB3 c7 f7))
  go_wp2
  have hv := tdiv_num (B := 4294967296) na nb h3.out (val_nonneg (by decide) h1.words) (val_nonneg (by decide) h2.words) h4.out
  have hnum : ∀ n (l : List Int), num 4294967296 n (trimmed l) = num 4294967296 n l := fun n l => num_trim _ n l
  rw [hnum, hnum] at hv
  have hl2 : w.heap.size + 1 + 1 < W.heap.size := by omega
  refine bodyPost_ret (v := .tuple #[.agg #[.bool neg, .slice a ds.length cap], .agg #[.bool neg', .slice a' ds'.length cap'], .bool true]) (by simp [results, Tryz.results41, go_sem, k4, k5, k6, k7]) rfl ⟨_, _, rfl, ⟨neg, a, cap, ds, rfl, (((((hr.next hb3).set (by exact hl2) _).set (by exact hl2) _).set (by exact hlt) _).set (by exact hlt) _).mono hbW.size, hn.out, ?_, ?_⟩, ⟨neg', a', cap', ds', rfl, ((((hr'.set (by exact hl2) _).set (by exact hl2) _).set (by exact hlt) _).set (by exact hlt) _).mono hbW.size, hn'.out, ?_, ?_⟩, ?_⟩
  · rw [hz.out]; exact hv.1
  · omega
  · rw [hzz'.out]; exact hv.2
  · omega
  · exact ((((bthen hbW hB3).setCell (by simp; omega) _).setCell (by simp; omega) _).setCell (by simp; omega) _).setCell (by simp; omega) _
end Go.Proofs.YthiiglhecajhbaaGreat
