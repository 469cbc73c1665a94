/- Contracts of Mul, addSigned, Add, Sub, Neg, sign, Cmp, Bits, Of: the numbers' own functions. -/
import Derived.Test.YtmpefgemlpnbiaaGreatMul
import Derived.Deep.RegionHeld3
import Derived.Deep.DrawnRows
namespace Go.Proofs.YtmpefgemlpnbiaaGreat
open Go.RowKit
attribute [local go_sem ↓] Go.wp_at_zero Go.wp_at_succ
theorem num_mul (B : Int) (na nb : Bool) (xs ys ss : List Int) (h : val B ss = val B xs * val B ys) : num B (!na == nb) ss = num B na xs * num B nb ys := by
  cases na <;> cases nb <;> simp [num, h, Int.neg_mul, Int.mul_neg]
theorem num_trim (B : Int) (n : Bool) (xs : List Int) : num B n (trimmed xs) = num B n xs := by simp [num, trimmed_val]
/-- Three new blocks of two cells: what lies in them. -/
theorem boxes3 (w : World) (v0 v1 v2 v3 v4 v5 : Value) (T : TypeId) : ∃ W, W = ((w.alloc (.cells #[v0, v1] T)).alloc (.cells #[v2, v3] T)).alloc (.cells #[v4, v5] T) ∧ Below w.heap.size w W ∧ w.heap.size + 1 + 1 < W.heap.size ∧
    W.cell? ⟨w.heap.size, 0, none⟩ = some v0 ∧ W.cell? ⟨w.heap.size, 1, none⟩ = some v1 ∧ W.cell? ⟨w.heap.size + 1, 0, none⟩ = some v2 ∧ W.cell? ⟨w.heap.size + 1, 1, none⟩ = some v3 ∧ W.cell? ⟨w.heap.size + 1 + 1, 0, none⟩ = some v4 ∧ W.cell? ⟨w.heap.size + 1 + 1, 1, none⟩ = some v5 ∧
    W.frozen? ⟨w.heap.size + 1 + 1, 0, none⟩ = false ∧ W.frozen? ⟨w.heap.size + 1 + 1, 1, none⟩ = false := by
  refine ⟨_, rfl, (((Below.refl _ _).alloc (Nat.le_refl _) _).alloc (by simp) _).alloc (by simp; omega) _, by simp, ?_, ?_, ?_, ?_, ?_, ?_, ?_, ?_⟩ <;> simp [go_sem, World.cell?_alloc_past]
theorem boxes2 (w : World) (v0 v1 v4 v5 : Value) (T : TypeId) : ∃ W, W = (w.alloc (.cells #[v0, v1] T)).alloc (.cells #[v4, v5] T) ∧ Below w.heap.size w W ∧ w.heap.size + 1 < W.heap.size ∧
    W.cell? ⟨w.heap.size, 0, none⟩ = some v0 ∧ W.cell? ⟨w.heap.size, 1, none⟩ = some v1 ∧ W.cell? ⟨w.heap.size + 1, 0, none⟩ = some v4 ∧ W.cell? ⟨w.heap.size + 1, 1, none⟩ = some v5 ∧
    W.frozen? ⟨w.heap.size + 1, 0, none⟩ = false ∧ W.frozen? ⟨w.heap.size + 1, 1, none⟩ = false := by
  refine ⟨_, rfl, ((Below.refl _ _).alloc (Nat.le_refl _) _).alloc (by simp) _, by simp, ?_, ?_, ?_, ?_, ?_, ?_⟩ <;> simp [go_sem, World.cell?_alloc_past]
set_option maxHeartbeats 2000000 in
theorem Mul_any (na nb : Bool) (x y : Option Addr) (ca cb : Nat) (xs ys : List Int) (w : World) (ha : Row w .u32 4294967296 x ca xs) (hb : Row w .u32 4294967296 y cb ys) (hl : xs.length ≤ 1000000) (hlb : ys.length ≤ 1000000) :
    Calls Tryz.prog 119 #[.agg #[.bool na, .slice x xs.length ca], .agg #[.bool nb, .slice y ys.length cb]] w fun e w' => ∃ v, e = .returned v ∧ Out w' w.heap.size v (num 4294967296 na xs * num 4294967296 nb ys) (xs.length + ys.length) ∧ Below w.heap.size w w' := by
  go_enter Tryz.func119, Tryz.ntmps119
  go_wp2
  obtain ⟨W, hW, hbW, hlt, c0, c1, c2, c3, c4, c5, f4, f5⟩ := boxes3 w (.bool na) (.slice x xs.length ca) (.bool nb) (.slice y ys.length cb) (.bool false) (.slice none 0 0) 24
  rw [← hW]
  clear hW
  have haD : Row W.drew .u32 4294967296 x ca xs := (ha.next hbW).next ((Below.refl _ _).drew)
  have hbD : Row W.drew .u32 4294967296 y cb ys := (hb.next hbW).next ((Below.refl _ _).drew)
  have tx := trimmed_le xs
  have ty := trimmed_le ys
  have hD0 : Below W.heap.size W W.drew := (Below.refl _ _).drew
  go_region_held3 (fun w' => w'.cell? ⟨w.heap.size, 0, none⟩ = some (.bool na) ∧ w'.cell? ⟨w.heap.size, 1, none⟩ = some (.slice x xs.length ca) ∧ w'.cell? ⟨w.heap.size + 1, 0, none⟩ = some (.bool nb) ∧ w'.cell? ⟨w.heap.size + 1, 1, none⟩ = some (.slice y ys.length cb)) (first | (refine ⟨?_, ?_, ?_, ?_⟩ <;> first | assumption | exact c0 | exact c1 | exact c2 | exact c3 | (refine keep_cell (wk := W) ?_ ?_ <;> assumption) | (refine keep_set (keep_set (keep_cell (wk := W) (w' := w2) hB2 ?_) ?_) ?_ <;> first | assumption | (simp; done) | (simp; omega))))
    (first
      | (go_at_call_of 78 (Value.slice x xs.length ca); refine (trim_any x ca xs _ haD).mono ?_; rintro e w1 ⟨rfl, rfl⟩)
      | (go_at_call_of 78 (Value.slice y ys.length cb); refine (trim_any y cb ys _ hbD).mono ?_; rintro e w1 ⟨rfl, rfl⟩)
      | (go_at_call 143; refine (multiply_any x y ca cb (trimmed xs) (trimmed ys) _ haD.trim hbD.trim (by omega) (by omega)).mono ?_; rintro e w1 ⟨ss, rfl, hblk, hsl, hsw, hsv, hb1⟩; replace hsl : Hid _ := hsl; replace hsv : Hid _ := hsv; have hB1 : Below W.heap.size W w1 := bthen hD0 hb1)
      | (go_at_call 80; refine (number_any (!na == nb) _ _ ss W.heap.size _ (hblk.own hsw (Nat.le_refl _)) (by have := hsl.out; omega)).mono ?_; rintro e w2 ⟨v, rfl, ⟨neg, a, cap, ds, rfl, hr, hn, hz, hle⟩, hb2⟩; replace hz : Hid _ := hz; replace hn : Hid _ := hn; have hB2 : Below W.heap.size W w2 := bthen hB1 hb2; have k4 := keep_cell hB2 c4; have k5 := keep_cell hB2 c5; have g4 := keep_frozen hB2 c4 f4; have g5 := keep_frozen hB2 c5 f5))
  go_wp2
  refine bodyPost_ret (v := .agg #[.bool neg, .slice a ds.length cap]) (by simp [results, Tryz.results119, go_sem, k4, k5]) rfl ⟨_, rfl, ⟨neg, a, cap, ds, rfl, ((hr.set (by exact hlt) _).set (by exact hlt) _).mono hbW.size, hn.out, ?_, ?_⟩, ?_⟩
  · rw [hz.out]
    rw [num_mul _ na nb _ _ _ hsv.out, num_trim, num_trim]
  · have := hsl.out; omega
  · exact ((bthen hbW hB2).setCell (by simp; omega) _).setCell (by simp; omega) _
theorem len_le {B : Int} (hB : 1 < B) {xs ys : List Int} (hx : Words B xs) (hy : Words B ys) (ny : nrm ys) (h : val B ys ≤ val B xs) : ys.length ≤ xs.length := by
  by_cases hc : ys.length ≤ xs.length
  · exact hc
  · have := cmp_len hB hx hy ny (by omega); omega
theorem num_add_same (B : Int) (n : Bool) (xs ys ss : List Int) (h : val B ss = val B xs + val B ys) : num B n ss = num B n xs + num B n ys := by
  cases n <;> simp [num, h]; omega
theorem num_add_fst (B : Int) (m n : Bool) (hmn : m ≠ n) (xs ys ss : List Int) (h : val B ss = val B xs - val B ys) : num B m ss = num B m xs + num B n ys := by
  cases m <;> cases n <;> simp [num, h] at hmn ⊢ <;> omega
theorem num_add_snd (B : Int) (m n : Bool) (hmn : m ≠ n) (xs ys ss : List Int) (h : val B ss = val B ys - val B xs) : num B n ss = num B m xs + num B n ys := by
  cases m <;> cases n <;> simp [num, h] at hmn ⊢ <;> omega
set_option maxHeartbeats 2000000 in
theorem addSigned_any (na nb : Bool) (x y : Option Addr) (ca cb : Nat) (xs ys : List Int) (w : World) (ha : Row w .u32 4294967296 x ca xs) (hb : Row w .u32 4294967296 y cb ys) (hl : xs.length ≤ 900000) (hlb : ys.length ≤ 900000) :
    Calls Tryz.prog 149 #[.agg #[.bool na, .slice x xs.length ca], .bool nb, .slice y ys.length cb] w fun e w' => ∃ v, e = .returned v ∧ Out w' w.heap.size v (num 4294967296 na xs + num 4294967296 nb ys) (max xs.length ys.length + 1) ∧ Below w.heap.size w w' := by
  have tx := trimmed_le xs
  have ty := trimmed_le ys
  by_cases hnn : na = nb
  · subst hnn
    go_enter Tryz.func149, Tryz.ntmps149
    go_wp2_with fail
    obtain ⟨W, hW, hbW, hlt, c0, c1, c4, c5, f4, f5⟩ := boxes2 w (.bool na) (.slice x xs.length ca) (.bool false) (.slice none 0 0) 24
    rw [← hW]
    clear hW
    have haW := ha.next hbW
    have hbW' := hb.next hbW
    refine (trim_any x ca xs _ haW).mono ?_
    rintro e w1 ⟨rfl, hw1⟩
    rw [hw1]
    clear hw1 w1
    go_wp2_with fail
    refine (trim_any y cb ys _ hbW').mono ?_
    rintro e w1 ⟨rfl, hw1⟩
    rw [hw1]
    clear hw1 w1
    go_wp2
    have haD : Row W.drew .u32 4294967296 x ca xs := haW.next ((Below.refl _ _).drew)
    have hbD : Row W.drew .u32 4294967296 y cb ys := hbW'.next ((Below.refl _ _).drew)
    have hD0 : Below W.heap.size W W.drew := (Below.refl _ _).drew
    go_region_held3 (fun w' => w'.cell? ⟨w.heap.size, 0, none⟩ = some (.bool na)) (first | assumption | exact c0 | (refine keep_cell (wk := W) ?_ ?_ <;> assumption) | (refine keep_set (keep_set (keep_cell (wk := W) (w' := w2) hB2 ?_) ?_) ?_ <;> first | assumption | (simp; done) | (simp; omega)))
      (first
        | (go_at_call 163; refine (add_any x y ca cb (trimmed xs) (trimmed ys) _ haD.trim hbD.trim (by omega) (by omega)).mono ?_; rintro e w1 ⟨ss, rfl, hblk, hsl, hsw, hsv, hb1⟩; replace hsl : Hid _ := hsl; replace hsv : Hid _ := hsv; have hB1 : Below W.heap.size W w1 := bthen hD0 hb1)
        | (go_at_call 80; refine (number_any na _ _ ss W.heap.size _ (hblk.own hsw (Nat.le_refl _)) (by have := hsl.out; omega)).mono ?_; rintro e w2 ⟨v, rfl, ⟨neg, a, cap, ds, rfl, hr, hn, hz, hle⟩, hb2⟩; replace hz : Hid _ := hz; replace hn : Hid _ := hn; have hB2 : Below W.heap.size W w2 := bthen hB1 hb2; have k4 := keep_cell hB2 c4; have k5 := keep_cell hB2 c5; have g4 := keep_frozen hB2 c4 f4; have g5 := keep_frozen hB2 c5 f5))
    go_wp2
    refine bodyPost_ret (v := .agg #[.bool neg, .slice a ds.length cap]) (by simp [results, Tryz.results149, go_sem, k4, k5]) rfl ⟨_, rfl, ⟨neg, a, cap, ds, rfl, ((hr.set (by exact hlt) _).set (by exact hlt) _).mono hbW.size, hn.out, ?_, ?_⟩, ?_⟩
    · rw [hz.out, num_add_same _ na _ _ _ hsv.out, num_trim, num_trim]
    · have := hsl.out; omega
    · exact ((bthen hbW hB2).setCell (by simp) _).setCell (by simp) _
  · have hne : (na == nb) = false := by simp [hnn]
    have hx := ha.words.trimmed
    have hy := hb.words.trimmed
    by_cases hv : val 4294967296 (trimmed ys) ≤ val 4294967296 (trimmed xs)
    · have hge : (0 : Int) ≤ cmpI (val 4294967296 (trimmed xs)) (val 4294967296 (trimmed ys)) := by unfold cmpI; split <;> (try split) <;> omega
      have hll := len_le (by decide) hx hy (trimmed_nrm ys) hv
      replace hv : Hid _ := hv
      replace hnn : Hid _ := hnn
      go_enter Tryz.func149, Tryz.ntmps149
      go_wp2_with fail
      obtain ⟨W, hW, hbW, hlt, c0, c1, c4, c5, f4, f5⟩ := boxes2 w (.bool na) (.slice x xs.length ca) (.bool false) (.slice none 0 0) 24
      rw [← hW]
      clear hW
      have haW := ha.next hbW
      have hbW' := hb.next hbW
      refine (trim_any x ca xs _ haW).mono ?_
      rintro e w1 ⟨rfl, hw1⟩
      rw [hw1]
      clear hw1 w1
      go_wp2_with fail
      refine (trim_any y cb ys _ hbW').mono ?_
      rintro e w1 ⟨rfl, hw1⟩
      rw [hw1]
      clear hw1 w1
      go_wp2_with fail
      refine (compare_any x y ca cb (trimmed xs) (trimmed ys) _ haW.trim hbW'.trim (by omega) (by omega) (trimmed_nrm xs) (trimmed_nrm ys)).mono ?_
      rintro e w1 ⟨rfl, hb1⟩
      go_wp2
      have haD : Row w1.drew .u32 4294967296 x ca xs := (haW.next hb1).next ((Below.refl _ _).drew)
      have hbD : Row w1.drew .u32 4294967296 y cb ys := (hbW'.next hb1).next ((Below.refl _ _).drew)
      have hD0 : Below W.heap.size W w1.drew := hb1.drew
      have c0' := keep_cell hb1 c0
      go_region_held3 (fun w' => w'.cell? ⟨w.heap.size, 0, none⟩ = some (.bool na)) (first | assumption | exact c0' | (refine keep_cell (wk := W) ?_ ?_ <;> assumption) | (refine keep_set (keep_set (keep_cell (wk := W) (w' := w3) hB3 ?_) ?_) ?_ <;> first | assumption | (simp; done) | (simp; omega)))
        (first
          | (go_at_call 164; refine (subtract_any x y ca cb (trimmed xs) (trimmed ys) _ haD.trim hbD.trim (by omega) (by omega) hv.out).mono ?_; rintro e w2 ⟨ss, rfl, hblk, hsl, hsw, hsv, hb2⟩; replace hsl : Hid _ := hsl; replace hsv : Hid _ := hsv; have hB2 : Below W.heap.size W w2 := bthen hD0 hb2)
          | (go_at_call 80; refine (number_any na _ _ ss W.heap.size _ (hblk.own hsw (by exact hb1.size)) (by have := hsl.out; omega)).mono ?_; rintro e w3 ⟨v, rfl, ⟨neg, a, cap, ds, rfl, hr, hn, hz, hle⟩, hb3⟩; replace hz : Hid _ := hz; replace hn : Hid _ := hn; have hB3 : Below W.heap.size W w3 := bthen hB2 hb3; have k4 := keep_cell hB3 c4; have k5 := keep_cell hB3 c5; have g4 := keep_frozen hB3 c4 f4; have g5 := keep_frozen hB3 c5 f5))
      go_wp2
      refine bodyPost_ret (v := .agg #[.bool neg, .slice a ds.length cap]) (by simp [results, Tryz.results149, go_sem, k4, k5]) rfl ⟨_, rfl, ⟨neg, a, cap, ds, rfl, ((hr.set (by exact hlt) _).set (by exact hlt) _).mono hbW.size, hn.out, ?_, ?_⟩, ?_⟩
      · rw [hz.out, num_add_fst _ na nb hnn.out _ _ _ hsv.out, num_trim, num_trim]
      · have := hsl.out; omega
      · exact ((bthen hbW hB3).setCell (by simp) _).setCell (by simp) _
    · have hge : ¬ (0 : Int) ≤ cmpI (val 4294967296 (trimmed xs)) (val 4294967296 (trimmed ys)) := by unfold cmpI; split <;> (try split) <;> omega
      have hll := len_le (by decide) hy hx (trimmed_nrm xs) (by omega)
      replace hv : Hid _ := hv
      replace hnn : Hid _ := hnn
      go_enter Tryz.func149, Tryz.ntmps149
      go_wp2_with fail
      obtain ⟨W, hW, hbW, hlt, c0, c1, c4, c5, f4, f5⟩ := boxes2 w (.bool na) (.slice x xs.length ca) (.bool false) (.slice none 0 0) 24
      rw [← hW]
      clear hW
      have haW := ha.next hbW
      have hbW' := hb.next hbW
      refine (trim_any x ca xs _ haW).mono ?_
      rintro e w1 ⟨rfl, hw1⟩
      rw [hw1]
      clear hw1 w1
      go_wp2_with fail
      refine (trim_any y cb ys _ hbW').mono ?_
      rintro e w1 ⟨rfl, hw1⟩
      rw [hw1]
      clear hw1 w1
      go_wp2_with fail
      refine (compare_any x y ca cb (trimmed xs) (trimmed ys) _ haW.trim hbW'.trim (by omega) (by omega) (trimmed_nrm xs) (trimmed_nrm ys)).mono ?_
      rintro e w1 ⟨rfl, hb1⟩
      go_wp2_with fail
      refine (subtract_any y x cb ca (trimmed ys) (trimmed xs) _ (hbW'.next hb1).trim (haW.next hb1).trim (by omega) (by omega) (Int.le_of_lt (Int.not_le.1 hv.out))).mono ?_
      rintro e w2 ⟨ss, rfl, hblk, hsl, hsw, hsv, hb2⟩
      replace hsl : Hid _ := hsl
      replace hsv : Hid _ := hsv
      have hB2 : Below W.heap.size W w2 := bthen hb1 hb2
      go_wp2_with fail
      refine (number_any nb _ _ ss W.heap.size _ (hblk.own hsw (by exact hb1.size)) (by have := hsl.out; omega)).mono ?_
      rintro e w3 ⟨v, rfl, ⟨neg, a, cap, ds, rfl, hr, hn, hz, hle⟩, hb3⟩
      replace hz : Hid _ := hz
      replace hn : Hid _ := hn
      have hB3 : Below W.heap.size W w3 := bthen hB2 hb3
      have k4 := keep_cell hB3 c4
      have k5 := keep_cell hB3 c5
      have g4 := keep_frozen hB3 c4 f4
      have g5 := keep_frozen hB3 c5 f5
      go_wp2
      refine bodyPost_ret (v := .agg #[.bool neg, .slice a ds.length cap]) (by simp [results, Tryz.results149, go_sem, k4, k5]) rfl ⟨_, rfl, ⟨neg, a, cap, ds, rfl, ((hr.set (by exact hlt) _).set (by exact hlt) _).mono hbW.size, hn.out, ?_, ?_⟩, ?_⟩
      · rw [hz.out, num_add_snd _ na nb hnn.out _ _ _ hsv.out, num_trim, num_trim]
      · have := hsl.out; omega
      · exact ((bthen hbW hB3).setCell (by simp) _).setCell (by simp) _
theorem num_not (B : Int) (n : Bool) (xs : List Int) : num B (!n) xs = - num B n xs := by cases n <;> simp [num]
set_option maxHeartbeats 1000000 in
theorem Add_any (na nb : Bool) (x y : Option Addr) (ca cb : Nat) (xs ys : List Int) (w : World) (ha : Row w .u32 4294967296 x ca xs) (hb : Row w .u32 4294967296 y cb ys) (hl : xs.length ≤ 900000) (hlb : ys.length ≤ 900000) :
    Calls Tryz.prog 128 #[.agg #[.bool na, .slice x xs.length ca], .agg #[.bool nb, .slice y ys.length cb]] w fun e w' => ∃ v, e = .returned v ∧ Out w' w.heap.size v (num 4294967296 na xs + num 4294967296 nb ys) (max xs.length ys.length + 1) ∧ Below w.heap.size w w' := by
  go_enter Tryz.func128, Tryz.ntmps128
  go_wp2_with fail
  obtain ⟨W, hW, hbW, hlt, c0, c1, c2, c3, c4, c5, f4, f5⟩ := boxes3 w (.bool na) (.slice x xs.length ca) (.bool nb) (.slice y ys.length cb) (.bool false) (.slice none 0 0) 24
  rw [← hW]
  clear hW
  refine (addSigned_any na nb x y ca cb xs ys _ (ha.next hbW) (hb.next hbW) hl hlb).mono ?_
  rintro e w3 ⟨v, rfl, ⟨neg, a, cap, ds, rfl, hr, hn, hz, hle⟩, hb3⟩
  replace hz : Hid _ := hz
  replace hn : Hid _ := hn
  have k4 := keep_cell hb3 c4
  have k5 := keep_cell hb3 c5
  have g4 := keep_frozen hb3 c4 f4
  have g5 := keep_frozen hb3 c5 f5
  go_wp2
  refine bodyPost_ret (v := .agg #[.bool neg, .slice a ds.length cap]) (by simp [results, Tryz.results128, go_sem, k4, k5]) rfl ⟨_, rfl, ⟨neg, a, cap, ds, rfl, ((hr.set (by exact hlt) _).set (by exact hlt) _).mono hbW.size, hn.out, hz.out, hle⟩, ?_⟩
  exact ((bthen hbW hb3).setCell (by simp; omega) _).setCell (by simp; omega) _
end Go.Proofs.YtmpefgemlpnbiaaGreat
