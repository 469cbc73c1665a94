/- Contracts of Mul, addSigned, Add, Sub, Neg, sign, Cmp, Bits, Of: the numbers' own functions. -/
import Derived.Test.YtclokcoimdjaeaaGreatDoorMulm
import Derived.Deep.RegionHeld3
import Derived.Deep.DrawnRows
namespace Go.Proofs.YtclokcoimdjaeaaGreatDoor
open Go.RowKit
attribute [local go_sem ↓] Go.wp_at_zero Go.wp_at_succ
theorem num_mul (B : Int) (na nb : Bool) (xs ys ss : List Int) (h : val B ss = val B xs * val B ys) : num B (!na == nb) ss = num B na xs * num B nb ys := by
  cases na <;> cases nb <;> simp [num, h, Int.neg_mul, Int.mul_neg]
theorem num_trim (B : Int) (n : Bool) (xs : List Int) : num B n (trimmed xs) = num B n xs := by simp [num, trimmed_val]
/-- Three new blocks of two cells: what lies in them. -/
theorem boxes3 (w : World) (v0 v1 v2 v3 v4 v5 : Value) (T : TypeId) : ∃ W, W = ((w.alloc (.cells #[v0, v1] T)).alloc (.cells #[v2, v3] T)).alloc (.cells #[v4, v5] T) ∧ Below w.heap.size w W ∧ w.heap.size + 1 + 1 < W.heap.size ∧
    W.cell? ⟨w.heap.size, 0, none⟩ = some v0 ∧ W.cell? ⟨w.heap.size, 1, none⟩ = some v1 ∧ W.cell? ⟨w.heap.size + 1, 0, none⟩ = some v2 ∧ W.cell? ⟨w.heap.size + 1, 1, none⟩ = some v3 ∧ W.cell? ⟨w.heap.size + 1 + 1, 0, none⟩ = some v4 ∧ W.cell? ⟨w.heap.size + 1 + 1, 1, none⟩ = some v5 ∧
    W.frozen? ⟨w.heap.size + 1 + 1, 0, none⟩ = false ∧ W.frozen? ⟨w.heap.size + 1 + 1, 1, none⟩ = false := by
  refine ⟨_, rfl, (((Below.refl _ _).alloc (Nat.le_refl _) _).alloc (by simp) _).alloc (by simp; omega) _, by simp, ?_, ?_, ?_, ?_, ?_, ?_, ?_, ?_⟩ <;> simp [go_sem, World.cell?_alloc_past]
theorem boxes2 (w : World) (v0 v1 v4 v5 : Value) (T : TypeId) : ∃ W, W = (w.alloc (.cells #[v0, v1] T)).alloc (.cells #[v4, v5] T) ∧ Below w.heap.size w W ∧ w.heap.size + 1 < W.heap.size ∧
    W.cell? ⟨w.heap.size, 0, none⟩ = some v0 ∧ W.cell? ⟨w.heap.size, 1, none⟩ = some v1 ∧ W.cell? ⟨w.heap.size + 1, 0, none⟩ = some v4 ∧ W.cell? ⟨w.heap.size + 1, 1, none⟩ = some v5 ∧
    W.frozen? ⟨w.heap.size + 1, 0, none⟩ = false ∧ W.frozen? ⟨w.heap.size + 1, 1, none⟩ = false := by
  refine ⟨_, rfl, ((Below.refl _ _).alloc (Nat.le_refl _) _).alloc (by simp) _, by simp, ?_, ?_, ?_, ?_, ?_, ?_⟩ <;> simp [go_sem, World.cell?_alloc_past]
set_option maxHeartbeats 2000000 in
theorem Mul_any (na nb : Bool) (x y : Option Addr) (ca cb : Nat) (xs ys : List Int) (w : World) (ha : Row w .u32 4294967296 x ca xs) (hb : Row w .u32 4294967296 y cb ys) (hl : xs.length ≤ 1000000) (hlb : ys.length ≤ 1000000) :
    Calls Tryz.prog 160 #[.agg #[.bool na, .slice x xs.length ca], .agg #[.bool nb, .slice y ys.length cb]] w fun e w' => ∃ v, e = .returned v ∧ Out w' w.heap.size v (num 4294967296 na xs * num 4294967296 nb ys) (xs.length + ys.length) ∧ Below w.heap.size w w' := by
  go_enter Tryz.func160, Tryz.ntmps160
  go_wp2
  obtain ⟨W, hW, hbW, hlt, c0, c1, c2, c3, c4, c5, f4, f5⟩ := boxes3 w (.bool na) (.slice x xs.length ca) (.bool nb) (.slice y ys.length cb) (.bool false) (.slice none 0 0) 28
  rw [← hW]
  clear hW
  have haD : Row W.drew .u32 4294967296 x ca xs := (ha.next hbW).next ((Below.refl _ _).drew)
  have hbD : Row W.drew .u32 4294967296 y cb ys := (hb.next hbW).next ((Below.refl _ _).drew)
  have tx := trimmed_le xs
  have ty := trimmed_le ys
  have hD0 : Below W.heap.size W W.drew := (Below.refl _ _).drew
  go_region_held3 (fun w' => w'.cell? ⟨w.heap.size, 0, none⟩ = some (.bool na) ∧ w'.cell? ⟨w.heap.size, 1, none⟩ = some (.slice x xs.length ca) ∧ w'.cell? ⟨w.heap.size + 1, 0, none⟩ = some (.bool nb) ∧ w'.cell? ⟨w.heap.size + 1, 1, none⟩ = some (.slice y ys.length cb)) (first | (refine ⟨?_, ?_, ?_, ?_⟩ <;> first | assumption | exact c0 | exact c1 | exact c2 | exact c3 | (refine keep_cell (wk := W) ?_ ?_ <;> assumption) | (refine keep_set (keep_set (keep_cell (wk := W) (w' := w2) hB2 ?_) ?_) ?_ <;> first | assumption | (simp; done) | (simp; omega))))
    (first
      | (go_at_call_of 163 (Value.slice x xs.length ca); refine (trim_any x ca xs _ haD).mono ?_; rintro e w1 ⟨rfl, rfl⟩)
      | (go_at_call_of 163 (Value.slice y ys.length cb); refine (trim_any y cb ys _ hbD).mono ?_; rintro e w1 ⟨rfl, rfl⟩)
      | (go_at_call 224; refine (multiply_any x y ca cb (trimmed xs) (trimmed ys) _ haD.trim hbD.trim (by omega) (by omega)).mono ?_; rintro e w1 ⟨ss, rfl, hblk, hsl, hsw, hsv, hb1⟩; replace hsl : Hid _ := hsl; replace hsv : Hid _ := hsv; have hB1 : Below W.heap.size W w1 := bthen hD0 hb1)
      | (go_at_call 90; refine (number_any (!na == nb) _ _ ss W.heap.size _ (hblk.own hsw (Nat.le_refl _)) (by have := hsl.out; omega)).mono ?_; rintro e w2 ⟨v, rfl, ⟨neg, a, cap, ds, rfl, hr, hn, hz, hle⟩, hb2⟩; replace hz : Hid _ := hz; replace hn : Hid _ := hn; have hB2 : Below W.heap.size W w2 := bthen hB1 hb2; have k4 := keep_cell hB2 c4; have k5 := keep_cell hB2 c5; have g4 := keep_frozen hB2 c4 f4; have g5 := keep_frozen hB2 c5 f5))
  go_wp2
  refine bodyPost_ret (v := .agg #[.bool neg, .slice a ds.length cap]) (by simp [results, Tryz.results160, go_sem, k4, k5]) rfl ⟨_, rfl, ⟨neg, a, cap, ds, rfl, ((hr.set (by exact hlt) _).set (by exact hlt) _).mono hbW.size, hn.out, ?_, ?_⟩, ?_⟩
  · rw [hz.out]
    rw [num_mul _ na nb _ _ _ hsv.out, num_trim, num_trim]
  · have := hsl.out; omega
  · exact ((bthen hbW hB2).setCell (by simp; omega) _).setCell (by simp; omega) _
theorem len_le {B : Int} (hB : 1 < B) {xs ys : List Int} (hx : Words B xs) (hy : Words B ys) (ny : nrm ys) (h : val B ys ≤ val B xs) : ys.length ≤ xs.length := by
  by_cases hc : ys.length ≤ xs.length
  · exact hc
  · have := cmp_len hB hx hy ny (by omega); omega
theorem num_add_same (B : Int) (n : Bool) (xs ys ss : List Int) (h : val B ss = val B xs + val B ys) : num B n ss = num B n xs + num B n ys := by
  cases n <;> simp [num, h]; omega
theorem num_add_fst (B : Int) (m n : Bool) (hmn : m ≠ n) (xs ys ss : List Int) (h : val B ss = val B xs - val B ys) : num B m ss = num B m xs + num B n ys := by
  cases m <;> cases n <;> simp [num, h] at hmn ⊢ <;> omega
theorem num_add_snd (B : Int) (m n : Bool) (hmn : m ≠ n) (xs ys ss : List Int) (h : val B ss = val B ys - val B xs) : num B n ss = num B m xs + num B n ys := by
  cases m <;> cases n <;> simp [num, h] at hmn ⊢ <;> omega
set_option maxHeartbeats 2000000 in
theorem addSigned_any (na nb : Bool) (x y : Option Addr) (ca cb : Nat) (xs ys : List Int) (w : World) (ha : Row w .u32 4294967296 x ca xs) (hb : Row w .u32 4294967296 y cb ys) (hl : xs.length ≤ 900000) (hlb : ys.length ≤ 900000) :
    Calls Tryz.prog 223 #[.agg #[.bool na, .slice x xs.length ca], .bool nb, .slice y ys.length cb] w fun e w' => ∃ v, e = .returned v ∧ Out w' w.heap.size v (num 4294967296 na xs + num 4294967296 nb ys) (max xs.length ys.length + 1) ∧ Below w.heap.size w w' := by
  have tx := trimmed_le xs
  have ty := trimmed_le ys
  by_cases hnn : na = nb
  · subst hnn
    go_enter Tryz.func223, Tryz.ntmps223
    go_wp2_with fail
    obtain ⟨W, hW, hbW, hlt, c0, c1, c4, c5, f4, f5⟩ := boxes2 w (.bool na) (.slice x xs.length ca) (.bool false) (.slice none 0 0) 28
    rw [← hW]
    clear hW
    have haW := ha.next hbW
    have hbW' := hb.next hbW
    refine (trim_any x ca xs _ haW).mono ?_
    rintro e w1 ⟨rfl, hw1⟩
    rw [hw1]
    clear hw1 w1
    go_wp2_with fail
    refine (trim_any y cb ys _ hbW').mono ?_
    rintro e w1 ⟨rfl, hw1⟩
    rw [hw1]
    clear hw1 w1
    go_wp2
    have haD : Row W.drew .u32 4294967296 x ca xs := haW.next ((Below.refl _ _).drew)
    have hbD : Row W.drew .u32 4294967296 y cb ys := hbW'.next ((Below.refl _ _).drew)
    have hD0 : Below W.heap.size W W.drew := (Below.refl _ _).drew
    go_region_held3 (fun w' => w'.cell? ⟨w.heap.size, 0, none⟩ = some (.bool na)) (first | assumption | exact c0 | (refine keep_cell (wk := W) ?_ ?_ <;> assumption) | (refine keep_set (keep_set (keep_cell (wk := W) (w' := w2) hB2 ?_) ?_) ?_ <;> first | assumption | (simp; done) | (simp; omega)))
      (first
        | (go_at_call 258; refine (add_any x y ca cb (trimmed xs) (trimmed ys) _ haD.trim hbD.trim (by omega) (by omega)).mono ?_; rintro e w1 ⟨ss, rfl, hblk, hsl, hsw, hsv, hb1⟩; replace hsl : Hid _ := hsl; replace hsv : Hid _ := hsv; have hB1 : Below W.heap.size W w1 := bthen hD0 hb1)
        | (go_at_call 90; refine (number_any na _ _ ss W.heap.size _ (hblk.own hsw (Nat.le_refl _)) (by have := hsl.out; omega)).mono ?_; rintro e w2 ⟨v, rfl, ⟨neg, a, cap, ds, rfl, hr, hn, hz, hle⟩, hb2⟩; replace hz : Hid _ := hz; replace hn : Hid _ := hn; have hB2 : Below W.heap.size W w2 := bthen hB1 hb2; have k4 := keep_cell hB2 c4; have k5 := keep_cell hB2 c5; have g4 := keep_frozen hB2 c4 f4; have g5 := keep_frozen hB2 c5 f5))
    go_wp2
    refine bodyPost_ret (v := .agg #[.bool neg, .slice a ds.length cap]) (by simp [results, Tryz.results223, go_sem, k4, k5]) rfl ⟨_, rfl, ⟨neg, a, cap, ds, rfl, ((hr.set (by exact hlt) _).set (by exact hlt) _).mono hbW.size, hn.out, ?_, ?_⟩, ?_⟩
    · rw [hz.out, num_add_same _ na _ _ _ hsv.out, num_trim, num_trim]
    · have := hsl.out; omega
    · exact ((bthen hbW hB2).setCell (by simp) _).setCell (by simp) _
  · have hne : (na == nb) = false := by simp [hnn]
    have hx := ha.words.trimmed
    have hy := hb.words.trimmed
    by_cases hv : val 4294967296 (trimmed ys) ≤ val 4294967296 (trimmed xs)
    · have hge : (0 : Int) ≤ cmpI (val 4294967296 (trimmed xs)) (val 4294967296 (trimmed ys)) := by unfold cmpI; split <;> (try split) <;> omega
      have hll := len_le (by decide) hx hy (trimmed_nrm ys) hv
      replace hv : Hid _ := hv
      replace hnn : Hid _ := hnn
      go_enter Tryz.func223, Tryz.ntmps223
      go_wp2_with fail
      obtain ⟨W, hW, hbW, hlt, c0, c1, c4, c5, f4, f5⟩ := boxes2 w (.bool na) (.slice x xs.length ca) (.bool false) (.slice none 0 0) 28
      rw [← hW]
      clear hW
      have haW := ha.next hbW
      have hbW' := hb.next hbW
      refine (trim_any x ca xs _ haW).mono ?_
      rintro e w1 ⟨rfl, hw1⟩
      rw [hw1]
      clear hw1 w1
      go_wp2_with fail
      refine (trim_any y cb ys _ hbW').mono ?_
      rintro e w1 ⟨rfl, hw1⟩
      rw [hw1]
      clear hw1 w1
      go_wp2_with fail
      refine (compare_any x y ca cb (trimmed xs) (trimmed ys) _ haW.trim hbW'.trim (by omega) (by omega) (trimmed_nrm xs) (trimmed_nrm ys)).mono ?_
      rintro e w1 ⟨rfl, hb1⟩
      go_wp2
      have haD : Row w1.drew .u32 4294967296 x ca xs := (haW.next hb1).next ((Below.refl _ _).drew)
      have hbD : Row w1.drew .u32 4294967296 y cb ys := (hbW'.next hb1).next ((Below.refl _ _).drew)
      have hD0 : Below W.heap.size W w1.drew := hb1.drew
      have c0' := keep_cell hb1 c0
      go_region_held3 (fun w' => w'.cell? ⟨w.heap.size, 0, none⟩ = some (.bool na)) (first | assumption | exact c0' | (refine keep_cell (wk := W) ?_ ?_ <;> assumption) | (refine keep_set (keep_set (keep_cell (wk := W) (w' := w3) hB3 ?_) ?_) ?_ <;> first | assumption | (simp; done) | (simp; omega)))
        (first
          | (go_at_call 259; refine (subtract_any x y ca cb (trimmed xs) (trimmed ys) _ haD.trim hbD.trim (by omega) (by omega) hv.out).mono ?_; rintro e w2 ⟨ss, rfl, hblk, hsl, hsw, hsv, hb2⟩; replace hsl : Hid _ := hsl; replace hsv : Hid _ := hsv; have hB2 : Below W.heap.size W w2 := bthen hD0 hb2)
          | (go_at_call 90; refine (number_any na _ _ ss W.heap.size _ (hblk.own hsw (by exact hb1.size)) (by have := hsl.out; omega)).mono ?_; rintro e w3 ⟨v, rfl, ⟨neg, a, cap, ds, rfl, hr, hn, hz, hle⟩, hb3⟩; replace hz : Hid _ := hz; replace hn : Hid _ := hn; have hB3 : Below W.heap.size W w3 := bthen hB2 hb3; have k4 := keep_cell hB3 c4; have k5 := keep_cell hB3 c5; have g4 := keep_frozen hB3 c4 f4; have g5 := keep_frozen hB3 c5 f5))
      go_wp2
      refine bodyPost_ret (v := .agg #[.bool neg, .slice a ds.length cap]) (by simp [results, Tryz.results223, go_sem, k4, k5]) rfl ⟨_, rfl, ⟨neg, a, cap, ds, rfl, ((hr.set (by exact hlt) _).set (by exact hlt) _).mono hbW.size, hn.out, ?_, ?_⟩, ?_⟩
      · rw [hz.out, num_add_fst _ na nb hnn.out _ _ _ hsv.out, num_trim, num_trim]
      · have := hsl.out; omega
      · exact ((bthen hbW hB3).setCell (by simp) _).setCell (by simp) _
    · have hge : ¬ (0 : Int) ≤ cmpI (val 4294967296 (trimmed xs)) (val 4294967296 (trimmed ys)) := by unfold cmpI; split <;> (try split) <;> omega
      have hll := len_le (by decide) hy hx (trimmed_nrm xs) (by omega)
      replace hv : Hid _ := hv
      replace hnn : Hid _ := hnn
      go_enter Tryz.func223, Tryz.ntmps223
      go_wp2_with fail
      obtain ⟨W, hW, hbW, hlt, c0, c1, c4, c5, f4, f5⟩ := boxes2 w (.bool na) (.slice x xs.length ca) (.bool false) (.slice none 0 0) 28
      rw [← hW]
      clear hW
      have haW := ha.next hbW
      have hbW' := hb.next hbW
      refine (trim_any x ca xs _ haW).mono ?_
      rintro e w1 ⟨rfl, hw1⟩
      rw [hw1]
      clear hw1 w1
      go_wp2_with fail
      refine (trim_any y cb ys _ hbW').mono ?_
      rintro e w1 ⟨rfl, hw1⟩
      rw [hw1]
      clear hw1 w1
      go_wp2_with fail
      refine (compare_any x y ca cb (trimmed xs) (trimmed ys) _ haW.trim hbW'.trim (by omega) (by omega) (trimmed_nrm xs) (trimmed_nrm ys)).mono ?_
      rintro e w1 ⟨rfl, hb1⟩
      go_wp2_with fail
      refine (subtract_any y x cb ca (trimmed ys) (trimmed xs) _ (hbW'.next hb1).trim (haW.next hb1).trim (by omega) (by omega) (Int.le_of_lt (Int.not_le.1 hv.out))).mono ?_
      rintro e w2 ⟨ss, rfl, hblk, hsl, hsw, hsv, hb2⟩
      replace hsl : Hid _ := hsl
      replace hsv : Hid _ := hsv
      have hB2 : Below W.heap.size W w2 := bthen hb1 hb2
      go_wp2_with fail
      refine (number_any nb _ _ ss W.heap.size _ (hblk.own hsw (by exact hb1.size)) (by have := hsl.out; omega)).mono ?_
      rintro e w3 ⟨v, rfl, ⟨neg, a, cap, ds, rfl, hr, hn, hz, hle⟩, hb3⟩
      replace hz : Hid _ := hz
      replace hn : Hid _ := hn
      have hB3 : Below W.heap.size W w3 := bthen hB2 hb3
      have k4 := keep_cell hB3 c4
      have k5 := keep_cell hB3 c5
      have g4 := keep_frozen hB3 c4 f4
      have g5 := keep_frozen hB3 c5 f5
      go_wp2
      refine bodyPost_ret (v := .agg #[.bool neg, .slice a ds.length cap]) (by simp [results, Tryz.results223, go_sem, k4, k5]) rfl ⟨_, rfl, ⟨neg, a, cap, ds, rfl, ((hr.set (by exact hlt) _).set (by exact hlt) _).mono hbW.size, hn.out, ?_, ?_⟩, ?_⟩
      · rw [hz.out, num_add_snd _ na nb hnn.out _ _ _ hsv.out, num_trim, num_trim]
      · have := hsl.out; omega
      · exact ((bthen hbW hB3).setCell (by simp) _).setCell (by simp) _
theorem num_not (B : Int) (n : Bool) (xs : List Int) : num B (!n) xs = - num B n xs := by cases n <;> simp [num]
set_option maxHeartbeats 1000000 in
theorem Sub_any (na nb : Bool) (x y : Option Addr) (ca cb : Nat) (xs ys : List Int) (w : World) (ha : Row w .u32 4294967296 x ca xs) (hb : Row w .u32 4294967296 y cb ys) (hl : xs.length ≤ 900000) (hlb : ys.length ≤ 900000) :
    Calls Tryz.prog 159 #[.agg #[.bool na, .slice x xs.length ca], .agg #[.bool nb, .slice y ys.length cb]] w fun e w' => ∃ v, e = .returned v ∧ Out w' w.heap.size v (num 4294967296 na xs - num 4294967296 nb ys) (max xs.length ys.length + 1) ∧ Below w.heap.size w w' := by
  go_enter Tryz.func159, Tryz.ntmps159
  go_wp2_with fail
  obtain ⟨W, hW, hbW, hlt, c0, c1, c2, c3, c4, c5, f4, f5⟩ := boxes3 w (.bool na) (.slice x xs.length ca) (.bool nb) (.slice y ys.length cb) (.bool false) (.slice none 0 0) 28
  rw [← hW]
  clear hW
  refine (addSigned_any na (!nb) x y ca cb xs ys _ (ha.next hbW) (hb.next hbW) hl hlb).mono ?_
  rintro e w3 ⟨v, rfl, ⟨neg, a, cap, ds, rfl, hr, hn, hz, hle⟩, hb3⟩
  replace hz : Hid _ := hz
  replace hn : Hid _ := hn
  have k4 := keep_cell hb3 c4
  have k5 := keep_cell hb3 c5
  have g4 := keep_frozen hb3 c4 f4
  have g5 := keep_frozen hb3 c5 f5
  go_wp2
  refine bodyPost_ret (v := .agg #[.bool neg, .slice a ds.length cap]) (by simp [results, Tryz.results159, go_sem, k4, k5]) rfl ⟨_, rfl, ⟨neg, a, cap, ds, rfl, ((hr.set (by exact hlt) _).set (by exact hlt) _).mono hbW.size, hn.out, ?_, hle⟩, ?_⟩
  · rw [hz.out, num_not]; omega
  · exact ((bthen hbW hb3).setCell (by simp; omega) _).setCell (by simp; omega) _
end Go.Proofs.YtclokcoimdjaeaaGreatDoor
namespace Go.Proofs.YtclokcoimdjaeaaGreatDoor
open Go.RowKit
attribute [local go_sem ↓] Go.wp_at_zero Go.wp_at_succ
theorem trimmed_zero_iff {B : Int} (hB : 1 < B) {xs : List Int} (h : Words B xs) : trimmed xs = [] ↔ val B xs = 0 := by
  constructor
  · intro e; rw [← trimmed_val, e]; rfl
  · intro e
    by_cases hn : trimmed xs = []
    · exact hn
    · have := nrm_val_pos hB h.trimmed (trimmed_nrm xs) hn
      rw [trimmed_val] at this; omega
theorem sign_eq {B : Int} (hB : 1 < B) (n : Bool) {xs : List Int} (h : Words B xs) (hne : trimmed xs ≠ []) : cmpI (num B n xs) 0 = if n = true then -1 else 1 := by
  have h1 := val_nonneg (by omega) h
  have h2 : val B xs ≠ 0 := fun e => hne ((trimmed_zero_iff hB h).2 e)
  cases n
  · simp only [num]; rw [cmpI_gt (by simp; omega)]; rfl
  · simp only [num]; rw [cmpI_lt (by simp; omega)]; rfl
set_option maxHeartbeats 400000 in
theorem sign_any (n : Bool) (x : Option Addr) (ca : Nat) (xs : List Int) (w : World) (ha : Row w .u32 4294967296 x ca xs) (_hl : xs.length ≤ 1000000) :
    Calls Tryz.prog 170 #[.agg #[.bool n, .slice x xs.length ca]] w fun e w' => e = .returned (.int .i64 (cmpI (num 4294967296 n xs) 0)) ∧ Below w.heap.size w w' := by
  have hbel : Below w.heap.size w (w.alloc (.cells #[.bool n, .slice x xs.length ca] 28)) := (Below.refl _ _).alloc (Nat.le_refl _) _
  have hlen := trimmed_le xs
  by_cases h0 : trimmed xs = []
  · have hz : (trimmed xs).length = 0 := by simp [h0]
    have HS : Hid (cmpI (num 4294967296 n xs) 0 = 0) := by
      show cmpI _ _ = _
      rw [cmpI_eq]
      have := (trimmed_zero_iff (by decide) ha.words).1 h0
      simp [num, this]
    clear h0
    go_enter Tryz.func170, Tryz.ntmps170
    go_wp2_with (go_at_call 163; refine (trim_any _ _ _ _ (ha.next hbel)).mono ?_; rintro e w' ⟨rfl, rfl⟩)
    go_ret
    exact ⟨ret_int HS.out.symm, hbel⟩
  · have hz : (((trimmed xs).length : Int) == 0) = false := by
      have := List.length_pos_iff.2 h0
      simp; omega
    have HS : Hid _ := sign_eq (B := 4294967296) (by decide) n ha.words h0
    clear h0
    cases n
    · go_enter Tryz.func170, Tryz.ntmps170
      go_wp2_with (go_at_call 163; refine (trim_any _ _ _ _ (ha.next hbel)).mono ?_; rintro e w' ⟨rfl, rfl⟩)
      go_ret
      exact ⟨ret_int HS.out.symm, hbel⟩
    · go_enter Tryz.func170, Tryz.ntmps170
      go_wp2_with (go_at_call 163; refine (trim_any _ _ _ _ (ha.next hbel)).mono ?_; rintro e w' ⟨rfl, rfl⟩)
      go_ret
      exact ⟨ret_int HS.out.symm, hbel⟩
set_option maxHeartbeats 1000000 in
theorem Neg_any (n : Bool) (x : Option Addr) (ca : Nat) (xs : List Int) (w : World) (ha : Row w .u32 4294967296 x ca xs) (hl : xs.length ≤ 1000000) :
    Calls Tryz.prog 227 #[.agg #[.bool n, .slice x xs.length ca]] w fun e w' => ∃ v, e = .returned v ∧ Out w' w.heap.size v (- num 4294967296 n xs) xs.length ∧ Below w.heap.size w w' := by
  have tx := trimmed_le xs
  go_enter Tryz.func227, Tryz.ntmps227
  go_wp2
  obtain ⟨W, hW, hbW, hlt, c0, c1, c4, c5, f4, f5⟩ := boxes2 w (.bool n) (.slice x xs.length ca) (.bool false) (.slice none 0 0) 28
  rw [← hW]
  clear hW
  have haD : Row W.drew .u32 4294967296 x ca xs := (ha.next hbW).next ((Below.refl _ _).drew)
  have hD0 : Below W.heap.size W W.drew := (Below.refl _ _).drew
  go_region_held3 (fun w' => w'.cell? ⟨w.heap.size, 0, none⟩ = some (.bool n) ∧ w'.cell? ⟨w.heap.size, 1, none⟩ = some (.slice x xs.length ca)) (refine ⟨?_, ?_⟩ <;> first | assumption | exact c0 | exact c1 | (refine keep_cell (wk := W) ?_ ?_ <;> assumption) | (refine keep_set (keep_set (keep_cell (wk := W) (w' := w2) hB2 ?_) ?_) ?_ <;> first | assumption | (simp; done) | (simp; omega)))
    (first
      | (go_at_call 163; refine (trim_any x ca xs _ haD).mono ?_; rintro e w1 ⟨rfl, rfl⟩)
      | (go_at_call 261; refine (clone_any x ca (trimmed xs) _ haD.trim (by omega)).mono ?_; rintro e w1 ⟨x', c', rfl, hown, hb1⟩; have hB1 : Below W.heap.size W w1 := bthen hD0 hb1)
      | (go_at_call 90; refine (number_any (!n) _ _ (trimmed xs) W.heap.size _ hown (by omega)).mono ?_; rintro e w2 ⟨v, rfl, ⟨neg, a, cap, ds, rfl, hr, hn, hz, hle⟩, hb2⟩; replace hz : Hid _ := hz; replace hn : Hid _ := hn; have hB2 : Below W.heap.size W w2 := bthen hB1 hb2; have k4 := keep_cell hB2 c4; have k5 := keep_cell hB2 c5; have g4 := keep_frozen hB2 c4 f4; have g5 := keep_frozen hB2 c5 f5))
  go_wp2
  refine bodyPost_ret (v := .agg #[.bool neg, .slice a ds.length cap]) (by simp [results, Tryz.results227, go_sem, k4, k5]) rfl ⟨_, rfl, ⟨neg, a, cap, ds, rfl, ((hr.set (by exact hlt) _).set (by exact hlt) _).mono hbW.size, hn.out, ?_, ?_⟩, ?_⟩
  · rw [hz.out, num_trim, num_not]
  · omega
  · exact ((bthen hbW hB2).setCell (by simp) _).setCell (by simp) _
theorem wrap_neg64 (n : Int) (h0 : -9223372036854775808 ≤ n) (hn : n < 0) : IntKind.u64.wrap (-IntKind.u64.wrap n) = -n := by
  have h : ∀ m : Int, IntKind.u64.wrap m = m % 18446744073709551616 := fun m => by simp [IntKind.wrap, IntKind.bits, IntKind.signed]
  rw [h, h]; omega
/-- The common part of Of: a new struct, a new row of two words, number's answer put into the struct. -/
theorem Of_key (neg : Bool) (p q : Int) (w : World) (hp : 0 ≤ p ∧ p < 4294967296) (hq : 0 ≤ q ∧ q < 4294967296) :
    Calls Tryz.prog 90 #[.bool neg, .slice (some ⟨w.heap.size + 1, 0, none⟩) 2 2] ((w.alloc (.cells #[.bool false, .slice none 0 0] 28)).alloc (.cells #[.int .u32 p, .int .u32 q] 139)) fun e w' => ∃ v, e = .returned v ∧ Out w' (w.heap.size + 1) v (num 4294967296 neg [p, q]) 2 ∧ Below (w.heap.size + 1 + 1) ((w.alloc (.cells #[.bool false, .slice none 0 0] 28)).alloc (.cells #[.int .u32 p, .int .u32 q] 139)) w' := by
  have hb := Blk.new (w.alloc (.cells #[.bool false, .slice none 0 0] 28)) .u32 139 [p, q] (by simp [maxLen])
  rw [show (w.alloc (.cells #[.bool false, .slice none 0 0] 28)).heap.size = w.heap.size + 1 from by simp] at hb
  have key := number_any neg (some ⟨w.heap.size + 1, 0, none⟩) 2 [p, q] (w.heap.size + 1) _ (hb.own (Words.cons hp (Words.one hq)) (Nat.le_refl _)) (by simp)
  refine Calls.mono key ?_
  rintro e w' ⟨v, rfl, ho, hbl⟩
  exact ⟨v, rfl, ho, hbl.mono (by simp)⟩
set_option maxHeartbeats 1000000 in
theorem Of_any (n : Int) (w : World) (h0 : -9223372036854775808 ≤ n) (h1 : n ≤ 9223372036854775807) :
    Calls Tryz.prog 44 #[.int .i64 n] w fun e w' => ∃ v, e = .returned v ∧ Out w' w.heap.size v n 2 ∧ Below w.heap.size w w' := by
  have c4 : ∀ (p q : Int), ((w.alloc (.cells #[.bool false, .slice none 0 0] 28)).alloc (.cells #[.int .u32 p, .int .u32 q] 139)).cell? ⟨w.heap.size, 0, none⟩ = some (.bool false) := by intro p q; simp [go_sem, World.cell?_alloc_past]
  have c5 : ∀ (p q : Int), ((w.alloc (.cells #[.bool false, .slice none 0 0] 28)).alloc (.cells #[.int .u32 p, .int .u32 q] 139)).cell? ⟨w.heap.size, 1, none⟩ = some (.slice none 0 0) := by intro p q; simp [go_sem, World.cell?_alloc_past]
  have hbW : ∀ (p q : Int), Below w.heap.size w ((w.alloc (.cells #[.bool false, .slice none 0 0] 28)).alloc (.cells #[.int .u32 p, .int .u32 q] 139)) := by intro p q; exact ((Below.refl _ _).alloc (Nat.le_refl _) _).alloc (by simp) _
  by_cases hn : n < 0
  · have e1 := wrap_neg64 n h0 hn
    go_enter Tryz.func44, Tryz.ntmps44
    go_wp2_with fail
    clear e1
    refine (Of_key true (-n % 4294967296) (-n / 4294967296) w (by omega) (by omega)).mono ?_
    rintro e w3 ⟨v, rfl, ⟨neg, a, cap, ds, rfl, hr, hn', hz, hle⟩, hb3⟩
    replace hz : Hid _ := hz
    replace hn' : Hid _ := hn'
    have k4 : w3.cell? ⟨w.heap.size, 0, none⟩ = some (.bool false) := (hb3.cell (by simp; omega)).trans (c4 _ _)
    have k5 : w3.cell? ⟨w.heap.size, 1, none⟩ = some (.slice none 0 0) := (hb3.cell (by simp; omega)).trans (c5 _ _)
    have g4 : w3.frozen? ⟨w.heap.size, 0, none⟩ = false := (hb3.frozen (by simp; omega)).trans (by simp [go_sem, World.frozen?_alloc_past])
    have g5 : w3.frozen? ⟨w.heap.size, 1, none⟩ = false := (hb3.frozen (by simp; omega)).trans (by simp [go_sem, World.frozen?_alloc_past])
    clear c4 c5
    go_wp2
    refine bodyPost_ret (v := .agg #[.bool neg, .slice a ds.length cap]) (by simp [results, Tryz.results44, go_sem, k4, k5]) rfl ⟨_, rfl, ⟨neg, a, cap, ds, rfl, ((hr.set (by simp) _).set (by simp) _).mono (by omega), hn'.out, ?_, hle⟩, ?_⟩
    · rw [hz.out]; simp [num, val]; omega
    · exact ((hbW _ _).trans (hb3.mono (by omega))).setCell (by simp) _ |>.setCell (by simp) _
  · go_enter Tryz.func44, Tryz.ntmps44
    go_wp2_with fail
    refine (Of_key false (n % 4294967296) (n / 4294967296) w (by omega) (by omega)).mono ?_
    rintro e w3 ⟨v, rfl, ⟨neg, a, cap, ds, rfl, hr, hn', hz, hle⟩, hb3⟩
    replace hz : Hid _ := hz
    replace hn' : Hid _ := hn'
    have k4 : w3.cell? ⟨w.heap.size, 0, none⟩ = some (.bool false) := (hb3.cell (by simp; omega)).trans (c4 _ _)
    have k5 : w3.cell? ⟨w.heap.size, 1, none⟩ = some (.slice none 0 0) := (hb3.cell (by simp; omega)).trans (c5 _ _)
    have g4 : w3.frozen? ⟨w.heap.size, 0, none⟩ = false := (hb3.frozen (by simp; omega)).trans (by simp [go_sem, World.frozen?_alloc_past])
    have g5 : w3.frozen? ⟨w.heap.size, 1, none⟩ = false := (hb3.frozen (by simp; omega)).trans (by simp [go_sem, World.frozen?_alloc_past])
    clear c4 c5
    go_wp2
    refine bodyPost_ret (v := .agg #[.bool neg, .slice a ds.length cap]) (by simp [results, Tryz.results44, go_sem, k4, k5]) rfl ⟨_, rfl, ⟨neg, a, cap, ds, rfl, ((hr.set (by simp) _).set (by simp) _).mono (by omega), hn'.out, ?_, hle⟩, ?_⟩
    · rw [hz.out]; simp [num, val]; omega
    · exact ((hbW _ _).trans (hb3.mono (by omega))).setCell (by simp) _ |>.setCell (by simp) _
end Go.Proofs.YtclokcoimdjaeaaGreatDoor
namespace Go.Proofs.YtclokcoimdjaeaaGreatDoor
open Go.RowKit
attribute [local go_sem ↓] Go.wp_at_zero Go.wp_at_succ
theorem box2b (w : World) (v0 v1 v2 v3 : Value) (T : TypeId) : ∃ W, W = (w.alloc (.cells #[v0, v1] T)).alloc (.cells #[v2, v3] T) ∧ Below w.heap.size w W ∧
    W.cell? ⟨w.heap.size, 0, none⟩ = some v0 ∧ W.cell? ⟨w.heap.size, 1, none⟩ = some v1 ∧ W.cell? ⟨w.heap.size + 1, 0, none⟩ = some v2 ∧ W.cell? ⟨w.heap.size + 1, 1, none⟩ = some v3 := by
  obtain ⟨W, h1, h2, _, h3, h4, h5, h6, _⟩ := boxes2 w v0 v1 v2 v3 T
  exact ⟨W, h1, h2, h3, h4, h5, h6⟩
theorem cmpI_rng (a b : Int) : -1 ≤ cmpI a b ∧ cmpI a b ≤ 1 := by unfold cmpI; split <;> (try split) <;> omega
theorem cmpI_cases (a b : Int) : a < b ∧ cmpI a b = -1 ∨ a = b ∧ cmpI a b = 0 ∨ b < a ∧ cmpI a b = 1 := by unfold cmpI; split <;> (try split) <;> omega
theorem Cmp_diff {a b : Int} (h : cmpI (cmpI a 0) (cmpI b 0) ≠ 0) : cmpI (cmpI a 0) (cmpI b 0) = cmpI a b := by
  have h1 := cmpI_cases a 0
  have h2 := cmpI_cases b 0
  have h3 := cmpI_cases (cmpI a 0) (cmpI b 0)
  have h4 := cmpI_cases a b
  omega
theorem mul_unit {a b : Int} (ha : -1 ≤ a ∧ a ≤ 1) (hb : -1 ≤ b ∧ b ≤ 1) : -1 ≤ a * b ∧ a * b ≤ 1 := by
  rcases (by omega : a = -1 ∨ a = 0 ∨ a = 1) with rfl | rfl | rfl <;> omega
theorem wrap_unit {z : Int} (h : -1 ≤ z ∧ z ≤ 1) : IntKind.i64.wrap z = z := by
  rcases (by omega : z = -1 ∨ z = 0 ∨ z = 1) with rfl | rfl | rfl <;> decide
theorem Cmp_aux (m n : Bool) (u v : Int) (hu : 0 ≤ u) (hv : 0 ≤ v) (h : cmpI (cmpI (if m = true then -u else u) 0) (cmpI (if n = true then -v else v) 0) = 0) : cmpI (if m = true then -u else u) 0 * cmpI u v = cmpI (if m = true then -u else u) (if n = true then -v else v) := by
  cases m <;> cases n <;> simp only [if_true, if_false, Bool.false_eq_true] at h ⊢
  · have h1 := cmpI_cases u 0; have h2 := cmpI_cases v 0; have h3 := cmpI_cases (cmpI u 0) (cmpI v 0); have h4 := cmpI_cases u v
    rcases h1 with ⟨h1, e⟩ | ⟨h1, e⟩ | ⟨h1, e⟩ <;> rw [e] at h h3 ⊢ <;> omega
  · have h1 := cmpI_cases u 0; have h2 := cmpI_cases (-v) 0; have h3 := cmpI_cases (cmpI u 0) (cmpI (-v) 0); have h4 := cmpI_cases u v; have h5 := cmpI_cases u (-v)
    rcases h1 with ⟨h1, e⟩ | ⟨h1, e⟩ | ⟨h1, e⟩ <;> rw [e] at h h3 ⊢ <;> omega
  · have h1 := cmpI_cases (-u) 0; have h2 := cmpI_cases v 0; have h3 := cmpI_cases (cmpI (-u) 0) (cmpI v 0); have h4 := cmpI_cases u v; have h5 := cmpI_cases (-u) v
    rcases h1 with ⟨h1, e⟩ | ⟨h1, e⟩ | ⟨h1, e⟩ <;> rw [e] at h h3 ⊢ <;> omega
  · have h1 := cmpI_cases (-u) 0; have h2 := cmpI_cases (-v) 0; have h3 := cmpI_cases (cmpI (-u) 0) (cmpI (-v) 0); have h4 := cmpI_cases u v; have h5 := cmpI_cases (-u) (-v)
    rcases h1 with ⟨h1, e⟩ | ⟨h1, e⟩ | ⟨h1, e⟩ <;> rw [e] at h h3 ⊢ <;> omega
theorem Cmp_same {B : Int} (m n : Bool) (xs ys : List Int) (hB : 0 < B) (hx : Words B xs) (hy : Words B ys) (h : cmpI (cmpI (num B m xs) 0) (cmpI (num B n ys) 0) = 0) : cmpI (num B m xs) 0 * cmpI (val B xs) (val B ys) = cmpI (num B m xs) (num B n ys) :=
  Cmp_aux m n _ _ (val_nonneg hB hx) (val_nonneg hB hy) h
set_option maxHeartbeats 4000000 in
theorem Cmp_any (na nb : Bool) (x y : Option Addr) (ca cb : Nat) (xs ys : List Int) (w : World) (ha : Row w .u32 4294967296 x ca xs) (hb : Row w .u32 4294967296 y cb ys) (hl : xs.length ≤ 1000000) (hlb : ys.length ≤ 1000000) :
    Calls Tryz.prog 99 #[.agg #[.bool na, .slice x xs.length ca], .agg #[.bool nb, .slice y ys.length cb]] w fun e w' => e = .returned (.int .i64 (cmpI (num 4294967296 na xs) (num 4294967296 nb ys))) ∧ Below w.heap.size w w' := by
  have tx := trimmed_le xs
  have ty := trimmed_le ys
  have HSame : Hid _ := Cmp_same na nb xs ys (B := 4294967296) (by decide) ha.words hb.words
  have HD : Hid _ := @Cmp_diff (num 4294967296 na xs) (num 4294967296 nb ys)
  have HT : Hid (cmpI (val 4294967296 (trimmed xs)) (val 4294967296 (trimmed ys)) = cmpI (val 4294967296 xs) (val 4294967296 ys)) := by show cmpI _ _ = _; rw [trimmed_val, trimmed_val]
  have hm := mul_unit (cmpI_rng (num 4294967296 na xs) 0) (cmpI_rng (val 4294967296 (trimmed xs)) (val 4294967296 (trimmed ys)))
  by_cases hz : cmpI (cmpI (num 4294967296 na xs) 0) (cmpI (num 4294967296 nb ys) 0) = 0
  case neg =>
    have hne : (cmpI (cmpI (num 4294967296 na xs) 0) (cmpI (num 4294967296 nb ys) 0) != 0) = true := by rw [bne_iff_ne]; exact hz
    replace hz : Hid _ := hz
    go_enter Tryz.func99, Tryz.ntmps99
    go_wp2
    obtain ⟨W, hW, hbW, c0, c1, c2, c3⟩ := box2b w (.bool na) (.slice x xs.length ca) (.bool nb) (.slice y ys.length cb) 28
    rw [← hW]
    clear hW
    have haW := ha.next hbW
    have hbW' := hb.next hbW
    have hD0 : Below W.heap.size W W.drew := (Below.refl _ _).drew
    go_region_held3 (fun w' => w'.cell? ⟨w.heap.size, 0, none⟩ = some (.bool na) ∧ w'.cell? ⟨w.heap.size, 1, none⟩ = some (.slice x xs.length ca) ∧ w'.cell? ⟨w.heap.size + 1, 0, none⟩ = some (.bool nb) ∧ w'.cell? ⟨w.heap.size + 1, 1, none⟩ = some (.slice y ys.length cb)) (refine ⟨?_, ?_, ?_, ?_⟩ <;> first | assumption | exact c0 | exact c1 | exact c2 | exact c3 | (refine keep_cell (wk := W) ?_ ?_ <;> assumption))
      (first
        | (go_at_call_of 170 (Value.agg #[Value.bool na, Value.slice x xs.length ca]); refine (sign_any na x ca xs _ (haW.next (by assumption)) hl).mono ?_; rintro e w1 ⟨rfl, hb1⟩; have hB1 := bthen (by assumption) hb1)
        | (go_at_call_of 170 (Value.agg #[Value.bool nb, Value.slice y ys.length cb]); refine (sign_any nb y cb ys _ (hbW'.next (by assumption)) hlb).mono ?_; rintro e w1 ⟨rfl, hb1⟩; have hB1 := bthen (by assumption) hb1)
        | (go_at_call 169; refine (cmp49 _ _ _).mono ?_; rintro e w1 ⟨rfl, rfl⟩))
    go_wp2
    go_ret
    exact ⟨ret_int (HD.out hz.out), bthen hbW hB1⟩
  case pos =>
    have hne : (cmpI (cmpI (num 4294967296 na xs) 0) (cmpI (num 4294967296 nb ys) 0) != 0) = false := by simp [hz]
    replace hz : Hid _ := hz
    go_enter Tryz.func99, Tryz.ntmps99
    go_wp2
    obtain ⟨W, hW, hbW, c0, c1, c2, c3⟩ := box2b w (.bool na) (.slice x xs.length ca) (.bool nb) (.slice y ys.length cb) 28
    rw [← hW]
    clear hW
    have haW := ha.next hbW
    have hbW' := hb.next hbW
    have hD0 : Below W.heap.size W W.drew := (Below.refl _ _).drew
    go_region_held3 (fun w' => w'.cell? ⟨w.heap.size, 0, none⟩ = some (.bool na) ∧ w'.cell? ⟨w.heap.size, 1, none⟩ = some (.slice x xs.length ca) ∧ w'.cell? ⟨w.heap.size + 1, 0, none⟩ = some (.bool nb) ∧ w'.cell? ⟨w.heap.size + 1, 1, none⟩ = some (.slice y ys.length cb)) (refine ⟨?_, ?_, ?_, ?_⟩ <;> first | assumption | exact c0 | exact c1 | exact c2 | exact c3 | (refine keep_cell (wk := W) ?_ ?_ <;> assumption))
      (first
        | (go_at_call_of 170 (Value.agg #[Value.bool na, Value.slice x xs.length ca]); refine (sign_any na x ca xs _ (haW.next (by assumption)) hl).mono ?_; rintro e w1 ⟨rfl, hb1⟩; have hB1 := bthen (by assumption) hb1)
        | (go_at_call_of 170 (Value.agg #[Value.bool nb, Value.slice y ys.length cb]); refine (sign_any nb y cb ys _ (hbW'.next (by assumption)) hlb).mono ?_; rintro e w1 ⟨rfl, hb1⟩; have hB1 := bthen (by assumption) hb1)
        | (go_at_call 169; refine (cmp49 _ _ _).mono ?_; rintro e w1 ⟨rfl, rfl⟩))
    go_wp2
    have hD1 : Below W.heap.size W w1.drew := hB1.drew
    clear hD0 hb1
    go_region_held3 (fun w' => w'.cell? ⟨w.heap.size, 0, none⟩ = some (.bool na) ∧ w'.cell? ⟨w.heap.size, 1, none⟩ = some (.slice x xs.length ca) ∧ w'.cell? ⟨w.heap.size + 1, 0, none⟩ = some (.bool nb) ∧ w'.cell? ⟨w.heap.size + 1, 1, none⟩ = some (.slice y ys.length cb)) (refine ⟨?_, ?_, ?_, ?_⟩ <;> first | assumption | (refine keep_cell (wk := W) ?_ ?_ <;> assumption))
      (first
        | (go_at_call 170; refine (sign_any na x ca xs _ (haW.next (by assumption)) hl).mono ?_; rintro e w2 ⟨rfl, hb2⟩; have hB2 := bthen (by assumption) hb2)
        | (go_at_call_of 163 (Value.slice x xs.length ca); refine (trim_any x ca xs _ (haW.next (by assumption))).mono ?_; rintro e w3 ⟨rfl, rfl⟩)
        | (go_at_call_of 163 (Value.slice y ys.length cb); refine (trim_any y cb ys _ (hbW'.next (by assumption))).mono ?_; rintro e w3 ⟨rfl, rfl⟩)
        | (go_at_call 171; refine (compare_any x y ca cb (trimmed xs) (trimmed ys) _ (haW.next (by assumption)).trim (hbW'.next (by assumption)).trim (by omega) (by omega) (trimmed_nrm xs) (trimmed_nrm ys)).mono ?_; rintro e w4 ⟨rfl, hb4⟩; have hB4 := bthen (by assumption) hb4))
    go_wp2
    go_ret
    refine ⟨ret_int ?_, bthen hbW hB4⟩
    rw [HT.out] at hm
    rw [HT.out, wrap_unit hm]
    exact HSame.out hz.out
set_option maxHeartbeats 400000 in
theorem Bits_any (n : Bool) (x : Option Addr) (ca : Nat) (xs : List Int) (w : World) (ha : Row w .u32 4294967296 x ca xs) (hl : xs.length ≤ 1000000) :
    Calls Tryz.prog 167 #[.agg #[.bool n, .slice x xs.length ca]] w fun e w' => e = .returned (.int .i64 (if (trimmed xs).length = 0 then 0 else 32 * ((trimmed xs).length - 1 : Int) + Lib.bitLen ((trimmed xs)[(trimmed xs).length - 1]?.getD 0).toNat)) ∧ Below w.heap.size w w' := by
  have hbel : Below w.heap.size w (w.alloc (.cells #[.bool n, .slice x xs.length ca] 28)) := (Below.refl _ _).alloc (Nat.le_refl _) _
  have hlen := trimmed_le xs
  by_cases h0 : trimmed xs = []
  · have hz : (trimmed xs).length = 0 := by simp [h0]
    rw [if_pos hz]
    clear h0
    go_enter Tryz.func167, Tryz.ntmps167
    go_wp2_with (go_at_call 163; refine (trim_any _ _ _ _ (ha.next hbel)).mono ?_; rintro e w' ⟨rfl, rfl⟩)
    go_ret
    exact ⟨rfl, hbel⟩
  · have hpos := List.length_pos_iff.2 h0
    have hz : (((trimmed xs).length : Int) == 0) = false := by simp; omega
    rw [if_neg (by omega)]
    obtain ⟨x, rfl⟩ := (ha.trim).some_of hpos
    obtain ⟨p, hp, hp0, hp1⟩ := ha.trim.words.get (by decide) ((trimmed xs).length - 1)
    have hca := (ha.trim.next hbel).cell x rfl ((trimmed xs).length - 1) (by omega)
    rw [hp] at hca ⊢
    have hbl := Lib.bitLen_le p.toNat 32 (by omega) (by omega)
    clear h0 hp
    go_enter Tryz.func167, Tryz.ntmps167
    go_wp2_with (go_at_call 163; refine (trim_any _ _ _ _ (ha.next hbel)).mono ?_; rintro e w' ⟨rfl, rfl⟩)
    refine (len32 p _ hp0 (by omega)).mono ?_
    rintro e w' ⟨rfl, rfl⟩
    go_wp2
    go_ret
    exact ⟨ret_int (by omega), hbel⟩
end Go.Proofs.YtclokcoimdjaeaaGreatDoor
