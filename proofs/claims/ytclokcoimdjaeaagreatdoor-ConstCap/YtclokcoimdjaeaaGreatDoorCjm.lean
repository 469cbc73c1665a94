/- constants: the numbers of ConstCap, and what comes of their squares. -/
import Derived.Test.YtclokcoimdjaeaaGreatDoorCam
import Derived.Test.YtclokcoimdjaeaaGreatDoorEa
import Derived.Deep.CutRange
import Derived.Deep.RegionWith
import Derived.Deep.LoopGhost
namespace Go.Proofs.YtclokcoimdjaeaaGreatDoor
open Go.RowKit
/-- The i-th number: 3, squared i times. -/
def zc (i : Nat) : Int := 3 ^ (2 ^ i)
theorem zc_next (i : Nat) : zc i * zc i = zc (i + 1) := by
  unfold zc
  rw [← Int.pow_add, Nat.pow_succ, Nat.mul_two]
theorem zc_pos (i : Nat) : 0 < zc i := Int.pow_pos (by decide)
theorem three_nat (a b : Nat) (ha : a = 4096) (hb : b = 6500) : (3 : Nat) ^ a < 2 ^ b := by
  subst ha
  subst hb
  decide +kernel
theorem zc_lt (i : Nat) (hi : i ≤ 12) (b : Nat) (hb : b = 6500) : zc i < 2 ^ b := by
  obtain ⟨a, ha⟩ : ∃ a : Nat, a = 4096 := ⟨_, rfl⟩
  have h1 : 2 ^ i ≤ a := by rw [ha]; exact Nat.le_trans (Nat.pow_le_pow_right (by decide) hi) (by decide)
  have h2 : zc i ≤ 3 ^ a := pow_mono (B := 3) (by decide) h1
  have h3 : ((3 : Nat) ^ a : Nat) < 2 ^ b := three_nat a b ha hb
  have h4 : (3 : Int) ^ a < 2 ^ b := by exact_mod_cast h3
  exact Int.lt_of_le_of_lt h2 h4
theorem zc_abs (i : Nat) : ((zc i).natAbs : Int) = zc i := by have := zc_pos i; omega
theorem zc_w (i : Nat) (hi : i ≤ 12) : -(4294967296 ^ 204) < zc i ∧ zc i < 4294967296 ^ 204 := by
  obtain ⟨b, hb⟩ : ∃ b : Nat, b = 6500 := ⟨_, rfl⟩
  obtain ⟨k, hk⟩ : ∃ k : Nat, k = 204 := ⟨_, rfl⟩
  rw [← hk]
  have h1 := zc_lt i hi b hb
  have h2 : (2 : Int) ^ b ≤ 4294967296 ^ k := by
    rw [show (4294967296 : Int) = 2 ^ 32 from by decide, ← Int.pow_mul]
    exact pow_mono (by decide) (by omega)
  have h3 := zc_pos i
  have h4 : (0 : Int) < 4294967296 ^ k := Int.pow_pos (by decide)
  generalize (4294967296 : Int) ^ k = X at *
  generalize (2 : Int) ^ b = Y at *
  omega
theorem zc_d (i : Nat) (hi : i ≤ 12) : ((zc i).natAbs : Int) < 65536 ^ 407 := by
  obtain ⟨b, hb⟩ : ∃ b : Nat, b = 6500 := ⟨_, rfl⟩
  obtain ⟨k, hk⟩ : ∃ k : Nat, k = 407 := ⟨_, rfl⟩
  rw [← hk, zc_abs]
  have h1 := zc_lt i hi b hb
  have h2 : (2 : Int) ^ b ≤ 65536 ^ k := by
    rw [show (65536 : Int) = 2 ^ 16 from by decide, ← Int.pow_mul]
    exact pow_mono (by decide) (by omega)
  exact Int.lt_of_lt_of_le h1 h2
theorem zc_sh (i : Nat) (hi : i ≤ 12) : Sh (zc i) := fun L hL => by
  have h := bits_short (m := 204) hL (by rw [zc_abs]; exact (zc_w i hi).2)
  omega
theorem zc_nsh (i : Nat) (hi : 13 ≤ i) : NSh (zc i) := fun L hL => by
  obtain ⟨a, ha⟩ : ∃ a : Nat, a = 8192 := ⟨_, rfl⟩
  rw [← ha]
  rcases Nat.lt_or_ge a L with h | h
  · exact h
  · exfalso
    have h1 := hL.1
    rw [zc_abs] at h1
    have h2 : a ≤ 2 ^ i := by rw [ha]; exact Nat.le_trans (by decide : 8192 ≤ 2 ^ 13) (Nat.pow_le_pow_right (by decide) hi)
    have h3 : (3 : Int) ^ a ≤ zc i := pow_mono (B := 3) (by decide) h2
    have h4 : (2 : Int) ^ L ≤ 2 ^ a := pow_mono (B := 2) (by decide) h
    have h5 : ((2 : Nat) ^ a : Nat) ≤ 3 ^ a := Nat.pow_le_pow_left (by decide) a
    have h6 : (2 : Int) ^ a ≤ 3 ^ a := by exact_mod_cast h5
    generalize (2 : Int) ^ a = X at *
    generalize (3 : Int) ^ a = Y at *
    generalize (2 : Int) ^ L = U at *
    omega
theorem CIE.ci {w : World} {v : Value} {z : Int} {m : Nat} (h : CIE w v z m) : CI w v z m := by
  obtain ⟨n1, a1, l1, c1, n2, a2, l2, c2, rfl, hF⟩ := h
  exact ⟨z, 1, ⟨_, _, _, _, _, _, _, _, rfl, hF.frac⟩, by rw [pN_one, pD_one]; omega⟩
theorem CIE.tight {w : World} {v : Value} {z : Int} {n m : Nat} (h : CIE w v z n) (hz : -(4294967296 ^ m) < z ∧ z < 4294967296 ^ m) (hm : 1 ≤ m) : CIE w v z m := by
  obtain ⟨n1, a1, l1, c1, n2, a2, l2, c2, e, n3, a3, l3, c3, n4, a4, l4, c4, e', h1, h2⟩ := h
  refine ⟨n1, a1, l1, c1, n2, a2, l2, c2, e, n3, a3, l3, c3, n4, a4, l4, c4, e', outE_tight h1 m hz, outE_tight h2 m ?_⟩
  have h4 : (4294967296 : Int) ^ 1 ≤ 4294967296 ^ m := pow_mono (by decide) hm
  have h5 : (4294967296 : Int) ^ 1 = 4294967296 := by decide
  generalize (4294967296 : Int) ^ m = X at *
  omega
/-- What the square of the i-th number is. -/
def sqZ (i : Nat) : Option Int := if i ≤ 11 then some (zc (i + 1)) else none
theorem prog_mul {w : World} {u : Value} {i : Nat} (hu : CI w u (zc i) 204) (hi : i ≤ 12) :
    Calls Tryz.prog 16 #[.string ⟨#[42]⟩, u, u] w fun e w' => ∃ t B, e = .returned (.tuple #[t, .bool B]) ∧ FitP (sqZ i) 204 w' t B ∧ Below w.heap.size w w' := by
  obtain ⟨n, d, ⟨n1, a1, l1, c1, n2, a2, l2, c2, rfl, hF⟩, hy⟩ := hu
  by_cases h : i ≤ 11
  · have e : sqZ i = some (zc (i + 1)) := if_pos h
    rw [e]
    refine (Binary_fit ⟨#[42]⟩ (some (zc (i + 1))) 418 (by decide) hF hF hy hy (fun X a b ha hb => ?_)).mono ?_
    · exact binaryInt_ok ⟨#[42]⟩ (zc (i + 1)) 414 (by decide) (zc_sh _ (by omega)) ha hb (fun Y hY => (calc_mul (ha.next hY) (hb.next hY) (by decide) (by decide)).mono fun e w' ⟨t, h1, h2, h3⟩ => ⟨t, h1, by rw [zc_next] at h2; exact h2.more (by decide), h3⟩)
    · rintro e w' ⟨t, B, h1, ⟨h2, h3⟩, h4⟩
      exact ⟨t, B, h1, ⟨h2, h3.tight (zc_w _ (by omega)) (by decide)⟩, h4⟩
  · have e : sqZ i = none := if_neg h
    rw [e]
    refine (Binary_fit ⟨#[42]⟩ none 418 (by decide) hF hF hy hy (fun X a b ha hb => ?_)).mono ?_
    · exact binaryInt_big ⟨#[42]⟩ (zc (i + 1)) 414 (by decide) (zc_nsh _ (by omega)) ha hb (fun Y hY => (calc_mul (ha.next hY) (hb.next hY) (by decide) (by decide)).mono fun e w' ⟨t, h1, h2, h3⟩ => ⟨t, h1, by rw [zc_next] at h2; exact h2.more (by decide), h3⟩)
    · rintro e w' ⟨t, B, h1, h2, h4⟩
      exact ⟨t, B, h1, h2, h4⟩
theorem ref_mul {w : World} {u : Value} {i : Nat} (hu : CRn w u 3 (zc i) 1 407) (hi : i ≤ 12) :
    Calls Tryz.prog 19 #[.string ⟨#[42]⟩, u, u] w fun e w' => ∃ t B, e = .returned (.tuple #[t, .bool B]) ∧ FitR (sqZ i) 407 w' t B ∧ Below w.heap.size w w' := by
  by_cases h : i ≤ 11
  · have e : sqZ i = some (zc (i + 1)) := if_pos h
    rw [e]
    refine (mul33_yes hu hu (by decide) ?_).mono ?_
    · rw [zc_next]; exact Int.lt_of_lt_of_le (zc_d _ (by omega)) (pow_mono (by decide) (by decide))
    · rintro e w' ⟨t, h1, h2, h3⟩
      rw [zc_next] at h2
      exact ⟨t, true, h1, ⟨rfl, h2.tight (zc_d _ (by omega)) (by decide)⟩, h3⟩
  · have e : sqZ i = none := if_neg h
    rw [e]
    refine (mul33_no hu hu (by decide) ?_).mono ?_
    · rw [zc_next]; exact zc_nsh _ (by omega)
    · rintro e w' ⟨h1, h3⟩
      exact ⟨_, _, h1, ⟨rfl, rfl⟩, h3⟩
end Go.Proofs.YtclokcoimdjaeaaGreatDoor
namespace Go.Proofs.YtclokcoimdjaeaaGreatDoor
open Go.RowKit
attribute [local go_sem ↓] Go.wp_at_zero Go.wp_at_succ
/-- What comes of a text put behind itself, by both roads, and that they go together. -/
theorem text_all (s : ByteArray) (hs : s.size ≤ 65536) : ∃ (tf : Bool) (kx : Int) (sx : ByteArray), (tf = true → kx = 2 ∧ sx.size ≤ 65536) ∧
    (∀ X, Calls Tryz.prog 19 #[.string ⟨#[43]⟩, .agg #[.int .i64 2, .bool false, .string s, .bool false, .slice none 0 0, .bool false, .slice none 0 0], .agg #[.int .i64 2, .bool false, .string s, .bool false, .slice none 0 0, .bool false, .slice none 0 0]] X fun e w' => e = .returned (.tuple #[.agg #[.int .i64 kx, .bool false, .string sx, .bool false, .slice none 0 0, .bool false, .slice none 0 0], .bool tf]) ∧ Below X.heap.size X w') ∧
    (∀ X, Calls Tryz.prog 16 #[.string ⟨#[43]⟩, .agg #[.int .i64 2, .bool false, .string s, .bool false, .slice none 0 0, .bool false, .slice none 0 0], .agg #[.int .i64 2, .bool false, .string s, .bool false, .slice none 0 0, .bool false, .slice none 0 0]] X fun e w' => e = .returned (.tuple #[.agg #[.int .i64 kx, .bool false, .string sx, .bool false, .slice none 0 0, .bool false, .slice none 0 0], .bool tf]) ∧ Below X.heap.size X w') ∧
    (∀ X, Calls Tryz.prog 12 #[.agg #[.int .i64 kx, .bool false, .string sx, .bool false, .slice none 0 0, .bool false, .slice none 0 0], .bool tf, .agg #[.int .i64 kx, .bool false, .string sx, .bool false, .slice none 0 0, .bool false, .slice none 0 0], .bool tf] X fun e w' => e = .returned (.bool true) ∧ Below X.heap.size X w') := by
  by_cases h : (s ++ s).size ≤ 65536
  · exact ⟨true, 2, s ++ s, fun _ => ⟨rfl, h⟩, fun X => Binary19_str s X hs h, fun X => Binary_str s X hs h, fun X => is12_str (s ++ s) X⟩
  · exact ⟨false, 0, ⟨#[]⟩, (fun h => by cases h), fun X => Binary19_long s X hs (by omega), fun X => Binary_long s X hs (by omega), fun X => is12_no X⟩
/-- What a round keeps: the text in p6, the number in p7. -/
def CapW (w : World) (p6 p7 : Nat) (s : ByteArray) (i : Nat) (wr : World) : Prop :=
  wr.heap[p6]? = some (.cells #[.int .i64 2, .bool false, .string s, .bool false, .slice none 0 0, .bool false, .slice none 0 0] 32 (0, 0)) ∧ s.size ≤ 65536 ∧ (∃ m1 b1 k1 d1 n1 c1 l1 e1, wr.heap[p7]? = some (.cells #[.int .i64 3, .bool false, .string ⟨#[]⟩, .bool m1, .slice b1 k1 d1, .bool n1, .slice c1 l1 e1] 32 (0, 0)) ∧ CI wr (.agg #[.int .i64 3, .bool false, .string ⟨#[]⟩, .bool m1, .slice b1 k1 d1, .bool n1, .slice c1 l1 e1]) (zc i) 204) ∧ Below w.heap.size w wr
theorem CapW.next {w : World} {p6 p7 : Nat} {s : ByteArray} {i : Nat} {wr wy : World} (h : CapW w p6 p7 s i wr) (hb : Below wr.heap.size wr wy) : CapW w p6 p7 s i wy := by
  obtain ⟨h1, h2, ⟨m1, b1, k1, d1, n1, c1, l1, e1, h3, h4⟩, h5⟩ := h
  exact ⟨keep_heap hb h1, h2, ⟨m1, b1, k1, d1, n1, c1, l1, e1, keep_heap hb h3, h4.next hb⟩, bthen h5 hb⟩
theorem CapW.ne {w : World} {p6 p7 : Nat} {s : ByteArray} {i : Nat} {wr : World} (h : CapW w p6 p7 s i wr) : p6 ≠ p7 := by
  rintro rfl
  obtain ⟨h1, h2, ⟨m1, b1, k1, d1, n1, c1, l1, e1, h3, h4⟩, h5⟩ := h
  rw [h1] at h3
  simp at h3
/-- Both put anew, in either order. -/
theorem CapW.put {w : World} {p6 p7 : Nat} {s : ByteArray} {i : Nat} {wr : World} (h : CapW w p6 p7 s i wr) (g6 : w.heap.size ≤ p6) (g7 : w.heap.size ≤ p7) {sx : ByteArray} (hsx : sx.size ≤ 65536) {m2 : Bool} {b2 : Option Addr} {k2 d2 : Nat} {n2 : Bool} {c2 : Option Addr} {l2 e2 : Nat} (hC : CI wr (.agg #[.int .i64 3, .bool false, .string ⟨#[]⟩, .bool m2, .slice b2 k2 d2, .bool n2, .slice c2 l2 e2]) (zc (i + 1)) 204) :
    CapW w p6 p7 sx (i + 1) (put7 (put7 wr p6 (.int .i64 2) (.bool false) (.string sx) (.bool false) (.slice none 0 0) (.bool false) (.slice none 0 0)) p7 (.int .i64 3) (.bool false) (.string ⟨#[]⟩) (.bool m2) (.slice b2 k2 d2) (.bool n2) (.slice c2 l2 e2)) ∧ CapW w p6 p7 sx (i + 1) (put7 (put7 wr p7 (.int .i64 3) (.bool false) (.string ⟨#[]⟩) (.bool m2) (.slice b2 k2 d2) (.bool n2) (.slice c2 l2 e2)) p6 (.int .i64 2) (.bool false) (.string sx) (.bool false) (.slice none 0 0) (.bool false) (.slice none 0 0)) := by
  have hne := h.ne
  obtain ⟨h1, h2, ⟨m1, b1, k1, d1, n1, c1, l1, e1, h3, h4⟩, h5⟩ := h
  have c6 : CBox wr p6 := ⟨_, _, _, _, _, _, _, _, _, _, _, h1⟩
  have c7 : CBox wr p7 := ⟨_, _, _, _, _, _, _, _, _, _, _, h3⟩
  have c67 : ∀ {x0 x1 x2 x3 x4 x5 x6 : Value}, CBox (put7 wr p6 x0 x1 x2 x3 x4 x5 x6) p7 := ⟨_, _, _, _, _, _, _, _, _, _, _, (put7_same (Ne.symm hne)).trans h3⟩
  have c76 : ∀ {x0 x1 x2 x3 x4 x5 x6 : Value}, CBox (put7 wr p7 x0 x1 x2 x3 x4 x5 x6) p6 := ⟨_, _, _, _, _, _, _, _, _, _, _, (put7_same hne).trans h1⟩
  refine ⟨⟨(put7_same hne).trans (put7_at h1), hsx, ⟨_, _, _, _, _, _, _, _, put7_at ((put7_same (Ne.symm hne)).trans h3), CI.put7 c67 (CI.put7 c6 hC)⟩, put7_below (put7_below h5 g6) g7⟩, ⟨put7_at ((put7_same hne).trans h1), hsx, ⟨_, _, _, _, _, _, _, _, (put7_same (Ne.symm hne)).trans (put7_at h3), CI.put7 c76 (CI.put7 c7 hC)⟩, put7_below (put7_below h5 g7) g6⟩⟩
set_option maxRecDepth 20000 in
set_option maxHeartbeats 4000000 in
theorem constCap_in {w : World} (s0 : ByteArray) (nn : Nat) (h1n : 1 ≤ nn) (h14 : nn ≤ 14) (hs0 : s0.size ≤ 20) (hG : Glob w) (hB2 : 4 < w.heap.size) :
    Calls Tryz.prog 8 #[.string s0, .int .i64 (nn : Int)] w fun e w' => e = .returned (.bool true) ∧ Below w.heap.size w w' := by
  have kG : Hid (Calls Tryz.prog 9 #[] w fun e w' => e = .returned (.bool true) ∧ Below w.heap.size w w') := begun_any w hG (by omega)
  clear hG hB2
  go_enter Tryz.func8, Tryz.ntmps8
  go_wp2_with fail
  refine Calls.mono kG.out ?_
  clear kG
  rintro e w1 ⟨rfl, zz0⟩
  have q0 : decide ((nn : Int) < 1) = false := decide_eq_false (by omega)
  have q1 : decide ((nn : Int) > 14) = false := decide_eq_false (by omega)
  have q2 : decide ((s0.size : Int) > 20) = false := decide_eq_false (by omega)
  obtain ⟨W1, hW1⟩ : ∃ W1, W1 = w1.alloc (.cells #[.int .i64 2, .bool false, .string s0, .bool false, .slice none 0 0, .bool false, .slice none 0 0] 32) := ⟨_, rfl⟩
  have k1 : Below w1.heap.size w1 W1 := by rw [hW1]; exact (Below.refl _ _).alloc (Nat.le_refl _) _
  have hq6 : Hid (W1.heap[w1.heap.size]? = some (.cells #[.int .i64 2, .bool false, .string s0, .bool false, .slice none 0 0, .bool false, .slice none 0 0] 32 (0, 0))) := by show _ = _; rw [hW1]; exact newAt _ _
  have g6 : Hid (w.heap.size ≤ w1.heap.size) := zz0.size
  have zz : Hid (Below w.heap.size w W1) := bthen zz0 k1
  have kW : Hid (Calls Tryz.prog 31 #[.int .i64 3] W1 _) := whole_any 3 W1 (by decide) (by decide)
  clear zz0 k1
  go_upto_region 5 with fail
  rw [← hW1]
  clear hW1
  generalize w1.heap.size = p6 at *
  go_wp2_with fail
  refine Calls.mono kW.out ?_
  clear kW
  rintro e w2 ⟨t2, rfl, h2, hb2⟩
  obtain ⟨n2', d2', ⟨m2, b2, k2, d2, n2, c2, l2, e2, rfl, hF2⟩, hz2⟩ := h2
  have hCI : CI w2 (.agg #[.int .i64 3, .bool false, .string ⟨#[]⟩, .bool m2, .slice b2 k2 d2, .bool n2, .slice c2 l2 e2]) (zc 0) 204 := CI.more (m := 6) ⟨n2', d2', ⟨_, _, _, _, _, _, _, _, rfl, hF2⟩, hz2⟩ (by decide)
  obtain ⟨W2, hW2⟩ : ∃ W2, W2 = w2.alloc (.cells #[.int .i64 3, .bool false, .string ⟨#[]⟩, .bool m2, .slice b2 k2 d2, .bool n2, .slice c2 l2 e2] 32) := ⟨_, rfl⟩
  have jW2 : Below w2.heap.size w2 W2 := by rw [hW2]; exact (Below.refl _ _).alloc (Nat.le_refl _) _
  have hq7 : Hid (W2.heap[w2.heap.size]? = some (.cells #[.int .i64 3, .bool false, .string ⟨#[]⟩, .bool m2, .slice b2 k2 d2, .bool n2, .slice c2 l2 e2] 32 (0, 0))) := by show _ = _; rw [hW2]; exact newAt _ _
  have jj := bthen hb2 jW2
  have g7 : Hid (w.heap.size ≤ w2.heap.size) := (bthen zz.out hb2).size
  have hC : Hid (CapW w p6 w2.heap.size s0 0 W2) := ⟨keep_heap jj hq6.out, by omega, ⟨_, _, _, _, _, _, _, _, hq7.out, hCI.next jW2⟩, bthen zz.out jj⟩
  clear hCI hz2 hF2 jj jW2 hb2 zz hq6 hq7
  go_upto_region 6 with fail
  rw [← hW2]
  clear hW2
  generalize w2.heap.size = p7 at *
  go_wp2_with fail
  go_loopg [8, 9, 10, 11, 12, 13, 14, 15, 16, 17, 18, 19, 20] nn (fun g i _ _ _ _ _ _ _ _ _ _ _ _ wr => ∃ (k : Nat) (s : ByteArray), k + g = nn ∧ k ≤ 12 ∧ i = .int .i64 k ∧ Hid (CapW w p6 p7 s k wr))
  case atStart => exact ⟨0, s0, by omega, by omega, rfl, hC⟩
  case round =>
    clear hC
    obtain ⟨i, s, hn, hi, rfl, hC⟩ := hrel
    cases gk with
    | zero =>
      have d4 : decide ((i : Int) < (nn : Int)) = false := decide_eq_false (by omega)
      go_wp2
      exact bodyPost_ret (v := .bool true) (by simp [results, Tryz.results8, go_sem]) rfl ⟨rfl, hC.out.2.2.2⟩
    | succ g =>
      have d4 : decide ((i : Int) < (nn : Int)) = true := decide_eq_true (by omega)
      obtain ⟨hqa, hss, ⟨m1, b1, k1, d1, n1, c1, l1, e1, hqb, hCI⟩, hBw⟩ := hC.out
      obtain ⟨tf, kx, sx, htf, kT2, kT1, kIs⟩ := text_all s hss
      have kF1 : Hid (Calls Tryz.prog 14 #[.agg #[.int .i64 2, .bool false, .string s, .bool false, .slice none 0 0, .bool false, .slice none 0 0]] wr _) := From14_str s wr hss
      have htfh : Hid (tf = true → kx = 2 ∧ sx.size ≤ 65536) := htf
      have kT2h : Hid (∀ X, Calls Tryz.prog 19 #[.string ⟨#[43]⟩, .agg #[.int .i64 2, .bool false, .string s, .bool false, .slice none 0 0, .bool false, .slice none 0 0], .agg #[.int .i64 2, .bool false, .string s, .bool false, .slice none 0 0, .bool false, .slice none 0 0]] X fun e w' => e = .returned (.tuple #[.agg #[.int .i64 kx, .bool false, .string sx, .bool false, .slice none 0 0, .bool false, .slice none 0 0], .bool tf]) ∧ Below X.heap.size X w') := kT2
      have kT1h : Hid (∀ X, Calls Tryz.prog 16 #[.string ⟨#[43]⟩, .agg #[.int .i64 2, .bool false, .string s, .bool false, .slice none 0 0, .bool false, .slice none 0 0], .agg #[.int .i64 2, .bool false, .string s, .bool false, .slice none 0 0, .bool false, .slice none 0 0]] X fun e w' => e = .returned (.tuple #[.agg #[.int .i64 kx, .bool false, .string sx, .bool false, .slice none 0 0, .bool false, .slice none 0 0], .bool tf]) ∧ Below X.heap.size X w') := kT1
      have kIsh : Hid (∀ X, Calls Tryz.prog 12 #[.agg #[.int .i64 kx, .bool false, .string sx, .bool false, .slice none 0 0, .bool false, .slice none 0 0], .bool tf, .agg #[.int .i64 kx, .bool false, .string sx, .bool false, .slice none 0 0, .bool false, .slice none 0 0], .bool tf] X fun e w' => e = .returned (.bool true) ∧ Below X.heap.size X w') := kIs
      have hCIh : Hid (CI wr (.agg #[.int .i64 3, .bool false, .string ⟨#[]⟩, .bool m1, .slice b1 k1 d1, .bool n1, .slice c1 l1 e1]) (zc i) 204 ∧ wr.heap[p7]? = some (.cells #[.int .i64 3, .bool false, .string ⟨#[]⟩, .bool m1, .slice b1 k1 d1, .bool n1, .slice c1 l1 e1] 32 (0, 0)) ∧ wr.heap[p6]? = some (.cells #[.int .i64 2, .bool false, .string s, .bool false, .slice none 0 0, .bool false, .slice none 0 0] 32 (0, 0))) := ⟨hCI, hqb, hqa⟩
      clear htf kT2 kT1 kIs hss hBw hCI
      obtain ⟨⟨s0, s1, s2, s3, s4, s5, s6⟩, _, _⟩ := cells7 hqa
      clear hqa hqb
      go_wp2_with fail
      refine Calls.mono kF1.out ?_
      clear kF1
      clear s0 s1 s2 s3 s4 s5 s6
      rintro e w3 ⟨he, hb3⟩
      unfold cStr at he
      subst he
      obtain ⟨W3, hW3⟩ : ∃ W3, W3 = w3.alloc (.cells #[.int .i64 2, .bool false, .string s, .bool false, .slice none 0 0, .bool false, .slice none 0 0] 42) := ⟨_, rfl⟩
      have jW3 : Below w3.heap.size w3 W3 := by rw [hW3]; exact (Below.refl _ _).alloc (Nat.le_refl _) _
      have hq9 : Hid (W3.heap[w3.heap.size]? = some (.cells #[.int .i64 2, .bool false, .string s, .bool false, .slice none 0 0, .bool false, .slice none 0 0] 42 (0, 0))) := by show _ = _; rw [hW3]; exact newAt _ _
      have jj := bthen hb3 jW3
      replace hCIh : Hid (CI W3 (.agg #[.int .i64 3, .bool false, .string ⟨#[]⟩, .bool m1, .slice b1 k1 d1, .bool n1, .slice c1 l1 e1]) (zc i) 204 ∧ W3.heap[p7]? = some (.cells #[.int .i64 3, .bool false, .string ⟨#[]⟩, .bool m1, .slice b1 k1 d1, .bool n1, .slice c1 l1 e1] 32 (0, 0)) ∧ W3.heap[p6]? = some (.cells #[.int .i64 2, .bool false, .string s, .bool false, .slice none 0 0, .bool false, .slice none 0 0] 32 (0, 0))) := ⟨hCIh.out.1.next jj, keep_heap jj hCIh.out.2.1, keep_heap jj hCIh.out.2.2⟩
      replace hC : Hid (CapW w p6 p7 s i W3) := hC.out.next jj
      clear hb3 jW3 jj
      go_upto_region 10 with fail
      rw [← hW3]
      clear hW3
      generalize w3.heap.size = p9 at *
      have kF2 : Hid (Calls Tryz.prog 14 #[.agg #[.int .i64 3, .bool false, .string ⟨#[]⟩, .bool m1, .slice b1 k1 d1, .bool n1, .slice c1 l1 e1]] W3 _) := From14_int hCIh.out.1 (by decide)
      obtain ⟨⟨s0, s1, s2, s3, s4, s5, s6⟩, _, _⟩ := cells7 hCIh.out.2.1
      go_wp2_with fail
      refine Calls.mono kF2.out ?_
      clear kF2
      clear s0 s1 s2 s3 s4 s5 s6
      rintro e w4 ⟨t4, rfl, hR4, hb4⟩
      have hR4t : CRn w4 t4 3 (zc i) 1 407 := hR4.tight (zc_d i hi) (by decide)
      clear hR4
      have hx4 := hR4t
      obtain ⟨m4, b4, k4, d4, n4, c4, l4, e4, rfl, _⟩ := hx4
      obtain ⟨W4, hW4⟩ : ∃ W4, W4 = w4.alloc (.cells #[.int .i64 3, .bool false, .string ⟨#[]⟩, .bool m4, .slice b4 k4 d4, .bool n4, .slice c4 l4 e4] 42) := ⟨_, rfl⟩
      have jW4 : Below w4.heap.size w4 W4 := by rw [hW4]; exact (Below.refl _ _).alloc (Nat.le_refl _) _
      have hq11 : Hid (W4.heap[w4.heap.size]? = some (.cells #[.int .i64 3, .bool false, .string ⟨#[]⟩, .bool m4, .slice b4 k4 d4, .bool n4, .slice c4 l4 e4] 42 (0, 0))) := by show _ = _; rw [hW4]; exact newAt _ _
      have jj := bthen hb4 jW4
      replace hCIh : Hid (CI W4 (.agg #[.int .i64 3, .bool false, .string ⟨#[]⟩, .bool m1, .slice b1 k1 d1, .bool n1, .slice c1 l1 e1]) (zc i) 204 ∧ W4.heap[p7]? = some (.cells #[.int .i64 3, .bool false, .string ⟨#[]⟩, .bool m1, .slice b1 k1 d1, .bool n1, .slice c1 l1 e1] 32 (0, 0)) ∧ W4.heap[p6]? = some (.cells #[.int .i64 2, .bool false, .string s, .bool false, .slice none 0 0, .bool false, .slice none 0 0] 32 (0, 0))) := ⟨hCIh.out.1.next jj, keep_heap jj hCIh.out.2.1, keep_heap jj hCIh.out.2.2⟩
      replace hC : Hid (CapW w p6 p7 s i W4) := hC.out.next jj
      replace hq9 : Hid (W4.heap[p9]? = some (.cells #[.int .i64 2, .bool false, .string s, .bool false, .slice none 0 0, .bool false, .slice none 0 0] 42 (0, 0))) := keep_heap jj hq9.out
      have hR : Hid (CRn W4 (.agg #[.int .i64 3, .bool false, .string ⟨#[]⟩, .bool m4, .slice b4 k4 d4, .bool n4, .slice c4 l4 e4]) 3 (zc i) 1 407) := hR4t.next jW4
      clear hb4 jW4 jj hR4t
      go_upto_region 11 with fail
      rw [← hW4]
      clear hW4
      generalize w4.heap.size = p11 at *
      obtain ⟨⟨s0, s1, s2, s3, s4, s5, s6⟩, _, _⟩ := cells7 hq9.out
      go_wp2_with fail
      refine Calls.mono (kT2h.out _) ?_
      clear kT2h
      clear s0 s1 s2 s3 s4 s5 s6
      rintro e w5 ⟨rfl, hb5⟩
      obtain ⟨W5, hW5⟩ : ∃ W5, W5 = w5.alloc (.cells #[.int .i64 kx, .bool false, .string sx, .bool false, .slice none 0 0, .bool false, .slice none 0 0] 42) := ⟨_, rfl⟩
      have jW5 : Below w5.heap.size w5 W5 := by rw [hW5]; exact (Below.refl _ _).alloc (Nat.le_refl _) _
      have hq13 : Hid (W5.heap[w5.heap.size]? = some (.cells #[.int .i64 kx, .bool false, .string sx, .bool false, .slice none 0 0, .bool false, .slice none 0 0] 42 (0, 0))) := by show _ = _; rw [hW5]; exact newAt _ _
      have jj := bthen hb5 jW5
      replace hCIh : Hid (CI W5 (.agg #[.int .i64 3, .bool false, .string ⟨#[]⟩, .bool m1, .slice b1 k1 d1, .bool n1, .slice c1 l1 e1]) (zc i) 204 ∧ W5.heap[p7]? = some (.cells #[.int .i64 3, .bool false, .string ⟨#[]⟩, .bool m1, .slice b1 k1 d1, .bool n1, .slice c1 l1 e1] 32 (0, 0)) ∧ W5.heap[p6]? = some (.cells #[.int .i64 2, .bool false, .string s, .bool false, .slice none 0 0, .bool false, .slice none 0 0] 32 (0, 0))) := ⟨hCIh.out.1.next jj, keep_heap jj hCIh.out.2.1, keep_heap jj hCIh.out.2.2⟩
      replace hC : Hid (CapW w p6 p7 s i W5) := hC.out.next jj
      replace hq11 : Hid (W5.heap[p11]? = some (.cells #[.int .i64 3, .bool false, .string ⟨#[]⟩, .bool m4, .slice b4 k4 d4, .bool n4, .slice c4 l4 e4] 42 (0, 0))) := keep_heap jj hq11.out
      replace hR : Hid (CRn W5 (.agg #[.int .i64 3, .bool false, .string ⟨#[]⟩, .bool m4, .slice b4 k4 d4, .bool n4, .slice c4 l4 e4]) 3 (zc i) 1 407) := hR.out.next jj
      clear hb5 jW5 jj hq9
      go_upto_region 14 with fail
      rw [← hW5]
      clear hW5
      generalize w5.heap.size = p13 at *
      have kM2 : Hid (Calls Tryz.prog 19 #[.string ⟨#[42]⟩, .agg #[.int .i64 3, .bool false, .string ⟨#[]⟩, .bool m4, .slice b4 k4 d4, .bool n4, .slice c4 l4 e4], .agg #[.int .i64 3, .bool false, .string ⟨#[]⟩, .bool m4, .slice b4 k4 d4, .bool n4, .slice c4 l4 e4]] W5 _) := ref_mul hR.out hi
      obtain ⟨⟨s0, s1, s2, s3, s4, s5, s6⟩, _, _⟩ := cells7 hq11.out
      go_wp2_with fail
      refine Calls.mono kM2.out ?_
      clear kM2
      clear s0 s1 s2 s3 s4 s5 s6
      rintro e w6 ⟨t6, B6, rfl, hR6, hb6⟩
      obtain ⟨k6, b6, s6, m6, x6, l6, c6, n6, y6, j6, d6, rfl⟩ := hR6.form
      obtain ⟨W6, hW6⟩ : ∃ W6, W6 = w6.alloc (.cells #[.int .i64 k6, .bool b6, .string s6, .bool m6, .slice x6 l6 c6, .bool n6, .slice y6 j6 d6] 42) := ⟨_, rfl⟩
      have jW6 : Below w6.heap.size w6 W6 := by rw [hW6]; exact (Below.refl _ _).alloc (Nat.le_refl _) _
      have hq15 : Hid (W6.heap[w6.heap.size]? = some (.cells #[.int .i64 k6, .bool b6, .string s6, .bool m6, .slice x6 l6 c6, .bool n6, .slice y6 j6 d6] 42 (0, 0))) := by show _ = _; rw [hW6]; exact newAt _ _
      have jj := bthen hb6 jW6
      replace hCIh : Hid (CI W6 (.agg #[.int .i64 3, .bool false, .string ⟨#[]⟩, .bool m1, .slice b1 k1 d1, .bool n1, .slice c1 l1 e1]) (zc i) 204 ∧ W6.heap[p7]? = some (.cells #[.int .i64 3, .bool false, .string ⟨#[]⟩, .bool m1, .slice b1 k1 d1, .bool n1, .slice c1 l1 e1] 32 (0, 0)) ∧ W6.heap[p6]? = some (.cells #[.int .i64 2, .bool false, .string s, .bool false, .slice none 0 0, .bool false, .slice none 0 0] 32 (0, 0))) := ⟨hCIh.out.1.next jj, keep_heap jj hCIh.out.2.1, keep_heap jj hCIh.out.2.2⟩
      replace hC : Hid (CapW w p6 p7 s i W6) := hC.out.next jj
      replace hq13 : Hid (W6.heap[p13]? = some (.cells #[.int .i64 kx, .bool false, .string sx, .bool false, .slice none 0 0, .bool false, .slice none 0 0] 42 (0, 0))) := keep_heap jj hq13.out
      have hFR : Hid (FitR (sqZ i) 407 W6 (.agg #[.int .i64 k6, .bool b6, .string s6, .bool m6, .slice x6 l6 c6, .bool n6, .slice y6 j6 d6]) B6) := hR6.next jW6
      clear hb6 jW6 jj hR6 hR hq11
      go_upto_region 15 with fail
      rw [← hW6]
      clear hW6
      generalize w6.heap.size = p15 at *
      obtain ⟨⟨s0, s1, s2, s3, s4, s5, s6⟩, _, _⟩ := cells7 hCIh.out.2.2
      go_wp2_with fail
      refine Calls.mono (kT1h.out _) ?_
      clear kT1h
      clear s0 s1 s2 s3 s4 s5 s6
      rintro e w7 ⟨rfl, hb7⟩
      have l17 : Hid (p6 < w7.heap.size ∧ p7 < w7.heap.size) := ⟨Nat.lt_of_lt_of_le (Array.getElem?_eq_some_iff.1 hCIh.out.2.2).1 hb7.size, Nat.lt_of_lt_of_le (Array.getElem?_eq_some_iff.1 hCIh.out.2.1).1 hb7.size⟩
      obtain ⟨W7, hW7⟩ : ∃ W7, W7 = w7.alloc (.cells #[.int .i64 kx, .bool false, .string sx, .bool false, .slice none 0 0, .bool false, .slice none 0 0] 32) := ⟨_, rfl⟩
      have jW7 : Below w7.heap.size w7 W7 := by rw [hW7]; exact (Below.refl _ _).alloc (Nat.le_refl _) _
      have hq17 : Hid (W7.heap[w7.heap.size]? = some (.cells #[.int .i64 kx, .bool false, .string sx, .bool false, .slice none 0 0, .bool false, .slice none 0 0] 32 (0, 0))) := by show _ = _; rw [hW7]; exact newAt _ _
      have jj := bthen hb7 jW7
      replace hCIh : Hid (CI W7 (.agg #[.int .i64 3, .bool false, .string ⟨#[]⟩, .bool m1, .slice b1 k1 d1, .bool n1, .slice c1 l1 e1]) (zc i) 204 ∧ W7.heap[p7]? = some (.cells #[.int .i64 3, .bool false, .string ⟨#[]⟩, .bool m1, .slice b1 k1 d1, .bool n1, .slice c1 l1 e1] 32 (0, 0)) ∧ W7.heap[p6]? = some (.cells #[.int .i64 2, .bool false, .string s, .bool false, .slice none 0 0, .bool false, .slice none 0 0] 32 (0, 0))) := ⟨hCIh.out.1.next jj, keep_heap jj hCIh.out.2.1, keep_heap jj hCIh.out.2.2⟩
      replace hC : Hid (CapW w p6 p7 s i W7) := hC.out.next jj
      replace hq13 : Hid (W7.heap[p13]? = some (.cells #[.int .i64 kx, .bool false, .string sx, .bool false, .slice none 0 0, .bool false, .slice none 0 0] 42 (0, 0))) := keep_heap jj hq13.out
      replace hq15 : Hid (W7.heap[p15]? = some (.cells #[.int .i64 k6, .bool b6, .string s6, .bool m6, .slice x6 l6 c6, .bool n6, .slice y6 j6 d6] 42 (0, 0))) := keep_heap jj hq15.out
      replace hFR : Hid (FitR (sqZ i) 407 W7 (.agg #[.int .i64 k6, .bool b6, .string s6, .bool m6, .slice x6 l6 c6, .bool n6, .slice y6 j6 d6]) B6) := hFR.out.next jj
      clear hb7 jW7 jj
      go_upto_region 16 with fail
      rw [← hW7]
      clear hW7
      generalize w7.heap.size = p17 at *
      have kM1 : Hid (Calls Tryz.prog 16 #[.string ⟨#[42]⟩, .agg #[.int .i64 3, .bool false, .string ⟨#[]⟩, .bool m1, .slice b1 k1 d1, .bool n1, .slice c1 l1 e1], .agg #[.int .i64 3, .bool false, .string ⟨#[]⟩, .bool m1, .slice b1 k1 d1, .bool n1, .slice c1 l1 e1]] W7 _) := prog_mul hCIh.out.1 hi
      obtain ⟨⟨s0, s1, s2, s3, s4, s5, s6⟩, _, _⟩ := cells7 hCIh.out.2.1
      go_wp2_with fail
      refine Calls.mono kM1.out ?_
      clear kM1
      clear s0 s1 s2 s3 s4 s5 s6
      rintro e w8 ⟨t8, B8, rfl, hP8, hb8⟩
      have l19 : Hid (p6 < w8.heap.size ∧ p7 < w8.heap.size) := ⟨Nat.lt_of_lt_of_le (Array.getElem?_eq_some_iff.1 hCIh.out.2.2).1 hb8.size, Nat.lt_of_lt_of_le (Array.getElem?_eq_some_iff.1 hCIh.out.2.1).1 hb8.size⟩
      obtain ⟨k8, b8, s8, m8, x8, l8, c8, n8, y8, j8, d8, rfl⟩ := hP8.form
      obtain ⟨W8, hW8⟩ : ∃ W8, W8 = w8.alloc (.cells #[.int .i64 k8, .bool b8, .string s8, .bool m8, .slice x8 l8 c8, .bool n8, .slice y8 j8 d8] 32) := ⟨_, rfl⟩
      have jW8 : Below w8.heap.size w8 W8 := by rw [hW8]; exact (Below.refl _ _).alloc (Nat.le_refl _) _
      have hq19 : Hid (W8.heap[w8.heap.size]? = some (.cells #[.int .i64 k8, .bool b8, .string s8, .bool m8, .slice x8 l8 c8, .bool n8, .slice y8 j8 d8] 32 (0, 0))) := by show _ = _; rw [hW8]; exact newAt _ _
      have jj := bthen hb8 jW8
      replace hC : Hid (CapW w p6 p7 s i W8) := hC.out.next jj
      replace hq13 : Hid (W8.heap[p13]? = some (.cells #[.int .i64 kx, .bool false, .string sx, .bool false, .slice none 0 0, .bool false, .slice none 0 0] 42 (0, 0))) := keep_heap jj hq13.out
      replace hq15 : Hid (W8.heap[p15]? = some (.cells #[.int .i64 k6, .bool b6, .string s6, .bool m6, .slice x6 l6 c6, .bool n6, .slice y6 j6 d6] 42 (0, 0))) := keep_heap jj hq15.out
      replace hq17 : Hid (W8.heap[p17]? = some (.cells #[.int .i64 kx, .bool false, .string sx, .bool false, .slice none 0 0, .bool false, .slice none 0 0] 32 (0, 0))) := keep_heap jj hq17.out
      replace hFR : Hid (FitR (sqZ i) 407 W8 (.agg #[.int .i64 k6, .bool b6, .string s6, .bool m6, .slice x6 l6 c6, .bool n6, .slice y6 j6 d6]) B6) := hFR.out.next jj
      have hFP : Hid (FitP (sqZ i) 204 W8 (.agg #[.int .i64 k8, .bool b8, .string s8, .bool m8, .slice x8 l8 c8, .bool n8, .slice y8 j8 d8]) B8) := hP8.next jW8
      clear hb8 jW8 jj hP8 hCIh
      go_upto_region 17 with fail
      rw [← hW8]
      clear hW8
      generalize w8.heap.size = p19 at *
      obtain ⟨⟨s0, s1, s2, s3, s4, s5, s6⟩, _, _⟩ := cells7 hq17.out
      obtain ⟨⟨t0, t1, t2, t3, t4, t5, t6⟩, _, _⟩ := cells7 hq13.out
      go_wp2_with fail
      refine Calls.mono (kIsh.out _) ?_
      clear kIsh
      clear s0 s1 s2 s3 s4 s5 s6 t0 t1 t2 t3 t4 t5 t6
      rintro e w9 ⟨rfl, hb9⟩
      replace hC : Hid (CapW w p6 p7 s i w9) := hC.out.next hb9
      replace hq15 : Hid (w9.heap[p15]? = some (.cells #[.int .i64 k6, .bool b6, .string s6, .bool m6, .slice x6 l6 c6, .bool n6, .slice y6 j6 d6] 42 (0, 0))) := keep_heap hb9 hq15.out
      replace hq17 : Hid (w9.heap[p17]? = some (.cells #[.int .i64 kx, .bool false, .string sx, .bool false, .slice none 0 0, .bool false, .slice none 0 0] 32 (0, 0))) := keep_heap hb9 hq17.out
      replace hq19 : Hid (w9.heap[p19]? = some (.cells #[.int .i64 k8, .bool b8, .string s8, .bool m8, .slice x8 l8 c8, .bool n8, .slice y8 j8 d8] 32 (0, 0))) := keep_heap hb9 hq19.out
      replace hFR : Hid (FitR (sqZ i) 407 w9 (.agg #[.int .i64 k6, .bool b6, .string s6, .bool m6, .slice x6 l6 c6, .bool n6, .slice y6 j6 d6]) B6) := hFR.out.next hb9
      replace hFP : Hid (FitP (sqZ i) 204 w9 (.agg #[.int .i64 k8, .bool b8, .string s8, .bool m8, .slice x8 l8 c8, .bool n8, .slice y8 j8 d8]) B8) := hFP.out.next hb9
      clear hb9 hq13
      have kI2 : Hid (Calls Tryz.prog 12 #[.agg #[.int .i64 k8, .bool b8, .string s8, .bool m8, .slice x8 l8 c8, .bool n8, .slice y8 j8 d8], .bool B8, .agg #[.int .i64 k6, .bool b6, .string s6, .bool m6, .slice x6 l6 c6, .bool n6, .slice y6 j6 d6], .bool B6] w9 _) := is_fit hFP.out hFR.out (by decide) (by decide)
      obtain ⟨⟨s0, s1, s2, s3, s4, s5, s6⟩, _, _⟩ := cells7 hq19.out
      obtain ⟨⟨t0, t1, t2, t3, t4, t5, t6⟩, _, _⟩ := cells7 hq15.out
      go_wp2_with fail
      refine Calls.mono kI2.out ?_
      clear kI2
      clear s0 s1 s2 s3 s4 s5 s6 t0 t1 t2 t3 t4 t5 t6
      rintro e w10 ⟨rfl, hb10⟩
      replace hC : Hid (CapW w p6 p7 s i w10) := hC.out.next hb10
      replace hq17 : Hid (w10.heap[p17]? = some (.cells #[.int .i64 kx, .bool false, .string sx, .bool false, .slice none 0 0, .bool false, .slice none 0 0] 32 (0, 0))) := keep_heap hb10 hq17.out
      replace hq19 : Hid (w10.heap[p19]? = some (.cells #[.int .i64 k8, .bool b8, .string s8, .bool m8, .slice x8 l8 c8, .bool n8, .slice y8 j8 d8] 32 (0, 0))) := keep_heap hb10 hq19.out
      replace hFP : Hid (FitP (sqZ i) 204 w10 (.agg #[.int .i64 k8, .bool b8, .string s8, .bool m8, .slice x8 l8 c8, .bool n8, .slice y8 j8 d8]) B8) := hFP.out.next hb10
      clear hb10 hq15
      by_cases hi11 : i ≤ 11
      case neg =>
        have hB6 : B6 = false := by
          have h := hFR.out
          rw [show sqZ i = none from if_neg hi11] at h
          exact h.1
        subst hB6
        clear hFR hFP
        cases tf
        all_goals
          go_wp2
          exact bodyPost_ret (v := .bool true) (by simp [results, Tryz.results8, go_sem]) rfl ⟨rfl, hC.out.2.2.2⟩
      have hB6 : B6 = true := by
        have h := hFR.out
        rw [show sqZ i = some (zc (i + 1)) from if_pos hi11] at h
        exact h.1
      subst hB6
      clear hFR
      cases tf with
      | false =>
        go_wp2
        exact bodyPost_ret (v := .bool true) (by simp [results, Tryz.results8, go_sem]) rfl ⟨rfl, hC.out.2.2.2⟩
      | true =>
        obtain ⟨rfl, hsx⟩ := htfh.out rfl
        have hCIE : CIE w10 (.agg #[.int .i64 k8, .bool b8, .string s8, .bool m8, .slice x8 l8 c8, .bool n8, .slice y8 j8 d8]) (zc (i + 1)) 204 := by
          have h := hFP.out
          rw [show sqZ i = some (zc (i + 1)) from if_pos hi11] at h
          exact h.2
        have hCI := hCIE.ci
        obtain ⟨_, _, _, _, _, _, _, _, e8, _⟩ := hCIE
        cases e8
        have hput0 := hC.out.put g6.out g7.out hsx hCI
        have hput := And.intro (hput0.1.next (Below.refl _ _).drew) (hput0.2.next (Below.refl _ _).drew)
        clear hput0
        unfold put7 at hput
        have hputh : Hid _ := hput
        obtain ⟨hqa, _, ⟨m3, b3, k3, d3, n3, c3, l3, e3, hqb, _⟩, _⟩ := hC.out
        have hne : p6 ≠ p7 := hC.out.ne
        have hne' : p7 ≠ p6 := Ne.symm hne
        obtain ⟨⟨s0, s1, s2, s3, s4, s5, s6⟩, _, _⟩ := cells7 hq17.out
        obtain ⟨⟨t0, t1, t2, t3, t4, t5, t6⟩, _, _⟩ := cells7 hq19.out
        obtain ⟨⟨u0, u1, u2, u3, u4, u5, u6⟩, fu, _⟩ := cells7 hqa
        have fu0 := fu 0
        have fu1 := fu 1
        have fu2 := fu 2
        have fu3 := fu 3
        have fu4 := fu 4
        have fu5 := fu 5
        have fu6 := fu 6
        clear fu
        obtain ⟨⟨v0, v1, v2, v3, v4, v5, v6⟩, fv, _⟩ := cells7 hqb
        have fv0 := fv 0
        have fv1 := fv 1
        have fv2 := fv 2
        have fv3 := fv 3
        have fv4 := fv 4
        have fv5 := fv 5
        have fv6 := fv 6
        clear fv
        clear hqa hqb hput hCI hFP
        have n1 : p6 ≠ p17 := by have := l17.out; omega
        have n2 : p7 ≠ p17 := by have := l17.out; omega
        have n3 : p6 ≠ p19 := by have := l19.out; omega
        have n4 : p7 ≠ p19 := by have := l19.out; omega
        have n1' := Ne.symm n1
        have n2' := Ne.symm n2
        have n3' := Ne.symm n3
        have n4' := Ne.symm n4
        go_upto_region 20 with fail
        go_region
        all_goals
          go_wp2
          go_roundg g
          case measure => omega
          case rel => exact ⟨i + 1, sx, by omega, by omega, rfl, by first | exact hputh.out.1 | exact hputh.out.2⟩
end Go.Proofs.YtclokcoimdjaeaaGreatDoor
namespace Go.Proofs.YtclokcoimdjaeaaGreatDoor
open Go.RowKit
attribute [local go_sem ↓] Go.wp_at_zero Go.wp_at_succ
set_option maxRecDepth 20000 in
set_option maxHeartbeats 4000000 in
theorem constCap_any {w : World} (s : ByteArray) (n : Int) (hG : Glob w) (hB2 : 4 < w.heap.size) :
    Calls Tryz.prog 8 #[.string s, .int .i64 n] w fun e w' => e = .returned (.bool true) ∧ Below w.heap.size w w' := by
  have kG : Hid (Calls Tryz.prog 9 #[] w fun e w' => e = .returned (.bool true) ∧ Below w.heap.size w w') := begun_any w hG (by omega)
  by_cases h0 : n < 1
  case pos =>
    clear hG hB2
    have q0 : decide (n < 1) = true := decide_eq_true (by omega)
    go_enter Tryz.func8, Tryz.ntmps8
    go_wp2_with fail
    refine Calls.mono kG.out ?_
    clear kG
    rintro e w1 ⟨rfl, zz0⟩
    have zz : Hid (Below w.heap.size w w1) := zz0
    clear zz0
    go_wp2
    exact bodyPost_ret (v := .bool true) (by simp [results, Tryz.results8, go_sem]) rfl ⟨rfl, zz.out⟩
  by_cases h1 : n > 14
  case pos =>
    clear hG hB2
    have q0 : decide (n < 1) = false := decide_eq_false (by omega)
    have q1 : decide (n > 14) = true := decide_eq_true (by omega)
    go_enter Tryz.func8, Tryz.ntmps8
    go_wp2_with fail
    refine Calls.mono kG.out ?_
    clear kG
    rintro e w1 ⟨rfl, zz0⟩
    have zz : Hid (Below w.heap.size w w1) := zz0
    clear zz0
    go_wp2
    exact bodyPost_ret (v := .bool true) (by simp [results, Tryz.results8, go_sem]) rfl ⟨rfl, zz.out⟩
  by_cases h2 : (s.size : Int) > 20
  case pos =>
    clear hG hB2
    have q0 : decide (n < 1) = false := decide_eq_false (by omega)
    have q1 : decide (n > 14) = false := decide_eq_false (by omega)
    have q2 : decide ((s.size : Int) > 20) = true := decide_eq_true (by omega)
    go_enter Tryz.func8, Tryz.ntmps8
    go_wp2_with fail
    refine Calls.mono kG.out ?_
    clear kG
    rintro e w1 ⟨rfl, zz0⟩
    have zz : Hid (Below w.heap.size w w1) := zz0
    clear zz0
    go_wp2
    exact bodyPost_ret (v := .bool true) (by simp [results, Tryz.results8, go_sem]) rfl ⟨rfl, zz.out⟩
  obtain ⟨nn, rfl⟩ : ∃ nn : Nat, n = nn := ⟨n.toNat, by omega⟩
  exact constCap_in s nn (by omega) (by omega) (by omega) hG hB2
end Go.Proofs.YtclokcoimdjaeaaGreatDoor
