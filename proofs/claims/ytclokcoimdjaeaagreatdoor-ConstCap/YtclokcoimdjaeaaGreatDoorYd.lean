/- constants: the second road takes a constant over, whatever its kind. -/
import Derived.Test.YtclokcoimdjaeaaGreatDoorYbm
import Derived.Test.YtclokcoimdjaeaaGreatDoorQym
namespace Go.Proofs.YtclokcoimdjaeaaGreatDoor
open Go.RowKit Go.Shelf Go.Lib
attribute [local go_sem ↓] Go.wp_at_zero Go.wp_at_succ
theorem Rint.bound {w : World} {v : Value} {z : Int} {m : Nat} (h : Rint w v z m) : (z.natAbs : Int) < 65536 ^ m := by
  obtain ⟨neg, a, cap, ds, hv, hr, hn, he, hl⟩ := h
  have h1 := val_lt (B := 65536) (by decide) hr.words
  have h2 := pow_mono (B := 65536) (by decide) hl
  have h3 := val_nonneg (B := 65536) (by decide) hr.words
  have h4 : (z.natAbs : Int) = Go.Proofs.YtclokcoimdjaeaaGreatDoor.val 65536 ds := by subst he; cases neg <;> simp [Go.Proofs.YtclokcoimdjaeaaGreatDoor.num] <;> omega
  omega
theorem bits_le16 {y : Int} {L m : Nat} (hb : HasBits (y.natAbs : Int) L) (h : (y.natAbs : Int) < 65536 ^ m) : L ≤ 16 * m := by
  rcases hb.2 with h0 | h0
  · omega
  · by_cases hc : L ≤ 16 * m
    · exact hc
    · have h1 : (2 : Int) ^ (16 * m) ≤ 2 ^ (L - 1) := pow_mono (B := 2) (by decide) (by omega)
      rw [show (65536 : Int) = 2 ^ 16 from by decide, ← Int.pow_mul] at h
      omega
/-- The second road's rounding: units, their exponent, no infinity. -/
theorem ratR_nil (w : World) (m : Nat) : RatR w (.agg #[.bool false, .slice none 0 0, .bool false, .slice none 0 0]) 0 0 m := ⟨_, _, _, _, _, _, _, _, rfl, ⟨false, none, 0, [], rfl, Row.empty _ _ _, ⟨trivial, fun h => by cases h⟩, rfl, Nat.zero_le _⟩, ⟨false, none, 0, [], rfl, Row.empty _ _ _, ⟨trivial, fun h => by cases h⟩, rfl, Nat.zero_le _⟩⟩
set_option maxRecDepth 20000 in
set_option maxHeartbeats 2000000 in
theorem small37_any {w : World} {k : Int} {b : Bool} {s : ByteArray} {m1 : Bool} {b1 : Option Addr} {k1 d1 : Nat} {m2 : Bool} {b2 : Option Addr} {k2 d2 : Nat} {p q : Int} {m : Nat} (hR : RatR w (.agg #[.bool m1, .slice b1 k1 d1, .bool m2, .slice b2 k2 d2]) p q m) (hm : m ≤ 500) (hs : s.size ≤ 65536) :
    Calls Tryz.prog 37 #[.agg #[.int .i64 k, .bool b, .string s, .bool m1, .slice b1 k1 d1, .bool m2, .slice b2 k2 d2]] w fun e w' => e = .returned (.bool true) ∧ Below w.heap.size w w' := by
  obtain ⟨W, hW⟩ : ∃ W, W = w.alloc (.cells #[.int .i64 k, .bool b, .string s, .bool m1, .slice b1 k1 d1, .bool m2, .slice b2 k2 d2] 42) := ⟨_, rfl⟩
  have hbW : Below w.heap.size w W := by rw [hW]; exact (Below.refl _ _).alloc (Nat.le_refl _) _
  have hqW : W.heap[w.heap.size]? = some (.cells #[.int .i64 k, .bool b, .string s, .bool m1, .slice b1 k1 d1, .bool m2, .slice b2 k2 d2] 42 (0, 0)) := by rw [hW]; exact newAt _ _
  obtain ⟨⟨p0, p1, p2, p3, p4, p5, p6⟩, _, _⟩ := cells7 hqW
  obtain ⟨hN, hD⟩ := hR.parts
  have hN' := hN.bound
  have hD' := hD.bound
  have kN : Hid (Calls Tryz.prog 82 #[.agg #[.bool m1, .slice b1 k1 d1]] W _) := rBits_num (hN.next hbW) (by omega)
  have hDW : Hid (Rint W (.agg #[.bool m2, .slice b2 k2 d2]) q m) := hD.next hbW
  have hh : Hid ((p.natAbs : Int) < 65536 ^ m ∧ (q.natAbs : Int) < 65536 ^ m ∧ Below w.heap.size w W) := ⟨hN', hD', hbW⟩
  have d1 : decide ((s.size : Int) ≤ 65536) = true := decide_eq_true (by omega)
  have d1' : ((s.size : Int) ≤ 65536) := by omega
  clear hqW hN hD hN' hD' hbW hR
  go_enter Tryz.func37, Tryz.ntmps37
  go_upto_region 1 with fail
  rw [← hW]
  clear hW
  go_wp2_with fail
  refine Calls.mono kN.out ?_
  clear kN
  rintro e w1 ⟨L, rfl, hL, hb1⟩
  have hL8 := bits_le16 hL hh.out.1
  have e1 : decide ((L : Int) ≤ 8192) = true := decide_eq_true (by omega)
  have e1' : ((L : Int) ≤ 8192) := by omega
  have hb1h : Hid (Below W.heap.size W w1) := hb1
  have kD : Hid (Calls Tryz.prog 82 #[.agg #[.bool m2, .slice b2 k2 d2]] w1 _) := rBits_num (hDW.out.next hb1) (by omega)
  replace p5 := keep_cell hb1 p5
  replace p6 := keep_cell hb1 p6
  clear hb1 hL8 hL
  go_wp2_with fail
  refine Calls.mono kD.out ?_
  clear kD
  rintro e w2 ⟨M, rfl, hM, hb2⟩
  have hM8 := bits_le16 hM hh.out.2.1
  have e2 : decide ((M : Int) ≤ 8192) = true := decide_eq_true (by omega)
  have e2' : ((M : Int) ≤ 8192) := by omega
  have hb2h : Hid (Below w1.heap.size w1 w2) := hb2
  clear hb2 hM8 hM
  go_wp2
  exact bodyPost_ret (v := .bool true) (by simp [results, Tryz.results37, go_sem]) rfl ⟨rfl, bthen hh.out.2.2 (bthen hb1h.out hb2h.out)⟩
/-- A constant of the second road: its kind, its truth, its text, its fraction in lowest terms (of other kinds 0 / 0). -/
def FromIs (k : Int) (b : Bool) (s : ByteArray) (n1 : Bool) (l1 : Nat) (n2 : Bool) (l2 : Nat) (n d : Int) (w : World) (v : Value) (B : Bool) : Prop :=
  ∃ (k' : Int) (b' : Bool) (s' : ByteArray) (m1 : Bool) (b1 : Option Addr) (k1 d1 : Nat) (m2 : Bool) (b2 : Option Addr) (k2 d2 : Nat) (p q : Int), v = .agg #[.int .i64 k', .bool b', .string s', .bool m1, .slice b1 k1 d1, .bool m2, .slice b2 k2 d2] ∧ RatR w (.agg #[.bool m1, .slice b1 k1 d1, .bool m2, .slice b2 k2 d2]) p q 303 ∧ s'.size ≤ s.size ∧
    (((k = 3 ∨ k = 4) ∧ k' = k ∧ b' = false ∧ s' = ⟨#[]⟩ ∧ Low (pN n d) (pD d) p q ∧ B = (!b && decide (s.size = 0) && (decide (k = 4) || decide (q = 1)))) ∨
     (k = 1 ∧ k' = 1 ∧ b' = b ∧ s' = ⟨#[]⟩ ∧ p = 0 ∧ q = 0 ∧ B = (decide (s.size = 0) && (decide (l1 = 0) && decide (l2 = 0) && !n1 && !n2))) ∨
     (k = 2 ∧ k' = 2 ∧ b' = false ∧ s' = s ∧ p = 0 ∧ q = 0 ∧ B = (!b && (decide (l1 = 0) && decide (l2 = 0) && !n1 && !n2))) ∨
     (k ≠ 1 ∧ k ≠ 2 ∧ k ≠ 3 ∧ k ≠ 4 ∧ k' = 0 ∧ b' = false ∧ s' = ⟨#[]⟩ ∧ p = 0 ∧ q = 0 ∧ B = false))
theorem FromIs.next {k : Int} {b : Bool} {s : ByteArray} {n1 : Bool} {l1 : Nat} {n2 : Bool} {l2 : Nat} {n d : Int} {w w' : World} {v : Value} {B : Bool} (h : FromIs k b s n1 l1 n2 l2 n d w v B) (hb : Below w.heap.size w w') : FromIs k b s n1 l1 n2 l2 n d w' v B := by
  obtain ⟨k', b', s', m1, b1, k1, d1, m2, b2, k2, d2, p, q, e, hR, r⟩ := h
  exact ⟨k', b', s', m1, b1, k1, d1, m2, b2, k2, d2, p, q, e, hR.next hb, r⟩
theorem FromIs.put7 {k : Int} {b : Bool} {s : ByteArray} {n1 : Bool} {l1 : Nat} {n2 : Bool} {l2 : Nat} {n d : Int} {w : World} {v : Value} {B : Bool} {g : Nat} {v0 v1 v2 v3 v4 v5 v6 : Value} (h : FromIs k b s n1 l1 n2 l2 n d w v B) (hz : ZBox w g) : FromIs k b s n1 l1 n2 l2 n d (put7 w g v0 v1 v2 v3 v4 v5 v6) v B := by
  obtain ⟨k', b', s', m1, b1, k1, d1, m2, b2, k2, d2, p, q, e, hR, r⟩ := h
  exact ⟨k', b', s', m1, b1, k1, d1, m2, b2, k2, d2, p, q, e, hR.put7 hz, r⟩
end Go.Proofs.YtclokcoimdjaeaaGreatDoor
