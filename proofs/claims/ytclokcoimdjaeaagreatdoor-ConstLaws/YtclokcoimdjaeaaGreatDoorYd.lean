/- constants: the second road takes a constant over, whatever its kind. -/
import Derived.Test.YtclokcoimdjaeaaGreatDoorYbm
import Derived.Test.YtclokcoimdjaeaaGreatDoorQx
import Derived.Test.YtclokcoimdjaeaaGreatDoorQy
namespace Go.Proofs.YtclokcoimdjaeaaGreatDoor
open Go.RowKit Go.Shelf Go.Lib
attribute [local go_sem ↓] Go.wp_at_zero Go.wp_at_succ
theorem Rint.bound {w : World} {v : Value} {z : Int} {m : Nat} (h : Rint w v z m) : (z.natAbs : Int) < 65536 ^ m := by
  obtain ⟨neg, a, cap, ds, hv, hr, hn, he, hl⟩ := h
  have h1 := val_lt (B := 65536) (by decide) hr.words
  have h2 := pow_mono (B := 65536) (by decide) hl
  have h3 := val_nonneg (B := 65536) (by decide) hr.words
  have h4 : (z.natAbs : Int) = Go.Proofs.YtclokcoimdjaeaaGreatDoor.val 65536 ds := by subst he; cases neg <;> simp [Go.Proofs.YtclokcoimdjaeaaGreatDoor.num] <;> omega
  omega
theorem bits_le16 {y : Int} {L m : Nat} (hb : HasBits (y.natAbs : Int) L) (h : (y.natAbs : Int) < 65536 ^ m) : L ≤ 16 * m := by
  rcases hb.2 with h0 | h0
  · omega
  · by_cases hc : L ≤ 16 * m
    · exact hc
    · have h1 : (2 : Int) ^ (16 * m) ≤ 2 ^ (L - 1) := pow_mono (B := 2) (by decide) (by omega)
      rw [show (65536 : Int) = 2 ^ 16 from by decide, ← Int.pow_mul] at h
      omega
/-- The second road's rounding: units, their exponent, no infinity. -/
theorem ratR_nil (w : World) (m : Nat) : RatR w (.agg #[.bool false, .slice none 0 0, .bool false, .slice none 0 0]) 0 0 m := ⟨_, _, _, _, _, _, _, _, rfl, ⟨false, none, 0, [], rfl, Row.empty _ _ _, ⟨trivial, fun h => by cases h⟩, rfl, Nat.zero_le _⟩, ⟨false, none, 0, [], rfl, Row.empty _ _ _, ⟨trivial, fun h => by cases h⟩, rfl, Nat.zero_le _⟩⟩
set_option maxRecDepth 20000 in
set_option maxHeartbeats 2000000 in
theorem small37_any {w : World} {k : Int} {b : Bool} {s : ByteArray} {m1 : Bool} {b1 : Option Addr} {k1 d1 : Nat} {m2 : Bool} {b2 : Option Addr} {k2 d2 : Nat} {p q : Int} {m : Nat} (hR : RatR w (.agg #[.bool m1, .slice b1 k1 d1, .bool m2, .slice b2 k2 d2]) p q m) (hm : m ≤ 500) (hs : s.size ≤ 65536) :
    Calls Tryz.prog 37 #[.agg #[.int .i64 k, .bool b, .string s, .bool m1, .slice b1 k1 d1, .bool m2, .slice b2 k2 d2]] w fun e w' => e = .returned (.bool true) ∧ Below w.heap.size w w' := by
  obtain ⟨W, hW⟩ : ∃ W, W = w.alloc (.cells #[.int .i64 k, .bool b, .string s, .bool m1, .slice b1 k1 d1, .bool m2, .slice b2 k2 d2] 42) := ⟨_, rfl⟩
  have hbW : Below w.heap.size w W := by rw [hW]; exact (Below.refl _ _).alloc (Nat.le_refl _) _
  have hqW : W.heap[w.heap.size]? = some (.cells #[.int .i64 k, .bool b, .string s, .bool m1, .slice b1 k1 d1, .bool m2, .slice b2 k2 d2] 42 (0, 0)) := by rw [hW]; exact newAt _ _
  obtain ⟨⟨p0, p1, p2, p3, p4, p5, p6⟩, _, _⟩ := cells7 hqW
  obtain ⟨hN, hD⟩ := hR.parts
  have hN' := hN.bound
  have hD' := hD.bound
  have kN : Hid (Calls Tryz.prog 82 #[.agg #[.bool m1, .slice b1 k1 d1]] W _) := rBits_num (hN.next hbW) (by omega)
  have hDW : Hid (Rint W (.agg #[.bool m2, .slice b2 k2 d2]) q m) := hD.next hbW
  have hh : Hid ((p.natAbs : Int) < 65536 ^ m ∧ (q.natAbs : Int) < 65536 ^ m ∧ Below w.heap.size w W) := ⟨hN', hD', hbW⟩
  have d1 : decide ((s.size : Int) ≤ 65536) = true := decide_eq_true (by omega)
  have d1' : ((s.size : Int) ≤ 65536) := by omega
  clear hqW hN hD hN' hD' hbW hR
  go_enter Tryz.func37, Tryz.ntmps37
  go_upto_region 1 with fail
  rw [← hW]
  clear hW
  go_wp2_with fail
  refine Calls.mono kN.out ?_
  clear kN
  rintro e w1 ⟨L, rfl, hL, hb1⟩
  have hL8 := bits_le16 hL hh.out.1
  have e1 : decide ((L : Int) ≤ 8192) = true := decide_eq_true (by omega)
  have e1' : ((L : Int) ≤ 8192) := by omega
  have hb1h : Hid (Below W.heap.size W w1) := hb1
  have kD : Hid (Calls Tryz.prog 82 #[.agg #[.bool m2, .slice b2 k2 d2]] w1 _) := rBits_num (hDW.out.next hb1) (by omega)
  replace p5 := keep_cell hb1 p5
  replace p6 := keep_cell hb1 p6
  clear hb1 hL8 hL
  go_wp2_with fail
  refine Calls.mono kD.out ?_
  clear kD
  rintro e w2 ⟨M, rfl, hM, hb2⟩
  have hM8 := bits_le16 hM hh.out.2.1
  have e2 : decide ((M : Int) ≤ 8192) = true := decide_eq_true (by omega)
  have e2' : ((M : Int) ≤ 8192) := by omega
  have hb2h : Hid (Below w1.heap.size w1 w2) := hb2
  clear hb2 hM8 hM
  go_wp2
  exact bodyPost_ret (v := .bool true) (by simp [results, Tryz.results37, go_sem]) rfl ⟨rfl, bthen hh.out.2.2 (bthen hb1h.out hb2h.out)⟩
/-- A constant of the second road: its kind, its truth, its text, its fraction in lowest terms (of other kinds 0 / 0). -/
def FromIs (k : Int) (b : Bool) (s : ByteArray) (n1 : Bool) (l1 : Nat) (n2 : Bool) (l2 : Nat) (n d : Int) (w : World) (v : Value) (B : Bool) : Prop :=
  ∃ (k' : Int) (b' : Bool) (s' : ByteArray) (m1 : Bool) (b1 : Option Addr) (k1 d1 : Nat) (m2 : Bool) (b2 : Option Addr) (k2 d2 : Nat) (p q : Int), v = .agg #[.int .i64 k', .bool b', .string s', .bool m1, .slice b1 k1 d1, .bool m2, .slice b2 k2 d2] ∧ RatR w (.agg #[.bool m1, .slice b1 k1 d1, .bool m2, .slice b2 k2 d2]) p q 303 ∧ s'.size ≤ s.size ∧
    (((k = 3 ∨ k = 4) ∧ k' = k ∧ b' = false ∧ s' = ⟨#[]⟩ ∧ Low (pN n d) (pD d) p q ∧ B = (!b && decide (s.size = 0) && (decide (k = 4) || decide (q = 1)))) ∨
     (k = 1 ∧ k' = 1 ∧ b' = b ∧ s' = ⟨#[]⟩ ∧ p = 0 ∧ q = 0 ∧ B = (decide (s.size = 0) && (decide (l1 = 0) && decide (l2 = 0) && !n1 && !n2))) ∨
     (k = 2 ∧ k' = 2 ∧ b' = false ∧ s' = s ∧ p = 0 ∧ q = 0 ∧ B = (!b && (decide (l1 = 0) && decide (l2 = 0) && !n1 && !n2))) ∨
     (k ≠ 1 ∧ k ≠ 2 ∧ k ≠ 3 ∧ k ≠ 4 ∧ k' = 0 ∧ b' = false ∧ s' = ⟨#[]⟩ ∧ p = 0 ∧ q = 0 ∧ B = false))
theorem FromIs.next {k : Int} {b : Bool} {s : ByteArray} {n1 : Bool} {l1 : Nat} {n2 : Bool} {l2 : Nat} {n d : Int} {w w' : World} {v : Value} {B : Bool} (h : FromIs k b s n1 l1 n2 l2 n d w v B) (hb : Below w.heap.size w w') : FromIs k b s n1 l1 n2 l2 n d w' v B := by
  obtain ⟨k', b', s', m1, b1, k1, d1, m2, b2, k2, d2, p, q, e, hR, r⟩ := h
  exact ⟨k', b', s', m1, b1, k1, d1, m2, b2, k2, d2, p, q, e, hR.next hb, r⟩
theorem FromIs.put7 {k : Int} {b : Bool} {s : ByteArray} {n1 : Bool} {l1 : Nat} {n2 : Bool} {l2 : Nat} {n d : Int} {w : World} {v : Value} {B : Bool} {g : Nat} {v0 v1 v2 v3 v4 v5 v6 : Value} (h : FromIs k b s n1 l1 n2 l2 n d w v B) (hz : ZBox w g) : FromIs k b s n1 l1 n2 l2 n d (put7 w g v0 v1 v2 v3 v4 v5 v6) v B := by
  obtain ⟨k', b', s', m1, b1, k1, d1, m2, b2, k2, d2, p, q, e, hR, r⟩ := h
  exact ⟨k', b', s', m1, b1, k1, d1, m2, b2, k2, d2, p, q, e, hR.put7 hz, r⟩
theorem from_any {w : World} (k : Int) (b : Bool) (s : ByteArray) {n1 : Bool} {a1 : Option Addr} {l1 c1 : Nat} {n2 : Bool} {a2 : Option Addr} {l2 c2 : Nat} {n d : Int} {m : Nat} (hv : Frac w (.agg #[.bool n1, .slice a1 l1 c1, .bool n2, .slice a2 l2 c2]) n d m) (hm : m ≤ 150) :
    Calls Tryz.prog 40 #[.agg #[.int .i64 k, .bool b, .string s, .bool n1, .slice a1 l1 c1, .bool n2, .slice a2 l2 c2]] w fun e w' => ∃ v B, e = .returned (.tuple #[v, .bool B]) ∧ FromIs k b s n1 l1 n2 l2 n d w' v B ∧ Below w.heap.size w w' := by
  by_cases h3 : k = 3
  · subst h3
    refine (from_num3 b s hv hm).mono ?_
    rintro e w' ⟨m1, b1, k1, d1, m2, b2, k2, d2, p, q, B, rfl, hR, hl, hB, hb⟩
    exact ⟨_, B, rfl, ⟨3, false, ⟨#[]⟩, m1, b1, k1, d1, m2, b2, k2, d2, p, q, rfl, hR.more (by omega), Nat.zero_le _, .inl ⟨.inl rfl, rfl, rfl, rfl, hl, hB⟩⟩, hb⟩
  by_cases h4 : k = 4
  · subst h4
    refine (from_num4 b s hv hm).mono ?_
    rintro e w' ⟨m1, b1, k1, d1, m2, b2, k2, d2, p, q, B, rfl, hR, hl, hB, hb⟩
    exact ⟨_, B, rfl, ⟨4, false, ⟨#[]⟩, m1, b1, k1, d1, m2, b2, k2, d2, p, q, rfl, hR.more (by omega), Nat.zero_le _, .inl ⟨.inr rfl, rfl, rfl, rfl, hl, hB⟩⟩, hb⟩
  by_cases h1 : k = 1
  · subst h1
    by_cases hs : s.size = 0
    · obtain rfl : s = ⟨#[]⟩ := bytes_empty hs
      refine (from_bool w b n1 a1 l1 c1 n2 a2 l2 c2 _ rfl).mono ?_
      rintro e w' ⟨rfl, hb⟩
      exact ⟨_, _, rfl, ⟨1, b, ⟨#[]⟩, _, _, _, _, _, _, _, _, 0, 0, rfl, ratR_nil _ _, Nat.zero_le _, .inr (.inl ⟨rfl, rfl, rfl, rfl, rfl, rfl, rfl⟩)⟩, hb⟩
    · refine (from_bool_no w b s n1 a1 l1 c1 n2 a2 l2 c2 hs).mono ?_
      rintro e w' ⟨rfl, hb⟩
      exact ⟨_, _, rfl, ⟨1, b, ⟨#[]⟩, _, _, _, _, _, _, _, _, 0, 0, rfl, ratR_nil _ _, Nat.zero_le _, .inr (.inl ⟨rfl, rfl, rfl, rfl, rfl, rfl, by simp [hs]⟩)⟩, hb⟩
  by_cases h2 : k = 2
  · subst h2
    cases b with
    | true =>
      refine (from_str_no w s n1 a1 l1 c1 n2 a2 l2 c2).mono ?_
      rintro e w' ⟨rfl, hb⟩
      exact ⟨_, _, rfl, ⟨2, false, s, _, _, _, _, _, _, _, _, 0, 0, rfl, ratR_nil _ _, Nat.le_refl _, .inr (.inr (.inl ⟨rfl, rfl, rfl, rfl, rfl, rfl, by simp⟩))⟩, hb⟩
    | false =>
      refine (from_str w s n1 a1 l1 c1 n2 a2 l2 c2 _ rfl).mono ?_
      rintro e w' ⟨rfl, hb⟩
      exact ⟨_, _, rfl, ⟨2, false, s, _, _, _, _, _, _, _, _, 0, 0, rfl, ratR_nil _ _, Nat.le_refl _, .inr (.inr (.inl ⟨rfl, rfl, rfl, rfl, rfl, rfl, by simp⟩))⟩, hb⟩
  refine (from_other w k b s n1 a1 l1 c1 n2 a2 l2 c2 (by rw [beq_eq_false_iff_ne]; exact h1) (by rw [beq_eq_false_iff_ne]; exact h2) (by rw [beq_eq_false_iff_ne]; exact h3) (by rw [beq_eq_false_iff_ne]; exact h4)).mono ?_
  rintro e w' ⟨rfl, hb⟩
  exact ⟨_, _, rfl, ⟨0, false, ⟨#[]⟩, _, _, _, _, _, _, _, _, 0, 0, rfl, ratR_nil _ _, Nat.zero_le _, .inr (.inr (.inr ⟨h1, h2, h3, h4, rfl, rfl, rfl, rfl, rfl, rfl⟩))⟩, hb⟩
def FromRet (k : Int) (b : Bool) (s : ByteArray) (n1 : Bool) (l1 : Nat) (n2 : Bool) (l2 : Nat) (n d : Int) (w : World) (e : Ending) (w' : World) : Prop := ∃ v B, e = .returned (.tuple #[v, .bool B]) ∧ (∃ (k0 : Int) (b0 : Bool) (s0 : ByteArray) (m1 : Bool) (b1 : Option Addr) (k1 d1 : Nat) (m2 : Bool) (b2 : Option Addr) (k2 d2 : Nat), v = .agg #[.int .i64 k0, .bool b0, .string s0, .bool m1, .slice b1 k1 d1, .bool m2, .slice b2 k2 d2]) ∧ (B = true → FromIs k b s n1 l1 n2 l2 n d w' v true) ∧ (B = false → (∃ u, FromIs k b s n1 l1 n2 l2 n d w' u false) ∧ v = .agg #[.int .i64 0, .bool false, .string ⟨#[]⟩, .bool false, .slice none 0 0, .bool false, .slice none 0 0]) ∧ Below w.heap.size w w'
set_option maxRecDepth 20000 in
set_option maxHeartbeats 2000000 in
theorem From14_any {w : World} (k : Int) (b : Bool) (s : ByteArray) {n1 : Bool} {a1 : Option Addr} {l1 c1 : Nat} {n2 : Bool} {a2 : Option Addr} {l2 c2 : Nat} {n d : Int} {m : Nat} (hv : Frac w (.agg #[.bool n1, .slice a1 l1 c1, .bool n2, .slice a2 l2 c2]) n d m) (hm : m ≤ 150) (hs : s.size ≤ 65536) :
    Calls Tryz.prog 14 #[.agg #[.int .i64 k, .bool b, .string s, .bool n1, .slice a1 l1 c1, .bool n2, .slice a2 l2 c2]] w fun e w' => FromRet k b s n1 l1 n2 l2 n d w e w' := by
  obtain ⟨W, hW, hq0, hq1, hbW, hsz⟩ := two_new (w := w) (A := .cells #[.int .i64 k, .bool b, .string s, .bool n1, .slice a1 l1 c1, .bool n2, .slice a2 l2 c2] 32) (B := .cells #[.int .i64 0, .bool false, .string ⟨#[]⟩, .bool false, .slice none 0 0, .bool false, .slice none 0 0] 42)
  obtain ⟨⟨p0, p1, p2, p3, p4, p5, p6⟩, _, _⟩ := cells7 hq0
  have kA : Hid (Calls Tryz.prog 40 #[.agg #[.int .i64 k, .bool b, .string s, .bool n1, .slice a1 l1 c1, .bool n2, .slice a2 l2 c2]] W fun e w' => ∃ v B, e = .returned (.tuple #[v, .bool B]) ∧ FromIs k b s n1 l1 n2 l2 n d w' v B ∧ Below W.heap.size W w') := from_any k b s (hv.next hbW) hm
  have hall : Hid (Below w.heap.size w W ∧ W.heap.size = w.heap.size + 1 + 1 ∧ W.heap[w.heap.size + 1]? = some (.cells #[.int .i64 0, .bool false, .string ⟨#[]⟩, .bool false, .slice none 0 0, .bool false, .slice none 0 0] 42 (0, 0)) ∧ s.size ≤ 65536) := ⟨hbW, hsz, hq1, hs⟩
  clear hq0 hq1 hbW hsz hv hs
  go_enter Tryz.func14, Tryz.ntmps14
  go_upto_region 1 with fail
  rw [← hW]
  clear hW
  go_wp2_with fail
  refine Calls.mono kA.out ?_
  clear kA
  rintro e w1 ⟨v, B, rfl, hI, hb1⟩
  have hIh : Hid (FromIs k b s n1 l1 n2 l2 n d w1 v B) := hI
  obtain ⟨k', b', s', m1, b1, k1, d1, m2, b2, k2, d2, p, q, rfl, hR, hs', _⟩ := hI
  have hRh : Hid (RatR w1 (.agg #[.bool m1, .slice b1 k1 d1, .bool m2, .slice b2 k2 d2]) p q 303 ∧ s'.size ≤ s.size ∧ Below W.heap.size W w1) := ⟨hR, hs', hb1⟩
  clear hR hs' hb1
  obtain ⟨W2, hW2⟩ : ∃ W2, W2 = w1.alloc (.cells #[.int .i64 k', .bool b', .string s', .bool m1, .slice b1 k1 d1, .bool m2, .slice b2 k2 d2] 42) := ⟨_, rfl⟩
  have kk2 : Below w1.heap.size w1 W2 := by rw [hW2]; exact (Below.refl _ _).alloc (Nat.le_refl _) _
  have qC : W2.heap[w1.heap.size]? = some (.cells #[.int .i64 k', .bool b', .string s', .bool m1, .slice b1 k1 d1, .bool m2, .slice b2 k2 d2] 42 (0, 0)) := by rw [hW2]; exact newAt _ _
  have qR : W2.heap[w.heap.size + 1]? = some (.cells #[.int .i64 0, .bool false, .string ⟨#[]⟩, .bool false, .slice none 0 0, .bool false, .slice none 0 0] 42 (0, 0)) := (kk2.block _ (by have := hall.out.2.1; have := hRh.out.2.2.size; omega)).trans ((hRh.out.2.2.block _ (by have := hall.out.2.1; omega)).trans hall.out.2.2.1)
  have zz : Hid (Below w.heap.size w W2) := bthen hall.out.1 (bthen hRh.out.2.2 kk2)
  replace hIh : Hid (FromIs k b s n1 l1 n2 l2 n d W2 (.agg #[.int .i64 k', .bool b', .string s', .bool m1, .slice b1 k1 d1, .bool m2, .slice b2 k2 d2]) B) := FromIs.next hIh.out kk2
  replace hRh : Hid (RatR W2 (.agg #[.bool m1, .slice b1 k1 d1, .bool m2, .slice b2 k2 d2]) p q 303 ∧ s'.size ≤ 65536) := ⟨hRh.out.1.next kk2, Nat.le_trans hRh.out.2.1 hall.out.2.2.2⟩
  obtain ⟨⟨g0, g1, g2, g3, g4, g5, g6⟩, _, _⟩ := cells7 qC
  have qRh : Hid (W2.heap[w.heap.size + 1]? = some (.cells #[.int .i64 0, .bool false, .string ⟨#[]⟩, .bool false, .slice none 0 0, .bool false, .slice none 0 0] 42 (0, 0))) := qR
  clear kk2 qC qR
  go_upto_region 2 with fail
  rw [← hW2]
  clear hW2
  generalize w1.heap.size = pC at *
  cases B with
  | false =>
    obtain ⟨_, rf, _⟩ := cells7 qRh.out
    have rf0 := rf 0
    have rf1 := rf 1
    have rf2 := rf 2
    have rf3 := rf 3
    have rf4 := rf 4
    have rf5 := rf 5
    have rf6 := rf 6
    obtain ⟨W8, hW8⟩ : ∃ W8, W8 = put7 W2 (w.heap.size + 1) (.int .i64 0) (.bool false) (.string ⟨#[]⟩) (.bool false) (.slice none 0 0) (.bool false) (.slice none 0 0) := ⟨_, rfl⟩
    have hqW8 : Hid (W8.heap[w.heap.size + 1]? = some (.cells #[.int .i64 0, .bool false, .string ⟨#[]⟩, .bool false, .slice none 0 0, .bool false, .slice none 0 0] 42 (0, 0))) := by show _ = _; rw [hW8]; exact put7_at qRh.out
    have hBW8 : Hid (Below w.heap.size w W8 ∧ FromIs k b s n1 l1 n2 l2 n d W8 (.agg #[.int .i64 k', .bool b', .string s', .bool m1, .slice b1 k1 d1, .bool m2, .slice b2 k2 d2]) false) := by
      show _ ∧ _
      rw [hW8]
      exact ⟨put7_below zz.out (by omega), hIh.out.put7 ⟨_, _, _, _, _, _, _, _, _, _, _, qRh.out⟩⟩
    clear rf qRh
    go_wp2
    unfold put7 at hW8
    rw [← hW8]
    obtain ⟨⟨j0, j1, j2, j3, j4, j5, j6⟩, _, _⟩ := cells7 hqW8.out
    exact bodyPost_ret (v := .tuple #[.agg #[.int .i64 0, .bool false, .string ⟨#[]⟩, .bool false, .slice none 0 0, .bool false, .slice none 0 0], .bool false]) (by simp [results, Tryz.results14, go_sem, j0, j1, j2, j3, j4, j5, j6]) rfl ⟨_, _, rfl, ⟨_, _, _, _, _, _, _, _, _, _, _, rfl⟩, fun h => (by cases h), fun _ => ⟨⟨_, hBW8.out.2⟩, rfl⟩, hBW8.out.1⟩
  | true =>
    have kS : Hid (Calls Tryz.prog 37 #[.agg #[.int .i64 k', .bool b', .string s', .bool m1, .slice b1 k1 d1, .bool m2, .slice b2 k2 d2]] W2 _) := small37_any hRh.out.1 (by decide) hRh.out.2
    go_wp2_with fail
    refine Calls.mono kS.out ?_
    clear kS
    rintro e w3 ⟨rfl, hb3⟩
    replace g0 := keep_cell hb3 g0
    replace g1 := keep_cell hb3 g1
    replace g2 := keep_cell hb3 g2
    replace g3 := keep_cell hb3 g3
    replace g4 := keep_cell hb3 g4
    replace g5 := keep_cell hb3 g5
    replace g6 := keep_cell hb3 g6
    have q3 := (hb3.block _ (Array.getElem?_eq_some_iff.1 qRh.out).1).trans qRh.out
    obtain ⟨_, rf, _⟩ := cells7 q3
    have rf0 := rf 0
    have rf1 := rf 1
    have rf2 := rf 2
    have rf3 := rf 3
    have rf4 := rf 4
    have rf5 := rf 5
    have rf6 := rf 6
    obtain ⟨W8, hW8⟩ : ∃ W8, W8 = put7 w3 (w.heap.size + 1) (.int .i64 k') (.bool b') (.string s') (.bool m1) (.slice b1 k1 d1) (.bool m2) (.slice b2 k2 d2) := ⟨_, rfl⟩
    have hqW8 : Hid (W8.heap[w.heap.size + 1]? = some (.cells #[.int .i64 k', .bool b', .string s', .bool m1, .slice b1 k1 d1, .bool m2, .slice b2 k2 d2] 42 (0, 0))) := by show _ = _; rw [hW8]; exact put7_at q3
    have hBW8 : Hid (Below w.heap.size w W8 ∧ FromIs k b s n1 l1 n2 l2 n d W8 (.agg #[.int .i64 k', .bool b', .string s', .bool m1, .slice b1 k1 d1, .bool m2, .slice b2 k2 d2]) true) := by
      show _ ∧ _
      rw [hW8]
      exact ⟨put7_below (bthen zz.out hb3) (by omega), (hIh.out.next hb3).put7 ⟨_, _, _, _, _, _, _, _, _, _, _, q3⟩⟩
    clear rf qRh q3 hb3
    go_wp2
    unfold put7 at hW8
    rw [← hW8]
    obtain ⟨⟨j0, j1, j2, j3, j4, j5, j6⟩, _, _⟩ := cells7 hqW8.out
    exact bodyPost_ret (v := .tuple #[.agg #[.int .i64 k', .bool b', .string s', .bool m1, .slice b1 k1 d1, .bool m2, .slice b2 k2 d2], .bool true]) (by simp [results, Tryz.results14, go_sem, j0, j1, j2, j3, j4, j5, j6]) rfl ⟨_, _, rfl, ⟨_, _, _, _, _, _, _, _, _, _, _, rfl⟩, fun _ => hBW8.out.2, fun h => (by cases h), hBW8.out.1⟩
end Go.Proofs.YtclokcoimdjaeaaGreatDoor
