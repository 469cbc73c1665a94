/- the second road: Number, those with a point or an exponent. -/
import Derived.Test.YthiiglhecajhbaaGreatOgm
import Derived.Deep.CutRange
import Derived.Deep.CutBlock
import Derived.Deep.RegionWith
namespace Go.Proofs.YthiiglhecajhbaaGreat
namespace Nn
open Go.RowKit
attribute [local go_sem ↓] Go.wp_at_zero Go.wp_at_succ
theorem drop_at (s : ByteArray) {k : Nat} (h : k < s.size) : s.toList.drop k = s[k] :: s.toList.drop (k + 1) := by
  rw [ByteArray.toList_eq]
  have h' : k < s.data.toList.length := by simpa using h
  rw [List.drop_eq_getElem_cons h']
  congr 1
theorem drop_end (s : ByteArray) {k : Nat} (h : s.size ≤ k) : s.toList.drop k = [] := by
  apply List.drop_eq_nil_of_le
  rw [toList_len]
  exact h
theorem hor_step16 {h b d : Int} {k : Nat} (h0 : 0 ≤ h) (h1 : h < 65536 ^ k) (hb0 : 2 ≤ b) (hb1 : b ≤ 16) (hd0 : 0 ≤ d) (hd1 : d < b) : 0 ≤ h * b + d ∧ h * b + d < 65536 ^ (k + 1) := hor_step h0 h1 hb0 hb1 hd0 hd1
/-- The mantissa's box, and what lies beside it. -/
def BoxAt (b11 b2 : Nat) (w : World) (v : Int) (wr : World) : Prop :=
  ∃ (m : Bool) (a : Option Addr) (l c : Nat), wr.cell? ⟨b11, 0, none⟩ = some (.bool m) ∧ wr.cell? ⟨b11, 1, none⟩ = some (.slice a l c) ∧ Rint wr (.agg #[.bool m, .slice a l c]) v 61 ∧ Box2 wr b11 ∧ Box4 wr b2 ∧ Below w.heap.size w wr
def MantAt (b11 b2 : Nat) (B : Int) (R : ByteArray) (w : World) (V : Int) (N : Nat) (tl : List UInt8) (nb pt i : Value) (wr : World) : Prop :=
  ∃ (k n : Nat) (pb : Bool) (v : Int), k ≤ R.size ∧ nb = .int .i64 n ∧ pt = .bool pb ∧ i = .int .i64 k ∧ n ≤ k ∧ Hid (mantGo B pb (R.toList.drop k) v n = (V, N, tl)) ∧ Hid (0 ≤ v ∧ v < 65536 ^ k) ∧ BoxAt b11 b2 w v wr
def MantEnd (b11 b2 : Nat) (R : ByteArray) (w : World) (V : Int) (N : Nat) (tl : List UInt8) (nb i : Value) (wr : World) : Prop :=
  ∃ k : Nat, k ≤ R.size ∧ i = .int .i64 k ∧ nb = .int .i64 N ∧ N ≤ k ∧ R.toList.drop k = tl ∧ BoxAt b11 b2 w V wr
theorem tight61 {w : World} {v : Value} {z : Int} {n k : Nat} (h : Rint w v z n) (hz : 0 ≤ z ∧ z < 65536 ^ k) (hk : k ≤ 61) : Rint w v z 61 := (h.tight (m := k) (by omega)).mono hk
def expF (e : Int) (c : UInt8) : Int := if isDigitB (c.toNat : Int) = true then 10 * e + ((c.toNat : Int) - 48) else e
theorem expV_def (x : List UInt8) : expV x = x.foldl expF 0 := rfl
theorem expF_mono (l : List UInt8) : ∀ a : Int, 0 ≤ a → a ≤ l.foldl expF a := by
  induction l with
  | nil => intro a _; exact Int.le_refl _
  | cons c l ih =>
    intro a ha
    rw [List.foldl_cons]
    have h1 : a ≤ expF a c := by
      unfold expF
      split
      · rename_i h
        unfold isDigitB at h
        have := of_decide_eq_true h
        omega
      · exact Int.le_refl _
    exact Int.le_trans h1 (ih _ (by omega))
def ExpIs (tl : List UInt8) (E : Int) : Prop := (tl = [] ∧ E = 0) ∨ (∃ c X, tl = c :: X ∧ X ≠ [] ∧ expV X ≤ 999 ∧ E = if byteAt X 0 = 45 then -expV X else expV X)
theorem ExpIs.rng {tl : List UInt8} {E : Int} (h : ExpIs tl E) : -999 ≤ E ∧ E ≤ 999 := by
  rcases h with ⟨_, rfl⟩ | ⟨c, X, _, _, h, rfl⟩
  · decide
  · have := expF_mono X 0 (Int.le_refl _)
    rw [← expV_def] at this
    split <;> omega
/-- The mantissa and the radix in their boxes. -/
def EndAt (b11 b19 b2 : Nat) (w : World) (V rr : Int) (wr : World) : Prop :=
  BoxAt b11 b2 w V wr ∧ ∃ (m : Bool) (a : Option Addr) (l c : Nat), wr.cell? ⟨b19, 0, none⟩ = some (.bool m) ∧ wr.cell? ⟨b19, 1, none⟩ = some (.slice a l c) ∧ Rint wr (.agg #[.bool m, .slice a l c]) rr 1
def FloatIs (w' : World) (t : Value) (V rr Q : Int) : Prop := ∃ p q, RatR w' t p q 400 ∧ ((0 ≤ Q ∧ p = V * rr ^ Q.toNat ∧ q = 1) ∨ (Q < 0 ∧ Low V (rr ^ (-Q).toNat) p q))
theorem BoxAt.next {b11 b2 : Nat} {w wr w' : World} {V : Int} (h : BoxAt b11 b2 w V wr) (hb : Below wr.heap.size wr w') : BoxAt b11 b2 w V w' := by
  obtain ⟨m, a, l, c, h0, h1, h2, h3, h4, h5⟩ := h
  exact ⟨m, a, l, c, keep_cell hb h0, keep_cell hb h1, h2.next hb, h3.next hb, h4.next hb, bthen h5 hb⟩
theorem low_rr {rr : Int} (h : rr = 10 ∨ rr = 2) (n : Nat) : 0 < rr ^ n := Int.pow_pos (by omega)
theorem pN_pos {y z : Int} (hz : 0 < z) : pN y z = y ∧ pD z = z := by
  unfold pN pD
  exact ⟨by rw [if_neg (by omega)], by rw [if_neg (by omega), if_neg (by omega)]⟩
theorem tight1 {w : World} {v : Value} {z : Int} {n : Nat} (h : Rint w v z n) (h0 : 0 ≤ z) (h1 : z < 65536) : Rint w v z 1 := h.tight (by rw [Int.pow_succ, Int.pow_zero]; omega)
theorem rPower_q {w : World} {u : Value} (r : Int) (n : Nat) (hu : Rint w u r 1) (hr0 : 2 ≤ r) (hr1 : r ≤ 16) (hn : n ≤ 1300) (Q : Int) (hQ : Q = (n : Int)) :
    Calls Tryz.prog 71 #[u, .int .i64 Q] w fun e w' => ∃ v, e = .returned v ∧ Rint w' v (r ^ n) 330 ∧ Below w.heap.size w w' := by
  rw [hQ]
  exact rPower_num r n hu hr0 hr1 hn
set_option maxRecDepth 20000 in
set_option maxHeartbeats 16000000 in
theorem Number_float (s : ByteArray) (w : World) (hs : s.size ≤ 60) (ha : acc2 s.toList) (hK : (numberM s.toList).1 = 3) (B : Int) (R : ByteArray) (hB0 : baseI s = B) (hR0 : restS s = R) (rr : Int) (hBr0 : (B = 10 ∧ rr = 10) ∨ (B = 16 ∧ rr = 2)) (V : Int) (N : Nat) (tl : List UInt8) (hmant : mantGo B false R.toList 0 0 = (V, N, tl)) (E : Int) (hE0 : ExpIs tl E) (Q : Int) (hQe0 : Q = E - (if B = 16 then 4 * (N : Int) else (N : Int))) : Calls Tryz.prog 34 #[.string s] w fun e w' => ∃ t, e = .returned (.tuple #[t, .bool true]) ∧ FloatIs w' t V rr Q ∧ Below w.heap.size w w' := by
  have hBr : Hid _ := hBr0
  have hE : Hid (ExpIs tl E) := hE0
  have hQe1 : Hid _ := hQe0
  have hB16 : 2 ≤ B ∧ B ≤ 16 := by omega
  clear hBr0 hE0 hQe0
  have hBe : Hid _ := hB0
  have hRe : Hid _ := hR0
  clear hB0 hR0
  have hNs : (numberM s.toList).2 = s.size := by have := ha.2.2; rw [toList_len] at this; exact this
  have hF := ha.2.1
  have he := ha.1
  have p0 : 0 < s.size := by rw [← toList_len]; exact List.length_pos_iff.2 he
  have hpl : 0 < s.toList.length := by rw [toList_len]; exact p0
  have d0 : (s.toList == []) = false := by simpa using he
  have d0' : s.toList.isEmpty = false := by simpa using he
  have hC0 : byteAt s.toList 0 = ((s[0]'p0).toNat : Int) := byteAt_lt s p0
  have kd0 : Hid _ := fun w => digit_any (s[0]'p0).toNat w
  have kd1 : Hid _ := fun w => digit_any (s.toList.getD 1 0).toNat w
  have hdgc : Hid ((isDigitB ((s[0]'p0).toNat : Int) = true ∧ (((s[0]'p0).toNat : Int) == 46) = false) ∨ (isDigitB ((s[0]'p0).toNat : Int) = false ∧ (s[0]'p0).toNat = 46 ∧ isDigitB ((s.toList.getD 1 0).toNat : Int) = true)) := by
    rcases hF with h | ⟨h1, h2⟩
    · left
      rw [hC0] at h
      refine ⟨h, ?_⟩
      unfold isDigitB at h
      have := of_decide_eq_true h
      rw [beq_eq_false_iff_ne]; omega
    · right
      rw [hC0] at h1
      refine ⟨by rw [h1]; rfl, by omega, ?_⟩
      rcases atv s.toList 1 with h | h
      · rw [h]; exact h2
      · rw [h.1] at h2; exact absurd h2 (by decide)
  clear ha hF he hC0
  have x0 := Box4.new w false none 0 0 false none 0 0 34 (by decide)
  have hbW : Below w.heap.size w (w.alloc (.cells #[.bool false, .slice none 0 0, .bool false, .slice none 0 0] 34)) := (Below.refl _ _).alloc (Nat.le_refl _) _
  obtain ⟨W, hW⟩ : ∃ W, W = w.alloc (.cells #[.bool false, .slice none 0 0, .bool false, .slice none 0 0] 34) := ⟨_, rfl⟩
  have hlt : w.heap.size < W.heap.size := by rw [hW]; simp
  rw [← hW] at x0 hbW
  have kZ : Hid _ := rWhole_num (Rint.zero W 1)
  go_enter Tryz.func34, Tryz.ntmps34
  go_upto_region 1 with fail
  rw [← hW]
  clear hW
  go_wp2_with fail
  refine Calls.mono kZ.out ?_
  rintro e w1 ⟨tz, rfl, hZ, b1⟩
  clear kZ
  obtain ⟨zn1, za1, zl1, zc1, zn2, za2, zl2, zc2, rfl⟩ := ratR_form hZ
  obtain ⟨W1, hW1⟩ : ∃ W1, W1 = w1.alloc (.cells #[.bool zn1, .slice za1 zl1 zc1, .bool zn2, .slice za2 zl2 zc2] 34) := ⟨_, rfl⟩
  have bW1 : Below w1.heap.size w1 W1 := by rw [hW1]; exact (Below.refl _ _).alloc (Nat.le_refl _) _
  have hz1 : ZeroAt w1.heap.size W1 := ⟨zn1, za1, zl1, zc1, zn2, za2, zl2, zc2, by rw [hW1]; simp [go_sem], by rw [hW1]; simp [go_sem], by rw [hW1]; simp [go_sem], by rw [hW1]; simp [go_sem], hZ.next bW1⟩
  have hB1 := bthen b1 bW1
  have hlt1 : w.heap.size < w1.heap.size := by have := b1.size; omega
  go_upto_region 2 with fail
  rw [← hW1]
  clear hW1 hZ
  obtain ⟨b4, hb4⟩ : ∃ b4, b4 = w1.heap.size := ⟨_, rfl⟩
  rw [← hb4] at hz1 ⊢
  have hb4n : w.heap.size ≠ b4 := by omega
  clear hb4 hlt1 bW1 b1
  have hcv := Lib.run_convert_string_bytes (P := Tryz.prog) W1 9 99 5 s (u := .string) Tryz.underlying9 Tryz.underlying99 Tryz.underlying5
  have hbw := Lib.bytesWorld_below W1 5 s
  have hBy0 : BytesAt (Lib.bytesWorld W1 5 s) ⟨W1.heap.size, 0, none⟩ s.toList := by
    intro j hj
    rw [toList_len] at hj
    have := Lib.bytesWorld_cell W1 5 s j hj
    rw [ByteArray.toList_eq]
    rw [show (⟨W1.heap.size, 0, none⟩ : Addr).add j = ⟨W1.heap.size, j, none⟩ by unfold Addr.add; split <;> simp_all]
    exact this
  generalize Lib.bytesWorld W1 5 s = W2 at *
  generalize grownCap W1 s.size 0 5 = cap at *
  generalize (⟨W1.heap.size, 0, none⟩ : Addr) = ad at *
  have hBy : Hid _ := hBy0
  clear hBy0
  go_cut [34] from 22 (fun t wc => t = .bool false ∧ wc = W1)
  case first =>
    rcases hdgc.out with ⟨hd, e46⟩ | ⟨hd, h46, hd1⟩
    · rw [hd] at kd0
      clear hdgc hd
      go_wp2_with fail
      refine Calls.mono (kd0.out _) ?_
      rintro e w2 ⟨rfl, hw2⟩
      rw [hw2]
      clear hw2 w2
      go_wp2_with fail
      go_meet
      case rel => exact ⟨rfl, rfl⟩
    · rw [hd] at kd0
      have e46 : (((s[0]'p0).toNat : Int) == 46) = true := by rw [h46]; rfl
      have e46' : (((s[0]'p0).toNat : Int) != 46) = false := by rw [h46]; rfl
      clear hdgc hd h46 hd1
      go_wp2_with fail
      refine Calls.mono (kd0.out _) ?_
      rintro e w2 ⟨rfl, hw2⟩
      rw [hw2]
      clear hw2 w2
      go_wp2_with fail
      go_meet
      case rel => exact ⟨rfl, rfl⟩
  case rest =>
    obtain ⟨rfl, hwc⟩ := hcut
    rw [hwc]
    clear hwc wc kd0
    go_upto_region 5 with fail
    go_cut [46] from 38 (fun t wc => t = .bool false ∧ wc = W2)
    case first =>
      rcases hdgc.out with ⟨hd, e46⟩ | ⟨hd, h46, hd1⟩
      · clear hdgc hd
        go_wp2_with fail
        go_meet
        case rel => exact ⟨rfl, rfl⟩
      · rw [hd1] at kd1
        have e46 : (((s[0]'p0).toNat : Int) == 46) = true := by rw [h46]; rfl
        have e46' : (((s[0]'p0).toNat : Int) != 46) = false := by rw [h46]; rfl
        have ka : Hid _ := at_any W2 ad cap 1 s.toList hBy.out (by decide) (by rw [toList_len]; omega)
        rw [toList_len] at ka
        clear hdgc hd h46 hd1
        go_wp2_with fail
        refine Calls.mono ka.out ?_
        rintro e w2 ⟨rfl, hw2⟩
        rw [hw2]
        clear hw2 w2
        go_wp2_with fail
        refine Calls.mono (kd1.out _) ?_
        rintro e w2 ⟨rfl, hw2⟩
        rw [hw2]
        clear hw2 w2
        go_wp2_with fail
        go_meet
        case rel => exact ⟨rfl, rfl⟩
    case rest =>
      obtain ⟨rfl, hwc⟩ := hcut
      rw [hwc]
      clear hwc wc
      clear hdgc kd1
      have kn : Hid _ := number_any W2 ad cap 0 s.toList hBy.out hpl (by rw [toList_len]; omega)
      rw [toList_len, List.drop_zero] at kn
      clear hBy
      go_wp2_with fail
      refine Calls.mono kn.out ?_
      rintro e w2 ⟨KK, rfl, hKK, hw2⟩
      rw [hw2]
      clear hw2 w2 kn
      rw [hNs] at hKK ⊢
      replace hKK := hKK (by omega)
      rw [hK] at hKK
      subst hKK
      clear hNs hK hpl
      obtain ⟨fl, hfl0⟩ : ∃ fl, fl = (decide ((s.size : Int) > 1) && (((s[0]'p0).toNat : Int) == 48)) := ⟨_, rfl⟩
      have hfb : Hid _ := hfl0
      clear hfl0
      go_upto_region 11 with fail
      go_cut [65] from 58 (fun t wc => t = .bool fl ∧ wc = W2)
      case first =>
        have hf2 := hfb.out
        cases hd1 : decide ((s.size : Int) > 1) with
        | false =>
          rw [hd1, Bool.false_and] at hf2
          replace hf2 : Hid _ := hf2
          go_wp2_with fail
          go_meet
          case rel => exact ⟨by rw [hf2.out], rfl⟩
        | true =>
          rw [hd1, Bool.true_and] at hf2
          cases he1 : (((s[0]'p0).toNat : Int) == 48) with
          | false =>
            rw [he1] at hf2
            replace hf2 : Hid _ := hf2
            go_wp2_with fail
            go_meet
            case rel => exact ⟨by rw [hf2.out], rfl⟩
          | true =>
            rw [he1] at hf2
            replace hf2 : Hid _ := hf2
            go_wp2_with fail
            go_meet
            case rel => exact ⟨by rw [hf2.out], rfl⟩
      case rest =>
        obtain ⟨rfl, hwc⟩ := hcut
        rw [hwc]
        clear hwc wc
        go_upto_if 65 with fail
        go_cut [8] from 65 (fun vb wc => vb = .int .i64 B ∧ wc = W2)
        case first =>
          by_cases hfl : fl = true
          · rw [hfl]
            have hf2 := hfb.out
            rw [hfl] at hf2
            have h2 : ¬ s.size < 2 := fun h => by simp at hf2; omega
            have p1 : 1 < s.size := by omega
            have p3 : (1 : Int) < (s.size : Int) := by omega
            have g0 : (s.get! 0).toNat = (s[0]'p0).toNat := by rw [get_bang s 0 p0]
            have g1 : (s.get! 1).toNat = (s[1]'p1).toNat := by rw [get_bang s 1 p1]
            have h48 : (s.get! 0).toNat = 48 := by simp at hf2; omega
            have hb : baseI s = if (s.get! 1).toNat = 120 ∨ (s.get! 1).toNat = 88 then 16 else if (s.get! 1).toNat = 111 ∨ (s.get! 1).toNat = 79 then 8 else if (s.get! 1).toNat = 98 ∨ (s.get! 1).toNat = 66 then 2 else 10 := by
              unfold baseI
              rw [if_neg (fun h => h.elim h2 (fun h => h h48))]
            rw [g1] at hb
            clear g0 g1 h48 hf2 hfb h2 hfl
            by_cases h120 : (s[1]'p1).toNat = 120
            · have e120 : (((s[1]'p1).toNat : Int) == 120) = true := by rw [h120]; rfl
              have hb2 : baseI s = 16 := by rw [hb]; repeat' (first | rw [if_pos (by omega)] | rw [if_neg (by omega)])
              replace hb : Hid _ := hb2
              clear hb2 h120
              go_wp2_with fail
              go_meet
              case rel => exact ⟨by rw [← hBe.out, hb.out], rfl⟩
            · skip
              by_cases h88 : (s[1]'p1).toNat = 88
              · have e88 : (((s[1]'p1).toNat : Int) == 88) = true := by rw [h88]; rfl
                have hb2 : baseI s = 16 := by rw [hb]; repeat' (first | rw [if_pos (by omega)] | rw [if_neg (by omega)])
                have e120 : (((s[1]'p1).toNat : Int) == 120) = false := by rw [beq_eq_false_iff_ne]; omega
                replace hb : Hid _ := hb2
                clear hb2 h120 h88
                go_wp2_with fail
                go_meet
                case rel => exact ⟨by rw [← hBe.out, hb.out], rfl⟩
              · skip
                by_cases h111 : (s[1]'p1).toNat = 111
                · have e111 : (((s[1]'p1).toNat : Int) == 111) = true := by rw [h111]; rfl
                  have hb2 : baseI s = 8 := by rw [hb]; repeat' (first | rw [if_pos (by omega)] | rw [if_neg (by omega)])
                  have e120 : (((s[1]'p1).toNat : Int) == 120) = false := by rw [beq_eq_false_iff_ne]; omega
                  have e88 : (((s[1]'p1).toNat : Int) == 88) = false := by rw [beq_eq_false_iff_ne]; omega
                  replace hb : Hid _ := hb2
                  clear hb2 h120 h88 h111
                  go_wp2_with fail
                  go_meet
                  case rel => exact ⟨by rw [← hBe.out, hb.out], rfl⟩
                · skip
                  by_cases h79 : (s[1]'p1).toNat = 79
                  · have e79 : (((s[1]'p1).toNat : Int) == 79) = true := by rw [h79]; rfl
                    have hb2 : baseI s = 8 := by rw [hb]; repeat' (first | rw [if_pos (by omega)] | rw [if_neg (by omega)])
                    have e120 : (((s[1]'p1).toNat : Int) == 120) = false := by rw [beq_eq_false_iff_ne]; omega
                    have e88 : (((s[1]'p1).toNat : Int) == 88) = false := by rw [beq_eq_false_iff_ne]; omega
                    have e111 : (((s[1]'p1).toNat : Int) == 111) = false := by rw [beq_eq_false_iff_ne]; omega
                    replace hb : Hid _ := hb2
                    clear hb2 h120 h88 h111 h79
                    go_wp2_with fail
                    go_meet
                    case rel => exact ⟨by rw [← hBe.out, hb.out], rfl⟩
                  · skip
                    by_cases h98 : (s[1]'p1).toNat = 98
                    · have e98 : (((s[1]'p1).toNat : Int) == 98) = true := by rw [h98]; rfl
                      have hb2 : baseI s = 2 := by rw [hb]; repeat' (first | rw [if_pos (by omega)] | rw [if_neg (by omega)])
                      have e120 : (((s[1]'p1).toNat : Int) == 120) = false := by rw [beq_eq_false_iff_ne]; omega
                      have e88 : (((s[1]'p1).toNat : Int) == 88) = false := by rw [beq_eq_false_iff_ne]; omega
                      have e111 : (((s[1]'p1).toNat : Int) == 111) = false := by rw [beq_eq_false_iff_ne]; omega
                      have e79 : (((s[1]'p1).toNat : Int) == 79) = false := by rw [beq_eq_false_iff_ne]; omega
                      replace hb : Hid _ := hb2
                      clear hb2 h120 h88 h111 h79 h98
                      go_wp2_with fail
                      go_meet
                      case rel => exact ⟨by rw [← hBe.out, hb.out], rfl⟩
                    · skip
                      by_cases h66 : (s[1]'p1).toNat = 66
                      · have e66 : (((s[1]'p1).toNat : Int) == 66) = true := by rw [h66]; rfl
                        have hb2 : baseI s = 2 := by rw [hb]; repeat' (first | rw [if_pos (by omega)] | rw [if_neg (by omega)])
                        have e120 : (((s[1]'p1).toNat : Int) == 120) = false := by rw [beq_eq_false_iff_ne]; omega
                        have e88 : (((s[1]'p1).toNat : Int) == 88) = false := by rw [beq_eq_false_iff_ne]; omega
                        have e111 : (((s[1]'p1).toNat : Int) == 111) = false := by rw [beq_eq_false_iff_ne]; omega
                        have e79 : (((s[1]'p1).toNat : Int) == 79) = false := by rw [beq_eq_false_iff_ne]; omega
                        have e98 : (((s[1]'p1).toNat : Int) == 98) = false := by rw [beq_eq_false_iff_ne]; omega
                        replace hb : Hid _ := hb2
                        clear hb2 h120 h88 h111 h79 h98 h66
                        go_wp2_with fail
                        go_meet
                        case rel => exact ⟨by rw [← hBe.out, hb.out], rfl⟩
                      · skip
                        have hb2 : baseI s = 10 := by rw [hb]; repeat' (first | rw [if_pos (by omega)] | rw [if_neg (by omega)])
                        have e120 : (((s[1]'p1).toNat : Int) == 120) = false := by rw [beq_eq_false_iff_ne]; omega
                        have e88 : (((s[1]'p1).toNat : Int) == 88) = false := by rw [beq_eq_false_iff_ne]; omega
                        have e111 : (((s[1]'p1).toNat : Int) == 111) = false := by rw [beq_eq_false_iff_ne]; omega
                        have e79 : (((s[1]'p1).toNat : Int) == 79) = false := by rw [beq_eq_false_iff_ne]; omega
                        have e98 : (((s[1]'p1).toNat : Int) == 98) = false := by rw [beq_eq_false_iff_ne]; omega
                        have e66 : (((s[1]'p1).toNat : Int) == 66) = false := by rw [beq_eq_false_iff_ne]; omega
                        replace hb : Hid _ := hb2
                        clear hb2 h120 h88 h111 h79 h98 h66
                        go_wp2_with fail
                        go_meet
                        case rel => exact ⟨by rw [← hBe.out, hb.out], rfl⟩
          · have hfl' : fl = false := by simpa using hfl
            rw [hfl']
            have hb : Hid (baseI s = 10) := by
              show _ = _
              have hf2 := hfb.out
              rw [hfl'] at hf2
              unfold baseI
              rw [if_pos]
              by_cases h2 : s.size < 2
              · exact .inl h2
              · right
                rw [get_bang s 0 p0]
                intro h
                have e1 : decide ((s.size : Int) > 1) = true := decide_eq_true (by omega)
                have e2 : (((s[0]'p0).toNat : Int) == 48) = true := by rw [h]; rfl
                rw [e1, e2] at hf2
                cases hf2
            clear hfl hfl' hfb
            go_wp2_with fail
            go_meet
            case rel => exact ⟨by rw [← hBe.out, hb.out], rfl⟩
        case rest =>
          obtain ⟨rfl, hwc⟩ := hcut
          rw [hwc]
          clear hwc wc hfb
          go_upto_if 78 with fail
          go_cut [0] from 78 (fun vs wc => vs = .string R ∧ wc = W2)
          case first =>
            by_cases hb10 : B = 10
            · have hr : Hid (R = s) := by show _ = _; rw [← hRe.out]; unfold restS; rw [if_pos (by rw [hBe.out]; exact hb10)]
              have d10 : (B != 10) = false := by rw [hb10]; rfl
              clear hb10
              go_wp2_with fail
              go_meet
              case rel => exact ⟨by rw [hr.out], rfl⟩
            · have hr : Hid (R = s.extract 2 s.size) := by show _ = _; rw [← hRe.out]; unfold restS; rw [if_neg (by rw [hBe.out]; exact hb10)]
              have d10 : (B != 10) = true := by simpa using hb10
              have p2 : (2 : Int) ≤ (s.size : Int) := by
                by_cases h2 : s.size < 2
                · exact absurd (show B = 10 by rw [← hBe.out]; unfold baseI; rw [if_pos (.inl h2)]) hb10
                · omega
              clear hb10
              go_wp2_with fail
              go_meet
              case rel => exact ⟨by rw [hr.out], rfl⟩
          case rest =>
            obtain ⟨rfl, hwc⟩ := hcut
            rw [hwc]
            clear hwc wc d0 d0'
            have hBz := bthen hB1 hbw
            have y0 := x0.next hBz
            have hBw := bthen hbW hBz
            clear hz1 hcv hbw hB1 hBz x0
            have hRs := rest_le s
            rw [hRe.out] at hRs
            clear hRe hBe
            obtain ⟨W3, hW3⟩ : ∃ W3, W3 = W2.alloc (.cells #[.bool false, .slice none 0 0] 32) := ⟨_, rfl⟩
            have bW3 : Below W2.heap.size W2 W3 := by rw [hW3]; exact (Below.refl _ _).alloc (Nat.le_refl _) _
            have y11 : Box2 W3 W2.heap.size := by rw [hW3]; exact Box2.new _ _ _ _ _ _ (by decide)
            have q0 : W3.cell? ⟨W2.heap.size, 0, none⟩ = some (.bool false) := by rw [hW3]; simp [go_sem]
            have q1 : W3.cell? ⟨W2.heap.size, 1, none⟩ = some (.slice none 0 0) := by rw [hW3]; simp [go_sem]
            have hlt2 : w.heap.size < W2.heap.size := by have := y0.noint.lt; omega
            have hst0 : Hid (MantAt W2.heap.size w.heap.size B R w V N tl (.int .i64 0) (.bool false) (.int .i64 0) W3) := ⟨0, 0, false, 0, Nat.zero_le _, rfl, rfl, rfl, Nat.le_refl _, by rw [List.drop_zero]; exact hmant, ⟨by decide, by decide⟩, ⟨false, none, 0, 0, q0, q1, Rint.zero _ _, y11, y0.next bW3, bthen hBw bW3⟩⟩
            obtain ⟨b11, hb11⟩ : ∃ b11, b11 = W2.heap.size := ⟨_, rfl⟩
            obtain ⟨b2, hb2⟩ : ∃ b2, b2 = w.heap.size := ⟨_, rfl⟩
            have hBlo : -9223372036854775808 ≤ B := by omega
            have hBhi : B ≤ 9223372036854775807 := by omega
            rw [← hb11, ← hb2] at hst0
            rw [← hb11, ← hb2] at hlt2
            rw [← hb2]
            have hb2h : Hid _ := hb2
            clear hb2
            clear y11 q0 q1 bW3 y0 hBw hmant
            go_upto_block 1 with fail
            rw [← hW3]
            rw [← hb11]
            have hb11h : Hid _ := hb11
            clear hb11
            clear hW3
            go_cut [12, 13, 14, 15] from 93 to 123 (fun nb pt i d wc => MantEnd b11 b2 R w V N tl nb i wc)
            case first =>
              go_wp2_with fail
              go_loopw [12, 13, 14, 15] (fun nb pt i d wr => MantAt b11 b2 B R w V N tl nb pt i wr) (fun _ _ i _ _ => R.size - (intOf i).toNat)
              case atStart => exact hst0.out
              case round =>
                clear hst0
                obtain ⟨k, n, pb, v, hk, rfl, rfl, rfl, hnk, hmg, hvb, hbox⟩ := hrel
                by_cases hlk : k < R.size
                · have hd0 := drop_at R hlk
                  have hmg' := hmg.out
                  rw [hd0, mantGo] at hmg'
                  clear hd0 hmg
                  have hbyte : ((R[k]'hlk).toNat : Int) ≤ 255 := by have := (R[k]'hlk).toNat_lt; omega
                  by_cases h46 : R[k]'hlk = 46
                  · rw [if_pos h46] at hmg'
                    have e46 : (((R[k]'hlk).toNat : Int) == 46) = true := by rw [h46]; rfl
                    replace hmg' : Hid _ := hmg'
                    clear h46
                    have hb2h : Hid _ := hbox
                    clear hbox
                    go_wp2
                    go_roundw
                    case rel => exact ⟨k + 1, n, true, v, by omega, rfl, rfl, by go_num, by omega, hmg', ⟨hvb.out.1, Int.lt_of_lt_of_le hvb.out.2 (by rw [Int.pow_succ]; have : (0 : Int) < 65536 ^ k := Int.pow_pos (by decide); omega)⟩, hb2h.out⟩
                    case measure => simp [intOf]; omega
                  · rw [if_neg h46] at hmg'
                    have e46 : (((R[k]'hlk).toNat : Int) == 46) = false := by
                      rw [beq_eq_false_iff_ne]
                      intro h
                      exact h46 (UInt8.toNat_inj.1 (by simpa using (by omega : (R[k]'hlk).toNat = 46)))
                    have kd : Hid _ := fun W => DigitR_any ((R[k]'hlk).toNat : Int) W (by omega) hbyte
                    have hdr := digitI_rng ((R[k]'hlk).toNat : Int)
                    have hdq := digR_eq ((R[k]'hlk).toNat : Int)
                    generalize hDe : digitI ((R[k]'hlk).toNat : Int) = d at *
                    generalize hGe : digR ((R[k]'hlk).toNat : Int) = g at *
                    clear h46 hDe hGe
                    by_cases hge : B ≤ d
                    · rw [if_pos hge] at hmg'
                      have hend : Hid (MantEnd b11 b2 R w V N tl (.int .i64 n) (.int .i64 k) wr) := by
                        obtain ⟨h1, h2⟩ := Prod.mk.inj hmg'
                        obtain ⟨h2, h3⟩ := Prod.mk.inj h2
                        subst h1 h2
                        exact ⟨k, hk, rfl, rfl, hnk, by rw [drop_at R hlk]; exact h3, hbox⟩
                      clear hmg' hbox hvb
                      by_cases h16 : d = 16
                      · rw [if_pos h16] at hdq
                        have e0 : decide (g < 0) = true := decide_eq_true (by omega)
                        clear hdq h16 hge hdr
                        go_wp2_with fail
                        refine Calls.mono (kd.out _) ?_
                        rintro e w2 ⟨rfl, hw2⟩
                        rw [hw2]
                        clear hw2 w2 kd
                        go_wp2_with fail
                        go_meet
                        case rel => exact hend.out
                      · rw [if_neg h16] at hdq
                        have e0 : decide (g < 0) = false := decide_eq_false (by omega)
                        have e1 : decide (g ≥ B) = true := decide_eq_true (by omega)
                        clear hdq h16 hge hdr
                        go_wp2_with fail
                        refine Calls.mono (kd.out _) ?_
                        rintro e w2 ⟨rfl, hw2⟩
                        rw [hw2]
                        clear hw2 w2 kd
                        go_wp2_with fail
                        go_meet
                        case rel => exact hend.out
                    · rw [if_neg hge] at hmg'
                      rw [if_neg (by omega)] at hdq
                      subst hdq
                      have e0 : decide (g < 0) = false := decide_eq_false (by omega)
                      have e1 : decide (g ≥ B) = false := decide_eq_false (by omega)
                      have hst : Hid (0 ≤ v * B + g ∧ v * B + g < 65536 ^ (k + 1)) := hor_step16 hvb.out.1 hvb.out.2 (by omega) (by omega) hdr.1 (by omega)
                      have hdlo : -9223372036854775808 ≤ g := by omega
                      have hdhi : g ≤ 9223372036854775807 := by omega
                      replace hmg' : Hid _ := hmg'
                      clear hvb hge
                      go_wp2_with fail
                      refine Calls.mono (kd.out _) ?_
                      rintro e w2 ⟨rfl, hw2⟩
                      rw [hw2]
                      clear hw2 w2 kd
                      go_upto_region 36 with fail
                      obtain ⟨m, a, l, c, hQ0, hQ1, hV, y11, y2, hbel⟩ := hbox
                      have hD0 : Below wr.heap.size wr wr.drew := (Below.refl _ _).drew
                      go_cut [] from 93 to 123 (fun wx => BoxAt b11 b2 w (v * B + g) wx)
                      case first =>
                        go_region_with (first
                          | (go_at_call 37; refine (rOf_any _ _ ?_ ?_).mono ?_; (first | exact hBlo | exact hdlo); (first | exact hBhi | exact hdhi); rintro e w4 ⟨tB, rfl, hOB, bB⟩; obtain ⟨nB, aB, lB, cB, rfl⟩ := hOB.rint.form; (try replace bB := bthen hD0 bB); replace hQ0 := keep_cell bB hQ0; replace hQ1 := keep_cell bB hQ1; replace hbel := bthen hbel bB; replace y11 := y11.next bB; replace y2 := y2.next bB; (try replace hV := Rint.next hV bB); (try replace hM := Rint.next hM bB))
                          | (go_at_call 40; refine (rMul_num hV hOB.rint (by decide) (by decide)).mono ?_; rintro e w4 ⟨tM, rfl, hM, bB⟩; obtain ⟨nM, aM, lM, cM, rfl⟩ := hM.form; replace hQ0 := keep_cell bB hQ0; replace hQ1 := keep_cell bB hQ1; replace hbel := bthen hbel bB; replace y11 := y11.next bB; replace y2 := y2.next bB)
                          | (go_at_call 47; refine (rAdd_num hM hOB.rint (by decide) (by decide)).mono ?_; rintro e w4 ⟨tA, rfl, hA, bB⟩; obtain ⟨nA, aA, lA, cA, rfl⟩ := hA.form; replace hQ0 := keep_cell bB hQ0; replace hQ1 := keep_cell bB hQ1; replace hbel := bthen hbel bB; replace y11 := y11.next bB; replace y2 := y2.next bB; obtain ⟨_, _, _, _, _, _, sf⟩ := y11.cells; have u0 := sf 0; have u1 := sf 1; clear sf))
                        all_goals
                          obtain ⟨W8, hW8, z0, z1, zo, zb2, zb4, zx, zB⟩ := put2r y11 nA aA lA cA
                          have hfin : Hid (BoxAt b11 b2 w (v * B + g) W8) := ⟨nA, aA, lA, cA, z0, z1, zx _ _ _ (tight61 hA hst.out (by omega)), by rw [hW8]; exact y11.put _ _ _ _, zb4 _ (by omega) y2, zB _ _ hbel (by have := hb2h.out; omega)⟩
                          clear zo zb2 zb4 zx zB hA
                          go_wp2_with fail
                          rw [← hW8]
                          go_meet
                          case rel => exact hfin.out
                      case rest =>
                        have hboxh : Hid _ := hcut
                        clear hcut
                        cases pb with
                        | true =>
                          go_wp2
                          go_roundw
                          case rel => exact ⟨k + 1, n + 1, true, v * B + g, by omega, by go_num, rfl, by go_num, by omega, hmg', hst, hboxh.out⟩
                          case measure => simp [intOf]; omega
                        | false =>
                          go_wp2
                          go_roundw
                          case rel => exact ⟨k + 1, n, false, v * B + g, by omega, rfl, rfl, by go_num, by omega, hmg', hst, hboxh.out⟩
                          case measure => simp [intOf]; omega
                · have hmg' := hmg.out
                  rw [drop_end R (by omega), mantGo] at hmg'
                  have hend : Hid (MantEnd b11 b2 R w V N tl (.int .i64 n) (.int .i64 k) wr) := by
                    obtain ⟨h1, h2⟩ := Prod.mk.inj hmg'
                    obtain ⟨h2, h3⟩ := Prod.mk.inj h2
                    subst h1 h2
                    exact ⟨k, hk, rfl, rfl, hnk, by rw [drop_end R (by omega)]; exact h3, hbox⟩
                  clear hmg hmg' hbox hvb
                  go_wp2_with fail
                  go_meet
                  case rel => exact hend.out
            case rest =>
              generalize wc = wm at hcut ⊢
              obtain ⟨k, hk, rfl, rfl, hNk, hdrop, hbox⟩ := hcut
              replace hdrop : Hid _ := hdrop
              go_upto_if 127 with fail
              go_cut [16, 17, 18] from 124 (fun ve _ _ wx => ve = .int .i64 E ∧ wx = wm)
              case first =>
                have hboxh : Hid _ := hbox
                clear hbox
                rcases hE.out with ⟨htl, hE0⟩ | ⟨c, X, htl, hX, hle, hEe0⟩
                · have d1 : decide ((k : Int) < R.size) = false := decide_eq_false (fun h => by
                    have := hdrop.out
                    rw [htl, drop_at R (show k < R.size by omega)] at this
                    cases this)
                  have d1n : decide (k < R.size) = false := by rw [← d1]; congr 1; simp
                  have d1p : ¬ k < R.size := by simpa using d1n
                  replace hE0 : Hid _ := hE0
                  clear hE htl
                  go_wp2_with fail
                  go_meet
                  case rel => exact ⟨by rw [hE0.out], rfl⟩
                · have hlk : k < R.size := by
                    by_cases h : k < R.size
                    · exact h
                    · have := hdrop.out
                      rw [htl, drop_end R (by omega)] at this
                      cases this
                  have hXd : X = R.toList.drop (k + 1) := by
                    have := hdrop.out
                    rw [htl, drop_at R hlk] at this
                    injection this with h1 h2
                    exact h2.symm
                  have hk1 : k + 1 < R.size := by
                    by_cases h : k + 1 < R.size
                    · exact h
                    · exact absurd (by rw [hXd, drop_end R (by omega)]) hX
                  have hX0 : byteAt X 0 = ((R[k + 1]'hk1).toNat : Int) := by rw [hXd, drop_at R hk1]; rfl
                  have hEV : Hid ((R.toList.drop (k + 1)).foldl expF 0 = expV X) := by show _ = _; rw [expV_def, hXd]
                  rw [hX0] at hEe0
                  have hEVn : 0 ≤ expV X := by rw [expV_def]; exact expF_mono X 0 (Int.le_refl _)
                  generalize expV X = EV at *
                  have d1 : decide ((k : Int) < R.size) = true := decide_eq_true (by omega)
                  have hw1 : IntKind.i64.wrap ((k : Int) + 1) = ((k + 1 : Nat) : Int) := by rw [IntKind.wrap_i64]; omega
                  have hkI : ((k + 1 : Nat) : Int) < R.size := by omega
                  have d1n : decide (k < R.size) = true := decide_eq_true hlk
                  clear hE htl hX hXd hX0 hdrop hboxh
                  cases hng : (((R[k + 1]'hk1).toNat : Int) == 45) with
                  | true =>
                    have hEe : Hid (E = -EV) := by show E = _; rw [hEe0, if_pos (by simpa using hng)]
                    clear hEe0
                    go_wp2
                    go_loop [16, 18] (fun ve vj => ∃ (P : Nat) (acc : Int), k + 1 ≤ P ∧ P ≤ R.size ∧ ve = .int .i64 acc ∧ vj = .int .i64 P ∧ 0 ≤ acc ∧ Hid ((R.toList.drop P).foldl expF acc = EV)) (fun _ vj => R.size - (intOf vj).toNat)
                    case atStart => exact ⟨k + 1, 0, Nat.le_refl _, by omega, rfl, by go_num, Int.le_refl _, hEV⟩
                    case round =>
                      obtain ⟨P, acc, hP0, hP1, rfl, rfl, hacc, hfold⟩ := hrel
                      have hacc9 : acc ≤ 999 := Int.le_trans (expF_mono _ _ hacc) (by rw [hfold.out]; exact hle)
                      by_cases hlt : P < R.size
                      · have hf := hfold.out
                        rw [drop_at R hlt, List.foldl_cons] at hf
                        have hnx : Hid ((R.toList.drop (P + 1)).foldl expF (expF acc (R[P]'hlt)) = EV) := hf
                        have hexp : expF acc (R[P]'hlt) = if isDigitB ((R[P]'hlt).toNat : Int) = true then 10 * acc + (((R[P]'hlt).toNat : Int) - 48) else acc := rfl
                        have hw9 : IntKind.i64.wrap ((P : Int) + 1) = ((P + 1 : Nat) : Int) := by rw [IntKind.wrap_i64]; omega
                        have kd : Hid _ := fun W => digit_any (R[P]'hlt).toNat W
                        have hc256 : (R[P]'hlt).toNat < 256 := UInt8.toNat_lt _
                        have d1 : decide ((P : Int) < R.size) = true := decide_eq_true (by omega)
                        generalize expF acc (R[P]'hlt) = acc2 at *
                        by_cases hdg : isDigitB ((R[P]'hlt).toNat : Int) = true
                        · rw [if_pos hdg] at hexp
                          rw [hdg] at kd
                          unfold isDigitB at hdg
                          have hdr := of_decide_eq_true hdg
                          obtain ⟨DD, hDD⟩ : ∃ DD : Nat, (DD : Int) = ((R[P]'hlt).toNat : Int) - 48 := ⟨(R[P]'hlt).toNat - 48, by omega⟩
                          have hwu : IntKind.u8.wrap (((R[P]'hlt).toNat : Int) - 48) = (DD : Int) := by rw [IntKind.wrap_u8]; omega
                          have hw10 : IntKind.i64.wrap (10 * acc) = 10 * acc := by rw [IntKind.wrap_i64]; omega
                          have hw5 : IntKind.i64.wrap (10 * acc + (DD : Int)) = acc2 := by rw [IntKind.wrap_i64]; omega
                          have hwd : IntKind.i64.wrap (DD : Int) = (DD : Int) := by rw [IntKind.wrap_i64]; omega
                          have h2 : 0 ≤ acc2 := by omega
                          have hrel2 : Hid (∃ (P' : Nat) (acc' : Int), k + 1 ≤ P' ∧ P' ≤ R.size ∧ Value.int .i64 acc2 = .int .i64 acc' ∧ Value.int .i64 ((P + 1 : Nat) : Int) = .int .i64 P' ∧ 0 ≤ acc' ∧ Hid ((R.toList.drop P').foldl expF acc' = EV)) := ⟨P + 1, acc2, by omega, by omega, rfl, rfl, h2, hnx⟩
                          replace hDD : Hid _ := hDD
                          clear hfold hf hexp hdg hdr hnx
                          go_wp2_with fail
                          refine Calls.mono (kd.out _) ?_
                          rintro e w2 ⟨rfl, hw2⟩
                          rw [hw2]
                          clear hw2 w2 kd
                          go_wp2
                          exact ⟨hrel2.out, by simp [intOf]; omega⟩
                        · rw [if_neg hdg] at hexp
                          have hdf : isDigitB ((R[P]'hlt).toNat : Int) = false := by simpa using hdg
                          rw [hdf] at kd
                          subst hexp
                          have hrel2 : Hid (∃ (P' : Nat) (acc' : Int), k + 1 ≤ P' ∧ P' ≤ R.size ∧ Value.int .i64 acc2 = .int .i64 acc' ∧ Value.int .i64 ((P + 1 : Nat) : Int) = .int .i64 P' ∧ 0 ≤ acc' ∧ Hid ((R.toList.drop P').foldl expF acc' = EV)) := ⟨P + 1, acc2, by omega, by omega, rfl, rfl, hacc, hnx⟩
                          clear hfold hf hdg hdf hnx
                          go_wp2_with fail
                          refine Calls.mono (kd.out _) ?_
                          rintro e w2 ⟨rfl, hw2⟩
                          rw [hw2]
                          clear hw2 w2 kd
                          go_wp2
                          exact ⟨hrel2.out, by simp [intOf]; omega⟩
                      · have d1 : decide ((P : Int) < R.size) = false := decide_eq_false (by omega)
                        have hf := hfold.out
                        rw [drop_end R (by omega), List.foldl_nil] at hf
                        have hwn : IntKind.i64.wrap (-acc) = E := by rw [IntKind.wrap_i64]; have := hEe.out; omega
                        clear hf hfold
                        go_wp2_with fail
                        go_meet
                        case rel => exact ⟨rfl, rfl⟩
                  | false =>
                    have hEe : Hid (E = EV) := by show E = _; rw [hEe0, if_neg (by simpa using hng)]
                    clear hEe0
                    go_wp2
                    go_loop [16, 18] (fun ve vj => ∃ (P : Nat) (acc : Int), k + 1 ≤ P ∧ P ≤ R.size ∧ ve = .int .i64 acc ∧ vj = .int .i64 P ∧ 0 ≤ acc ∧ Hid ((R.toList.drop P).foldl expF acc = EV)) (fun _ vj => R.size - (intOf vj).toNat)
                    case atStart => exact ⟨k + 1, 0, Nat.le_refl _, by omega, rfl, by go_num, Int.le_refl _, hEV⟩
                    case round =>
                      obtain ⟨P, acc, hP0, hP1, rfl, rfl, hacc, hfold⟩ := hrel
                      have hacc9 : acc ≤ 999 := Int.le_trans (expF_mono _ _ hacc) (by rw [hfold.out]; exact hle)
                      by_cases hlt : P < R.size
                      · have hf := hfold.out
                        rw [drop_at R hlt, List.foldl_cons] at hf
                        have hnx : Hid ((R.toList.drop (P + 1)).foldl expF (expF acc (R[P]'hlt)) = EV) := hf
                        have hexp : expF acc (R[P]'hlt) = if isDigitB ((R[P]'hlt).toNat : Int) = true then 10 * acc + (((R[P]'hlt).toNat : Int) - 48) else acc := rfl
                        have hw9 : IntKind.i64.wrap ((P : Int) + 1) = ((P + 1 : Nat) : Int) := by rw [IntKind.wrap_i64]; omega
                        have kd : Hid _ := fun W => digit_any (R[P]'hlt).toNat W
                        have hc256 : (R[P]'hlt).toNat < 256 := UInt8.toNat_lt _
                        have d1 : decide ((P : Int) < R.size) = true := decide_eq_true (by omega)
                        generalize expF acc (R[P]'hlt) = acc2 at *
                        by_cases hdg : isDigitB ((R[P]'hlt).toNat : Int) = true
                        · rw [if_pos hdg] at hexp
                          rw [hdg] at kd
                          unfold isDigitB at hdg
                          have hdr := of_decide_eq_true hdg
                          obtain ⟨DD, hDD⟩ : ∃ DD : Nat, (DD : Int) = ((R[P]'hlt).toNat : Int) - 48 := ⟨(R[P]'hlt).toNat - 48, by omega⟩
                          have hwu : IntKind.u8.wrap (((R[P]'hlt).toNat : Int) - 48) = (DD : Int) := by rw [IntKind.wrap_u8]; omega
                          have hw10 : IntKind.i64.wrap (10 * acc) = 10 * acc := by rw [IntKind.wrap_i64]; omega
                          have hw5 : IntKind.i64.wrap (10 * acc + (DD : Int)) = acc2 := by rw [IntKind.wrap_i64]; omega
                          have hwd : IntKind.i64.wrap (DD : Int) = (DD : Int) := by rw [IntKind.wrap_i64]; omega
                          have h2 : 0 ≤ acc2 := by omega
                          have hrel2 : Hid (∃ (P' : Nat) (acc' : Int), k + 1 ≤ P' ∧ P' ≤ R.size ∧ Value.int .i64 acc2 = .int .i64 acc' ∧ Value.int .i64 ((P + 1 : Nat) : Int) = .int .i64 P' ∧ 0 ≤ acc' ∧ Hid ((R.toList.drop P').foldl expF acc' = EV)) := ⟨P + 1, acc2, by omega, by omega, rfl, rfl, h2, hnx⟩
                          replace hDD : Hid _ := hDD
                          clear hfold hf hexp hdg hdr hnx
                          go_wp2_with fail
                          refine Calls.mono (kd.out _) ?_
                          rintro e w2 ⟨rfl, hw2⟩
                          rw [hw2]
                          clear hw2 w2 kd
                          go_wp2
                          exact ⟨hrel2.out, by simp [intOf]; omega⟩
                        · rw [if_neg hdg] at hexp
                          have hdf : isDigitB ((R[P]'hlt).toNat : Int) = false := by simpa using hdg
                          rw [hdf] at kd
                          subst hexp
                          have hrel2 : Hid (∃ (P' : Nat) (acc' : Int), k + 1 ≤ P' ∧ P' ≤ R.size ∧ Value.int .i64 acc2 = .int .i64 acc' ∧ Value.int .i64 ((P + 1 : Nat) : Int) = .int .i64 P' ∧ 0 ≤ acc' ∧ Hid ((R.toList.drop P').foldl expF acc' = EV)) := ⟨P + 1, acc2, by omega, by omega, rfl, rfl, hacc, hnx⟩
                          clear hfold hf hdg hdf hnx
                          go_wp2_with fail
                          refine Calls.mono (kd.out _) ?_
                          rintro e w2 ⟨rfl, hw2⟩
                          rw [hw2]
                          clear hw2 w2 kd
                          go_wp2
                          exact ⟨hrel2.out, by simp [intOf]; omega⟩
                      · have d1 : decide ((P : Int) < R.size) = false := decide_eq_false (by omega)
                        have hf := hfold.out
                        rw [drop_end R (by omega), List.foldl_nil] at hf
                        have hwn : Hid (acc = E) := by show acc = E; have := hEe.out; omega
                        clear hf hfold
                        go_wp2_with fail
                        go_meet
                        case rel => exact ⟨by rw [hwn.out], rfl⟩
              case rest =>
                obtain ⟨rfl, hwx⟩ := hcut
                rw [hwx]
                clear hwx wc hdrop
                have hErng := ExpIs.rng hE.out
                have k10 : Hid _ := fun W => rOf_any 10 W (by omega) (by omega)
                have k2 : Hid _ := fun W => rOf_any 2 W (by omega) (by omega)
                go_wp2_with fail
                refine Calls.mono (k10.out _) ?_
                rintro e w5 ⟨tT, rfl, hT, b5⟩
                replace hT := tight1 hT.rint (by decide) (by decide)
                obtain ⟨nT, aT, lT, cT, rfl⟩ := hT.form
                obtain ⟨W5, hW5⟩ : ∃ W5, W5 = w5.alloc (.cells #[.bool nT, .slice aT lT cT] 32) := ⟨_, rfl⟩
                have bW5 : Below w5.heap.size w5 W5 := by rw [hW5]; exact (Below.refl _ _).alloc (Nat.le_refl _) _
                have y19 : Box2 W5 w5.heap.size := by rw [hW5]; exact Box2.new _ _ _ _ _ _ (by decide)
                have t0 : W5.cell? ⟨w5.heap.size, 0, none⟩ = some (.bool nT) := by rw [hW5]; simp [go_sem]
                have t1 : W5.cell? ⟨w5.heap.size, 1, none⟩ = some (.slice aT lT cT) := by rw [hW5]; simp [go_sem]
                have hT5 := hT.next bW5
                have hl0 : b11 < wm.heap.size := by obtain ⟨_, _, _, _, h0, _⟩ := hbox; exact cell_lt h0
                replace hbox := (hbox.next b5).next bW5
                have hQe := hQe1.out
                have hlt19 : b11 < w5.heap.size := by have h1 := b5.size; omega
                obtain ⟨NB, hNB0⟩ : ∃ NB : Int, NB = if B = 16 then 4 * (N : Int) else (N : Int) := ⟨_, rfl⟩
                rw [← hNB0] at hQe
                have hNBr : 0 ≤ NB ∧ NB ≤ 240 := by rw [hNB0]; split <;> omega
                have hNB : Hid _ := hNB0
                clear hNB0
                go_upto_if 158 with fail
                rw [← hW5]
                clear hW5 hT k10
                obtain ⟨b19, hb19⟩ : ∃ b19, b19 = w5.heap.size := ⟨_, rfl⟩
                rw [← hb19] at y19 t0 t1 hlt19 ⊢
                have hb19h : Hid (w.heap.size ≤ b19) := by show _ ≤ _; have := hb2h.out; omega
                clear hb19
                go_cut [12] from 157 (fun nb wx => nb = .int .i64 NB ∧ EndAt b11 b19 b2 w V rr wx)
                case first =>
                  rcases hBr.out with ⟨hb, hr⟩ | ⟨hb, hr⟩
                  · have e16 : (B == 16) = false := by rw [hb]; rfl
                    have hN : Hid (NB = (N : Int)) := by show _ = _; rw [hNB.out, if_neg (by rw [hb]; decide)]
                    have hfin : Hid (EndAt b11 b19 b2 w V rr W5) := ⟨hbox, nT, aT, lT, cT, t0, t1, by rw [hr]; exact hT5⟩
                    clear hb hr hbox t0 t1 hT5 y19 k2
                    go_wp2_with fail
                    go_meet
                    case rel => exact ⟨by rw [hN.out], hfin.out⟩
                  · have e16 : (B == 16) = true := by rw [hb]; rfl
                    have hw4 : IntKind.i64.wrap (4 * (N : Int)) = NB := by rw [hNB.out, if_pos hb, IntKind.wrap_i64]; omega
                    clear hb
                    go_wp2_with fail
                    refine Calls.mono (k2.out _) ?_
                    rintro e w6 ⟨tU, rfl, hU, b6⟩
                    clear k2
                    replace hU := tight1 hU.rint (by decide) (by decide)
                    obtain ⟨nU, aU, lU, cU, rfl⟩ := hU.form
                    obtain ⟨W7, hW7, z0, z1, zo, zb2, zb4, zx, zB⟩ := put2r (y19.next b6) nU aU lU cU
                    obtain ⟨_, _, _, _, s0, s1, sf⟩ := (y19.next b6).cells
                    have u0 := sf 0
                    have u1 := sf 1
                    have hfin : Hid (EndAt b11 b19 b2 w V rr W7) := by
                      obtain ⟨m, a, l, c, h0, h1, h2, h3, h4, h5⟩ := hbox.next b6
                      exact ⟨⟨m, a, l, c, (zo ⟨b11, 0, none⟩ (by simp; omega)).trans h0, (zo ⟨b11, 1, none⟩ (by simp; omega)).trans h1, zx _ _ _ h2, zb2 _ (by omega) h3, zb4 _ (by omega) h4, zB _ _ h5 hb19h.out⟩, nU, aU, lU, cU, z0, z1, by rw [hr]; exact zx _ _ _ hU⟩
                    clear sf zo zb2 zb4 zx zB hU hbox t0 t1 hT5 hr
                    go_wp2_with fail
                    rw [← hW7]
                    go_meet
                    case rel => exact ⟨rfl, hfin.out⟩
                case rest =>
                  generalize wc = wx at hcut ⊢
                  obtain ⟨rfl, hend⟩ := hcut
                  have hwQ : IntKind.i64.wrap (E - NB) = Q := by rw [hQe, IntKind.wrap_i64]; omega
                  have hQr : -1239 ≤ Q ∧ Q ≤ 999 := by omega
                  have hrr : 2 ≤ rr ∧ rr ≤ 16 := by rcases hBr.out with ⟨_, h⟩ | ⟨_, h⟩ <;> omega
                  obtain ⟨⟨m, a, l, c, hQ0, hQ1, hV, _, y2, hbel⟩, mR, aR, lR, cR, hT0, hT1, hRr⟩ := hend
                  have hD0 : Below wx.heap.size wx wx.drew := (Below.refl _ _).drew
                  clear hNB hQe hbox t0 t1 hT5 y19 k2 hBr
                  by_cases hpos : 0 ≤ Q
                  · have dQ : decide (Q ≥ 0) = true := decide_eq_true hpos
                    have dQ2 : decide (0 ≤ Q) = true := decide_eq_true hpos
                    obtain ⟨n, hn0⟩ : ∃ n : Nat, Q = (n : Int) := ⟨Q.toNat, by omega⟩
                    have hn13 : n ≤ 1300 := by omega
                    have hnh : Hid _ := hn0
                    have hposh : Hid _ := hpos
                    have hRd := hRr.next hD0
                    clear hn0 hpos
                    go_upto_region 55 with fail
                    go_region_with (first
                      | (go_at_call 71; refine (rPower_q rr n hRd hrr.1 hrr.2 hn13 Q hnh.out).mono ?_; rintro e w7 ⟨tP, rfl, hP, b7⟩; obtain ⟨nP, aP, lP, cP, rfl⟩ := hP.form; replace b7 := bthen hD0 b7; replace hQ0 := keep_cell b7 hQ0; replace hQ1 := keep_cell b7 hQ1; replace hV := Rint.next hV b7; replace y2 := y2.next b7; replace hbel := bthen hbel b7)
                      | (go_at_call 40; refine (rMul_num hV hP (by decide) (by decide)).mono ?_; rintro e w8 ⟨tM, rfl, hM, b8⟩; obtain ⟨nM, aM, lM, cM, rfl⟩ := hM.form; replace y2 := y2.next b8; replace hbel := bthen hbel b8)
                      | (go_at_call 11; refine (rWhole_num hM).mono ?_; rintro e w9 ⟨tW, rfl, hW, b9⟩; obtain ⟨m1, v1, e1, g1, m2, v2, e2, g2, rfl⟩ := ratR_form hW; replace y2 := y2.next b9; replace hbel := bthen hbel b9; obtain ⟨_, _, _, _, _, _, _, _, j0, j1, j2, j3, f⟩ := y2.cells; have f0 := f 0; have f1 := f 1; have f2 := f 2; have f3 := f 3; clear f))
                    all_goals
                      have hbx : Hid _ := put4_boxed (base := w.heap.size) y2.noint (Nat.le_of_eq hb2h.out.symm) m1 v1 e1 g1 m2 v2 e2 g2
                      have hWf : Hid (RatR _ _ _ _ _) := ratR_more (k := 400) (Boxed.ratR hbx.out hW) (by decide)
                      clear hW
                      go_wp2
                      exact bodyPost_ret (v := .tuple #[.agg #[.bool m1, .slice v1 e1 g1, .bool m2, .slice v2 e2 g2], .bool true]) (by simp [results, Tryz.results34, go_sem, j0, j1, j2, j3]) rfl ⟨_, rfl, ⟨_, _, hWf.out, .inl ⟨hposh.out, by rw [show Q.toNat = n by have := hnh.out; omega], rfl⟩⟩, hbx.out.keep hbel (Nat.le_refl _) hbel.size⟩
                  · have dQ : decide (Q ≥ 0) = false := decide_eq_false hpos
                    have dQ2 : decide (0 ≤ Q) = false := decide_eq_false hpos
                    have dQ3 : Q < 0 := by omega
                    obtain ⟨n, hn0⟩ : ∃ n : Nat, -Q = (n : Int) := ⟨(-Q).toNat, by omega⟩
                    have hn13 : n ≤ 1300 := by omega
                    obtain ⟨Q', hQ'⟩ : ∃ Q', Q' = -Q := ⟨_, rfl⟩
                    have hwq : IntKind.i64.wrap (-Q) = Q' := by rw [IntKind.wrap_i64, hQ']; omega
                    have hnh : Hid _ := hn0
                    have hposh : Hid _ := hpos
                    have hRd := hRr.next hD0
                    have hnq : Hid (Q' = (n : Int)) := by show Q' = _; rw [hQ', hn0]
                    have hzp : 0 < rr ^ n := Int.pow_pos (by omega)
                    replace hzp : Hid _ := hzp
                    clear hn0 hpos hQ'
                    go_upto_region 56 with fail
                    go_region_with (first
                      | (go_at_call 71; refine (rPower_q rr n hRd hrr.1 hrr.2 hn13 Q' hnq.out).mono ?_; rintro e w7 ⟨tP, rfl, hP, b7⟩; obtain ⟨nP, aP, lP, cP, rfl⟩ := hP.form; replace b7 := bthen hD0 b7; replace hQ0 := keep_cell b7 hQ0; replace hQ1 := keep_cell b7 hQ1; replace hV := Rint.next hV b7; replace y2 := y2.next b7; replace hbel := bthen hbel b7)
                      | (go_at_call 31; refine (rRatio_num (hV.mono (m := 330) (by decide)) hP (Int.ne_of_gt hzp.out) (by decide)).mono ?_; rintro e w9 ⟨tW, pp, qq, rfl, hW, hlow, b9⟩; obtain ⟨m1, v1, e1, g1, m2, v2, e2, g2, rfl⟩ := ratR_form hW; replace y2 := y2.next b9; replace hbel := bthen hbel b9; obtain ⟨_, _, _, _, _, _, _, _, j0, j1, j2, j3, f⟩ := y2.cells; have f0 := f 0; have f1 := f 1; have f2 := f 2; have f3 := f 3; clear f))
                    all_goals
                      have hbx : Hid _ := put4_boxed (base := w.heap.size) y2.noint (Nat.le_of_eq hb2h.out.symm) m1 v1 e1 g1 m2 v2 e2 g2
                      have hWf : Hid (RatR _ _ _ _ _) := ratR_more (k := 400) (Boxed.ratR hbx.out hW) (by decide)
                      rw [(pN_pos (y := V) hzp.out).1, (pN_pos (y := V) hzp.out).2] at hlow
                      replace hlow : Hid _ := hlow
                      clear hW
                      go_wp2
                      exact bodyPost_ret (v := .tuple #[.agg #[.bool m1, .slice v1 e1 g1, .bool m2, .slice v2 e2 g2], .bool true]) (by simp [results, Tryz.results34, go_sem, j0, j1, j2, j3]) rfl ⟨_, rfl, ⟨_, _, hWf.out, .inr ⟨by have := hposh.out; omega, by rw [show (-Q).toNat = n by have := hnh.out; omega]; exact hlow.out⟩⟩, hbx.out.keep hbel (Nat.le_refl _) hbel.size⟩

end Nn
end Go.Proofs.YthiiglhecajhbaaGreat
