/- The literal 0.1. -/
import Derived.Test.YtmpefgemlpnbiaaGreatFbm
import Derived.Test.YtmpefgemlpnbiaaGreatHjm
namespace Go.Proofs.YtmpefgemlpnbiaaGreat
set_option linter.unusedVariables false
open Go.RowKit Go.Shelf Go.Lib
attribute [local go_sem ↓] Go.wp_at_zero Go.wp_at_succ
set_option maxRecDepth 20000 in
set_option maxHeartbeats 2000000 in
theorem cutBase_01 (w : World) : Calls Tryz.prog 81 #[.string ⟨#[48, 46, 49]⟩] w fun e w' => e = .returned (.tuple #[.int .i64 10, .string ⟨#[48, 46, 49]⟩]) ∧ Below w.heap.size w w' := by
  go_enter Tryz.func81, Tryz.ntmps81
  go_wp2
  exact bodyPost_ret (v := .tuple #[.int .i64 10, .string ⟨#[48, 46, 49]⟩]) (by simp [results, Tryz.results81, go_sem]) rfl ⟨rfl, Below.refl _ _⟩
theorem indexAny_01 (w : World) : Calls Tryz.prog 111 #[.string ⟨#[48, 46, 49]⟩, .string ⟨#[101, 69]⟩] w fun e w' => e = .returned (.int .i64 (-1)) ∧ Below w.heap.size w w' := by
  have k := Any.strings_IndexAny_short Tryz.indexAny ⟨#[48, 46, 49]⟩ ⟨#[101, 69]⟩ w (by decide) (by decide) (fun j b hb => by
    match j, hb with
    | 0, hb => simp at hb; subst hb; decide
    | 1, hb => simp at hb; subst hb; decide
    | 2, hb => simp at hb; subst hb; decide)
  change Calls Tryz.prog 111 _ _ _ at k
  refine k.mono fun e w' ⟨he, pos, hw⟩ => ⟨?_, ?_⟩
  · have e1 : Lib.indexAny (⟨#[48, 46, 49]⟩ : ByteArray).data.toList (⟨#[101, 69]⟩ : ByteArray).data.toList = -1 := by decide
    rw [he, e1]
  · rw [hw]
    exact (Below.refl _ _).alloc (Nat.le_refl _) _
theorem index_01 (w : World) : Calls Tryz.prog 140 #[.string ⟨#[48, 46, 49]⟩, .string ⟨#[46]⟩] w fun e w' => e = .returned (.int .i64 1) ∧ w' = w := by
  have k := Any.stringslite_Index_one Tryz.indexLite ⟨#[48, 46, 49]⟩ 46 w
  change Calls Tryz.prog 140 _ _ _ at k
  have e1 : Lib.indexByte (⟨#[48, 46, 49]⟩ : ByteArray).data.toList 46 = 1 := by decide
  rw [e1] at k
  exact k
set_option maxRecDepth 20000 in
set_option maxHeartbeats 2000000 in
theorem cutExponent_01 (w : World) : Calls Tryz.prog 82 #[.string ⟨#[48, 46, 49]⟩, .int .i64 10] w fun e w' => e = .returned (.tuple #[.string ⟨#[48, 46, 49]⟩, .string ⟨#[]⟩, .bool false]) ∧ Below w.heap.size w w' := by
  go_enter Tryz.func82, Tryz.ntmps82
  go_wp2_with (go_at_call 111; refine (indexAny_01 _).mono ?_; rintro e w1 ⟨rfl, hB⟩)
  exact bodyPost_ret (v := .tuple #[.string ⟨#[48, 46, 49]⟩, .string ⟨#[]⟩, .bool false]) (by simp [results, Tryz.results82, go_sem]) rfl ⟨rfl, hB⟩
set_option maxRecDepth 20000 in
set_option maxHeartbeats 2000000 in
theorem cut_01 (w : World) : Calls Tryz.prog 83 #[.string ⟨#[48, 46, 49]⟩, .string ⟨#[46]⟩] w fun e w' => e = .returned (.tuple #[.string ⟨#[48]⟩, .string ⟨#[49]⟩, .bool true]) ∧ Below w.heap.size w w' := by
  have e1 : (⟨#[48, 46, 49]⟩ : ByteArray).extract 0 1 = ⟨#[48]⟩ := by decide
  have e2 : (⟨#[48, 46, 49]⟩ : ByteArray).extract 2 3 = ⟨#[49]⟩ := by decide
  have k53 : ∀ w, Calls Tryz.prog 112 #[.string ⟨#[48, 46, 49]⟩, .string ⟨#[46]⟩] w fun e w' => e = .returned (.tuple #[.string ⟨#[48]⟩, .string ⟨#[49]⟩, .bool true]) ∧ Below w.heap.size w w' := by
    intro w
    go_enter Tryz.func112, Tryz.ntmps112
    go_wp2_with (go_at_call 140; refine (index_01 _).mono ?_; rintro e w1 ⟨rfl, rfl⟩)
    go_quiet (fail)
    go_wp2
    exact bodyPost_ret (v := .tuple #[.string ⟨#[48]⟩, .string ⟨#[49]⟩, .bool true]) (by simp [results, Tryz.results112, go_sem]) rfl ⟨rfl, below_drewN (Below.refl _ _) _⟩
  go_enter Tryz.func83, Tryz.ntmps83
  go_wp2_with (go_at_call 112; refine (k53 _).mono ?_; rintro e w1 ⟨rfl, hB⟩)
  exact bodyPost_ret (v := .tuple #[.string ⟨#[48]⟩, .string ⟨#[49]⟩, .bool true]) (by simp [results, Tryz.results83, go_sem]) rfl ⟨rfl, hB⟩
theorem parse_01 (w : World) : Calls Tryz.prog 87 #[.string ⟨#[48, 49]⟩, .int .i64 10] w fun e w' => ∃ v, e = .returned (.tuple #[v, .bool true]) ∧ Out w' w.heap.size v 1 3 ∧ Below w.heap.size w w' := by
  have k := Parse_ok ⟨#[48, 49]⟩ 10 w (by decide) (by decide) (by decide) (fun k h => by
    have h' : k < 2 := h
    match k, h' with
    | 0, _ => show digitI ((48 : UInt8).toNat : Int) < 10; decide
    | 1, _ => show digitI ((49 : UInt8).toNat : Int) < 10; decide)
  have e : hor 10 (digs ⟨#[48, 49]⟩) = 1 := by decide
  rw [e] at k
  exact k
theorem parseExponent_01 (w : World) : Calls Tryz.prog 88 #[.string ⟨#[]⟩, .bool false] w fun e w' => e = .returned (.tuple #[.int .i64 0, .bool true]) ∧ Below w.heap.size w w' := by
  go_enter Tryz.func88, Tryz.ntmps88
  go_wp2
  exact bodyPost_ret (v := .tuple #[.int .i64 0, .bool true]) (by simp [results, Tryz.results88, go_sem]) rfl ⟨rfl, Below.refl _ _⟩
theorem floatForm_01 (w : World) : Calls Tryz.prog 85 #[.int .i64 10, .bool false] w fun e w' => e = .returned (.bool true) ∧ Below w.heap.size w w' := by
  go_enter Tryz.func85, Tryz.ntmps85
  go_wp2
  go_ret
  exact ⟨rfl, Below.refl _ _⟩
set_option maxRecDepth 20000 in
set_option maxHeartbeats 4000000 in
theorem scale_01 {w : World} {u : Value} {m : Nat} (hu : Num w u 1 m) (hm : m ≤ 190) :
    Calls Tryz.prog 89 #[u, .int .i64 10, .int .i64 (-1)] w fun e w' => ∃ t, e = .returned t ∧ LowE w' t 1 10 (m + 4) ∧ Below w.heap.size w w' := by
  obtain ⟨n1, a1, l1, c1, rfl⟩ := hu.form
  obtain ⟨W, hW, hbW, ⟨e0, e1⟩, x0⟩ := boxes_whole w n1 a1 l1 c1
  have hU := hu.next hbW
  have hD0 : Below W.heap.size W W.drew := (Below.refl _ _).drew
  have kR := fun w => (raise_num 10 1 w (by decide) (by decide) (by decide))
  replace kR := (show Hid _ from kR)
  go_enter Tryz.func89, Tryz.ntmps89
  go_wp2
  rw [← hW]
  clear hW
  go_region_with (first
    | (go_at_call 118; refine Calls.mono (kR.out _) ?_; rintro e w2 ⟨t, rfl, hO9, hb2⟩; have hO := outE_tight hO9 2 (by decide); clear hO9; obtain ⟨n3, a3, l3, c3, rfl⟩ := hO.num.form; have hB2 : Below W.heap.size W w2 := bthen hD0 hb2; have p0 := keep_cell hB2 e0; have p1 := keep_cell hB2 e1)
    | (go_at_call 90; refine (lowest_pos (Num.frac ((hU.next hB2).more' (m := m + 2) (by omega)) (hO.num.more' (m := m + 2) (by omega)) rfl rfl) (by omega) (by decide)).mono ?_; rintro e w3 ⟨t, rfl, hL, hb3⟩; obtain ⟨n4, a4, l4, c4, n5, a5, l5, c5, rfl⟩ := hL.form; have hB3 : Below W.heap.size W w3 := bthen hB2 hb3; have y0 := x0.next hB3; obtain ⟨_, _, _, _, _, _, _, _, j0, j1, j2, j3, f⟩ := y0.cells; have f0 := f 0; have f1 := f 1; have f2 := f 2; have f3 := f 3; clear f))
  all_goals
    have hbx : Hid _ := put4_boxed (base := w.heap.size) y0.noint (by omega) n4 a4 l4 c4 n5 a5 l5 c5
    have hBf := bthen hbW hB3
    have hLf : Hid _ := hbx.out.lowE hL
    clear hO hL hU hb2 hb3 hB2 hB3
    go_wp2
    exact bodyPost_ret (v := .agg #[.bool n4, .slice a4 l4 c4, .bool n5, .slice a5 l5 c5]) (by simp [results, Tryz.results89, go_sem, j0, j1, j2, j3]) rfl ⟨_, rfl, hLf.out, hbx.out.keep hBf (Nat.le_refl _) hBf.size⟩
set_option maxRecDepth 20000 in
set_option maxHeartbeats 4000000 in
theorem parse_tenth (w : World) : Calls Tryz.prog 47 #[.string ⟨#[48, 46, 49]⟩] w fun e w' => ∃ t, e = .returned (.tuple #[t, .bool true]) ∧ LowE w' t 1 10 10 ∧ Below w.heap.size w w' := by
  have x0 := Box4.new w false none 0 0 false none 0 0 26 (by decide)
  have hbW : Below w.heap.size w (w.alloc (.cells #[.bool false, .slice none 0 0, .bool false, .slice none 0 0] 26)) := (Below.refl _ _).alloc (Nat.le_refl _) _
  obtain ⟨W, hW⟩ : ∃ W, W = w.alloc (.cells #[.bool false, .slice none 0 0, .bool false, .slice none 0 0] 26) := ⟨_, rfl⟩
  have hlt : w.heap.size < W.heap.size := by rw [hW]; simp
  rw [← hW] at x0 hbW
  have k1 := cutBase_01 W
  replace k1 := (show Hid _ from k1)
  have e1 : (⟨#[48]⟩ : ByteArray) ++ ⟨#[49]⟩ = ⟨#[48, 49]⟩ := by decide
  go_enter Tryz.func47, Tryz.ntmps47
  go_upto_region 1 with fail
  rw [← hW]
  clear hW
  go_wp2_with fail
  refine Calls.mono k1.out ?_
  rintro e w1 ⟨rfl, b1⟩
  go_wp2_with fail
  refine Calls.mono (cutExponent_01 w1) ?_
  rintro e w2 ⟨rfl, b2⟩
  go_wp2_with fail
  refine Calls.mono (cut_01 w2) ?_
  rintro e w3 ⟨rfl, b3⟩
  go_wp2_with fail
  refine Calls.mono (floatForm_01 w3) ?_
  rintro e w4 ⟨rfl, b4⟩
  go_wp2_with fail
  refine Calls.mono (parse_01 w4) ?_
  rintro e w5 ⟨v5, rfl, hO, b5⟩
  have b15 := bthen b1 (bthen b2 (bthen b3 (bthen b4 b5)))
  obtain ⟨n3, a3, l3, c3, rfl⟩ := hO.num.form
  obtain ⟨W5, hW5⟩ : ∃ W5, W5 = w5.alloc (.cells #[.bool n3, .slice a3 l3 c3] 24) := ⟨_, rfl⟩
  have b6 : Below w5.heap.size w5 W5 := by rw [hW5]; exact (Below.refl _ _).alloc (Nat.le_refl _) _
  have g0 : W5.cell? ⟨w5.heap.size, 0, none⟩ = some (.bool n3) := by rw [hW5]; simp [go_sem]
  have g1 : W5.cell? ⟨w5.heap.size, 1, none⟩ = some (.slice a3 l3 c3) := by rw [hW5]; simp [go_sem]
  have hO5 := hO.num.next b6
  go_upto_region 9 with fail
  rw [← hW5]
  clear hW5 hO
  go_wp2_with fail
  refine Calls.mono (parseExponent_01 W5) ?_
  rintro e w6 ⟨rfl, b7⟩
  have h0 := keep_cell b7 g0
  have h1 := keep_cell b7 g1
  go_wp2_with fail
  refine Calls.mono (scale_01 (hO5.next b7) (by decide)) ?_
  rintro e w7 ⟨t, rfl, hL, b8⟩
  have b18 := bthen b15 (bthen b6 (bthen b7 b8))
  obtain ⟨n4, a4, l4, c4, n5, a5, l5, c5, rfl⟩ := hL.form
  have y0 := x0.next b18
  obtain ⟨_, _, _, _, _, _, _, _, j0, j1, j2, j3, f⟩ := y0.cells
  have f0 := f 0
  have f1 := f 1
  have f2 := f 2
  have f3 := f 3
  clear f
  have hbx : Hid _ := put4_boxed (base := w.heap.size) y0.noint (by omega) n4 a4 l4 c4 n5 a5 l5 c5
  have hBf := bthen hbW b18
  have hLf : Hid _ := hbx.out.lowE hL
  clear hL hO5 b15 b18 b1 b2 b3 b4 b5 b6 b7 b8 k1
  go_wp2
  exact bodyPost_ret (v := .tuple #[.agg #[.bool n4, .slice a4 l4 c4, .bool n5, .slice a5 l5 c5], .bool true]) (by simp [results, Tryz.results47, go_sem, j0, j1, j2, j3]) rfl ⟨_, rfl, by obtain ⟨p, q, h1, h2⟩ := hLf.out; exact ⟨p, q, h1.more (by omega), h2⟩, hbx.out.keep hBf (Nat.le_refl _) hBf.size⟩
end Go.Proofs.YtmpefgemlpnbiaaGreat
namespace Go.Proofs.YtmpefgemlpnbiaaGreat
set_option linter.unusedVariables false
open Go.RowKit
attribute [local go_sem ↓] Go.wp_at_zero Go.wp_at_succ
/-- The text of a fraction in lowest terms. -/
def fracT (p q : Int) (ds es : List Int) : ByteArray := txt (decide (p < 0)) ds ++ { data := #[47] } ++ txt (decide (q < 0)) es
theorem text_lowE {w : World} {v : Value} {n d p q : Int} {m : Nat} (h : LowE w v n d m) (hd0 : 0 < d) (hm : m ≤ 200) (hl : Low n d p q) {ds es : List Int} (hd : Decs p ds) (he : Decs q es) :
    Calls Tryz.prog 48 #[v] w fun e w' => e = .returned (.string (fracT p q ds es)) ∧ Below w.heap.size w w' := by
  obtain ⟨p', q', hF, hl'⟩ := h
  obtain ⟨rfl, rfl⟩ : p' = p ∧ q' = q := by
    refine low_uniq hl'.1 hl.1 hl'.2.1 hl.2.1 ?_
    have e1 := hl.2.2
    have e2 := hl'.2.2
    have : p' * q * d = p * q' * d := by
      have a1 : p' * q * d = p' * d * q := by grind
      have a2 : p * q' * d = p * d * q' := by grind
      rw [a1, a2, e1, e2]
      grind
    exact Int.eq_of_mul_eq_mul_right (by omega) this
  refine text_qv (x := p') (y := q') ⟨hl'.1, p', q', hF.frac, ?_⟩ hm hl'.2.1 hd he rfl
  rw [pN_pos hl'.1, pD_of hl'.1]
set_option maxRecDepth 20000 in
set_option maxHeartbeats 4000000 in
theorem Text31_num (b : Nat) (w : World) (hb : b < 18446744073709551616) (hs : b % 9223372036854775808 < 9218868437227405312) {p q : Int} {ds es : List Int} (hl : Low (exN (b % 9223372036854775808)) (exD (b % 9223372036854775808)) p q) (hd : Decs p ds) (he : Decs q es) (hsz : (fracT p q ds es).size ≤ 1000000) (hneg : b < 9223372036854775808) :
    Calls Tryz.prog 31 #[.float .f64 b] w fun e w' => e = .returned (.string (fracT p q ds es)) ∧ Below w.heap.size w w' := by
  have hc := bits64
  have hf := from64
  have h3 := bclr_top b hb
  have kn : Hid _ := isNeg_any b
  rw [decide_eq_false (by omega)] at kn
  have hsm : b % 9223372036854775808 % 9223372036854775808 = b % 9223372036854775808 := Nat.mod_mod _ _
  generalize b % 9223372036854775808 = s at *
  have d1 : decide ((s : Int) > 9218868437227405312) = false := by simp; omega
  have d2 : ((s : Int) == 9218868437227405312) = false := by simp; omega
  have kE : Hid _ := Exact_num s
  have hok : exOk s = true := by unfold exOk; rw [hsm]; simpa using hs
  rw [hok] at kE
  have hDp := exD_pos s
  have kT : Hid (∀ w v, ExactAns w v s → Calls Tryz.prog 48 #[v] w fun e w' => e = .returned (.string (fracT p q ds es)) ∧ Below w.heap.size w w') := fun w v h => text_lowE (h.1 (by rw [hsm]; exact hs)) hDp (by decide) hl hd he
  have kF : Hid (∀ w v, ExactAns w v s → ∃ n1 a1 l1 c1 n2 a2 l2 c2, v = .agg #[.bool n1, .slice a1 l1 c1, .bool n2, .slice a2 l2 c2]) := fun w v h => (h.1 (by rw [hsm]; exact hs)).form
  have kX : Hid (∀ w w' v, Below w.heap.size w w' → ExactAns w v s → ExactAns w' v s) := fun w w' v h k => ⟨fun x => (k.1 x).next h, fun x => (k.2 x).next h⟩
  generalize fracT p q ds es = T at *
  clear hok hl hd he hsm hDp
  go_enter Tryz.func31, Tryz.ntmps31
  go_wp2_with fail
  refine Calls.mono (kE.out _ (by omega)) ?_
  rintro e w1 ⟨t, rfl, hA, b1⟩
  obtain ⟨n1, a1, l1, c1, n2, a2, l2, c2, rfl⟩ := kF.out _ _ hA
  obtain ⟨W1, hW1, b2, _, r0, r1, r2, r3⟩ := box_text w1 n1 a1 l1 c1 n2 a2 l2 c2
  have hA1 := kX.out _ _ _ b2 hA
  have k5 := kT.out _ _ hA1
  replace k5 : Hid _ := k5
  have hB := bthen b1 b2
  replace hA : Hid _ := hA
  clear hA hA1 kE kF kX kT b1 b2
  go_upto_region 9 with fail
  rw [← hW1]
  clear hW1
  go_wp2_with fail
  refine Calls.mono (kn.out _ hb) ?_
  rintro e w2 ⟨rfl, rfl⟩
  go_wp2_with fail
  refine Calls.mono k5.out ?_
  rintro e w3 ⟨rfl, b3⟩
  go_wp2
  go_ret
  exact ⟨rfl, bthen hB b3⟩
end Go.Proofs.YtmpefgemlpnbiaaGreat
namespace Go.Proofs.YtmpefgemlpnbiaaGreat
set_option linter.unusedVariables false
open Go.RowKit
attribute [local go_sem ↓] Go.wp_at_zero Go.wp_at_succ
theorem R64_tenth {k : Nat} (h : R64 1 10 k) : k = 4591870180066957722 := by
  obtain ⟨e, he, _, hs⟩ := h.2 (by decide)
  have h4 : e = -4 := isExp_uniq (by decide) he (by show IsExp 1 10 (-4); exact ⟨by decide, by decide⟩)
  subst h4
  have hs := hs (by decide)
  have hv : (max (-4 - (53 - 1)) (-1074) - -1074) * 2 ^ ((53 : Int) - 1).toNat + near (scN ((1 : Int).natAbs : Int) (max (-4 - (53 - 1)) (-1074))) (scD (dA 10) (max (-4 - (53 - 1)) (-1074))) = 4591870180066957722 := by decide +kernel
  rw [hv] at hs
  omega
theorem R32_tenth {k : Nat} (h : R32 1 10 k) : k = 1036831949 := by
  obtain ⟨e, he, _, hs⟩ := h.2 (by decide)
  have h4 : e = -4 := isExp_uniq (by decide) he (by show IsExp 1 10 (-4); exact ⟨by decide, by decide⟩)
  subst h4
  have hs := hs (by decide)
  have hv : (max (-4 - (24 - 1)) (-149) - -149) * 2 ^ ((24 : Int) - 1).toNat + near (scN ((1 : Int).natAbs : Int) (max (-4 - (24 - 1)) (-149))) (scD (dA 10) (max (-4 - (24 - 1)) (-149))) = 1036831949 := by decide +kernel
  rw [hv] at hs
  omega
theorem low_tenth {w : World} {v : Value} {m : Nat} (h : LowE w v 1 10 m) : Frac w v 1 10 m := by
  obtain ⟨p, q, hF, hl⟩ := h
  obtain ⟨rfl, rfl⟩ : p = 1 ∧ q = 10 := low_uniq hl.1 (by decide) hl.2.1 (by decide) (by have := hl.2.2; omega)
  exact hF.frac
theorem ex34 : exN 4604930618986332160 = 6755399441055744 ∧ exD 4604930618986332160 = 9007199254740992 := by decide +kernel
theorem ex12 : exN (4602678819172646912 % 9223372036854775808) = 4503599627370496 ∧ exD (4602678819172646912 % 9223372036854775808) = 9007199254740992 := by decide +kernel
theorem NaN_any (w : World) : Calls Tryz.prog 44 #[] w fun e w' => e = .returned (.float .f64 9221120237041090561) ∧ w' = w := by
  have hf := from64
  go_enter Tryz.func44, Tryz.ntmps44
  go_wp2
  go_ret
  exact ⟨rfl, rfl⟩
theorem toInt39 : toIntOk 13839336474928165683 (-10) 10 = true ∧ cutI 13839336474928165683 = -3 := by decide +kernel
theorem less11 : rankB 13830554455654793216 < rankB 4607182418800017408 := by decide +kernel
set_option maxRecDepth 20000 in
set_option maxHeartbeats 4000000 in
theorem begun_said (w : World) : Calls Tryz.prog 9 #[] w fun e w' => e = .returned (.bool true) ∧ Below w.heap.size w w' := by
  go_enter Tryz.func9, Tryz.ntmps9
  go_wp2_with fail
  refine Calls.mono (parse_tenth w) ?_
  rintro e w1 ⟨t, rfl, hL, b1⟩
  obtain ⟨n1, a1, l1, c1, n2, a2, l2, c2, rfl⟩ := hL.form
  obtain ⟨W1, hW1, b2, _, r0, r1, r2, r3⟩ := box_text w1 n1 a1 l1 c1 n2 a2 l2 c2
  have hF := low_tenth (hL.next b2)
  have hB := bthen b1 b2
  clear hL b1 b2
  go_upto_region 2 with fail
  rw [← hW1]
  clear hW1
  generalize w1.heap.size = g1 at *
  go_wp2_with fail
  refine Calls.mono (Round64_num hF (by decide)) ?_
  rintro e w2 ⟨k, rfl, hR, b2⟩
  obtain rfl := R64_tenth hR
  have hsg : sgn64 1 10 4591870180066957722 = 4591870180066957722 := by decide
  rw [hsg]
  clear hR hsg
  replace r0 := keep_cell b2 r0
  replace r1 := keep_cell b2 r1
  replace r2 := keep_cell b2 r2
  replace r3 := keep_cell b2 r3
  replace hF := hF.next b2
  replace hB := bthen hB b2
  clear b2
  go_wp2_with fail
  refine Calls.mono (Exact_num 4604930618986332160 w2 (by decide)) ?_
  rintro e w3 ⟨t, rfl, hE, b3⟩
  have hok : exOk 4604930618986332160 = true := by decide
  rw [hok]
  have hE := hE.1 (by decide)
  rw [ex34.1, ex34.2] at hE
  obtain ⟨n3, a3, l3, c3, n4, a4, l4, c4, rfl⟩ := hE.form
  obtain ⟨W3, hW3, b4, _, s0, s1, s2, s3⟩ := box_text w3 n3 a3 l3 c3 n4 a4 l4 c4
  have b34 := bthen b3 b4
  replace r0 := keep_cell b34 r0
  replace r1 := keep_cell b34 r1
  replace r2 := keep_cell b34 r2
  replace r3 := keep_cell b34 r3
  replace hF := hF.next b34
  replace hE := hE.next b4
  replace hB := bthen hB b34
  clear hok b3 b4 b34
  go_upto_region 4 with fail
  rw [← hW3]
  clear hW3
  generalize w3.heap.size = g4 at *
  go_wp2_with fail
  refine Calls.mono (NaN_any W3) ?_
  rintro e w4 ⟨rfl, rfl⟩
  go_wp2_with fail
  refine Calls.mono (Exact_num 9221120237041090561 w4 (by decide)) ?_
  rintro e w5 ⟨t, rfl, hN, b5⟩
  have hok : exOk 9221120237041090561 = false := by decide
  rw [hok]
  have hN := hN.2 (by decide)
  obtain ⟨n5, a5, l5, c5, n6, a6, l6, c6, rfl⟩ := hN.form
  obtain ⟨W5, hW5, b6, _⟩ := box_text w5 n5 a5 l5 c5 n6 a6 l6 c6
  have b56 := bthen b5 b6
  replace r0 := keep_cell b56 r0
  replace r1 := keep_cell b56 r1
  replace r2 := keep_cell b56 r2
  replace r3 := keep_cell b56 r3
  replace s0 := keep_cell b56 s0
  replace s1 := keep_cell b56 s1
  replace s2 := keep_cell b56 s2
  replace s3 := keep_cell b56 s3
  replace hF := hF.next b56
  replace hE := hE.next b56
  replace hB := bthen hB b56
  clear hok hN b5 b6 b56
  go_upto_region 5 with fail
  rw [← hW5]
  clear hW5
  go_wp2_with fail
  refine Calls.mono (ToInt_any 13839336474928165683 (-10) 10 W5 (by decide)) ?_
  rintro e w6 ⟨rfl, b6⟩
  rw [toInt39.1, toInt39.2]
  replace r0 := keep_cell b6 r0
  replace r1 := keep_cell b6 r1
  replace r2 := keep_cell b6 r2
  replace r3 := keep_cell b6 r3
  replace s0 := keep_cell b6 s0
  replace s1 := keep_cell b6 s1
  replace s2 := keep_cell b6 s2
  replace s3 := keep_cell b6 s3
  replace hF := hF.next b6
  replace hE := hE.next b6
  replace hB := bthen hB b6
  clear b6
  go_wp2_with fail
  refine Calls.mono (Round32_num hF (by decide)) ?_
  rintro e w7 ⟨k, rfl, hR, b7⟩
  obtain rfl := R32_tenth hR
  have hsg : sgn32 1 10 1036831949 = 1036831949 := by decide
  rw [hsg]
  clear hR hsg
  replace s0 := keep_cell b7 s0
  replace s1 := keep_cell b7 s1
  replace s2 := keep_cell b7 s2
  replace s3 := keep_cell b7 s3
  replace hE := hE.next b7
  replace hB := bthen hB b7
  clear b7 r0 r1 r2 r3 hF
  go_wp2_with fail
  refine Calls.mono (text_lowE hE (by decide) (by decide) (p := 3) (q := 4) ⟨by decide, by decide, by decide⟩ (dec1 3 3 (by decide) rfl) (dec1 4 4 (by decide) rfl)) ?_
  rintro e w8 ⟨rfl, b8⟩
  have ht : fracT 3 4 [3] [4] = ⟨#[51, 47, 52]⟩ := by decide
  rw [ht]
  replace hB := bthen hB b8
  clear ht b8 s0 s1 s2 s3 hE
  go_wp2_with fail
  refine Calls.mono (Text31_num 4602678819172646912 w8 (by decide) (by decide) (p := 1) (q := 2) (by rw [ex12.1, ex12.2]; exact ⟨by decide, by decide, by decide⟩) (dec1 1 1 (by decide) rfl) (dec1 2 2 (by decide) rfl) (by decide) (by decide)) ?_
  rintro e w9 ⟨rfl, b9⟩
  have ht : fracT 1 2 [1] [2] = ⟨#[49, 47, 50]⟩ := by decide
  rw [ht]
  replace hB := bthen hB b9
  clear ht b9
  go_wp2_with fail
  refine Calls.mono (same_any 4591870180066957722 4591870180066957722 w9 (by decide) (by decide)) ?_
  rintro e w10 ⟨rfl, rfl⟩
  rw [decide_eq_true rfl]
  go_wp2_with fail
  refine Calls.mono (lessF_any 13830554455654793216 4607182418800017408 w10 (by decide) (by decide)) ?_
  rintro e w11 ⟨rfl, rfl⟩
  rw [decide_eq_true less11]
  go_wp2_with fail
  refine Calls.mono (fromInt3 w11) ?_
  rintro e w12 ⟨rfl, rfl⟩
  go_wp2
  go_ret
  exact ⟨rfl, hB⟩
end Go.Proofs.YtmpefgemlpnbiaaGreat
