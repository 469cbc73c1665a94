/- ratio: Parse, given its cuts. -/
import Derived.Test.YthiiglhecajhbaaGreatNem
namespace Go.Proofs.YthiiglhecajhbaaGreat
open Go.RowKit
attribute [local go_sem ↓] Go.wp_at_zero Go.wp_at_succ
theorem floatForm_any (B : Int) (h : Bool) (w : World) : Calls Tryz.prog 62 #[.int .i64 B, .bool h] w fun e w' => e = .returned (.bool (decide (B = 10) || (decide (B = 16) && h))) ∧ w' = w := by
  by_cases h10 : B = 10
  · have e10 : (B == 10) = true := by rw [h10]; rfl
    rw [decide_eq_true h10, Bool.true_or]
    clear h10
    go_enter Tryz.func62, Tryz.ntmps62
    go_wp2
    go_ret
    exact ⟨rfl, rfl⟩
  · have e10 : (B == 10) = false := by rw [beq_eq_false_iff_ne]; exact h10
    rw [decide_eq_false h10, Bool.false_or]
    by_cases h16 : B = 16
    · have e16 : (B == 16) = true := by rw [h16]; rfl
      rw [decide_eq_true h16, Bool.true_and]
      clear h16 h10
      go_enter Tryz.func62, Tryz.ntmps62
      go_wp2
      go_ret
      exact ⟨rfl, rfl⟩
    · have e16 : (B == 16) = false := by rw [beq_eq_false_iff_ne]; exact h16
      rw [decide_eq_false h16, Bool.false_and]
      clear h16 h10
      go_enter Tryz.func62, Tryz.ntmps62
      go_wp2
      go_ret
      exact ⟨rfl, rfl⟩
/-- What Parse answers where a point or an exponent stands. -/
def FloatAns (w' : World) (t : Value) (ok : Bool) (B : Int) (D X : ByteArray) (np : Nat) (hasE FF : Bool) : Prop :=
  (ok = false ∧ LowE w' t 0 1 2 ∧ (FF = false ∨ ¬ goodT D B ∨ ∃ p, expAns X hasE p false)) ∨
  (ok = true ∧ FF = true ∧ goodT D B ∧ ∃ p, expAns X hasE p true ∧ ∃ r q : Int, r = (if B = 16 then 2 else 10) ∧ q = p - (if B = 16 then 4 * (np : Int) else np) ∧ ((0 ≤ q ∧ LowE w' t (hor B (digs D) * r ^ q.toNat) 1 (D.size + 1 + 116)) ∨ (q < 0 ∧ LowE w' t (hor B (digs D)) (r ^ (-q).toNat) (D.size + 1 + 114))))
theorem parseExponent_no (s : ByteArray) (w : World) : Calls Tryz.prog 64 #[.string s, .bool false] w fun e w' => ∃ p ok, e = .returned (.tuple #[.int .i64 p, .bool ok]) ∧ expAns s false p ok ∧ Below w.heap.size w w' := by
  have h : expAns s false 0 true := .inl ⟨rfl, rfl, rfl⟩
  go_enter Tryz.func64, Tryz.ntmps64
  go_wp2
  exact bodyPost_ret (v := .tuple #[.int .i64 0, .bool true]) (by simp [results, Tryz.results64, go_sem]) rfl ⟨_, _, rfl, h, Below.refl _ _⟩
theorem parseExponent_any (s : ByteArray) (has : Bool) (hs : s.size < 100000) (w : World) : Calls Tryz.prog 64 #[.string s, .bool has] w fun e w' => ∃ p ok, e = .returned (.tuple #[.int .i64 p, .bool ok]) ∧ expAns s has p ok ∧ Below w.heap.size w w' := by
  cases has with
  | false => exact parseExponent_no s w
  | true => exact parseExponent_has s hs w
theorem expAns_bound {s : ByteArray} {has : Bool} {p : Int} {ok : Bool} (h : expAns s has p ok) : -999 ≤ p ∧ p ≤ 999 := by
  rcases h with ⟨_, rfl, _⟩ | ⟨_, _, rfl, _⟩ | ⟨_, hg, h9, _, rfl⟩
  · decide
  · decide
  · have := hor_ge _ hg
    split <;> omega
theorem scale_negq {w : World} {u : Value} {Z : Int} {m : Nat} (hu : Num w u Z m) (hm : m ≤ 70) (r : Int) (hr0 : 2 ≤ r) (hr : r ≤ 10) (n : Nat) (hn0 : 0 < n) (hn : n ≤ 1060 ∨ (r = 2 ∧ n ≤ 2000)) (q : Int) (hq : q = -(n : Int)) :
    Calls Tryz.prog 65 #[u, .int .i64 r, .int .i64 q] w fun e w' => ∃ t, e = .returned t ∧ LowE w' t Z (r ^ n) (m + 114) ∧ Below w.heap.size w w' := by
  rw [hq]
  exact scale_neg hu hm r hr0 hr n hn0 hn
theorem scale_posq {w : World} {u : Value} {Z : Int} {m : Nat} (hu : Num w u Z m) (hm : m ≤ 70) (r : Int) (hr0 : 2 ≤ r) (hr : r ≤ 10) (n : Nat) (hn : n ≤ 1060 ∨ (r = 2 ∧ n ≤ 2000)) (q : Int) (hq : q = (n : Int)) :
    Calls Tryz.prog 65 #[u, .int .i64 r, .int .i64 q] w fun e w' => ∃ t, e = .returned t ∧ LowE w' t (Z * r ^ n) 1 (m + 116) ∧ Below w.heap.size w w' := by
  rw [hq]
  exact scale_pos hu hm r hr0 hr n hn
def ParsePost (w : World) (B : Int) (X WH PT : ByteArray) (hasE hasP : Bool) (e : Ending) (w' : World) : Prop := ∃ t ok, e = .returned (.tuple #[t, .bool ok]) ∧ (if hasP = false ∧ hasE = false then WholeAns w' WH B t ok else FloatAns w' t ok B (WH ++ PT) X PT.size hasE (decide (B = 10) || (decide (B = 16) && hasE))) ∧ Below w.heap.size w w'
set_option maxRecDepth 20000 in
set_option maxHeartbeats 16000000 in
theorem parse_whole (s : ByteArray) (w : World) (B : Int) (R M X WH PT : ByteArray)
    (kB0 : ∀ W, Calls Tryz.prog 58 #[.string s] W fun e w' => e = .returned (.tuple #[.int .i64 B, .string R]) ∧ Below W.heap.size W w')
    (kE0 : ∀ W, Calls Tryz.prog 59 #[.string R, .int .i64 B] W fun e w' => e = .returned (.tuple #[.string M, .string X, .bool false]) ∧ Below W.heap.size W w')
    (kC0 : ∀ W, Calls Tryz.prog 60 #[.string M, .string ⟨#[46]⟩] W fun e w' => e = .returned (.tuple #[.string WH, .string PT, .bool false]) ∧ Below W.heap.size W w')
    (hWs : WH.size ≤ 60) (_hPs : PT.size ≤ 60) (_hDs : (WH ++ PT).size ≤ 60) (_hXs : X.size ≤ 60) : Calls Tryz.prog 33 #[.string s] w fun e w' => ParsePost w B X WH PT false false e w' := by
  have x0 := Box4.new w false none 0 0 false none 0 0 26 (by decide)
  have hbW : Below w.heap.size w (w.alloc (.cells #[.bool false, .slice none 0 0, .bool false, .slice none 0 0] 26)) := (Below.refl _ _).alloc (Nat.le_refl _) _
  obtain ⟨W, hW⟩ : ∃ W, W = w.alloc (.cells #[.bool false, .slice none 0 0, .bool false, .slice none 0 0] 26) := ⟨_, rfl⟩
  have hlt : w.heap.size < W.heap.size := by rw [hW]; simp
  rw [← hW] at x0 hbW
  have kB : Hid _ := kB0 W
  have kE : Hid _ := kE0
  have kC : Hid _ := kC0
  clear kB0 kE0 kC0
  have hsel : Hid (∀ w' t ok, WholeAns w' WH B t ok → (if false = false ∧ false = false then WholeAns w' WH B t ok else FloatAns w' t ok B (WH ++ PT) X PT.size false (decide (B = 10) || (decide (B = 16) && false)))) := fun w' t ok h => by rw [if_pos ⟨rfl, rfl⟩]; exact h
  go_enter Tryz.func33, Tryz.ntmps33
  go_upto_region 1 with fail
  rw [← hW]
  clear hW
  go_wp2_with fail
  refine Calls.mono kB.out ?_
  rintro e w1 ⟨rfl, b1⟩
  go_wp2_with fail
  refine Calls.mono (kE.out w1) ?_
  rintro e w2 ⟨rfl, b2⟩
  go_wp2_with fail
  refine Calls.mono (kC.out w2) ?_
  rintro e w3 ⟨rfl, b3⟩
  have b13 := bthen b1 (bthen b2 b3)
  clear kB kE kC
  go_wp2_with fail
  refine Calls.mono (parseWhole_any WH B (by omega) w3) ?_
  rintro e w8 ⟨t, ok, rfl, hA, b8⟩
  have bb := bthen b13 b8
  obtain ⟨n4, a4, l4, c4, n5, a5, l5, c5, rfl⟩ : ∃ n4 a4 l4 c4 n5 a5 l5 c5, t = .agg #[.bool n4, .slice a4 l4 c4, .bool n5, .slice a5 l5 c5] := by
    rcases hA with ⟨_, _, _, h⟩ | ⟨_, _, h⟩
    · exact h.form
    · exact h.form
  have y0 := x0.next bb
  obtain ⟨_, _, _, _, _, _, _, _, j0, j1, j2, j3, f⟩ := y0.cells
  have f0 := f 0
  have f1 := f 1
  have f2 := f 2
  have f3 := f 3
  clear f
  have hbx : Hid _ := put4_boxed (base := w.heap.size) y0.noint (by omega) n4 a4 l4 c4 n5 a5 l5 c5
  have hBf := bthen hbW bb
  have hAf : Hid (WholeAns ((((w8.setCell ⟨w.heap.size, 0, none⟩ (.bool n4)).setCell ⟨w.heap.size, 1, none⟩ (.slice a4 l4 c4)).setCell ⟨w.heap.size, 2, none⟩ (.bool n5)).setCell ⟨w.heap.size, 3, none⟩ (.slice a5 l5 c5)) WH B (.agg #[.bool n4, .slice a4 l4 c4, .bool n5, .slice a5 l5 c5]) ok) := by
    rcases hA with ⟨q1, q2, q3, h⟩ | ⟨q1, q2, h⟩
    · exact .inl ⟨q1, q2, q3, hbx.out.lowE h⟩
    · exact .inr ⟨q1, q2, hbx.out.lowE h⟩
  clear hA
  go_wp2
  exact bodyPost_ret (v := .tuple #[.agg #[.bool n4, .slice a4 l4 c4, .bool n5, .slice a5 l5 c5], .bool ok]) (by simp [results, Tryz.results33, go_sem, j0, j1, j2, j3]) rfl (show ParsePost _ _ _ _ _ _ _ _ _ from ⟨_, _, rfl, hsel.out _ _ _ hAf.out, hbx.out.keep hBf (Nat.le_refl _) hBf.size⟩)
end Go.Proofs.YthiiglhecajhbaaGreat
namespace Go.Proofs.YthiiglhecajhbaaGreat
open Go.RowKit
attribute [local go_sem ↓] Go.wp_at_zero Go.wp_at_succ
set_option maxRecDepth 20000 in
set_option maxHeartbeats 16000000 in
theorem parse_ft (s : ByteArray) (w : World) (B : Int) (R M X WH PT : ByteArray)
    (kB0 : ∀ W, Calls Tryz.prog 58 #[.string s] W fun e w' => e = .returned (.tuple #[.int .i64 B, .string R]) ∧ Below W.heap.size W w')
    (kE0 : ∀ W, Calls Tryz.prog 59 #[.string R, .int .i64 B] W fun e w' => e = .returned (.tuple #[.string M, .string X, .bool true]) ∧ Below W.heap.size W w')
    (kC0 : ∀ W, Calls Tryz.prog 60 #[.string M, .string ⟨#[46]⟩] W fun e w' => e = .returned (.tuple #[.string WH, .string PT, .bool false]) ∧ Below W.heap.size W w')
    (hWs : WH.size ≤ 60) (hPs : PT.size ≤ 60) (hDs : (WH ++ PT).size ≤ 60) (hXs : X.size ≤ 60) : Calls Tryz.prog 33 #[.string s] w fun e w' => ParsePost w B X WH PT true false e w' := by
  have x0 := Box4.new w false none 0 0 false none 0 0 26 (by decide)
  have hbW : Below w.heap.size w (w.alloc (.cells #[.bool false, .slice none 0 0, .bool false, .slice none 0 0] 26)) := (Below.refl _ _).alloc (Nat.le_refl _) _
  obtain ⟨W, hW⟩ : ∃ W, W = w.alloc (.cells #[.bool false, .slice none 0 0, .bool false, .slice none 0 0] 26) := ⟨_, rfl⟩
  have hlt : w.heap.size < W.heap.size := by rw [hW]; simp
  rw [← hW] at x0 hbW
  have kB : Hid _ := kB0 W
  have kE : Hid _ := kE0
  have kC : Hid _ := kC0
  clear kB0 kE0 kC0
  have hwh : ¬ (false = false ∧ true = false) := by simp
  obtain ⟨D, hD⟩ : ∃ D, D = WH ++ PT := ⟨_, rfl⟩
  obtain ⟨FF, hFF⟩ : ∃ FF, FF = (decide (B = 10) || (decide (B = 16) && true)) := ⟨_, rfl⟩
  have kFF : Hid (∀ W, Calls Tryz.prog 62 #[.int .i64 B, .bool true] W fun e w' => e = .returned (.bool FF) ∧ w' = W) := fun W => by have := floatForm_any B true W; rw [← hFF] at this; exact this
  have kX : Hid _ := fun W => parseExponent_any X true (by omega) W
  have hsel : Hid (∀ w' t ok, FloatAns w' t ok B D X PT.size true FF → Below w.heap.size w w' → ParsePost w B X WH PT true false (.returned (.tuple #[t, .bool ok])) w') := fun w' t ok h hb => ⟨t, ok, rfl, by rw [if_neg hwh, ← hD, ← hFF]; exact h, hb⟩
  rw [← hD] at hDs
  replace hD : Hid (WH ++ PT = D) := hD.symm
  have hDD : WH ++ PT = D := hD.out
  clear hFF hwh
  cases hFv0 : FF with
  | false =>
    rw [hFv0] at kFF
    have hFv : Hid (FF = false) := hFv0
    clear hFv0
    go_enter Tryz.func33, Tryz.ntmps33
    go_upto_region 1 with fail
    rw [← hW]
    clear hW
    go_wp2_with fail
    refine Calls.mono kB.out ?_
    rintro e w1 ⟨rfl, b1⟩
    go_wp2_with fail
    refine Calls.mono (kE.out w1) ?_
    rintro e w2 ⟨rfl, b2⟩
    go_wp2_with fail
    refine Calls.mono (kC.out w2) ?_
    rintro e w3 ⟨rfl, b3⟩
    have b13 := bthen b1 (bthen b2 b3)
    clear kB kE kC
    go_wp2_with fail
    refine Calls.mono (kFF.out w3) ?_
    rintro e w4 ⟨rfl, rfl⟩
    go_wp2_with fail
    refine Calls.mono (zero_any _) ?_
    rintro e w8 ⟨t, rfl, hF, b8⟩
    have hL := lowE_zero hF
    have bb := bthen b13 b8
    obtain ⟨n4, a4, l4, c4, n5, a5, l5, c5, rfl⟩ := hL.form
    have y0 := x0.next bb
    obtain ⟨_, _, _, _, _, _, _, _, j0, j1, j2, j3, f⟩ := y0.cells
    have f0 := f 0
    have f1 := f 1
    have f2 := f 2
    have f3 := f 3
    clear f
    have hbx : Hid _ := put4_boxed (base := w.heap.size) y0.noint (by omega) n4 a4 l4 c4 n5 a5 l5 c5
    have hBf := bthen hbW bb
    have hLf : Hid _ := hbx.out.lowE hL
    have hAns : Hid _ := hsel.out _ _ _ (.inl ⟨rfl, hLf.out, .inl hFv.out⟩) (hbx.out.keep hBf (Nat.le_refl _) hBf.size)
    clear hL hF hLf
    go_wp2
    exact bodyPost_ret (v := .tuple #[.agg #[.bool n4, .slice a4 l4 c4, .bool n5, .slice a5 l5 c5], .bool false]) (by simp [results, Tryz.results33, go_sem, j0, j1, j2, j3]) rfl hAns.out
  | true =>
    rw [hFv0] at kFF
    have hFv : Hid (FF = true) := hFv0
    clear hFv0
    by_cases hg0 : goodT D B
    · have hg : Hid (goodT D B) := hg0
      clear hg0
      go_enter Tryz.func33, Tryz.ntmps33
      go_upto_region 1 with fail
      rw [← hW]
      clear hW
      go_wp2_with fail
      refine Calls.mono kB.out ?_
      rintro e w1 ⟨rfl, b1⟩
      go_wp2_with fail
      refine Calls.mono (kE.out w1) ?_
      rintro e w2 ⟨rfl, b2⟩
      go_wp2_with fail
      refine Calls.mono (kC.out w2) ?_
      rintro e w3 ⟨rfl, b3⟩
      have b13 := bthen b1 (bthen b2 b3)
      clear kB kE kC
      go_wp2_with fail
      refine Calls.mono (kFF.out w3) ?_
      rintro e w4 ⟨rfl, rfl⟩
      have kP : Hid _ := Parse_ok D B w4 hg.out.2.1 hg.out.1 (by omega) hg.out.2.2
      go_wp2_with fail
      refine Calls.mono kP.out ?_
      rintro e w5 ⟨v5, rfl, hO, b5⟩
      clear kP
      obtain ⟨n3, a3, l3, c3, rfl⟩ := hO.num.form
      obtain ⟨W5, hW5⟩ : ∃ W5, W5 = w5.alloc (.cells #[.bool n3, .slice a3 l3 c3] 24) := ⟨_, rfl⟩
      have b6 : Below w5.heap.size w5 W5 := by rw [hW5]; exact (Below.refl _ _).alloc (Nat.le_refl _) _
      have g0 : W5.cell? ⟨w5.heap.size, 0, none⟩ = some (.bool n3) := by rw [hW5]; simp [go_sem]
      have g1 : W5.cell? ⟨w5.heap.size, 1, none⟩ = some (.slice a3 l3 c3) := by rw [hW5]; simp [go_sem]
      have hO5 : Hid (Num W5 (.agg #[.bool n3, .slice a3 l3 c3]) (hor B (digs D)) (D.size + 1)) := hO.num.next b6
      go_upto_region 9 with fail
      rw [← hW5]
      clear hW5 hO
      go_wp2_with fail
      refine Calls.mono (kX.out W5) ?_
      rintro e w6 ⟨p, ok2, rfl, hX, b7⟩
      have h0 := keep_cell b7 g0
      have h1 := keep_cell b7 g1
      have hO6 : Hid (Num w6 (.agg #[.bool n3, .slice a3 l3 c3]) (hor B (digs D)) (D.size + 1)) := Num.next hO5.out b7
      have b16 := bthen b13 (bthen b5 (bthen b6 b7))
      obtain ⟨hp1, hp2⟩ := expAns_bound hX
      clear g0 g1 hO5
      cases ok2 with
      | false =>
        go_wp2_with fail
        refine Calls.mono (zero_any _) ?_
        rintro e w8 ⟨t, rfl, hF, b8⟩
        have hL := lowE_zero hF
        have bb := bthen b16 b8
        obtain ⟨n4, a4, l4, c4, n5, a5, l5, c5, rfl⟩ := hL.form
        have y0 := x0.next bb
        obtain ⟨_, _, _, _, _, _, _, _, j0, j1, j2, j3, f⟩ := y0.cells
        have f0 := f 0
        have f1 := f 1
        have f2 := f 2
        have f3 := f 3
        clear f
        have hbx : Hid _ := put4_boxed (base := w.heap.size) y0.noint (by omega) n4 a4 l4 c4 n5 a5 l5 c5
        have hBf := bthen hbW bb
        have hLf : Hid _ := hbx.out.lowE hL
        have hAns : Hid _ := hsel.out _ _ _ (.inl ⟨rfl, hLf.out, .inr (.inr ⟨p, hX⟩)⟩) (hbx.out.keep hBf (Nat.le_refl _) hBf.size)
        clear hL hF hLf
        go_wp2
        exact bodyPost_ret (v := .tuple #[.agg #[.bool n4, .slice a4 l4 c4, .bool n5, .slice a5 l5 c5], .bool false]) (by simp [results, Tryz.results33, go_sem, j0, j1, j2, j3]) rfl hAns.out
      | true =>
        by_cases h16 : B = 16
        · have e16 : (B == 16) = true := by rw [h16]; rfl
          have h16h : Hid _ := h16
          obtain ⟨F4, hF4⟩ : ∃ F4 : Int, F4 = 4 * (PT.size : Int) := ⟨_, rfl⟩
          obtain ⟨q, hq1⟩ : ∃ q : Int, q = p - F4 := ⟨_, rfl⟩
          have hq0 : Hid (q = p - 4 * (PT.size : Int)) := by show q = _; rw [hq1, hF4]
          have hwF : IntKind.i64.wrap (4 * (PT.size : Int)) = F4 := by rw [IntKind.wrap_i64]; omega
          have hF4b : 0 ≤ F4 ∧ F4 ≤ 240 := by omega
          have hwq : IntKind.i64.wrap (p - F4) = q := by rw [IntKind.wrap_i64]; omega
          have hqb : -1300 ≤ q ∧ q ≤ 999 := by omega
          clear h16 hF4
          replace hq1 : Hid _ := hq1
          by_cases hq : q < 0
          · obtain ⟨n, hn⟩ : ∃ n : Nat, q = -(n : Int) := ⟨(-q).toNat, by omega⟩
            have hside : Hid (n ≤ 2000) := (show n ≤ 2000 by omega)
            have hn0 : Hid (0 < n) := (show 0 < n by omega)
            replace hn : Hid _ := hn
            go_wp2_with fail
            refine Calls.mono (scale_negq (Z := hor B (digs D)) (m := D.size + 1) hO6.out (by omega) 2 (by decide) (by decide) n hn0.out (.inr ⟨rfl, hside.out⟩) q hn.out) ?_
            rintro e w8 ⟨t, rfl, hL, b8⟩
            have bb := bthen b16 b8
            obtain ⟨n4, a4, l4, c4, n5, a5, l5, c5, rfl⟩ := hL.form
            have y0 := x0.next bb
            obtain ⟨_, _, _, _, _, _, _, _, j0, j1, j2, j3, f⟩ := y0.cells
            have f0 := f 0
            have f1 := f 1
            have f2 := f 2
            have f3 := f 3
            clear f
            have hbx : Hid _ := put4_boxed (base := w.heap.size) y0.noint (by omega) n4 a4 l4 c4 n5 a5 l5 c5
            have hBf := bthen hbW bb
            have hLf : Hid _ := hbx.out.lowE hL
            have hAns : Hid _ := hsel.out _ _ _ (.inr ⟨rfl, hFv.out, hg.out, p, hX, 2, q, by rw [if_pos h16h.out], by rw [if_pos h16h.out]; exact hq0.out, by have hn := hn.out; exact .inr ⟨hq, by rw [show (-q).toNat = n by omega]; exact hLf.out⟩⟩) (hbx.out.keep hBf (Nat.le_refl _) hBf.size)
            clear hL hLf
            go_wp2
            exact bodyPost_ret (v := .tuple #[.agg #[.bool n4, .slice a4 l4 c4, .bool n5, .slice a5 l5 c5], .bool true]) (by simp [results, Tryz.results33, go_sem, j0, j1, j2, j3]) rfl hAns.out
          · obtain ⟨n, hn⟩ : ∃ n : Nat, q = (n : Int) := ⟨q.toNat, by omega⟩
            have hside : Hid (n ≤ 2000) := (show n ≤ 2000 by omega)
            replace hn : Hid _ := hn
            go_wp2_with fail
            refine Calls.mono (scale_posq (Z := hor B (digs D)) (m := D.size + 1) hO6.out (by omega) 2 (by decide) (by decide) n (.inr ⟨rfl, hside.out⟩) q hn.out) ?_
            rintro e w8 ⟨t, rfl, hL, b8⟩
            have bb := bthen b16 b8
            obtain ⟨n4, a4, l4, c4, n5, a5, l5, c5, rfl⟩ := hL.form
            have y0 := x0.next bb
            obtain ⟨_, _, _, _, _, _, _, _, j0, j1, j2, j3, f⟩ := y0.cells
            have f0 := f 0
            have f1 := f 1
            have f2 := f 2
            have f3 := f 3
            clear f
            have hbx : Hid _ := put4_boxed (base := w.heap.size) y0.noint (by omega) n4 a4 l4 c4 n5 a5 l5 c5
            have hBf := bthen hbW bb
            have hLf : Hid _ := hbx.out.lowE hL
            have hAns : Hid _ := hsel.out _ _ _ (.inr ⟨rfl, hFv.out, hg.out, p, hX, 2, q, by rw [if_pos h16h.out], by rw [if_pos h16h.out]; exact hq0.out, by have hn := hn.out; exact .inl ⟨by omega, by rw [show q.toNat = n by omega]; exact hLf.out⟩⟩) (hbx.out.keep hBf (Nat.le_refl _) hBf.size)
            clear hL hLf
            go_wp2
            exact bodyPost_ret (v := .tuple #[.agg #[.bool n4, .slice a4 l4 c4, .bool n5, .slice a5 l5 c5], .bool true]) (by simp [results, Tryz.results33, go_sem, j0, j1, j2, j3]) rfl hAns.out
        · have e16 : (B == 16) = false := by rw [beq_eq_false_iff_ne]; exact h16
          have h16h : Hid _ := h16
          obtain ⟨F4, hF4⟩ : ∃ F4 : Int, F4 = (PT.size : Int) := ⟨_, rfl⟩
          obtain ⟨q, hq1⟩ : ∃ q : Int, q = p - F4 := ⟨_, rfl⟩
          have hq0 : Hid (q = p - (PT.size : Int)) := by show q = _; rw [hq1, hF4]
          have hwF : IntKind.i64.wrap ((PT.size : Int)) = F4 := by rw [IntKind.wrap_i64]; omega
          have hF4b : 0 ≤ F4 ∧ F4 ≤ 240 := by omega
          have hwq : IntKind.i64.wrap (p - F4) = q := by rw [IntKind.wrap_i64]; omega
          have hqb : -1300 ≤ q ∧ q ≤ 999 := by omega
          have hqb2 : -1059 ≤ q := by omega
          have hwq2 : IntKind.i64.wrap (p - (PT.size : Int)) = q := by rw [IntKind.wrap_i64]; omega
          clear hwF hwq
          clear h16 hF4
          replace hq1 : Hid _ := hq1
          by_cases hq : q < 0
          · obtain ⟨n, hn⟩ : ∃ n : Nat, q = -(n : Int) := ⟨(-q).toNat, by omega⟩
            have hside : Hid (n ≤ 1060) := (show n ≤ 1060 by omega)
            have hn0 : Hid (0 < n) := (show 0 < n by omega)
            replace hn : Hid _ := hn
            go_wp2_with fail
            refine Calls.mono (scale_negq (Z := hor B (digs D)) (m := D.size + 1) hO6.out (by omega) 10 (by decide) (by decide) n hn0.out (.inl hside.out) q hn.out) ?_
            rintro e w8 ⟨t, rfl, hL, b8⟩
            have bb := bthen b16 b8
            obtain ⟨n4, a4, l4, c4, n5, a5, l5, c5, rfl⟩ := hL.form
            have y0 := x0.next bb
            obtain ⟨_, _, _, _, _, _, _, _, j0, j1, j2, j3, f⟩ := y0.cells
            have f0 := f 0
            have f1 := f 1
            have f2 := f 2
            have f3 := f 3
            clear f
            have hbx : Hid _ := put4_boxed (base := w.heap.size) y0.noint (by omega) n4 a4 l4 c4 n5 a5 l5 c5
            have hBf := bthen hbW bb
            have hLf : Hid _ := hbx.out.lowE hL
            have hAns : Hid _ := hsel.out _ _ _ (.inr ⟨rfl, hFv.out, hg.out, p, hX, 10, q, by rw [if_neg h16h.out], by rw [if_neg h16h.out]; exact hq0.out, by have hn := hn.out; exact .inr ⟨hq, by rw [show (-q).toNat = n by omega]; exact hLf.out⟩⟩) (hbx.out.keep hBf (Nat.le_refl _) hBf.size)
            clear hL hLf
            go_wp2
            exact bodyPost_ret (v := .tuple #[.agg #[.bool n4, .slice a4 l4 c4, .bool n5, .slice a5 l5 c5], .bool true]) (by simp [results, Tryz.results33, go_sem, j0, j1, j2, j3]) rfl hAns.out
          · obtain ⟨n, hn⟩ : ∃ n : Nat, q = (n : Int) := ⟨q.toNat, by omega⟩
            have hside : Hid (n ≤ 1060) := (show n ≤ 1060 by omega)
            replace hn : Hid _ := hn
            go_wp2_with fail
            refine Calls.mono (scale_posq (Z := hor B (digs D)) (m := D.size + 1) hO6.out (by omega) 10 (by decide) (by decide) n (.inl hside.out) q hn.out) ?_
            rintro e w8 ⟨t, rfl, hL, b8⟩
            have bb := bthen b16 b8
            obtain ⟨n4, a4, l4, c4, n5, a5, l5, c5, rfl⟩ := hL.form
            have y0 := x0.next bb
            obtain ⟨_, _, _, _, _, _, _, _, j0, j1, j2, j3, f⟩ := y0.cells
            have f0 := f 0
            have f1 := f 1
            have f2 := f 2
            have f3 := f 3
            clear f
            have hbx : Hid _ := put4_boxed (base := w.heap.size) y0.noint (by omega) n4 a4 l4 c4 n5 a5 l5 c5
            have hBf := bthen hbW bb
            have hLf : Hid _ := hbx.out.lowE hL
            have hAns : Hid _ := hsel.out _ _ _ (.inr ⟨rfl, hFv.out, hg.out, p, hX, 10, q, by rw [if_neg h16h.out], by rw [if_neg h16h.out]; exact hq0.out, by have hn := hn.out; exact .inl ⟨by omega, by rw [show q.toNat = n by omega]; exact hLf.out⟩⟩) (hbx.out.keep hBf (Nat.le_refl _) hBf.size)
            clear hL hLf
            go_wp2
            exact bodyPost_ret (v := .tuple #[.agg #[.bool n4, .slice a4 l4 c4, .bool n5, .slice a5 l5 c5], .bool true]) (by simp [results, Tryz.results33, go_sem, j0, j1, j2, j3]) rfl hAns.out
    · have hg : Hid (¬ goodT D B) := hg0
      clear hg0
      go_enter Tryz.func33, Tryz.ntmps33
      go_upto_region 1 with fail
      rw [← hW]
      clear hW
      go_wp2_with fail
      refine Calls.mono kB.out ?_
      rintro e w1 ⟨rfl, b1⟩
      go_wp2_with fail
      refine Calls.mono (kE.out w1) ?_
      rintro e w2 ⟨rfl, b2⟩
      go_wp2_with fail
      refine Calls.mono (kC.out w2) ?_
      rintro e w3 ⟨rfl, b3⟩
      have b13 := bthen b1 (bthen b2 b3)
      clear kB kE kC
      go_wp2_with fail
      refine Calls.mono (kFF.out w3) ?_
      rintro e w4 ⟨rfl, rfl⟩
      have kP : Hid _ := Parse_no D B w4 (by omega) hg.out
      go_wp2_with fail
      refine Calls.mono kP.out ?_
      rintro e w5 ⟨rfl, b5⟩
      clear kP
      have b6 : Below w4.heap.size w4 (w5.alloc (.cells #[.bool false, .slice none 0 0] 24)) := b5.alloc b5.size _
      go_wp2_with fail
      refine Calls.mono (zero_any _) ?_
      rintro e w8 ⟨t, rfl, hF, b8⟩
      have hL := lowE_zero hF
      have bb := bthen b13 (bthen b6 b8)
      obtain ⟨n4, a4, l4, c4, n5, a5, l5, c5, rfl⟩ := hL.form
      have y0 := x0.next bb
      obtain ⟨_, _, _, _, _, _, _, _, j0, j1, j2, j3, f⟩ := y0.cells
      have f0 := f 0
      have f1 := f 1
      have f2 := f 2
      have f3 := f 3
      clear f
      have hbx : Hid _ := put4_boxed (base := w.heap.size) y0.noint (by omega) n4 a4 l4 c4 n5 a5 l5 c5
      have hBf := bthen hbW bb
      have hLf : Hid _ := hbx.out.lowE hL
      have hAns : Hid _ := hsel.out _ _ _ (.inl ⟨rfl, hLf.out, .inr (.inl hg.out)⟩) (hbx.out.keep hBf (Nat.le_refl _) hBf.size)
      clear hL hF hLf
      go_wp2
      exact bodyPost_ret (v := .tuple #[.agg #[.bool n4, .slice a4 l4 c4, .bool n5, .slice a5 l5 c5], .bool false]) (by simp [results, Tryz.results33, go_sem, j0, j1, j2, j3]) rfl hAns.out
end Go.Proofs.YthiiglhecajhbaaGreat
namespace Go.Proofs.YthiiglhecajhbaaGreat
open Go.RowKit
attribute [local go_sem ↓] Go.wp_at_zero Go.wp_at_succ
set_option maxRecDepth 20000 in
set_option maxHeartbeats 16000000 in
theorem parse_tf (s : ByteArray) (w : World) (B : Int) (R M X WH PT : ByteArray)
    (kB0 : ∀ W, Calls Tryz.prog 58 #[.string s] W fun e w' => e = .returned (.tuple #[.int .i64 B, .string R]) ∧ Below W.heap.size W w')
    (kE0 : ∀ W, Calls Tryz.prog 59 #[.string R, .int .i64 B] W fun e w' => e = .returned (.tuple #[.string M, .string X, .bool false]) ∧ Below W.heap.size W w')
    (kC0 : ∀ W, Calls Tryz.prog 60 #[.string M, .string ⟨#[46]⟩] W fun e w' => e = .returned (.tuple #[.string WH, .string PT, .bool true]) ∧ Below W.heap.size W w')
    (hWs : WH.size ≤ 60) (hPs : PT.size ≤ 60) (hDs : (WH ++ PT).size ≤ 60) (hXs : X.size ≤ 60) : Calls Tryz.prog 33 #[.string s] w fun e w' => ParsePost w B X WH PT false true e w' := by
  have x0 := Box4.new w false none 0 0 false none 0 0 26 (by decide)
  have hbW : Below w.heap.size w (w.alloc (.cells #[.bool false, .slice none 0 0, .bool false, .slice none 0 0] 26)) := (Below.refl _ _).alloc (Nat.le_refl _) _
  obtain ⟨W, hW⟩ : ∃ W, W = w.alloc (.cells #[.bool false, .slice none 0 0, .bool false, .slice none 0 0] 26) := ⟨_, rfl⟩
  have hlt : w.heap.size < W.heap.size := by rw [hW]; simp
  rw [← hW] at x0 hbW
  have kB : Hid _ := kB0 W
  have kE : Hid _ := kE0
  have kC : Hid _ := kC0
  clear kB0 kE0 kC0
  have hwh : ¬ (true = false ∧ false = false) := by simp
  obtain ⟨D, hD⟩ : ∃ D, D = WH ++ PT := ⟨_, rfl⟩
  obtain ⟨FF, hFF⟩ : ∃ FF, FF = (decide (B = 10) || (decide (B = 16) && false)) := ⟨_, rfl⟩
  have kFF : Hid (∀ W, Calls Tryz.prog 62 #[.int .i64 B, .bool false] W fun e w' => e = .returned (.bool FF) ∧ w' = W) := fun W => by have := floatForm_any B false W; rw [← hFF] at this; exact this
  have kX : Hid _ := fun W => parseExponent_any X false (by omega) W
  have hsel : Hid (∀ w' t ok, FloatAns w' t ok B D X PT.size false FF → Below w.heap.size w w' → ParsePost w B X WH PT false true (.returned (.tuple #[t, .bool ok])) w') := fun w' t ok h hb => ⟨t, ok, rfl, by rw [if_neg hwh, ← hD, ← hFF]; exact h, hb⟩
  rw [← hD] at hDs
  replace hD : Hid (WH ++ PT = D) := hD.symm
  have hDD : WH ++ PT = D := hD.out
  clear hFF hwh
  cases hFv0 : FF with
  | false =>
    rw [hFv0] at kFF
    have hFv : Hid (FF = false) := hFv0
    clear hFv0
    go_enter Tryz.func33, Tryz.ntmps33
    go_upto_region 1 with fail
    rw [← hW]
    clear hW
    go_wp2_with fail
    refine Calls.mono kB.out ?_
    rintro e w1 ⟨rfl, b1⟩
    go_wp2_with fail
    refine Calls.mono (kE.out w1) ?_
    rintro e w2 ⟨rfl, b2⟩
    go_wp2_with fail
    refine Calls.mono (kC.out w2) ?_
    rintro e w3 ⟨rfl, b3⟩
    have b13 := bthen b1 (bthen b2 b3)
    clear kB kE kC
    go_wp2_with fail
    refine Calls.mono (kFF.out w3) ?_
    rintro e w4 ⟨rfl, rfl⟩
    go_wp2_with fail
    refine Calls.mono (zero_any _) ?_
    rintro e w8 ⟨t, rfl, hF, b8⟩
    have hL := lowE_zero hF
    have bb := bthen b13 b8
    obtain ⟨n4, a4, l4, c4, n5, a5, l5, c5, rfl⟩ := hL.form
    have y0 := x0.next bb
    obtain ⟨_, _, _, _, _, _, _, _, j0, j1, j2, j3, f⟩ := y0.cells
    have f0 := f 0
    have f1 := f 1
    have f2 := f 2
    have f3 := f 3
    clear f
    have hbx : Hid _ := put4_boxed (base := w.heap.size) y0.noint (by omega) n4 a4 l4 c4 n5 a5 l5 c5
    have hBf := bthen hbW bb
    have hLf : Hid _ := hbx.out.lowE hL
    have hAns : Hid _ := hsel.out _ _ _ (.inl ⟨rfl, hLf.out, .inl hFv.out⟩) (hbx.out.keep hBf (Nat.le_refl _) hBf.size)
    clear hL hF hLf
    go_wp2
    exact bodyPost_ret (v := .tuple #[.agg #[.bool n4, .slice a4 l4 c4, .bool n5, .slice a5 l5 c5], .bool false]) (by simp [results, Tryz.results33, go_sem, j0, j1, j2, j3]) rfl hAns.out
  | true =>
    rw [hFv0] at kFF
    have hFv : Hid (FF = true) := hFv0
    clear hFv0
    by_cases hg0 : goodT D B
    · have hg : Hid (goodT D B) := hg0
      clear hg0
      go_enter Tryz.func33, Tryz.ntmps33
      go_upto_region 1 with fail
      rw [← hW]
      clear hW
      go_wp2_with fail
      refine Calls.mono kB.out ?_
      rintro e w1 ⟨rfl, b1⟩
      go_wp2_with fail
      refine Calls.mono (kE.out w1) ?_
      rintro e w2 ⟨rfl, b2⟩
      go_wp2_with fail
      refine Calls.mono (kC.out w2) ?_
      rintro e w3 ⟨rfl, b3⟩
      have b13 := bthen b1 (bthen b2 b3)
      clear kB kE kC
      go_wp2_with fail
      refine Calls.mono (kFF.out w3) ?_
      rintro e w4 ⟨rfl, rfl⟩
      have kP : Hid _ := Parse_ok D B w4 hg.out.2.1 hg.out.1 (by omega) hg.out.2.2
      go_wp2_with fail
      refine Calls.mono kP.out ?_
      rintro e w5 ⟨v5, rfl, hO, b5⟩
      clear kP
      obtain ⟨n3, a3, l3, c3, rfl⟩ := hO.num.form
      obtain ⟨W5, hW5⟩ : ∃ W5, W5 = w5.alloc (.cells #[.bool n3, .slice a3 l3 c3] 24) := ⟨_, rfl⟩
      have b6 : Below w5.heap.size w5 W5 := by rw [hW5]; exact (Below.refl _ _).alloc (Nat.le_refl _) _
      have g0 : W5.cell? ⟨w5.heap.size, 0, none⟩ = some (.bool n3) := by rw [hW5]; simp [go_sem]
      have g1 : W5.cell? ⟨w5.heap.size, 1, none⟩ = some (.slice a3 l3 c3) := by rw [hW5]; simp [go_sem]
      have hO5 : Hid (Num W5 (.agg #[.bool n3, .slice a3 l3 c3]) (hor B (digs D)) (D.size + 1)) := hO.num.next b6
      go_upto_region 9 with fail
      rw [← hW5]
      clear hW5 hO
      go_wp2_with fail
      refine Calls.mono (kX.out W5) ?_
      rintro e w6 ⟨p, ok2, rfl, hX, b7⟩
      have h0 := keep_cell b7 g0
      have h1 := keep_cell b7 g1
      have hO6 : Hid (Num w6 (.agg #[.bool n3, .slice a3 l3 c3]) (hor B (digs D)) (D.size + 1)) := Num.next hO5.out b7
      have b16 := bthen b13 (bthen b5 (bthen b6 b7))
      obtain ⟨hp1, hp2⟩ := expAns_bound hX
      clear g0 g1 hO5
      cases ok2 with
      | false =>
        go_wp2_with fail
        refine Calls.mono (zero_any _) ?_
        rintro e w8 ⟨t, rfl, hF, b8⟩
        have hL := lowE_zero hF
        have bb := bthen b16 b8
        obtain ⟨n4, a4, l4, c4, n5, a5, l5, c5, rfl⟩ := hL.form
        have y0 := x0.next bb
        obtain ⟨_, _, _, _, _, _, _, _, j0, j1, j2, j3, f⟩ := y0.cells
        have f0 := f 0
        have f1 := f 1
        have f2 := f 2
        have f3 := f 3
        clear f
        have hbx : Hid _ := put4_boxed (base := w.heap.size) y0.noint (by omega) n4 a4 l4 c4 n5 a5 l5 c5
        have hBf := bthen hbW bb
        have hLf : Hid _ := hbx.out.lowE hL
        have hAns : Hid _ := hsel.out _ _ _ (.inl ⟨rfl, hLf.out, .inr (.inr ⟨p, hX⟩)⟩) (hbx.out.keep hBf (Nat.le_refl _) hBf.size)
        clear hL hF hLf
        go_wp2
        exact bodyPost_ret (v := .tuple #[.agg #[.bool n4, .slice a4 l4 c4, .bool n5, .slice a5 l5 c5], .bool false]) (by simp [results, Tryz.results33, go_sem, j0, j1, j2, j3]) rfl hAns.out
      | true =>
        by_cases h16 : B = 16
        · have e16 : (B == 16) = true := by rw [h16]; rfl
          have h16h : Hid _ := h16
          obtain ⟨F4, hF4⟩ : ∃ F4 : Int, F4 = 4 * (PT.size : Int) := ⟨_, rfl⟩
          obtain ⟨q, hq1⟩ : ∃ q : Int, q = p - F4 := ⟨_, rfl⟩
          have hq0 : Hid (q = p - 4 * (PT.size : Int)) := by show q = _; rw [hq1, hF4]
          have hwF : IntKind.i64.wrap (4 * (PT.size : Int)) = F4 := by rw [IntKind.wrap_i64]; omega
          have hF4b : 0 ≤ F4 ∧ F4 ≤ 240 := by omega
          have hwq : IntKind.i64.wrap (p - F4) = q := by rw [IntKind.wrap_i64]; omega
          have hqb : -1300 ≤ q ∧ q ≤ 999 := by omega
          clear h16 hF4
          replace hq1 : Hid _ := hq1
          by_cases hq : q < 0
          · obtain ⟨n, hn⟩ : ∃ n : Nat, q = -(n : Int) := ⟨(-q).toNat, by omega⟩
            have hside : Hid (n ≤ 2000) := (show n ≤ 2000 by omega)
            have hn0 : Hid (0 < n) := (show 0 < n by omega)
            replace hn : Hid _ := hn
            go_wp2_with fail
            refine Calls.mono (scale_negq (Z := hor B (digs D)) (m := D.size + 1) hO6.out (by omega) 2 (by decide) (by decide) n hn0.out (.inr ⟨rfl, hside.out⟩) q hn.out) ?_
            rintro e w8 ⟨t, rfl, hL, b8⟩
            have bb := bthen b16 b8
            obtain ⟨n4, a4, l4, c4, n5, a5, l5, c5, rfl⟩ := hL.form
            have y0 := x0.next bb
            obtain ⟨_, _, _, _, _, _, _, _, j0, j1, j2, j3, f⟩ := y0.cells
            have f0 := f 0
            have f1 := f 1
            have f2 := f 2
            have f3 := f 3
            clear f
            have hbx : Hid _ := put4_boxed (base := w.heap.size) y0.noint (by omega) n4 a4 l4 c4 n5 a5 l5 c5
            have hBf := bthen hbW bb
            have hLf : Hid _ := hbx.out.lowE hL
            have hAns : Hid _ := hsel.out _ _ _ (.inr ⟨rfl, hFv.out, hg.out, p, hX, 2, q, by rw [if_pos h16h.out], by rw [if_pos h16h.out]; exact hq0.out, by have hn := hn.out; exact .inr ⟨hq, by rw [show (-q).toNat = n by omega]; exact hLf.out⟩⟩) (hbx.out.keep hBf (Nat.le_refl _) hBf.size)
            clear hL hLf
            go_wp2
            exact bodyPost_ret (v := .tuple #[.agg #[.bool n4, .slice a4 l4 c4, .bool n5, .slice a5 l5 c5], .bool true]) (by simp [results, Tryz.results33, go_sem, j0, j1, j2, j3]) rfl hAns.out
          · obtain ⟨n, hn⟩ : ∃ n : Nat, q = (n : Int) := ⟨q.toNat, by omega⟩
            have hside : Hid (n ≤ 2000) := (show n ≤ 2000 by omega)
            replace hn : Hid _ := hn
            go_wp2_with fail
            refine Calls.mono (scale_posq (Z := hor B (digs D)) (m := D.size + 1) hO6.out (by omega) 2 (by decide) (by decide) n (.inr ⟨rfl, hside.out⟩) q hn.out) ?_
            rintro e w8 ⟨t, rfl, hL, b8⟩
            have bb := bthen b16 b8
            obtain ⟨n4, a4, l4, c4, n5, a5, l5, c5, rfl⟩ := hL.form
            have y0 := x0.next bb
            obtain ⟨_, _, _, _, _, _, _, _, j0, j1, j2, j3, f⟩ := y0.cells
            have f0 := f 0
            have f1 := f 1
            have f2 := f 2
            have f3 := f 3
            clear f
            have hbx : Hid _ := put4_boxed (base := w.heap.size) y0.noint (by omega) n4 a4 l4 c4 n5 a5 l5 c5
            have hBf := bthen hbW bb
            have hLf : Hid _ := hbx.out.lowE hL
            have hAns : Hid _ := hsel.out _ _ _ (.inr ⟨rfl, hFv.out, hg.out, p, hX, 2, q, by rw [if_pos h16h.out], by rw [if_pos h16h.out]; exact hq0.out, by have hn := hn.out; exact .inl ⟨by omega, by rw [show q.toNat = n by omega]; exact hLf.out⟩⟩) (hbx.out.keep hBf (Nat.le_refl _) hBf.size)
            clear hL hLf
            go_wp2
            exact bodyPost_ret (v := .tuple #[.agg #[.bool n4, .slice a4 l4 c4, .bool n5, .slice a5 l5 c5], .bool true]) (by simp [results, Tryz.results33, go_sem, j0, j1, j2, j3]) rfl hAns.out
        · have e16 : (B == 16) = false := by rw [beq_eq_false_iff_ne]; exact h16
          have h16h : Hid _ := h16
          obtain ⟨F4, hF4⟩ : ∃ F4 : Int, F4 = (PT.size : Int) := ⟨_, rfl⟩
          obtain ⟨q, hq1⟩ : ∃ q : Int, q = p - F4 := ⟨_, rfl⟩
          have hq0 : Hid (q = p - (PT.size : Int)) := by show q = _; rw [hq1, hF4]
          have hwF : IntKind.i64.wrap ((PT.size : Int)) = F4 := by rw [IntKind.wrap_i64]; omega
          have hF4b : 0 ≤ F4 ∧ F4 ≤ 240 := by omega
          have hwq : IntKind.i64.wrap (p - F4) = q := by rw [IntKind.wrap_i64]; omega
          have hqb : -1300 ≤ q ∧ q ≤ 999 := by omega
          have hqb2 : -1059 ≤ q := by omega
          have hwq2 : IntKind.i64.wrap (p - (PT.size : Int)) = q := by rw [IntKind.wrap_i64]; omega
          clear hwF hwq
          clear h16 hF4
          replace hq1 : Hid _ := hq1
          by_cases hq : q < 0
          · obtain ⟨n, hn⟩ : ∃ n : Nat, q = -(n : Int) := ⟨(-q).toNat, by omega⟩
            have hside : Hid (n ≤ 1060) := (show n ≤ 1060 by omega)
            have hn0 : Hid (0 < n) := (show 0 < n by omega)
            replace hn : Hid _ := hn
            go_wp2_with fail
            refine Calls.mono (scale_negq (Z := hor B (digs D)) (m := D.size + 1) hO6.out (by omega) 10 (by decide) (by decide) n hn0.out (.inl hside.out) q hn.out) ?_
            rintro e w8 ⟨t, rfl, hL, b8⟩
            have bb := bthen b16 b8
            obtain ⟨n4, a4, l4, c4, n5, a5, l5, c5, rfl⟩ := hL.form
            have y0 := x0.next bb
            obtain ⟨_, _, _, _, _, _, _, _, j0, j1, j2, j3, f⟩ := y0.cells
            have f0 := f 0
            have f1 := f 1
            have f2 := f 2
            have f3 := f 3
            clear f
            have hbx : Hid _ := put4_boxed (base := w.heap.size) y0.noint (by omega) n4 a4 l4 c4 n5 a5 l5 c5
            have hBf := bthen hbW bb
            have hLf : Hid _ := hbx.out.lowE hL
            have hAns : Hid _ := hsel.out _ _ _ (.inr ⟨rfl, hFv.out, hg.out, p, hX, 10, q, by rw [if_neg h16h.out], by rw [if_neg h16h.out]; exact hq0.out, by have hn := hn.out; exact .inr ⟨hq, by rw [show (-q).toNat = n by omega]; exact hLf.out⟩⟩) (hbx.out.keep hBf (Nat.le_refl _) hBf.size)
            clear hL hLf
            go_wp2
            exact bodyPost_ret (v := .tuple #[.agg #[.bool n4, .slice a4 l4 c4, .bool n5, .slice a5 l5 c5], .bool true]) (by simp [results, Tryz.results33, go_sem, j0, j1, j2, j3]) rfl hAns.out
          · obtain ⟨n, hn⟩ : ∃ n : Nat, q = (n : Int) := ⟨q.toNat, by omega⟩
            have hside : Hid (n ≤ 1060) := (show n ≤ 1060 by omega)
            replace hn : Hid _ := hn
            go_wp2_with fail
            refine Calls.mono (scale_posq (Z := hor B (digs D)) (m := D.size + 1) hO6.out (by omega) 10 (by decide) (by decide) n (.inl hside.out) q hn.out) ?_
            rintro e w8 ⟨t, rfl, hL, b8⟩
            have bb := bthen b16 b8
            obtain ⟨n4, a4, l4, c4, n5, a5, l5, c5, rfl⟩ := hL.form
            have y0 := x0.next bb
            obtain ⟨_, _, _, _, _, _, _, _, j0, j1, j2, j3, f⟩ := y0.cells
            have f0 := f 0
            have f1 := f 1
            have f2 := f 2
            have f3 := f 3
            clear f
            have hbx : Hid _ := put4_boxed (base := w.heap.size) y0.noint (by omega) n4 a4 l4 c4 n5 a5 l5 c5
            have hBf := bthen hbW bb
            have hLf : Hid _ := hbx.out.lowE hL
            have hAns : Hid _ := hsel.out _ _ _ (.inr ⟨rfl, hFv.out, hg.out, p, hX, 10, q, by rw [if_neg h16h.out], by rw [if_neg h16h.out]; exact hq0.out, by have hn := hn.out; exact .inl ⟨by omega, by rw [show q.toNat = n by omega]; exact hLf.out⟩⟩) (hbx.out.keep hBf (Nat.le_refl _) hBf.size)
            clear hL hLf
            go_wp2
            exact bodyPost_ret (v := .tuple #[.agg #[.bool n4, .slice a4 l4 c4, .bool n5, .slice a5 l5 c5], .bool true]) (by simp [results, Tryz.results33, go_sem, j0, j1, j2, j3]) rfl hAns.out
    · have hg : Hid (¬ goodT D B) := hg0
      clear hg0
      go_enter Tryz.func33, Tryz.ntmps33
      go_upto_region 1 with fail
      rw [← hW]
      clear hW
      go_wp2_with fail
      refine Calls.mono kB.out ?_
      rintro e w1 ⟨rfl, b1⟩
      go_wp2_with fail
      refine Calls.mono (kE.out w1) ?_
      rintro e w2 ⟨rfl, b2⟩
      go_wp2_with fail
      refine Calls.mono (kC.out w2) ?_
      rintro e w3 ⟨rfl, b3⟩
      have b13 := bthen b1 (bthen b2 b3)
      clear kB kE kC
      go_wp2_with fail
      refine Calls.mono (kFF.out w3) ?_
      rintro e w4 ⟨rfl, rfl⟩
      have kP : Hid _ := Parse_no D B w4 (by omega) hg.out
      go_wp2_with fail
      refine Calls.mono kP.out ?_
      rintro e w5 ⟨rfl, b5⟩
      clear kP
      have b6 : Below w4.heap.size w4 (w5.alloc (.cells #[.bool false, .slice none 0 0] 24)) := b5.alloc b5.size _
      go_wp2_with fail
      refine Calls.mono (zero_any _) ?_
      rintro e w8 ⟨t, rfl, hF, b8⟩
      have hL := lowE_zero hF
      have bb := bthen b13 (bthen b6 b8)
      obtain ⟨n4, a4, l4, c4, n5, a5, l5, c5, rfl⟩ := hL.form
      have y0 := x0.next bb
      obtain ⟨_, _, _, _, _, _, _, _, j0, j1, j2, j3, f⟩ := y0.cells
      have f0 := f 0
      have f1 := f 1
      have f2 := f 2
      have f3 := f 3
      clear f
      have hbx : Hid _ := put4_boxed (base := w.heap.size) y0.noint (by omega) n4 a4 l4 c4 n5 a5 l5 c5
      have hBf := bthen hbW bb
      have hLf : Hid _ := hbx.out.lowE hL
      have hAns : Hid _ := hsel.out _ _ _ (.inl ⟨rfl, hLf.out, .inr (.inl hg.out)⟩) (hbx.out.keep hBf (Nat.le_refl _) hBf.size)
      clear hL hF hLf
      go_wp2
      exact bodyPost_ret (v := .tuple #[.agg #[.bool n4, .slice a4 l4 c4, .bool n5, .slice a5 l5 c5], .bool false]) (by simp [results, Tryz.results33, go_sem, j0, j1, j2, j3]) rfl hAns.out
end Go.Proofs.YthiiglhecajhbaaGreat
namespace Go.Proofs.YthiiglhecajhbaaGreat
open Go.RowKit
attribute [local go_sem ↓] Go.wp_at_zero Go.wp_at_succ
set_option maxRecDepth 20000 in
set_option maxHeartbeats 16000000 in
theorem parse_tt (s : ByteArray) (w : World) (B : Int) (R M X WH PT : ByteArray)
    (kB0 : ∀ W, Calls Tryz.prog 58 #[.string s] W fun e w' => e = .returned (.tuple #[.int .i64 B, .string R]) ∧ Below W.heap.size W w')
    (kE0 : ∀ W, Calls Tryz.prog 59 #[.string R, .int .i64 B] W fun e w' => e = .returned (.tuple #[.string M, .string X, .bool true]) ∧ Below W.heap.size W w')
    (kC0 : ∀ W, Calls Tryz.prog 60 #[.string M, .string ⟨#[46]⟩] W fun e w' => e = .returned (.tuple #[.string WH, .string PT, .bool true]) ∧ Below W.heap.size W w')
    (hWs : WH.size ≤ 60) (hPs : PT.size ≤ 60) (hDs : (WH ++ PT).size ≤ 60) (hXs : X.size ≤ 60) : Calls Tryz.prog 33 #[.string s] w fun e w' => ParsePost w B X WH PT true true e w' := by
  have x0 := Box4.new w false none 0 0 false none 0 0 26 (by decide)
  have hbW : Below w.heap.size w (w.alloc (.cells #[.bool false, .slice none 0 0, .bool false, .slice none 0 0] 26)) := (Below.refl _ _).alloc (Nat.le_refl _) _
  obtain ⟨W, hW⟩ : ∃ W, W = w.alloc (.cells #[.bool false, .slice none 0 0, .bool false, .slice none 0 0] 26) := ⟨_, rfl⟩
  have hlt : w.heap.size < W.heap.size := by rw [hW]; simp
  rw [← hW] at x0 hbW
  have kB : Hid _ := kB0 W
  have kE : Hid _ := kE0
  have kC : Hid _ := kC0
  clear kB0 kE0 kC0
  have hwh : ¬ (true = false ∧ true = false) := by simp
  obtain ⟨D, hD⟩ : ∃ D, D = WH ++ PT := ⟨_, rfl⟩
  obtain ⟨FF, hFF⟩ : ∃ FF, FF = (decide (B = 10) || (decide (B = 16) && true)) := ⟨_, rfl⟩
  have kFF : Hid (∀ W, Calls Tryz.prog 62 #[.int .i64 B, .bool true] W fun e w' => e = .returned (.bool FF) ∧ w' = W) := fun W => by have := floatForm_any B true W; rw [← hFF] at this; exact this
  have kX : Hid _ := fun W => parseExponent_any X true (by omega) W
  have hsel : Hid (∀ w' t ok, FloatAns w' t ok B D X PT.size true FF → Below w.heap.size w w' → ParsePost w B X WH PT true true (.returned (.tuple #[t, .bool ok])) w') := fun w' t ok h hb => ⟨t, ok, rfl, by rw [if_neg hwh, ← hD, ← hFF]; exact h, hb⟩
  rw [← hD] at hDs
  replace hD : Hid (WH ++ PT = D) := hD.symm
  have hDD : WH ++ PT = D := hD.out
  clear hFF hwh
  cases hFv0 : FF with
  | false =>
    rw [hFv0] at kFF
    have hFv : Hid (FF = false) := hFv0
    clear hFv0
    go_enter Tryz.func33, Tryz.ntmps33
    go_upto_region 1 with fail
    rw [← hW]
    clear hW
    go_wp2_with fail
    refine Calls.mono kB.out ?_
    rintro e w1 ⟨rfl, b1⟩
    go_wp2_with fail
    refine Calls.mono (kE.out w1) ?_
    rintro e w2 ⟨rfl, b2⟩
    go_wp2_with fail
    refine Calls.mono (kC.out w2) ?_
    rintro e w3 ⟨rfl, b3⟩
    have b13 := bthen b1 (bthen b2 b3)
    clear kB kE kC
    go_wp2_with fail
    refine Calls.mono (kFF.out w3) ?_
    rintro e w4 ⟨rfl, rfl⟩
    go_wp2_with fail
    refine Calls.mono (zero_any _) ?_
    rintro e w8 ⟨t, rfl, hF, b8⟩
    have hL := lowE_zero hF
    have bb := bthen b13 b8
    obtain ⟨n4, a4, l4, c4, n5, a5, l5, c5, rfl⟩ := hL.form
    have y0 := x0.next bb
    obtain ⟨_, _, _, _, _, _, _, _, j0, j1, j2, j3, f⟩ := y0.cells
    have f0 := f 0
    have f1 := f 1
    have f2 := f 2
    have f3 := f 3
    clear f
    have hbx : Hid _ := put4_boxed (base := w.heap.size) y0.noint (by omega) n4 a4 l4 c4 n5 a5 l5 c5
    have hBf := bthen hbW bb
    have hLf : Hid _ := hbx.out.lowE hL
    have hAns : Hid _ := hsel.out _ _ _ (.inl ⟨rfl, hLf.out, .inl hFv.out⟩) (hbx.out.keep hBf (Nat.le_refl _) hBf.size)
    clear hL hF hLf
    go_wp2
    exact bodyPost_ret (v := .tuple #[.agg #[.bool n4, .slice a4 l4 c4, .bool n5, .slice a5 l5 c5], .bool false]) (by simp [results, Tryz.results33, go_sem, j0, j1, j2, j3]) rfl hAns.out
  | true =>
    rw [hFv0] at kFF
    have hFv : Hid (FF = true) := hFv0
    clear hFv0
    by_cases hg0 : goodT D B
    · have hg : Hid (goodT D B) := hg0
      clear hg0
      go_enter Tryz.func33, Tryz.ntmps33
      go_upto_region 1 with fail
      rw [← hW]
      clear hW
      go_wp2_with fail
      refine Calls.mono kB.out ?_
      rintro e w1 ⟨rfl, b1⟩
      go_wp2_with fail
      refine Calls.mono (kE.out w1) ?_
      rintro e w2 ⟨rfl, b2⟩
      go_wp2_with fail
      refine Calls.mono (kC.out w2) ?_
      rintro e w3 ⟨rfl, b3⟩
      have b13 := bthen b1 (bthen b2 b3)
      clear kB kE kC
      go_wp2_with fail
      refine Calls.mono (kFF.out w3) ?_
      rintro e w4 ⟨rfl, rfl⟩
      have kP : Hid _ := Parse_ok D B w4 hg.out.2.1 hg.out.1 (by omega) hg.out.2.2
      go_wp2_with fail
      refine Calls.mono kP.out ?_
      rintro e w5 ⟨v5, rfl, hO, b5⟩
      clear kP
      obtain ⟨n3, a3, l3, c3, rfl⟩ := hO.num.form
      obtain ⟨W5, hW5⟩ : ∃ W5, W5 = w5.alloc (.cells #[.bool n3, .slice a3 l3 c3] 24) := ⟨_, rfl⟩
      have b6 : Below w5.heap.size w5 W5 := by rw [hW5]; exact (Below.refl _ _).alloc (Nat.le_refl _) _
      have g0 : W5.cell? ⟨w5.heap.size, 0, none⟩ = some (.bool n3) := by rw [hW5]; simp [go_sem]
      have g1 : W5.cell? ⟨w5.heap.size, 1, none⟩ = some (.slice a3 l3 c3) := by rw [hW5]; simp [go_sem]
      have hO5 : Hid (Num W5 (.agg #[.bool n3, .slice a3 l3 c3]) (hor B (digs D)) (D.size + 1)) := hO.num.next b6
      go_upto_region 9 with fail
      rw [← hW5]
      clear hW5 hO
      go_wp2_with fail
      refine Calls.mono (kX.out W5) ?_
      rintro e w6 ⟨p, ok2, rfl, hX, b7⟩
      have h0 := keep_cell b7 g0
      have h1 := keep_cell b7 g1
      have hO6 : Hid (Num w6 (.agg #[.bool n3, .slice a3 l3 c3]) (hor B (digs D)) (D.size + 1)) := Num.next hO5.out b7
      have b16 := bthen b13 (bthen b5 (bthen b6 b7))
      obtain ⟨hp1, hp2⟩ := expAns_bound hX
      clear g0 g1 hO5
      cases ok2 with
      | false =>
        go_wp2_with fail
        refine Calls.mono (zero_any _) ?_
        rintro e w8 ⟨t, rfl, hF, b8⟩
        have hL := lowE_zero hF
        have bb := bthen b16 b8
        obtain ⟨n4, a4, l4, c4, n5, a5, l5, c5, rfl⟩ := hL.form
        have y0 := x0.next bb
        obtain ⟨_, _, _, _, _, _, _, _, j0, j1, j2, j3, f⟩ := y0.cells
        have f0 := f 0
        have f1 := f 1
        have f2 := f 2
        have f3 := f 3
        clear f
        have hbx : Hid _ := put4_boxed (base := w.heap.size) y0.noint (by omega) n4 a4 l4 c4 n5 a5 l5 c5
        have hBf := bthen hbW bb
        have hLf : Hid _ := hbx.out.lowE hL
        have hAns : Hid _ := hsel.out _ _ _ (.inl ⟨rfl, hLf.out, .inr (.inr ⟨p, hX⟩)⟩) (hbx.out.keep hBf (Nat.le_refl _) hBf.size)
        clear hL hF hLf
        go_wp2
        exact bodyPost_ret (v := .tuple #[.agg #[.bool n4, .slice a4 l4 c4, .bool n5, .slice a5 l5 c5], .bool false]) (by simp [results, Tryz.results33, go_sem, j0, j1, j2, j3]) rfl hAns.out
      | true =>
        by_cases h16 : B = 16
        · have e16 : (B == 16) = true := by rw [h16]; rfl
          have h16h : Hid _ := h16
          obtain ⟨F4, hF4⟩ : ∃ F4 : Int, F4 = 4 * (PT.size : Int) := ⟨_, rfl⟩
          obtain ⟨q, hq1⟩ : ∃ q : Int, q = p - F4 := ⟨_, rfl⟩
          have hq0 : Hid (q = p - 4 * (PT.size : Int)) := by show q = _; rw [hq1, hF4]
          have hwF : IntKind.i64.wrap (4 * (PT.size : Int)) = F4 := by rw [IntKind.wrap_i64]; omega
          have hF4b : 0 ≤ F4 ∧ F4 ≤ 240 := by omega
          have hwq : IntKind.i64.wrap (p - F4) = q := by rw [IntKind.wrap_i64]; omega
          have hqb : -1300 ≤ q ∧ q ≤ 999 := by omega
          clear h16 hF4
          replace hq1 : Hid _ := hq1
          by_cases hq : q < 0
          · obtain ⟨n, hn⟩ : ∃ n : Nat, q = -(n : Int) := ⟨(-q).toNat, by omega⟩
            have hside : Hid (n ≤ 2000) := (show n ≤ 2000 by omega)
            have hn0 : Hid (0 < n) := (show 0 < n by omega)
            replace hn : Hid _ := hn
            go_wp2_with fail
            refine Calls.mono (scale_negq (Z := hor B (digs D)) (m := D.size + 1) hO6.out (by omega) 2 (by decide) (by decide) n hn0.out (.inr ⟨rfl, hside.out⟩) q hn.out) ?_
            rintro e w8 ⟨t, rfl, hL, b8⟩
            have bb := bthen b16 b8
            obtain ⟨n4, a4, l4, c4, n5, a5, l5, c5, rfl⟩ := hL.form
            have y0 := x0.next bb
            obtain ⟨_, _, _, _, _, _, _, _, j0, j1, j2, j3, f⟩ := y0.cells
            have f0 := f 0
            have f1 := f 1
            have f2 := f 2
            have f3 := f 3
            clear f
            have hbx : Hid _ := put4_boxed (base := w.heap.size) y0.noint (by omega) n4 a4 l4 c4 n5 a5 l5 c5
            have hBf := bthen hbW bb
            have hLf : Hid _ := hbx.out.lowE hL
            have hAns : Hid _ := hsel.out _ _ _ (.inr ⟨rfl, hFv.out, hg.out, p, hX, 2, q, by rw [if_pos h16h.out], by rw [if_pos h16h.out]; exact hq0.out, by have hn := hn.out; exact .inr ⟨hq, by rw [show (-q).toNat = n by omega]; exact hLf.out⟩⟩) (hbx.out.keep hBf (Nat.le_refl _) hBf.size)
            clear hL hLf
            go_wp2
            exact bodyPost_ret (v := .tuple #[.agg #[.bool n4, .slice a4 l4 c4, .bool n5, .slice a5 l5 c5], .bool true]) (by simp [results, Tryz.results33, go_sem, j0, j1, j2, j3]) rfl hAns.out
          · obtain ⟨n, hn⟩ : ∃ n : Nat, q = (n : Int) := ⟨q.toNat, by omega⟩
            have hside : Hid (n ≤ 2000) := (show n ≤ 2000 by omega)
            replace hn : Hid _ := hn
            go_wp2_with fail
            refine Calls.mono (scale_posq (Z := hor B (digs D)) (m := D.size + 1) hO6.out (by omega) 2 (by decide) (by decide) n (.inr ⟨rfl, hside.out⟩) q hn.out) ?_
            rintro e w8 ⟨t, rfl, hL, b8⟩
            have bb := bthen b16 b8
            obtain ⟨n4, a4, l4, c4, n5, a5, l5, c5, rfl⟩ := hL.form
            have y0 := x0.next bb
            obtain ⟨_, _, _, _, _, _, _, _, j0, j1, j2, j3, f⟩ := y0.cells
            have f0 := f 0
            have f1 := f 1
            have f2 := f 2
            have f3 := f 3
            clear f
            have hbx : Hid _ := put4_boxed (base := w.heap.size) y0.noint (by omega) n4 a4 l4 c4 n5 a5 l5 c5
            have hBf := bthen hbW bb
            have hLf : Hid _ := hbx.out.lowE hL
            have hAns : Hid _ := hsel.out _ _ _ (.inr ⟨rfl, hFv.out, hg.out, p, hX, 2, q, by rw [if_pos h16h.out], by rw [if_pos h16h.out]; exact hq0.out, by have hn := hn.out; exact .inl ⟨by omega, by rw [show q.toNat = n by omega]; exact hLf.out⟩⟩) (hbx.out.keep hBf (Nat.le_refl _) hBf.size)
            clear hL hLf
            go_wp2
            exact bodyPost_ret (v := .tuple #[.agg #[.bool n4, .slice a4 l4 c4, .bool n5, .slice a5 l5 c5], .bool true]) (by simp [results, Tryz.results33, go_sem, j0, j1, j2, j3]) rfl hAns.out
        · have e16 : (B == 16) = false := by rw [beq_eq_false_iff_ne]; exact h16
          have h16h : Hid _ := h16
          obtain ⟨F4, hF4⟩ : ∃ F4 : Int, F4 = (PT.size : Int) := ⟨_, rfl⟩
          obtain ⟨q, hq1⟩ : ∃ q : Int, q = p - F4 := ⟨_, rfl⟩
          have hq0 : Hid (q = p - (PT.size : Int)) := by show q = _; rw [hq1, hF4]
          have hwF : IntKind.i64.wrap ((PT.size : Int)) = F4 := by rw [IntKind.wrap_i64]; omega
          have hF4b : 0 ≤ F4 ∧ F4 ≤ 240 := by omega
          have hwq : IntKind.i64.wrap (p - F4) = q := by rw [IntKind.wrap_i64]; omega
          have hqb : -1300 ≤ q ∧ q ≤ 999 := by omega
          have hqb2 : -1059 ≤ q := by omega
          have hwq2 : IntKind.i64.wrap (p - (PT.size : Int)) = q := by rw [IntKind.wrap_i64]; omega
          clear hwF hwq
          clear h16 hF4
          replace hq1 : Hid _ := hq1
          by_cases hq : q < 0
          · obtain ⟨n, hn⟩ : ∃ n : Nat, q = -(n : Int) := ⟨(-q).toNat, by omega⟩
            have hside : Hid (n ≤ 1060) := (show n ≤ 1060 by omega)
            have hn0 : Hid (0 < n) := (show 0 < n by omega)
            replace hn : Hid _ := hn
            go_wp2_with fail
            refine Calls.mono (scale_negq (Z := hor B (digs D)) (m := D.size + 1) hO6.out (by omega) 10 (by decide) (by decide) n hn0.out (.inl hside.out) q hn.out) ?_
            rintro e w8 ⟨t, rfl, hL, b8⟩
            have bb := bthen b16 b8
            obtain ⟨n4, a4, l4, c4, n5, a5, l5, c5, rfl⟩ := hL.form
            have y0 := x0.next bb
            obtain ⟨_, _, _, _, _, _, _, _, j0, j1, j2, j3, f⟩ := y0.cells
            have f0 := f 0
            have f1 := f 1
            have f2 := f 2
            have f3 := f 3
            clear f
            have hbx : Hid _ := put4_boxed (base := w.heap.size) y0.noint (by omega) n4 a4 l4 c4 n5 a5 l5 c5
            have hBf := bthen hbW bb
            have hLf : Hid _ := hbx.out.lowE hL
            have hAns : Hid _ := hsel.out _ _ _ (.inr ⟨rfl, hFv.out, hg.out, p, hX, 10, q, by rw [if_neg h16h.out], by rw [if_neg h16h.out]; exact hq0.out, by have hn := hn.out; exact .inr ⟨hq, by rw [show (-q).toNat = n by omega]; exact hLf.out⟩⟩) (hbx.out.keep hBf (Nat.le_refl _) hBf.size)
            clear hL hLf
            go_wp2
            exact bodyPost_ret (v := .tuple #[.agg #[.bool n4, .slice a4 l4 c4, .bool n5, .slice a5 l5 c5], .bool true]) (by simp [results, Tryz.results33, go_sem, j0, j1, j2, j3]) rfl hAns.out
          · obtain ⟨n, hn⟩ : ∃ n : Nat, q = (n : Int) := ⟨q.toNat, by omega⟩
            have hside : Hid (n ≤ 1060) := (show n ≤ 1060 by omega)
            replace hn : Hid _ := hn
            go_wp2_with fail
            refine Calls.mono (scale_posq (Z := hor B (digs D)) (m := D.size + 1) hO6.out (by omega) 10 (by decide) (by decide) n (.inl hside.out) q hn.out) ?_
            rintro e w8 ⟨t, rfl, hL, b8⟩
            have bb := bthen b16 b8
            obtain ⟨n4, a4, l4, c4, n5, a5, l5, c5, rfl⟩ := hL.form
            have y0 := x0.next bb
            obtain ⟨_, _, _, _, _, _, _, _, j0, j1, j2, j3, f⟩ := y0.cells
            have f0 := f 0
            have f1 := f 1
            have f2 := f 2
            have f3 := f 3
            clear f
            have hbx : Hid _ := put4_boxed (base := w.heap.size) y0.noint (by omega) n4 a4 l4 c4 n5 a5 l5 c5
            have hBf := bthen hbW bb
            have hLf : Hid _ := hbx.out.lowE hL
            have hAns : Hid _ := hsel.out _ _ _ (.inr ⟨rfl, hFv.out, hg.out, p, hX, 10, q, by rw [if_neg h16h.out], by rw [if_neg h16h.out]; exact hq0.out, by have hn := hn.out; exact .inl ⟨by omega, by rw [show q.toNat = n by omega]; exact hLf.out⟩⟩) (hbx.out.keep hBf (Nat.le_refl _) hBf.size)
            clear hL hLf
            go_wp2
            exact bodyPost_ret (v := .tuple #[.agg #[.bool n4, .slice a4 l4 c4, .bool n5, .slice a5 l5 c5], .bool true]) (by simp [results, Tryz.results33, go_sem, j0, j1, j2, j3]) rfl hAns.out
    · have hg : Hid (¬ goodT D B) := hg0
      clear hg0
      go_enter Tryz.func33, Tryz.ntmps33
      go_upto_region 1 with fail
      rw [← hW]
      clear hW
      go_wp2_with fail
      refine Calls.mono kB.out ?_
      rintro e w1 ⟨rfl, b1⟩
      go_wp2_with fail
      refine Calls.mono (kE.out w1) ?_
      rintro e w2 ⟨rfl, b2⟩
      go_wp2_with fail
      refine Calls.mono (kC.out w2) ?_
      rintro e w3 ⟨rfl, b3⟩
      have b13 := bthen b1 (bthen b2 b3)
      clear kB kE kC
      go_wp2_with fail
      refine Calls.mono (kFF.out w3) ?_
      rintro e w4 ⟨rfl, rfl⟩
      have kP : Hid _ := Parse_no D B w4 (by omega) hg.out
      go_wp2_with fail
      refine Calls.mono kP.out ?_
      rintro e w5 ⟨rfl, b5⟩
      clear kP
      have b6 : Below w4.heap.size w4 (w5.alloc (.cells #[.bool false, .slice none 0 0] 24)) := b5.alloc b5.size _
      go_wp2_with fail
      refine Calls.mono (zero_any _) ?_
      rintro e w8 ⟨t, rfl, hF, b8⟩
      have hL := lowE_zero hF
      have bb := bthen b13 (bthen b6 b8)
      obtain ⟨n4, a4, l4, c4, n5, a5, l5, c5, rfl⟩ := hL.form
      have y0 := x0.next bb
      obtain ⟨_, _, _, _, _, _, _, _, j0, j1, j2, j3, f⟩ := y0.cells
      have f0 := f 0
      have f1 := f 1
      have f2 := f 2
      have f3 := f 3
      clear f
      have hbx : Hid _ := put4_boxed (base := w.heap.size) y0.noint (by omega) n4 a4 l4 c4 n5 a5 l5 c5
      have hBf := bthen hbW bb
      have hLf : Hid _ := hbx.out.lowE hL
      have hAns : Hid _ := hsel.out _ _ _ (.inl ⟨rfl, hLf.out, .inr (.inl hg.out)⟩) (hbx.out.keep hBf (Nat.le_refl _) hBf.size)
      clear hL hF hLf
      go_wp2
      exact bodyPost_ret (v := .tuple #[.agg #[.bool n4, .slice a4 l4 c4, .bool n5, .slice a5 l5 c5], .bool false]) (by simp [results, Tryz.results33, go_sem, j0, j1, j2, j3]) rfl hAns.out
end Go.Proofs.YthiiglhecajhbaaGreat
