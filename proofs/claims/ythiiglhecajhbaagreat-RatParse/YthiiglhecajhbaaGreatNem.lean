/- ratio: an exponent's number, whatever the text. -/
import Derived.Test.YthiiglhecajhbaaGreatNbm
import Derived.Test.YthiiglhecajhbaaGreatFem
import Derived.Test.YthiiglhecajhbaaGreatTa
import Derived.Test.YthiiglhecajhbaaGreatFbm
namespace Go.Proofs.YthiiglhecajhbaaGreat
open Go.RowKit Go.Shelf Go.Lib
attribute [local go_sem ↓] Go.wp_at_zero Go.wp_at_succ
set_option maxRecDepth 20000 in
set_option maxHeartbeats 4000000 in
theorem trimPlus_any (s : ByteArray) (w : World) : Calls Tryz.prog 99 #[.string s, .string ⟨#[43]⟩] w fun e w' => e = .returned (.string ⟨(Lib.trimPrefix s.data.toList [43]).toArray⟩) ∧ w' = w := by
  have kh : Hid (∀ W, Calls Tryz.prog 134 #[.string s, .string ⟨#[43]⟩] W fun e w' => e = .returned (.bool (Lib.hasPrefix s.data.toList [43])) ∧ w' = W) := fun W => Any.stringslite_HasPrefix { Tryz.cutPrefix with } s ⟨#[43]⟩ W
  have k120 : Hid (Calls Tryz.prog 120 #[.string s, .string ⟨#[43]⟩] w fun e w' => e = .returned (.string ⟨(Lib.trimPrefix s.data.toList [43]).toArray⟩) ∧ w' = w) := by
    show Calls _ _ _ _ _
    unfold Lib.trimPrefix
    cases hp : Lib.hasPrefix s.data.toList [43] with
    | true =>
      rw [hp] at kh
      have hsz : 1 ≤ s.size := by
        rw [Lib.size_eq s]
        cases h : s.data.toList with
        | nil => rw [h] at hp; cases hp
        | cons _ _ => simp
      have q1 : (1 : Int) ≤ (s.size : Int) := by omega
      have hx : s.extract 1 s.size = ⟨(s.data.toList.drop 1).toArray⟩ := by
        apply ByteArray.ext
        apply Array.ext'
        show (s.extract 1 s.size).data.toList = s.data.toList.drop 1
        rw [ByteArray.data_extract, Array.toList_extract, List.extract_eq_take_drop, List.take_of_length_le]
        rw [List.length_drop, ← Lib.size_eq s]
        exact Nat.le_refl _
      go_enter Tryz.func120, Tryz.ntmps120
      go_wp2_with fail
      refine Calls.mono (kh.out _) ?_
      rintro e w2 ⟨rfl, rfl⟩
      go_wp2
      go_ret
      exact ⟨by simp, rfl⟩
    | false =>
      rw [hp] at kh
      go_enter Tryz.func120, Tryz.ntmps120
      go_wp2_with fail
      refine Calls.mono (kh.out _) ?_
      rintro e w2 ⟨rfl, rfl⟩
      go_wp2
      go_ret
      exact ⟨by simp, rfl⟩
  generalize (⟨(Lib.trimPrefix s.data.toList [43]).toArray⟩ : ByteArray) = T at *
  go_enter Tryz.func99, Tryz.ntmps99
  go_wp2_with fail
  refine Calls.mono k120.out ?_
  rintro e w2 ⟨rfl, rfl⟩
  go_wp2
  go_ret
  exact ⟨rfl, rfl⟩
/-- The digits of an exponent. -/
def expDigits (s : ByteArray) : ByteArray := if Lib.hasPrefix s.data.toList [45] = true then ⟨(Lib.trimPrefix s.data.toList [45]).toArray⟩ else ⟨(Lib.trimPrefix s.data.toList [43]).toArray⟩
/-- What parseExponent answers. -/
def expAns (s : ByteArray) (has : Bool) (p : Int) (ok : Bool) : Prop :=
  (has = false ∧ p = 0 ∧ ok = true) ∨ (has = true ∧ ¬ (goodT (expDigits s) 10 ∧ hor 10 (digs (expDigits s)) ≤ 999) ∧ p = 0 ∧ ok = false) ∨
  (has = true ∧ goodT (expDigits s) 10 ∧ hor 10 (digs (expDigits s)) ≤ 999 ∧ ok = true ∧ p = if Lib.hasPrefix s.data.toList [45] = true then -(hor 10 (digs (expDigits s))) else hor 10 (digs (expDigits s)))
theorem hor_ge (s : ByteArray) (_h : goodT s 10) : 0 ≤ hor 10 (digs s) := by
  have key : ∀ (l : List Int) (a : Int), 0 ≤ a → (∀ d ∈ l, 0 ≤ d) → 0 ≤ l.foldl (fun a d => a * 10 + d) a := by
    intro l
    induction l with
    | nil => intro a ha _; exact ha
    | cons d l ih => intro a ha hd; exact ih _ (by have := hd d List.mem_cons_self; show 0 ≤ a * 10 + d; omega) (fun e he => hd e (List.mem_cons_of_mem _ he))
  refine key _ 0 (Int.le_refl _) ?_
  intro d hd
  unfold digs at hd
  obtain ⟨c, _, rfl⟩ := List.mem_map.1 hd
  have : ∀ c : Fin 256, 0 ≤ digitI ((c.val : Nat) : Int) := by decide +kernel
  exact this ⟨c.toNat, c.toNat_lt⟩
set_option maxRecDepth 20000 in
set_option maxHeartbeats 8000000 in
theorem parseExponent_has (s : ByteArray) (hs : s.size < 100000) (w : World) : Calls Tryz.prog 64 #[.string s, .bool true] w fun e w' => ∃ p ok, e = .returned (.tuple #[.int .i64 p, .bool ok]) ∧ expAns s true p ok ∧ Below w.heap.size w w' := by
  have kc : Hid (∀ W, Calls Tryz.prog 98 #[.string s, .string ⟨#[45]⟩] W fun e w' => e = .returned (.tuple #[.string ⟨(Lib.trimPrefix s.data.toList [45]).toArray⟩, .bool (Lib.hasPrefix s.data.toList [45])]) ∧ w' = W) := fun W => Any.strings_CutPrefix Tryz.cutPrefix s ⟨#[45]⟩ W
  have kt : Hid (∀ W, Calls Tryz.prog 99 #[.string s, .string ⟨#[43]⟩] W fun e w' => e = .returned (.string ⟨(Lib.trimPrefix s.data.toList [43]).toArray⟩) ∧ w' = W) := fun W => trimPlus_any s W
  have hlen : ∀ c, (⟨(Lib.trimPrefix s.data.toList c).toArray⟩ : ByteArray).size ≤ s.size := by
    intro c
    show (Lib.trimPrefix s.data.toList c).toArray.size ≤ s.size
    unfold Lib.trimPrefix
    rw [Lib.size_eq s]
    split <;> simp
  by_cases hneg : Lib.hasPrefix s.data.toList [45] = true
  · have hED : expDigits s = ⟨(Lib.trimPrefix s.data.toList [45]).toArray⟩ := by unfold expDigits; rw [if_pos hneg]
    have hDs : (⟨(Lib.trimPrefix s.data.toList [45]).toArray⟩ : ByteArray).size ≤ 100000 := by have := hlen [45]; omega
    rw [hneg] at kc
    clear hlen
    generalize (⟨(Lib.trimPrefix s.data.toList [45]).toArray⟩ : ByteArray) = D at *
    by_cases hg : goodT D 10
    · obtain ⟨V, hV⟩ : ∃ V, V = hor 10 (digs D) := ⟨_, rfl⟩
      have hV0 : 0 ≤ V := by rw [hV]; exact hor_ge D hg
      replace hV : Hid _ := hV
      by_cases h64 : V ≤ 9223372036854775807
      · obtain ⟨hf, hp⟩ := fits64_yes (z := V) ⟨by omega, h64⟩
        by_cases h9 : V ≤ 999
        · have d9 : decide (V > 999) = false := decide_eq_false (by omega)
          have hyes : expAns s true (-V) true := .inr (.inr ⟨rfl, by rw [hED]; exact hg, by rw [hED, ← hV.out]; exact h9, rfl, by rw [hED, ← hV.out, if_pos hneg]⟩)
          have hng : IntKind.i64.wrap (-V) = -V := by rw [IntKind.wrap_i64]; omega
          go_enter Tryz.func64, Tryz.ntmps64
          go_wp2_with fail
          refine Calls.mono (kc.out _) ?_
          rintro e w0 ⟨rfl, rfl⟩
          clear kc kt
          have kP : Hid _ := Parse_ok D 10 w0 (by decide) hg.1 hDs hg.2.2
          rw [← hV.out] at kP
          go_wp2_with fail
          refine Calls.mono kP.out ?_
          rintro e w1 ⟨v, rfl, hO, hb1⟩
          clear kP
          obtain ⟨n1, a1, l1, d1, rfl⟩ := hO.form
          obtain ⟨W, hW, hbW, hlt, ⟨c0, c1⟩, f, hnI⟩ := box2 w1 n1 a1 l1 d1
          have hN := hO.num.next hbW
          have k6 : Hid _ := Int64_num hN
          rw [hp, hf] at k6
          have hB := bthen hb1 hbW
          clear f hN hO hnI
          go_wp2_with fail
          rw [← hW]
          clear hW
          refine Calls.mono k6.out ?_
          rintro e w2 ⟨rfl, hb2⟩
          clear k6
          have hBf := bthen hB hb2
          go_wp2
          exact bodyPost_ret (v := .tuple #[.int .i64 (-V), .bool true]) (by simp [results, Tryz.results64, go_sem]) rfl ⟨_, _, rfl, hyes, hBf⟩
        · have d9 : decide (V > 999) = true := decide_eq_true (by omega)
          have hno : ¬ (goodT (expDigits s) 10 ∧ hor 10 (digs (expDigits s)) ≤ 999) := fun h => by have := h.2; rw [hED, ← hV.out] at this; omega
          go_enter Tryz.func64, Tryz.ntmps64
          go_wp2_with fail
          refine Calls.mono (kc.out _) ?_
          rintro e w0 ⟨rfl, rfl⟩
          clear kc kt
          have kP : Hid _ := Parse_ok D 10 w0 (by decide) hg.1 hDs hg.2.2
          rw [← hV.out] at kP
          go_wp2_with fail
          refine Calls.mono kP.out ?_
          rintro e w1 ⟨v, rfl, hO, hb1⟩
          clear kP
          obtain ⟨n1, a1, l1, d1, rfl⟩ := hO.form
          obtain ⟨W, hW, hbW, hlt, ⟨c0, c1⟩, f, hnI⟩ := box2 w1 n1 a1 l1 d1
          have hN := hO.num.next hbW
          have k6 : Hid _ := Int64_num hN
          rw [hp, hf] at k6
          have hB := bthen hb1 hbW
          clear f hN hO hnI
          go_wp2_with fail
          rw [← hW]
          clear hW
          refine Calls.mono k6.out ?_
          rintro e w2 ⟨rfl, hb2⟩
          clear k6
          have hBf := bthen hB hb2
          go_wp2
          exact bodyPost_ret (v := .tuple #[.int .i64 0, .bool false]) (by simp [results, Tryz.results64, go_sem]) rfl ⟨0, false, rfl, .inr (.inl ⟨rfl, hno, rfl, rfl⟩), hBf⟩
      · obtain ⟨hf, hp⟩ := fits64_no (z := V) (fun h => h64 h.2)
        have hno : ¬ (goodT (expDigits s) 10 ∧ hor 10 (digs (expDigits s)) ≤ 999) := fun h => by have := h.2; rw [hED, ← hV.out] at this; omega
        go_enter Tryz.func64, Tryz.ntmps64
        go_wp2_with fail
        refine Calls.mono (kc.out _) ?_
        rintro e w0 ⟨rfl, rfl⟩
        clear kc kt
        have kP : Hid _ := Parse_ok D 10 w0 (by decide) hg.1 hDs hg.2.2
        rw [← hV.out] at kP
        go_wp2_with fail
        refine Calls.mono kP.out ?_
        rintro e w1 ⟨v, rfl, hO, hb1⟩
        clear kP
        obtain ⟨n1, a1, l1, d1, rfl⟩ := hO.form
        obtain ⟨W, hW, hbW, hlt, ⟨c0, c1⟩, f, hnI⟩ := box2 w1 n1 a1 l1 d1
        have hN := hO.num.next hbW
        have k6 : Hid _ := Int64_num hN
        rw [hp, hf] at k6
        have hB := bthen hb1 hbW
        clear f hN hO hnI
        go_wp2_with fail
        rw [← hW]
        clear hW
        refine Calls.mono k6.out ?_
        rintro e w2 ⟨rfl, hb2⟩
        clear k6
        have hBf := bthen hB hb2
        go_wp2
        exact bodyPost_ret (v := .tuple #[.int .i64 0, .bool false]) (by simp [results, Tryz.results64, go_sem]) rfl ⟨0, false, rfl, .inr (.inl ⟨rfl, hno, rfl, rfl⟩), hBf⟩
    · have hno : ¬ (goodT (expDigits s) 10 ∧ hor 10 (digs (expDigits s)) ≤ 999) := fun h => hg (by have := h.1; rw [hED] at this; exact this)
      go_enter Tryz.func64, Tryz.ntmps64
      go_wp2_with fail
      refine Calls.mono (kc.out _) ?_
      rintro e w0 ⟨rfl, rfl⟩
      clear kc kt
      have kP : Hid _ := Parse_no D 10 w0 hDs hg
      go_wp2_with fail
      refine Calls.mono kP.out ?_
      rintro e w1 ⟨rfl, hb1⟩
      clear kP
      have hBf : Below w0.heap.size w0 (w1.alloc (.cells #[.bool false, .slice none 0 0] 24)) := hb1.alloc hb1.size _
      go_wp2
      exact bodyPost_ret (v := .tuple #[.int .i64 0, .bool false]) (by simp [results, Tryz.results64, go_sem]) rfl ⟨0, false, rfl, .inr (.inl ⟨rfl, hno, rfl, rfl⟩), hBf⟩
  · have hED : expDigits s = ⟨(Lib.trimPrefix s.data.toList [43]).toArray⟩ := by unfold expDigits; rw [if_neg hneg]
    have hDs : (⟨(Lib.trimPrefix s.data.toList [43]).toArray⟩ : ByteArray).size ≤ 100000 := by have := hlen [43]; omega
    rw [show Lib.hasPrefix s.data.toList [45] = false by simpa using hneg] at kc
    clear hlen
    generalize (⟨(Lib.trimPrefix s.data.toList [45]).toArray⟩ : ByteArray) = D0 at *
    generalize (⟨(Lib.trimPrefix s.data.toList [43]).toArray⟩ : ByteArray) = D at *
    by_cases hg : goodT D 10
    · obtain ⟨V, hV⟩ : ∃ V, V = hor 10 (digs D) := ⟨_, rfl⟩
      have hV0 : 0 ≤ V := by rw [hV]; exact hor_ge D hg
      replace hV : Hid _ := hV
      by_cases h64 : V ≤ 9223372036854775807
      · obtain ⟨hf, hp⟩ := fits64_yes (z := V) ⟨by omega, h64⟩
        by_cases h9 : V ≤ 999
        · have d9 : decide (V > 999) = false := decide_eq_false (by omega)
          have hyes : expAns s true (V) true := .inr (.inr ⟨rfl, by rw [hED]; exact hg, by rw [hED, ← hV.out]; exact h9, rfl, by rw [hED, ← hV.out, if_neg hneg]⟩)
          have hng : IntKind.i64.wrap (-V) = -V := by rw [IntKind.wrap_i64]; omega
          go_enter Tryz.func64, Tryz.ntmps64
          go_wp2_with fail
          refine Calls.mono (kc.out _) ?_
          rintro e w0 ⟨rfl, rfl⟩
          go_wp2_with fail
          refine Calls.mono (kt.out _) ?_
          rintro e w0 ⟨rfl, rfl⟩
          clear kc kt
          have kP : Hid _ := Parse_ok D 10 w0 (by decide) hg.1 hDs hg.2.2
          rw [← hV.out] at kP
          go_wp2_with fail
          refine Calls.mono kP.out ?_
          rintro e w1 ⟨v, rfl, hO, hb1⟩
          clear kP
          obtain ⟨n1, a1, l1, d1, rfl⟩ := hO.form
          obtain ⟨W, hW, hbW, hlt, ⟨c0, c1⟩, f, hnI⟩ := box2 w1 n1 a1 l1 d1
          have hN := hO.num.next hbW
          have k6 : Hid _ := Int64_num hN
          rw [hp, hf] at k6
          have hB := bthen hb1 hbW
          clear f hN hO hnI
          go_wp2_with fail
          rw [← hW]
          clear hW
          refine Calls.mono k6.out ?_
          rintro e w2 ⟨rfl, hb2⟩
          clear k6
          have hBf := bthen hB hb2
          go_wp2
          exact bodyPost_ret (v := .tuple #[.int .i64 (V), .bool true]) (by simp [results, Tryz.results64, go_sem]) rfl ⟨_, _, rfl, hyes, hBf⟩
        · have d9 : decide (V > 999) = true := decide_eq_true (by omega)
          have hno : ¬ (goodT (expDigits s) 10 ∧ hor 10 (digs (expDigits s)) ≤ 999) := fun h => by have := h.2; rw [hED, ← hV.out] at this; omega
          go_enter Tryz.func64, Tryz.ntmps64
          go_wp2_with fail
          refine Calls.mono (kc.out _) ?_
          rintro e w0 ⟨rfl, rfl⟩
          go_wp2_with fail
          refine Calls.mono (kt.out _) ?_
          rintro e w0 ⟨rfl, rfl⟩
          clear kc kt
          have kP : Hid _ := Parse_ok D 10 w0 (by decide) hg.1 hDs hg.2.2
          rw [← hV.out] at kP
          go_wp2_with fail
          refine Calls.mono kP.out ?_
          rintro e w1 ⟨v, rfl, hO, hb1⟩
          clear kP
          obtain ⟨n1, a1, l1, d1, rfl⟩ := hO.form
          obtain ⟨W, hW, hbW, hlt, ⟨c0, c1⟩, f, hnI⟩ := box2 w1 n1 a1 l1 d1
          have hN := hO.num.next hbW
          have k6 : Hid _ := Int64_num hN
          rw [hp, hf] at k6
          have hB := bthen hb1 hbW
          clear f hN hO hnI
          go_wp2_with fail
          rw [← hW]
          clear hW
          refine Calls.mono k6.out ?_
          rintro e w2 ⟨rfl, hb2⟩
          clear k6
          have hBf := bthen hB hb2
          go_wp2
          exact bodyPost_ret (v := .tuple #[.int .i64 0, .bool false]) (by simp [results, Tryz.results64, go_sem]) rfl ⟨0, false, rfl, .inr (.inl ⟨rfl, hno, rfl, rfl⟩), hBf⟩
      · obtain ⟨hf, hp⟩ := fits64_no (z := V) (fun h => h64 h.2)
        have hno : ¬ (goodT (expDigits s) 10 ∧ hor 10 (digs (expDigits s)) ≤ 999) := fun h => by have := h.2; rw [hED, ← hV.out] at this; omega
        go_enter Tryz.func64, Tryz.ntmps64
        go_wp2_with fail
        refine Calls.mono (kc.out _) ?_
        rintro e w0 ⟨rfl, rfl⟩
        go_wp2_with fail
        refine Calls.mono (kt.out _) ?_
        rintro e w0 ⟨rfl, rfl⟩
        clear kc kt
        have kP : Hid _ := Parse_ok D 10 w0 (by decide) hg.1 hDs hg.2.2
        rw [← hV.out] at kP
        go_wp2_with fail
        refine Calls.mono kP.out ?_
        rintro e w1 ⟨v, rfl, hO, hb1⟩
        clear kP
        obtain ⟨n1, a1, l1, d1, rfl⟩ := hO.form
        obtain ⟨W, hW, hbW, hlt, ⟨c0, c1⟩, f, hnI⟩ := box2 w1 n1 a1 l1 d1
        have hN := hO.num.next hbW
        have k6 : Hid _ := Int64_num hN
        rw [hp, hf] at k6
        have hB := bthen hb1 hbW
        clear f hN hO hnI
        go_wp2_with fail
        rw [← hW]
        clear hW
        refine Calls.mono k6.out ?_
        rintro e w2 ⟨rfl, hb2⟩
        clear k6
        have hBf := bthen hB hb2
        go_wp2
        exact bodyPost_ret (v := .tuple #[.int .i64 0, .bool false]) (by simp [results, Tryz.results64, go_sem]) rfl ⟨0, false, rfl, .inr (.inl ⟨rfl, hno, rfl, rfl⟩), hBf⟩
    · have hno : ¬ (goodT (expDigits s) 10 ∧ hor 10 (digs (expDigits s)) ≤ 999) := fun h => hg (by have := h.1; rw [hED] at this; exact this)
      go_enter Tryz.func64, Tryz.ntmps64
      go_wp2_with fail
      refine Calls.mono (kc.out _) ?_
      rintro e w0 ⟨rfl, rfl⟩
      go_wp2_with fail
      refine Calls.mono (kt.out _) ?_
      rintro e w0 ⟨rfl, rfl⟩
      clear kc kt
      have kP : Hid _ := Parse_no D 10 w0 hDs hg
      go_wp2_with fail
      refine Calls.mono kP.out ?_
      rintro e w1 ⟨rfl, hb1⟩
      clear kP
      have hBf : Below w0.heap.size w0 (w1.alloc (.cells #[.bool false, .slice none 0 0] 24)) := hb1.alloc hb1.size _
      go_wp2
      exact bodyPost_ret (v := .tuple #[.int .i64 0, .bool false]) (by simp [results, Tryz.results64, go_sem]) rfl ⟨0, false, rfl, .inr (.inl ⟨rfl, hno, rfl, rfl⟩), hBf⟩
end Go.Proofs.YthiiglhecajhbaaGreat
namespace Go.Proofs.YthiiglhecajhbaaGreat
open Go.RowKit
attribute [local go_sem ↓] Go.wp_at_zero Go.wp_at_succ
theorem pow_mono_base (r : Nat) (hr : r ≤ 10) (n : Nat) (hn : n ≤ 1060) : r ^ n < 4294967296 ^ 112 := by
  have h1 : r ^ n ≤ 10 ^ n := Nat.pow_le_pow_left hr n
  obtain ⟨M, hM⟩ : ∃ M, M = 1060 := ⟨_, rfl⟩
  have h2 : 10 ^ n ≤ 10 ^ M := Nat.pow_le_pow_right (by decide) (by omega)
  have h3 : 10 ^ M < 4294967296 ^ 112 := by rw [hM]; decide +kernel
  exact Nat.lt_of_le_of_lt (Nat.le_trans h1 h2) h3
theorem pow_two_bound (n : Nat) (hn : n ≤ 2000) : 2 ^ n < 4294967296 ^ 112 := by
  obtain ⟨M, hM⟩ : ∃ M, M = 2000 := ⟨_, rfl⟩
  have h2 : 2 ^ n ≤ 2 ^ M := Nat.pow_le_pow_right (by decide) (by omega)
  have h3 : 2 ^ M < 4294967296 ^ 112 := by rw [hM]; decide +kernel
  exact Nat.lt_of_le_of_lt h2 h3
theorem pow_tight (r : Int) (hr0 : 2 ≤ r) (hr : r ≤ 10) (n : Nat) (hn : n ≤ 1060 ∨ (r = 2 ∧ n ≤ 2000)) : -(4294967296 ^ 112) < r ^ n ∧ r ^ n < 4294967296 ^ 112 ∧ 0 < r ^ n := by
  obtain ⟨k, rfl⟩ : ∃ k : Nat, r = k := ⟨r.toNat, by omega⟩
  have h : k ^ n < 4294967296 ^ 112 := by
    rcases hn with hn | ⟨h2, hn⟩
    · exact pow_mono_base k (by omega) n hn
    · obtain rfl : k = 2 := by omega
      exact pow_two_bound n hn
  have hp : 0 < k ^ n := Nat.pow_pos (by omega)
  have e : ((k : Int)) ^ n = ((k ^ n : Nat) : Int) := by rw [Int.natCast_pow]
  have e2 : (4294967296 : Int) ^ 112 = ((4294967296 ^ 112 : Nat) : Int) := by rw [Int.natCast_pow]; rfl
  rw [e, e2]
  generalize (4294967296 ^ 112 : Nat) = Q at *
  generalize k ^ n = P at *
  omega
set_option maxRecDepth 20000 in
set_option maxHeartbeats 4000000 in
theorem scale_neg {w : World} {u : Value} {Z : Int} {m : Nat} (hu : Num w u Z m) (hm : m ≤ 70) (r : Int) (hr0 : 2 ≤ r) (hr : r ≤ 10) (n : Nat) (hn0 : 0 < n) (hn : n ≤ 1060 ∨ (r = 2 ∧ n ≤ 2000)) :
    Calls Tryz.prog 65 #[u, .int .i64 r, .int .i64 (-(n : Int))] w fun e w' => ∃ t, e = .returned t ∧ LowE w' t Z (r ^ n) (m + 114) ∧ Below w.heap.size w w' := by
  obtain ⟨n1, a1, l1, c1, rfl⟩ := hu.form
  obtain ⟨W, hW, hbW, ⟨e0, e1⟩, x0⟩ := boxes_whole w n1 a1 l1 c1
  have hU := hu.next hbW
  have hD0 : Below W.heap.size W W.drew := (Below.refl _ _).drew
  have kR := fun w => (raise_num r n w hr0 (by omega) (by omega))
  replace kR := (show Hid _ from kR)
  obtain ⟨t1, t2, t3⟩ := pow_tight r hr0 hr n hn
  have ht : Hid (-(4294967296 ^ 112) < r ^ n ∧ r ^ n < 4294967296 ^ 112) := ⟨t1, t2⟩
  have ht3 : Hid (0 < r ^ n) := t3
  clear t1 t2 t3
  generalize r ^ n = RN at *
  have dn : decide (-(n : Int) < 0) = true := decide_eq_true (by omega)
  have hwn : IntKind.i64.wrap (-(-(n : Int))) = (n : Int) := by rw [IntKind.wrap_i64]; omega
  obtain ⟨NG, hNG⟩ : ∃ NG : Int, NG = -(n : Int) := ⟨_, rfl⟩
  rw [← hNG] at dn hwn ⊢
  clear hNG
  go_enter Tryz.func65, Tryz.ntmps65
  go_wp2
  rw [← hW]
  clear hW
  go_region_with (first
    | (go_at_call 101; refine Calls.mono (kR.out _) ?_; rintro e w2 ⟨t, rfl, hO9, hb2⟩; have hO := outE_tight hO9 112 ht.out; clear hO9; obtain ⟨n3, a3, l3, c3, rfl⟩ := hO.num.form; have hB2 : Below W.heap.size W w2 := bthen hD0 hb2; have p0 := keep_cell hB2 e0; have p1 := keep_cell hB2 e1)
    | (go_at_call 45; refine (lowest_pos (Num.frac ((hU.next hB2).more' (m := m + 112) (by omega)) (hO.num.more' (m := m + 112) (by omega)) rfl rfl) (by omega) ht3.out).mono ?_; rintro e w3 ⟨t, rfl, hL, hb3⟩; obtain ⟨n4, a4, l4, c4, n5, a5, l5, c5, rfl⟩ := hL.form; have hB3 : Below W.heap.size W w3 := bthen hB2 hb3; have y0 := x0.next hB3; obtain ⟨_, _, _, _, _, _, _, _, j0, j1, j2, j3, f⟩ := y0.cells; have f0 := f 0; have f1 := f 1; have f2 := f 2; have f3 := f 3; clear f))
  all_goals
    have hbx : Hid _ := put4_boxed (base := w.heap.size) y0.noint (by omega) n4 a4 l4 c4 n5 a5 l5 c5
    have hBf := bthen hbW hB3
    have hLf : Hid _ := hbx.out.lowE hL
    clear hO hL hU hb2 hb3 hB2 hB3
    go_wp2
    exact bodyPost_ret (v := .agg #[.bool n4, .slice a4 l4 c4, .bool n5, .slice a5 l5 c5]) (by simp [results, Tryz.results65, go_sem, j0, j1, j2, j3]) rfl ⟨_, rfl, hLf.out, hbx.out.keep hBf (Nat.le_refl _) hBf.size⟩
set_option maxRecDepth 20000 in
set_option maxHeartbeats 4000000 in
theorem scale_pos {w : World} {u : Value} {Z : Int} {m : Nat} (hu : Num w u Z m) (hm : m ≤ 70) (r : Int) (hr0 : 2 ≤ r) (hr : r ≤ 10) (n : Nat) (hn : n ≤ 1060 ∨ (r = 2 ∧ n ≤ 2000)) :
    Calls Tryz.prog 65 #[u, .int .i64 r, .int .i64 (n : Int)] w fun e w' => ∃ t, e = .returned t ∧ LowE w' t (Z * r ^ n) 1 (m + 116) ∧ Below w.heap.size w w' := by
  obtain ⟨n1, a1, l1, c1, rfl⟩ := hu.form
  obtain ⟨W, hW, hbW, ⟨e0, e1⟩, x0⟩ := boxes_whole w n1 a1 l1 c1
  have hU := hu.next hbW
  have hD0 : Below W.heap.size W W.drew := (Below.refl _ _).drew
  have kR := fun w => (raise_num r n w hr0 (by omega) (by omega))
  replace kR := (show Hid _ from kR)
  obtain ⟨t1, t2, t3⟩ := pow_tight r hr0 hr n hn
  have ht : Hid (-(4294967296 ^ 112) < r ^ n ∧ r ^ n < 4294967296 ^ 112) := ⟨t1, t2⟩
  clear t1 t2 t3
  generalize r ^ n = RN at *
  have dn : decide ((n : Int) < 0) = false := decide_eq_false (by omega)
  go_enter Tryz.func65, Tryz.ntmps65
  go_wp2
  rw [← hW]
  clear hW
  go_region_with (first
    | (go_at_call 101; refine Calls.mono (kR.out _) ?_; rintro e w2 ⟨t, rfl, hO9, hb2⟩; have hO := outE_tight hO9 112 ht.out; clear hO9; obtain ⟨n3, a3, l3, c3, rfl⟩ := hO.num.form; have hB2 : Below W.heap.size W w2 := bthen hD0 hb2; have p0 := keep_cell hB2 e0; have p1 := keep_cell hB2 e1)
    | (go_at_call 39; refine (Mul_num (hU.next hB2) hO.num (by omega) (by omega)).mono ?_; rintro e w4 ⟨t4, rfl, hO4, hb4⟩; obtain ⟨n6, a6, l6, c6, rfl⟩ := hO4.form; have hB4 : Below W.heap.size W w4 := bthen hB2 hb4)
    | (go_at_call 32; refine (Whole_num hO4.num (by omega)).mono ?_; rintro e w3 ⟨t, rfl, hL, hb3⟩; obtain ⟨n4, a4, l4, c4, n5, a5, l5, c5, rfl⟩ := hL.form; have hB3 : Below W.heap.size W w3 := bthen hB4 hb3; have y0 := x0.next hB3; obtain ⟨_, _, _, _, _, _, _, _, j0, j1, j2, j3, f⟩ := y0.cells; have f0 := f 0; have f1 := f 1; have f2 := f 2; have f3 := f 3; clear f))
  all_goals
    have hbx : Hid _ := put4_boxed (base := w.heap.size) y0.noint (by omega) n4 a4 l4 c4 n5 a5 l5 c5
    have hBf := bthen hbW hB3
    have hLf : Hid _ := hbx.out.lowE hL
    clear hO hL hU hb2 hb3 hB2 hB3
    go_wp2
    exact bodyPost_ret (v := .agg #[.bool n4, .slice a4 l4 c4, .bool n5, .slice a5 l5 c5]) (by simp [results, Tryz.results65, go_sem, j0, j1, j2, j3]) rfl ⟨_, rfl, hLf.out, hbx.out.keep hBf (Nat.le_refl _) hBf.size⟩
end Go.Proofs.YthiiglhecajhbaaGreat
namespace Go.Proofs.YthiiglhecajhbaaGreat
open Go.RowKit
attribute [local go_sem ↓] Go.wp_at_zero Go.wp_at_succ
theorem lowE_zero {w : World} {v : Value} {m : Nat} (h : FracE w v 0 1 m) : LowE w v 0 1 m := ⟨0, 1, h, by decide, by decide, by decide⟩
/-- Does a decimal number begin with a nought that it may not have? -/
def leadB (s : ByteArray) (b : Int) : Bool := decide (b = 10) && decide (1 < s.size) && decide ((s.get! 0).toNat = 48)
def WholeAns (w' : World) (s : ByteArray) (b : Int) (t : Value) (ok : Bool) : Prop :=
  (ok = true ∧ goodT s b ∧ leadB s b = false ∧ LowE w' t (hor b (digs s)) 1 (s.size + 5)) ∨ (ok = false ∧ ¬ (goodT s b ∧ leadB s b = false) ∧ LowE w' t 0 1 2)
set_option maxRecDepth 20000 in
set_option maxHeartbeats 8000000 in
theorem parseWhole_lead (s : ByteArray) (b : Int) (w : World) (hlead : leadB s b = true) : Calls Tryz.prog 61 #[.string s, .int .i64 b] w fun e w' => ∃ t ok, e = .returned (.tuple #[t, .bool ok]) ∧ WholeAns w' s b t ok ∧ Below w.heap.size w w' := by
  have x0 := Box4.new w false none 0 0 false none 0 0 26 (by decide)
  have hbW : Below w.heap.size w (w.alloc (.cells #[.bool false, .slice none 0 0, .bool false, .slice none 0 0] 26)) := (Below.refl _ _).alloc (Nat.le_refl _) _
  obtain ⟨W, hW⟩ : ∃ W, W = w.alloc (.cells #[.bool false, .slice none 0 0, .bool false, .slice none 0 0] 26) := ⟨_, rfl⟩
  have hlt : w.heap.size < W.heap.size := by rw [hW]; simp
  rw [← hW] at x0 hbW
  have hA : Hid (∀ w' t, LowE w' t 0 1 2 → WholeAns w' s b t false) := fun w' t h => .inr ⟨rfl, (fun h2 => by rw [hlead] at h2; cases h2.2), h⟩
  unfold leadB at hlead
  simp only [Bool.and_eq_true, decide_eq_true_eq] at hlead
  obtain ⟨⟨rfl, h1⟩, h48⟩ := hlead
  have p0 : 0 < s.size := by omega
  rw [get_bang s 0 p0] at h48
  have e48 : (((s[0]'p0).toNat : Int) == 48) = true := by rw [h48]; rfl
  have d1 : decide ((s.size : Int) > 1) = true := decide_eq_true (by omega)
  have kz : Hid _ := fun w => zero_any w
  clear h48
  go_enter Tryz.func61, Tryz.ntmps61
  go_upto_region 1 with fail
  rw [← hW]
  clear hW
  go_wp2_with fail
  refine Calls.mono (kz.out _) ?_
  rintro e w7 ⟨t, rfl, hF, b8⟩
  have hL := lowE_zero hF
  obtain ⟨n4, a4, l4, c4, n5, a5, l5, c5, rfl⟩ := hL.form
  have y0 := x0.next b8
  obtain ⟨_, _, _, _, _, _, _, _, j0, j1, j2, j3, f⟩ := y0.cells
  have f0 := f 0
  have f1 := f 1
  have f2 := f 2
  have f3 := f 3
  clear f
  have hbx : Hid _ := put4_boxed (base := w.heap.size) y0.noint (by omega) n4 a4 l4 c4 n5 a5 l5 c5
  have hBf := bthen hbW b8
  have hLf : Hid _ := hbx.out.lowE hL
  clear hL hF kz
  go_wp2
  exact bodyPost_ret (v := .tuple #[.agg #[.bool n4, .slice a4 l4 c4, .bool n5, .slice a5 l5 c5], .bool false]) (by simp [results, Tryz.results61, go_sem, j0, j1, j2, j3]) rfl ⟨_, _, rfl, hA.out _ _ hLf.out, hbx.out.keep hBf (Nat.le_refl _) hBf.size⟩
set_option maxRecDepth 20000 in
set_option maxHeartbeats 8000000 in
theorem parseWhole_any (s : ByteArray) (b : Int) (hs : s.size ≤ 100) (w : World) : Calls Tryz.prog 61 #[.string s, .int .i64 b] w fun e w' => ∃ t ok, e = .returned (.tuple #[t, .bool ok]) ∧ WholeAns w' s b t ok ∧ Below w.heap.size w w' := by
  cases hlead : leadB s b with
  | true => exact parseWhole_lead s b w hlead
  | false =>
    have x0 := Box4.new w false none 0 0 false none 0 0 26 (by decide)
    have hbW : Below w.heap.size w (w.alloc (.cells #[.bool false, .slice none 0 0, .bool false, .slice none 0 0] 26)) := (Below.refl _ _).alloc (Nat.le_refl _) _
    obtain ⟨W, hW⟩ : ∃ W, W = w.alloc (.cells #[.bool false, .slice none 0 0, .bool false, .slice none 0 0] 26) := ⟨_, rfl⟩
    have hlt : w.heap.size < W.heap.size := by rw [hW]; simp
    rw [← hW] at x0 hbW
    have kz : Hid _ := fun w => zero_any w
    by_cases hg : goodT s b
    · obtain ⟨V, hV⟩ : ∃ V, V = hor b (digs s) := ⟨_, rfl⟩
      have hA : Hid (∀ w' t, LowE w' t V 1 (s.size + 1 + 4) → WholeAns w' s b t true) := fun w' t h => .inl ⟨rfl, hg, hlead, by rw [← hV]; exact h⟩
      replace hV : Hid _ := hV
      have hs9 : s.size ≤ 100000 := by omega
      by_cases hb10 : b = 10
      · have eb : (b == 10) = true := by rw [hb10]; rfl
        by_cases h1 : 1 < s.size
        · have p0 : 0 < s.size := by omega
          have h48 : (s[0]'p0).toNat ≠ 48 := by
            rw [← get_bang s 0 p0]
            intro h
            unfold leadB at hlead
            rw [decide_eq_true hb10, decide_eq_true h1, decide_eq_true h] at hlead
            cases hlead
          have d1 : decide ((s.size : Int) > 1) = true := decide_eq_true (by omega)
          have e48 : (((s[0]'p0).toNat : Int) == 48) = false := by rw [beq_eq_false_iff_ne]; omega
          clear h48 hb10
          have kP : Hid _ := Parse_ok s b W hg.2.1 hg.1 hs9 hg.2.2
          rw [← hV.out] at kP
          clear hg hlead hV
          go_enter Tryz.func61, Tryz.ntmps61
          go_upto_region 1 with fail
          rw [← hW]
          clear hW
          go_wp2_with fail
          refine Calls.mono kP.out ?_
          rintro e w1 ⟨v, rfl, hO, hb1⟩
          clear kP
          obtain ⟨n1, a1, l1, d1, rfl⟩ := hO.form
          obtain ⟨W1, hW1, hbW1, hlt1, ⟨c0, c1⟩, ff, hnI⟩ := box2 w1 n1 a1 l1 d1
          have hN := hO.num.next hbW1
          have k6 : Hid _ := Whole_num hN (by omega)
          have b2 := bthen hb1 hbW1
          clear ff hN hO hnI
          go_wp2_with fail
          rw [← hW1]
          clear hW1
          refine Calls.mono k6.out ?_
          rintro e w7 ⟨t, rfl, hL, b8⟩
          clear k6
          have b9 := bthen b2 b8
          obtain ⟨n4, a4, l4, c4, n5, a5, l5, c5, rfl⟩ := hL.form
          have y0 := x0.next b9
          obtain ⟨_, _, _, _, _, _, _, _, j0, j1, j2, j3, f⟩ := y0.cells
          have f0 := f 0
          have f1 := f 1
          have f2 := f 2
          have f3 := f 3
          clear f
          have hbx : Hid _ := put4_boxed (base := w.heap.size) y0.noint (by omega) n4 a4 l4 c4 n5 a5 l5 c5
          have hBf := bthen hbW b9
          have hLf : Hid _ := hbx.out.lowE hL
          clear hL
          go_wp2
          exact bodyPost_ret (v := .tuple #[.agg #[.bool n4, .slice a4 l4 c4, .bool n5, .slice a5 l5 c5], .bool true]) (by simp [results, Tryz.results61, go_sem, j0, j1, j2, j3]) rfl ⟨_, _, rfl, hA.out _ _ hLf.out, hbx.out.keep hBf (Nat.le_refl _) hBf.size⟩
        · have d1 : decide ((s.size : Int) > 1) = false := decide_eq_false (by omega)
          clear hb10
          have kP : Hid _ := Parse_ok s b W hg.2.1 hg.1 hs9 hg.2.2
          rw [← hV.out] at kP
          clear hg hlead hV
          go_enter Tryz.func61, Tryz.ntmps61
          go_upto_region 1 with fail
          rw [← hW]
          clear hW
          go_wp2_with fail
          refine Calls.mono kP.out ?_
          rintro e w1 ⟨v, rfl, hO, hb1⟩
          clear kP
          obtain ⟨n1, a1, l1, d1, rfl⟩ := hO.form
          obtain ⟨W1, hW1, hbW1, hlt1, ⟨c0, c1⟩, ff, hnI⟩ := box2 w1 n1 a1 l1 d1
          have hN := hO.num.next hbW1
          have k6 : Hid _ := Whole_num hN (by omega)
          have b2 := bthen hb1 hbW1
          clear ff hN hO hnI
          go_wp2_with fail
          rw [← hW1]
          clear hW1
          refine Calls.mono k6.out ?_
          rintro e w7 ⟨t, rfl, hL, b8⟩
          clear k6
          have b9 := bthen b2 b8
          obtain ⟨n4, a4, l4, c4, n5, a5, l5, c5, rfl⟩ := hL.form
          have y0 := x0.next b9
          obtain ⟨_, _, _, _, _, _, _, _, j0, j1, j2, j3, f⟩ := y0.cells
          have f0 := f 0
          have f1 := f 1
          have f2 := f 2
          have f3 := f 3
          clear f
          have hbx : Hid _ := put4_boxed (base := w.heap.size) y0.noint (by omega) n4 a4 l4 c4 n5 a5 l5 c5
          have hBf := bthen hbW b9
          have hLf : Hid _ := hbx.out.lowE hL
          clear hL
          go_wp2
          exact bodyPost_ret (v := .tuple #[.agg #[.bool n4, .slice a4 l4 c4, .bool n5, .slice a5 l5 c5], .bool true]) (by simp [results, Tryz.results61, go_sem, j0, j1, j2, j3]) rfl ⟨_, _, rfl, hA.out _ _ hLf.out, hbx.out.keep hBf (Nat.le_refl _) hBf.size⟩
      · have eb : (b == 10) = false := by rw [beq_eq_false_iff_ne]; exact hb10
        have kP : Hid _ := Parse_ok s b W hg.2.1 hg.1 hs9 hg.2.2
        rw [← hV.out] at kP
        clear hg hlead hV
        go_enter Tryz.func61, Tryz.ntmps61
        go_upto_region 1 with fail
        rw [← hW]
        clear hW
        go_wp2_with fail
        refine Calls.mono kP.out ?_
        rintro e w1 ⟨v, rfl, hO, hb1⟩
        clear kP
        obtain ⟨n1, a1, l1, d1, rfl⟩ := hO.form
        obtain ⟨W1, hW1, hbW1, hlt1, ⟨c0, c1⟩, ff, hnI⟩ := box2 w1 n1 a1 l1 d1
        have hN := hO.num.next hbW1
        have k6 : Hid _ := Whole_num hN (by omega)
        have b2 := bthen hb1 hbW1
        clear ff hN hO hnI
        go_wp2_with fail
        rw [← hW1]
        clear hW1
        refine Calls.mono k6.out ?_
        rintro e w7 ⟨t, rfl, hL, b8⟩
        clear k6
        have b9 := bthen b2 b8
        obtain ⟨n4, a4, l4, c4, n5, a5, l5, c5, rfl⟩ := hL.form
        have y0 := x0.next b9
        obtain ⟨_, _, _, _, _, _, _, _, j0, j1, j2, j3, f⟩ := y0.cells
        have f0 := f 0
        have f1 := f 1
        have f2 := f 2
        have f3 := f 3
        clear f
        have hbx : Hid _ := put4_boxed (base := w.heap.size) y0.noint (by omega) n4 a4 l4 c4 n5 a5 l5 c5
        have hBf := bthen hbW b9
        have hLf : Hid _ := hbx.out.lowE hL
        clear hL
        go_wp2
        exact bodyPost_ret (v := .tuple #[.agg #[.bool n4, .slice a4 l4 c4, .bool n5, .slice a5 l5 c5], .bool true]) (by simp [results, Tryz.results61, go_sem, j0, j1, j2, j3]) rfl ⟨_, _, rfl, hA.out _ _ hLf.out, hbx.out.keep hBf (Nat.le_refl _) hBf.size⟩
    · have hA : Hid (∀ w' t, LowE w' t 0 1 2 → WholeAns w' s b t false) := fun w' t h => .inr ⟨rfl, (fun h2 => hg h2.1), h⟩
      have hs9 : s.size ≤ 100000 := by omega
      by_cases hb10 : b = 10
      · have eb : (b == 10) = true := by rw [hb10]; rfl
        by_cases h1 : 1 < s.size
        · have p0 : 0 < s.size := by omega
          have h48 : (s[0]'p0).toNat ≠ 48 := by
            rw [← get_bang s 0 p0]
            intro h
            unfold leadB at hlead
            rw [decide_eq_true hb10, decide_eq_true h1, decide_eq_true h] at hlead
            cases hlead
          have d1 : decide ((s.size : Int) > 1) = true := decide_eq_true (by omega)
          have e48 : (((s[0]'p0).toNat : Int) == 48) = false := by rw [beq_eq_false_iff_ne]; omega
          clear h48 hb10
          have kP : Hid _ := Parse_no s b W hs9 hg
          clear hg hlead
          go_enter Tryz.func61, Tryz.ntmps61
          go_upto_region 1 with fail
          rw [← hW]
          clear hW
          go_wp2_with fail
          refine Calls.mono kP.out ?_
          rintro e w1 ⟨rfl, hb1⟩
          clear kP
          have b2 : Below W.heap.size W (w1.alloc (.cells #[.bool false, .slice none 0 0] 24)) := hb1.alloc hb1.size _
          go_wp2_with fail
          refine Calls.mono (kz.out _) ?_
          rintro e w7 ⟨t, rfl, hF, b8⟩
          have b9 := bthen b2 b8
          have hL := lowE_zero hF
          obtain ⟨n4, a4, l4, c4, n5, a5, l5, c5, rfl⟩ := hL.form
          have y0 := x0.next b9
          obtain ⟨_, _, _, _, _, _, _, _, j0, j1, j2, j3, f⟩ := y0.cells
          have f0 := f 0
          have f1 := f 1
          have f2 := f 2
          have f3 := f 3
          clear f
          have hbx : Hid _ := put4_boxed (base := w.heap.size) y0.noint (by omega) n4 a4 l4 c4 n5 a5 l5 c5
          have hBf := bthen hbW b9
          have hLf : Hid _ := hbx.out.lowE hL
          clear hL hF kz
          go_wp2
          exact bodyPost_ret (v := .tuple #[.agg #[.bool n4, .slice a4 l4 c4, .bool n5, .slice a5 l5 c5], .bool false]) (by simp [results, Tryz.results61, go_sem, j0, j1, j2, j3]) rfl ⟨_, _, rfl, hA.out _ _ hLf.out, hbx.out.keep hBf (Nat.le_refl _) hBf.size⟩
        · have d1 : decide ((s.size : Int) > 1) = false := decide_eq_false (by omega)
          clear hb10
          have kP : Hid _ := Parse_no s b W hs9 hg
          clear hg hlead
          go_enter Tryz.func61, Tryz.ntmps61
          go_upto_region 1 with fail
          rw [← hW]
          clear hW
          go_wp2_with fail
          refine Calls.mono kP.out ?_
          rintro e w1 ⟨rfl, hb1⟩
          clear kP
          have b2 : Below W.heap.size W (w1.alloc (.cells #[.bool false, .slice none 0 0] 24)) := hb1.alloc hb1.size _
          go_wp2_with fail
          refine Calls.mono (kz.out _) ?_
          rintro e w7 ⟨t, rfl, hF, b8⟩
          have b9 := bthen b2 b8
          have hL := lowE_zero hF
          obtain ⟨n4, a4, l4, c4, n5, a5, l5, c5, rfl⟩ := hL.form
          have y0 := x0.next b9
          obtain ⟨_, _, _, _, _, _, _, _, j0, j1, j2, j3, f⟩ := y0.cells
          have f0 := f 0
          have f1 := f 1
          have f2 := f 2
          have f3 := f 3
          clear f
          have hbx : Hid _ := put4_boxed (base := w.heap.size) y0.noint (by omega) n4 a4 l4 c4 n5 a5 l5 c5
          have hBf := bthen hbW b9
          have hLf : Hid _ := hbx.out.lowE hL
          clear hL hF kz
          go_wp2
          exact bodyPost_ret (v := .tuple #[.agg #[.bool n4, .slice a4 l4 c4, .bool n5, .slice a5 l5 c5], .bool false]) (by simp [results, Tryz.results61, go_sem, j0, j1, j2, j3]) rfl ⟨_, _, rfl, hA.out _ _ hLf.out, hbx.out.keep hBf (Nat.le_refl _) hBf.size⟩
      · have eb : (b == 10) = false := by rw [beq_eq_false_iff_ne]; exact hb10
        have kP : Hid _ := Parse_no s b W hs9 hg
        clear hg hlead
        go_enter Tryz.func61, Tryz.ntmps61
        go_upto_region 1 with fail
        rw [← hW]
        clear hW
        go_wp2_with fail
        refine Calls.mono kP.out ?_
        rintro e w1 ⟨rfl, hb1⟩
        clear kP
        have b2 : Below W.heap.size W (w1.alloc (.cells #[.bool false, .slice none 0 0] 24)) := hb1.alloc hb1.size _
        go_wp2_with fail
        refine Calls.mono (kz.out _) ?_
        rintro e w7 ⟨t, rfl, hF, b8⟩
        have b9 := bthen b2 b8
        have hL := lowE_zero hF
        obtain ⟨n4, a4, l4, c4, n5, a5, l5, c5, rfl⟩ := hL.form
        have y0 := x0.next b9
        obtain ⟨_, _, _, _, _, _, _, _, j0, j1, j2, j3, f⟩ := y0.cells
        have f0 := f 0
        have f1 := f 1
        have f2 := f 2
        have f3 := f 3
        clear f
        have hbx : Hid _ := put4_boxed (base := w.heap.size) y0.noint (by omega) n4 a4 l4 c4 n5 a5 l5 c5
        have hBf := bthen hbW b9
        have hLf : Hid _ := hbx.out.lowE hL
        clear hL hF kz
        go_wp2
        exact bodyPost_ret (v := .tuple #[.agg #[.bool n4, .slice a4 l4 c4, .bool n5, .slice a5 l5 c5], .bool false]) (by simp [results, Tryz.results61, go_sem, j0, j1, j2, j3]) rfl ⟨_, _, rfl, hA.out _ _ hLf.out, hbx.out.keep hBf (Nat.le_refl _) hBf.size⟩
end Go.Proofs.YthiiglhecajhbaaGreat
