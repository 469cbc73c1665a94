/- trees: the second road's Eq. -/
import Derived.Test.YtbfklindcmmncaaAa
import Derived.Deep.CutRange
import Derived.Deep.RegionWith
namespace Go.Proofs.Ytbfklindcmmncaa
open Go.RowKit
attribute [local go_sem ↓] Go.wp_at_zero Go.wp_at_succ
/-- Two nodes in boxes of their own. -/
theorem boxes_two (w : World) (k a : Int) (s : ByteArray) (x : Option Addr) (l c : Nat) (k' a' : Int) (s' : ByteArray) (x' : Option Addr) (l' c' : Nat) : ∃ W, W = (w.alloc (.cells #[.int .i64 k, .int .i64 a, .string s, .slice x l c] 24)).alloc (.cells #[.int .i64 k', .int .i64 a', .string s', .slice x' l' c'] 24) ∧ Below w.heap.size w W ∧
    (W.cell? ⟨w.heap.size, 0, none⟩ = some (.int .i64 k) ∧ W.cell? ⟨w.heap.size, 2, none⟩ = some (.string s) ∧ W.cell? ⟨w.heap.size, 3, none⟩ = some (.slice x l c)) ∧
    (W.cell? ⟨w.heap.size + 1, 0, none⟩ = some (.int .i64 k') ∧ W.cell? ⟨w.heap.size + 1, 2, none⟩ = some (.string s') ∧ W.cell? ⟨w.heap.size + 1, 3, none⟩ = some (.slice x' l' c')) := by
  refine ⟨_, rfl, ((Below.refl _ _).alloc (Nat.le_refl _) _).alloc (by simp) _, ⟨?_, ?_, ?_⟩, ⟨?_, ?_, ?_⟩⟩
  all_goals simp [go_sem, World.cell?_alloc_past]
set_option maxRecDepth 20000 in
set_option maxHeartbeats 4000000 in
theorem refEq_any (n : Nat) : ∀ (t u : Tr), t.size ≤ n → ∀ (w : World) (P : Nat → Prop) (va vb : Value), TrV w P va t → TrV w P vb u → Calls Try.prog 10 #[va, vb] w fun e w' => e = .returned (.bool (eqT t u)) ∧ Below w.heap.size w w' := by
  induction n with
  | zero => intro t u h; have := size_pos t; omega
  | succ n ih =>
    intro t u hsz w P va vb ha hb
    obtain ⟨k, a, s, ks⟩ := t
    obtain ⟨k', a', s', us⟩ := u
    unfold TrV at ha hb
    obtain ⟨x, l, cap, rfl, rfl, hlc, hcm, hK⟩ := ha
    obtain ⟨x', l', cap', rfl, rfl, hlc', hcm', hK'⟩ := hb
    obtain ⟨W, hW, hbW, ⟨g0, g2, g3⟩, ⟨h0, h2, h3⟩⟩ := boxes_two w k a s x ks.length cap k' a' s' x' us.length cap'
    have hKW : Hid _ := KidsAt.next hK hbW
    have hKW' : Hid _ := KidsAt.next hK' hbW
    clear hK hK'
    unfold eqT
    have hm : maxLen ≤ 9223372036854775807 := by decide
    cases e1 : (k == k') with
    | false =>
      have e1' : (k != k') = true := by simp [bne, e1]
      clear hKW hKW'
      go_enter Try.func10, Try.ntmps10
      go_upto_region 1 with fail
      rw [← hW]
      clear hW
      go_wp2
      go_ret
      exact ⟨by rfl, hbW⟩
    | true =>
      have e1' : (k != k') = false := by simp [bne, e1]
      cases e2 : (s.toList == s'.toList) with
      | false =>
        have e2' : (s.toList != s'.toList) = true := by simp only [bne, e2]; rfl
        clear hKW hKW'
        go_enter Try.func10, Try.ntmps10
        go_upto_region 1 with fail
        rw [← hW]
        clear hW
        go_wp2
        go_ret
        exact ⟨by rfl, hbW⟩
      | true =>
        have e2' : (s.toList != s'.toList) = false := by simp only [bne, e2]; rfl
        by_cases hl : ks.length = us.length
        · have e3 : ((ks.length : Int) != (us.length : Int)) = false := by simp; omega
          obtain ⟨EK, hEK⟩ : ∃ EK, EK = eqK ks us := ⟨_, rfl⟩
          rw [← hEK]
          replace hEK : Hid (eqK (ks.drop 0) (us.drop 0) = EK) := hEK.symm
          have hlh : Hid (ks.length = us.length) := hl
          clear hl
          go_enter Try.func10, Try.ntmps10
          go_upto_region 1 with fail
          rw [← hW]
          clear hW
          obtain ⟨b2, hb2⟩ : ∃ b2, b2 = w.heap.size := ⟨_, rfl⟩
          obtain ⟨b3, hb3⟩ : ∃ b3, b3 = w.heap.size + 1 := ⟨_, rfl⟩
          rw [← hb3] at h0 h2 h3 ⊢
          rw [← hb2] at g0 g2 g3 ⊢
          clear hb2 hb3
          go_wp2
          go_loopw [5] (fun iv wr => ∃ j : Nat, j ≤ ks.length ∧ iv = .int .i64 j ∧ Hid (eqK (ks.drop j) (us.drop j) = EK) ∧ Below W.heap.size W wr) (fun iv _ => ks.length - (intOf iv).toNat)
          case atStart => exact ⟨0, Nat.zero_le _, rfl, hEK, Below.refl _ _⟩
          case round =>
            obtain ⟨j, hj, rfl, hI, hbel⟩ := hrel
            replace g3 := keep_cell hbel g3
            replace h3 := keep_cell hbel h3
            by_cases hlt : j < ks.length
            · have hI' := hI.out
              rw [eqK_drop hlh.out hlt] at hI'
              have hlt' : j < us.length := by have := hlh.out; omega
              have d1 : decide ((j : Int) < (ks.length : Int)) = true := decide_eq_true (by omega)
              have i1 : (j : Int) < (ks.length : Int) := by omega
              have i2 : (j : Int) < (us.length : Int) := by omega
              obtain ⟨ad, q1, q2, q3, q4, q5, q6, hx, hP, c0, c1, c2, c3, hT⟩ := KidsAt.at (KidsAt.next hKW.out hbel) j hlt
              obtain ⟨ad', r1, r2, r3, r4, r5, r6, hx', hP', e0, e4, e5, e6, hU⟩ := KidsAt.at (KidsAt.next hKW'.out hbel) j hlt'
              rw [Nat.zero_add] at c0 c1 c2 c3 e0 e4 e5 e6
              subst hx hx'
              have hD0 : Below wr.heap.size wr wr.drew := (Below.refl _ _).drew
              have hsz' : (ks[j]'hlt).size ≤ n := by
                have := size_kid hlt
                unfold Tr.size at hsz
                omega
              have kE : Hid _ := ih (ks[j]'hlt) (us[j]'hlt') hsz' wr.drew P _ _ (hT.next hD0) (hU.next hD0)
              generalize eqT (ks[j]'hlt) (us[j]'hlt') = EQ at *
              clear hT hU
              go_upto_region 6 with fail
              go_cut [45] from 27 to 45 (fun t wx => t = .bool (!EQ) ∧ Below W.heap.size W wx)
              case first =>
                go_region_with (go_at_call 10; refine Calls.mono kE.out ?_; rintro e w4 ⟨rfl, b4⟩; replace b4 := bthen hD0 b4)
                all_goals
                  have hfin : Hid _ := bthen hbel b4
                  go_wp2_with fail
                  go_meet
                  case rel => exact ⟨rfl, hfin.out⟩
              case rest =>
                obtain ⟨rfl, hbx⟩ := hcut
                cases EQ with
                | false =>
                  have hE : Hid (EK = false) := by rw [← hI']; rfl
                  clear hI' hI
                  go_wp2
                  go_ret
                  exact ⟨by rw [hE.out]; rfl, bthen hbW hbx⟩
                | true =>
                  have hI2 : Hid (eqK (ks.drop (j + 1)) (us.drop (j + 1)) = EK) := by show _ = _; rw [← hI']; rfl
                  clear hI' hI
                  go_wp2
                  go_roundw
                  case rel => exact ⟨j + 1, by omega, by go_num, hI2, hbx⟩
                  case measure => simp [intOf]; omega
            · obtain rfl : j = ks.length := by omega
              have d1 : decide ((ks.length : Int) < (ks.length : Int)) = false := decide_eq_false (by omega)
              have hE : Hid (EK = true) := by
                show EK = true
                rw [← hI.out, List.drop_length, hlh.out, List.drop_length]; rfl
              clear hI
              go_wp2
              go_ret
              exact ⟨by rw [hE.out]; rfl, bthen hbW hbel⟩
        · have e3 : ((ks.length : Int) != (us.length : Int)) = true := by simp; omega
          rw [eqK_len (by omega)]
          clear hKW hKW'
          go_enter Try.func10, Try.ntmps10
          go_upto_region 1 with fail
          rw [← hW]
          clear hW
          go_wp2
          go_ret
          exact ⟨by rfl, hbW⟩
end Go.Proofs.Ytbfklindcmmncaa
