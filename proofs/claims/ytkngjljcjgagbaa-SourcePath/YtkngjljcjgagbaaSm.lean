/- SourcePath and SourcePlace. -/
import Derived.Test.YtkngjljcjgagbaaSk
namespace Go.Proofs.Ytkngjljcjgagbaa
open Go.Shelf Go.RowKit Go.Lib Go.Sort
attribute [local go_sem ↓] Go.wp_at_zero Go.wp_at_succ
theorem same_b {p : Prop} {b c : Bool} (h : b = true ↔ p) (k : c = true ↔ p) : b = c := by
  cases b <;> cases c <;> simp_all
set_option maxRecDepth 20000 in
set_option maxHeartbeats 4000000 in
theorem law_path (s : ByteArray) (w : World) : Calls Try.prog 6 #[.string s] w fun e w' => e = .returned (.bool true) ∧ Below w.heap.size w w' := by
  have kB := begun_any w
  by_cases hl : 120 < s.size
  · go_enter Try.func6, Try.ntmps6
    go_wp2_with (first
      | (go_at_call 7; refine kB.mono ?_; rintro e w1 ⟨rfl, hB1⟩)
      | (go_at_call 12; refine (path12_any _ _).mono ?_; rintro e w2 ⟨b2, rfl, hb2, rfl⟩)
      | (go_at_call 13; refine (path13_any _ _).mono ?_; rintro e w3 ⟨b3, rfl, hb3, rfl⟩))
    go_ret
    have e := same_b hb2 hb3
    subst e
    refine ⟨?_, hB1⟩
    simp
  · go_enter Try.func6, Try.ntmps6
    go_wp2_with (first
      | (go_at_call 7; refine kB.mono ?_; rintro e w1 ⟨rfl, hB1⟩)
      | (go_at_call 12; refine (path12_any _ _).mono ?_; rintro e w2 ⟨b2, rfl, hb2, rfl⟩)
      | (go_at_call 13; refine (path13_any _ _).mono ?_; rintro e w3 ⟨b3, rfl, hb3, rfl⟩))
    go_ret
    have e := same_b hb2 hb3
    subst e
    refine ⟨?_, hB1⟩
    simp
set_option maxRecDepth 20000 in
set_option maxHeartbeats 4000000 in
theorem law_place (a : Option Addr) (cap : Nat) (zs : List Int) (p : Int) (w : World) (h : Row w .u8 256 a cap zs) : Calls Try.prog 4 #[.slice a zs.length cap, .int .i64 p] w fun e w' => e = .returned (.bool true) ∧ Below w.heap.size w w' := by
  have kB := begun_any w
  have hle := h.le
  by_cases hl : 500 < zs.length
  · obtain ⟨ys, hys⟩ : ∃ ys, ys = zs.take 500 := ⟨_, rfl⟩
    have hN : ys.length = 500 := by rw [hys, List.length_take]; omega
    have hy : Row w .u8 256 a cap ys := by rw [hys]; exact h.take 500 (by omega)
    clear hys h
    have hcs : clamp p ys.length ≤ ys.length := clamp_le p ys.length
    have hck : ∀ k : Nat, k < ys.length → (k : Int) < p → k + 1 ≤ clamp p ys.length := by intro k h1 h2; unfold clamp; omega
    have hce : ∀ k : Nat, k ≤ clamp p ys.length → (ys.length ≤ k ∨ p ≤ (k : Int)) → k = clamp p ys.length ∨ (clamp p ys.length = 0 ∧ k = 0) := by intro k h1 h2; unfold clamp at h1 ⊢; omega
    have kP := fun w1 (hB1 : Below w.heap.size w w1) => Place_any a cap ys p w1 (hy.next hB1) (by omega)
    rw [hN] at hcs hck hce kP
    replace hck : Hid (∀ k : Nat, k < 500 → (k : Int) < p → k + 1 ≤ clamp p 500) := hck
    replace hce : Hid (∀ k : Nat, k ≤ clamp p 500 → (500 ≤ k ∨ p ≤ (k : Int)) → k = clamp p 500 ∨ (clamp p 500 = 0 ∧ k = 0)) := hce
    generalize hcl : clamp p 500 = m at *
    clear hcl
    go_enter Try.func4, Try.ntmps4
    go_wp2_with (go_at_call 7; refine kB.mono ?_; rintro e w1 ⟨rfl, hB1⟩)
    have kQ := kP w1 hB1
    have hyr := hy.next hB1
    clear kP
    replace kQ := (show Hid _ from kQ)
    go_loop [6, 7, 8] (fun l c i => ∃ k : Nat, k ≤ m ∧ i = .int .i64 k ∧ l = .int .i64 (lc (ys.take k)).1 ∧ c = .int .i64 (lc (ys.take k)).2) (fun _ _ i => m - (intOf i).toNat)
    case atStart => exact ⟨0, Nat.zero_le _, rfl, rfl, rfl⟩
    case round =>
      obtain ⟨k, hk, rfl, rfl, rfl⟩ := hrel
      by_cases hlt : k < 500
      · by_cases hlp : (k : Int) < p
        · have hk1 := hck.out k hlt hlp
          have hlz : k < ys.length := by omega
          obtain ⟨x, rfl⟩ : ∃ x, a = some x := by
            cases a with
            | none => have := hyr.nil_of; rw [this.2] at hlz; simp at hlz
            | some x => exact ⟨x, rfl⟩
          have hce := hyr.cell x rfl k hlz
          have hst := lc_succ ys k hlz
          have hr := lc_rng (ys.take k)
          rw [List.length_take] at hr
          have hr1 : (lc (ys.take k)).1 ≤ 1000 := by omega
          have hr2 : (lc (ys.take k)).2 ≤ 1000 := by omega
          have hr3 := hr.1
          have hr4 := hr.2.2.1
          clear hr
          generalize ys[k]?.getD 0 = b at *
          by_cases hb : b = 10
          · rw [lcStep_nl _ _ hb] at hst
            subst hb
            replace hst : Hid _ := hst
            generalize lc (ys.take k) = q at *
            go_wp2
            go_round
            case rel =>
              first
                | exact ⟨k + 1, hk1, by go_num, by rw [hst.out] <;> go_num, by rw [hst.out] <;> go_num⟩
                | (refine ⟨_, _, _, ⟨k + 1, hk1, rfl, rfl, rfl⟩, ?_, ?_, ?_⟩
                   · rw [hst.out] <;> go_num
                   · rw [hst.out] <;> go_num
                   · go_num)
            case measure => simp [intOf]; omega
          · rw [lcStep_no _ _ hb] at hst
            replace hst : Hid _ := hst
            generalize lc (ys.take k) = q at *
            go_wp2
            go_round
            case rel =>
              first
                | exact ⟨k + 1, hk1, by go_num, by rw [hst.out] <;> go_num, by rw [hst.out] <;> go_num⟩
                | (refine ⟨_, _, _, ⟨k + 1, hk1, rfl, rfl, rfl⟩, ?_, ?_, ?_⟩
                   · rw [hst.out] <;> go_num
                   · rw [hst.out] <;> go_num
                   · go_num)
            case measure => simp [intOf]; omega
        · have hkm : k = m := by have := hce.out k hk (.inr (by omega)); omega
          subst hkm
          go_wp2_with (go_at_call 9; refine Calls.mono kQ.out ?_; rintro e w2 ⟨rfl, rfl⟩)
          go_ret
          exact ⟨by simp, hB1⟩
      · have hkm : k = m := by have := hce.out k hk (.inl (by omega)); omega
        subst hkm
        go_wp2_with (go_at_call 9; refine Calls.mono kQ.out ?_; rintro e w2 ⟨rfl, rfl⟩)
        go_ret
        exact ⟨by simp, hB1⟩
  · obtain ⟨n, hn⟩ : ∃ n, n = zs.length := ⟨_, rfl⟩
    rw [← hn] at hl hle ⊢
    obtain ⟨ys, hys⟩ : ∃ ys, ys = zs := ⟨_, rfl⟩
    have hN : ys.length = n := by rw [hys, hn]
    have hy : Row w .u8 256 a cap ys := by rw [hys]; exact h
    clear hys h hn
    have hcs : clamp p ys.length ≤ ys.length := clamp_le p ys.length
    have hck : ∀ k : Nat, k < ys.length → (k : Int) < p → k + 1 ≤ clamp p ys.length := by intro k h1 h2; unfold clamp; omega
    have hce : ∀ k : Nat, k ≤ clamp p ys.length → (ys.length ≤ k ∨ p ≤ (k : Int)) → k = clamp p ys.length ∨ (clamp p ys.length = 0 ∧ k = 0) := by intro k h1 h2; unfold clamp at h1 ⊢; omega
    have kP := fun w1 (hB1 : Below w.heap.size w w1) => Place_any a cap ys p w1 (hy.next hB1) (by omega)
    rw [hN] at hcs hck hce kP
    replace hck : Hid (∀ k : Nat, k < n → (k : Int) < p → k + 1 ≤ clamp p n) := hck
    replace hce : Hid (∀ k : Nat, k ≤ clamp p n → (n ≤ k ∨ p ≤ (k : Int)) → k = clamp p n ∨ (clamp p n = 0 ∧ k = 0)) := hce
    generalize hcl : clamp p n = m at *
    clear hcl
    go_enter Try.func4, Try.ntmps4
    go_wp2_with (go_at_call 7; refine kB.mono ?_; rintro e w1 ⟨rfl, hB1⟩)
    have kQ := kP w1 hB1
    have hyr := hy.next hB1
    clear kP
    replace kQ := (show Hid _ from kQ)
    go_loop [6, 7, 8] (fun l c i => ∃ k : Nat, k ≤ m ∧ i = .int .i64 k ∧ l = .int .i64 (lc (ys.take k)).1 ∧ c = .int .i64 (lc (ys.take k)).2) (fun _ _ i => m - (intOf i).toNat)
    case atStart => exact ⟨0, Nat.zero_le _, rfl, rfl, rfl⟩
    case round =>
      obtain ⟨k, hk, rfl, rfl, rfl⟩ := hrel
      by_cases hlt : k < n
      · by_cases hlp : (k : Int) < p
        · have hk1 := hck.out k hlt hlp
          have hlz : k < ys.length := by omega
          obtain ⟨x, rfl⟩ : ∃ x, a = some x := by
            cases a with
            | none => have := hyr.nil_of; rw [this.2] at hlz; simp at hlz
            | some x => exact ⟨x, rfl⟩
          have hce := hyr.cell x rfl k hlz
          have hst := lc_succ ys k hlz
          have hr := lc_rng (ys.take k)
          rw [List.length_take] at hr
          have hr1 : (lc (ys.take k)).1 ≤ 1000 := by omega
          have hr2 : (lc (ys.take k)).2 ≤ 1000 := by omega
          have hr3 := hr.1
          have hr4 := hr.2.2.1
          clear hr
          generalize ys[k]?.getD 0 = b at *
          by_cases hb : b = 10
          · rw [lcStep_nl _ _ hb] at hst
            subst hb
            replace hst : Hid _ := hst
            generalize lc (ys.take k) = q at *
            go_wp2
            go_round
            case rel =>
              first
                | exact ⟨k + 1, hk1, by go_num, by rw [hst.out] <;> go_num, by rw [hst.out] <;> go_num⟩
                | (refine ⟨_, _, _, ⟨k + 1, hk1, rfl, rfl, rfl⟩, ?_, ?_, ?_⟩
                   · rw [hst.out] <;> go_num
                   · rw [hst.out] <;> go_num
                   · go_num)
            case measure => simp [intOf]; omega
          · rw [lcStep_no _ _ hb] at hst
            replace hst : Hid _ := hst
            generalize lc (ys.take k) = q at *
            go_wp2
            go_round
            case rel =>
              first
                | exact ⟨k + 1, hk1, by go_num, by rw [hst.out] <;> go_num, by rw [hst.out] <;> go_num⟩
                | (refine ⟨_, _, _, ⟨k + 1, hk1, rfl, rfl, rfl⟩, ?_, ?_, ?_⟩
                   · rw [hst.out] <;> go_num
                   · rw [hst.out] <;> go_num
                   · go_num)
            case measure => simp [intOf]; omega
        · have hkm : k = m := by have := hce.out k hk (.inr (by omega)); omega
          subst hkm
          go_wp2_with (go_at_call 9; refine Calls.mono kQ.out ?_; rintro e w2 ⟨rfl, rfl⟩)
          go_ret
          exact ⟨by simp, hB1⟩
      · have hkm : k = m := by have := hce.out k hk (.inl (by omega)); omega
        subst hkm
        go_wp2_with (go_at_call 9; refine Calls.mono kQ.out ?_; rintro e w2 ⟨rfl, rfl⟩)
        go_ret
        exact ⟨by simp, hB1⟩
end Go.Proofs.Ytkngjljcjgagbaa
