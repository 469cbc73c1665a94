/- Place. -/
import Derived.Test.YtkngjljcjgagbaaChecked
import Derived.Test.YtkngjljcjgagbaaBase
import Derived.WalkKit
import Derived.WalkSpells
import Derived.WalkLawsBesides
import Derived.Outline
import Derived.Deep.QuietTactic
import Derived.BigQuiet
import Derived.OpenShut
import Derived.Lib.BitFns
import Derived.Deep.AppendLies
import Derived.Deep.DrawnRows
import Derived.Test.YtkngjljcjgagbaaStp
namespace Go.Proofs.Ytkngjljcjgagbaa
open Go.RowKit
attribute [local go_sem ↓] Go.wp_at_zero Go.wp_at_succ
/-- Line and column behind one more byte. -/
def lcStep (p : Int × Int) (b : Int) : Int × Int := if b = 10 then (p.1 + 1, 1) else (p.1, p.2 + 1)
def lc (zs : List Int) : Int × Int := zs.foldl lcStep (1, 1)
theorem lc_succ (zs : List Int) (k : Nat) (h : k < zs.length) : lc (zs.take (k + 1)) = lcStep (lc (zs.take k)) (zs[k]?.getD 0) := by
  rw [List.take_add_one]
  simp only [lc, List.foldl_append, List.getElem?_eq_getElem h]
  rfl
theorem lc_rng (zs : List Int) : 1 ≤ (lc zs).1 ∧ (lc zs).1 ≤ zs.length + 1 ∧ 1 ≤ (lc zs).2 ∧ (lc zs).2 ≤ zs.length + 1 := by
  have h : ∀ (zs : List Int) (p : Int × Int) (n : Nat), 1 ≤ p.1 → p.1 ≤ n + 1 → 1 ≤ p.2 → p.2 ≤ n + 1 → 1 ≤ (zs.foldl lcStep p).1 ∧ (zs.foldl lcStep p).1 ≤ zs.length + n + 1 ∧ 1 ≤ (zs.foldl lcStep p).2 ∧ (zs.foldl lcStep p).2 ≤ zs.length + n + 1 := by
    intro zs
    induction zs with
    | nil => intro p n h1 h2 h3 h4; simp; omega
    | cons z zs ih =>
      intro p n h1 h2 h3 h4
      have := ih (lcStep p z) (n + 1) (by unfold lcStep; split <;> simp <;> omega) (by unfold lcStep; split <;> simp <;> omega) (by unfold lcStep; split <;> simp <;> omega) (by unfold lcStep; split <;> simp <;> omega)
      simp at this ⊢
      omega
  have := h zs (1, 1) 0 (by decide) (by decide) (by decide) (by decide)
  simpa [lc] using this
/-- The place, brought into the text. -/
def clamp (p : Int) (n : Nat) : Nat := (max 0 (min p n)).toNat
theorem clamp_le (p : Int) (n : Nat) : clamp p n ≤ n := by unfold clamp; omega
theorem lcStep_nl (p : Int × Int) (b : Int) (h : b = 10) : lcStep p b = (p.1 + 1, 1) := by simp [lcStep, h]
theorem lcStep_no (p : Int × Int) (b : Int) (h : ¬ b = 10) : lcStep p b = (p.1, p.2 + 1) := by simp [lcStep, h]
theorem clamp_cases (p : Int) (m : Nat) : (p ≤ 0 ∧ clamp p m = 0) ∨ (0 < p ∧ m = 0 ∧ clamp p m = 0) ∨ ((m : Int) < p ∧ 0 < m ∧ clamp p m = m) ∨ (p = (clamp p m : Int) ∧ 0 < clamp p m ∧ clamp p m ≤ m) := by
  unfold clamp
  omega
set_option maxRecDepth 20000 in
set_option maxHeartbeats 2000000 in
theorem Place_any (a : Option Addr) (cap : Nat) (zs : List Int) (p : Int) (w : World) (h : Row w .u8 256 a cap zs) (hlen : zs.length ≤ 9223372036854770000) :
    Calls Try.prog 9 #[.slice a zs.length cap, .int .i64 p] w fun e w' => e = .returned (.tuple #[.int .i64 (lc (zs.take (clamp p zs.length))).1, .int .i64 (lc (zs.take (clamp p zs.length))).2]) ∧ w' = w := by
  have hle := h.le
  have hmax := h.max
  have hmax : zs.length ≤ 9223372036854770000 := hlen
  have hc := clamp_le p zs.length
  have hcs := clamp_cases p zs.length
  generalize clamp p zs.length = n at *
  rcases hcs with ⟨h1, rfl⟩ | ⟨h1, h2, rfl⟩ | ⟨h1, h2, rfl⟩ | ⟨rfl, h1, h2⟩
  · go_enter Try.func9, Try.ntmps9
    go_wp2
    refine wp_loop_rounds 1 ?_
    rw [rounds_succ]
    go_wp2
    exact bodyPost_ret (v := .tuple #[.int .i64 (lc (zs.take 0)).1, .int .i64 (lc (zs.take 0)).2]) (by simp [results, Try.results9, go_sem, lc]) rfl ⟨rfl, rfl⟩
  · go_enter Try.func9, Try.ntmps9
    go_wp2
    refine wp_loop_rounds 1 ?_
    rw [rounds_succ]
    go_wp2
    exact bodyPost_ret (v := .tuple #[.int .i64 (lc (zs.take 0)).1, .int .i64 (lc (zs.take 0)).2]) (by simp [results, Try.results9, go_sem, lc]) rfl ⟨rfl, rfl⟩
  · go_enter Try.func9, Try.ntmps9
    go_wp2
    go_loop [6, 7, 9, 19] (fun l c _ i => ∃ k : Nat, k ≤ zs.length ∧ i = .int .i64 k ∧ l = .int .i64 (lc (zs.take k)).1 ∧ c = .int .i64 (lc (zs.take k)).2) (fun _ _ _ i => zs.length - (intOf i).toNat)
    case atStart => exact ⟨0, Nat.zero_le _, rfl, rfl, rfl⟩
    case round =>
      obtain ⟨k, hk, rfl, rfl, rfl⟩ := hrel
      by_cases hlt : k < zs.length
      · have hlz : k < zs.length := by omega
        obtain ⟨x, rfl⟩ : ∃ x, a = some x := by
          cases a with
          | none => have := h.nil_of; rw [this.2] at hlz; simp at hlz
          | some x => exact ⟨x, rfl⟩
        have hce := h.cell x rfl k hlz
        have hst := lc_succ zs k hlz
        have hr := lc_rng (zs.take k)
        rw [List.length_take] at hr
        have hr1 : (lc (zs.take k)).1 ≤ 9223372036854775000 := by omega
        have hr2 : (lc (zs.take k)).2 ≤ 9223372036854775000 := by omega
        have hr3 := hr.1
        have hr4 := hr.2.2.1
        clear hr
        generalize zs[k]?.getD 0 = b at *
        by_cases hb : b = 10
        · rw [lcStep_nl _ _ hb] at hst
          subst hb
          replace hst : Hid _ := hst
          generalize lc (zs.take k) = q at *
          go_wp2
          go_round
          case rel => exact ⟨k + 1, by omega, by go_num, by rw [hst.out] <;> go_num, by rw [hst.out] <;> go_num⟩
          case measure => simp [intOf]; omega
        · rw [lcStep_no _ _ hb] at hst
          replace hst : Hid _ := hst
          generalize lc (zs.take k) = q at *
          go_wp2
          go_round
          case rel => exact ⟨k + 1, by omega, by go_num, by rw [hst.out] <;> go_num, by rw [hst.out] <;> go_num⟩
          case measure => simp [intOf]; omega
      · obtain rfl : k = zs.length := by omega
        go_wp2
        exact bodyPost_ret (v := .tuple #[.int .i64 (lc zs).1, .int .i64 (lc zs).2]) (by simp [results, Try.results9, go_sem]) rfl ⟨rfl, rfl⟩
  · go_enter Try.func9, Try.ntmps9
    go_wp2
    go_loop [6, 7, 9, 19] (fun l c _ i => ∃ k : Nat, k ≤ n ∧ i = .int .i64 k ∧ l = .int .i64 (lc (zs.take k)).1 ∧ c = .int .i64 (lc (zs.take k)).2) (fun _ _ _ i => n - (intOf i).toNat)
    case atStart => exact ⟨0, Nat.zero_le _, rfl, rfl, rfl⟩
    case round =>
      obtain ⟨k, hk, rfl, rfl, rfl⟩ := hrel
      by_cases hlt : k < n
      · have hlz : k < zs.length := by omega
        obtain ⟨x, rfl⟩ : ∃ x, a = some x := by
          cases a with
          | none => have := h.nil_of; rw [this.2] at hlz; simp at hlz
          | some x => exact ⟨x, rfl⟩
        have hce := h.cell x rfl k hlz
        have hst := lc_succ zs k hlz
        have hr := lc_rng (zs.take k)
        rw [List.length_take] at hr
        have hr1 : (lc (zs.take k)).1 ≤ 9223372036854775000 := by omega
        have hr2 : (lc (zs.take k)).2 ≤ 9223372036854775000 := by omega
        have hr3 := hr.1
        have hr4 := hr.2.2.1
        clear hr
        generalize zs[k]?.getD 0 = b at *
        by_cases hb : b = 10
        · rw [lcStep_nl _ _ hb] at hst
          subst hb
          replace hst : Hid _ := hst
          generalize lc (zs.take k) = q at *
          go_wp2
          go_round
          case rel => exact ⟨k + 1, by omega, by go_num, by rw [hst.out] <;> go_num, by rw [hst.out] <;> go_num⟩
          case measure => simp [intOf]; omega
        · rw [lcStep_no _ _ hb] at hst
          replace hst : Hid _ := hst
          generalize lc (zs.take k) = q at *
          go_wp2
          go_round
          case rel => exact ⟨k + 1, by omega, by go_num, by rw [hst.out] <;> go_num, by rw [hst.out] <;> go_num⟩
          case measure => simp [intOf]; omega
      · obtain rfl : k = n := by omega
        go_wp2
        exact bodyPost_ret (v := .tuple #[.int .i64 (lc (zs.take k)).1, .int .i64 (lc (zs.take k)).2]) (by simp [results, Try.results9, go_sem]) rfl ⟨rfl, rfl⟩
end Go.Proofs.Ytkngjljcjgagbaa
