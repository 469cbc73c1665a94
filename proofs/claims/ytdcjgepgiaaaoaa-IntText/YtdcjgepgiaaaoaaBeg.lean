/- The contract of begun: it answers true. -/
import Derived.Test.YtdcjgepgiaaaoaaOut
namespace Go.Proofs.Ytdcjgepgiaaaoaa
open Go.RowKit
attribute [local go_sem ↓] Go.wp_at_zero Go.wp_at_succ
theorem two_words {ls : List Int} (hw : Words 4294967296 ls) (hl : ls.length = 2) (p q : Int) (hp : 0 ≤ p ∧ p < 4294967296) (hq : 0 ≤ q ∧ q < 4294967296) (hv : val 4294967296 ls = p + 4294967296 * q) : ls = [p, q] := by
  match ls, hl, hw, hv with
  | [a, b], _, hw, hv =>
    have h1 := hw a (by simp)
    have h2 := hw b (by simp)
    simp [val] at hv
    have : a = p := by omega
    have : b = q := by omega
    subst_vars; rfl
theorem Bit_six {w : World} {u v : Value} {m n : Nat} (hu : Num w u (-2) m) (hv : Num w v 7 n) (hm : m ≤ 1000) (hn : n ≤ 1000) :
    Calls Try.prog 27 #[.string ⟨#[38]⟩, u, v] w fun e w' => ∃ t, e = .returned (.tuple #[t, .bool true]) ∧ Out w' w.heap.size t 6 (max m n + 1) ∧ Below w.heap.size w w' := by
  obtain ⟨na, x, ca, xs, rfl, ha, hx, hl⟩ := hu
  obtain ⟨nb, x', cb, ys, rfl, hb, hy, hl'⟩ := hv
  have hvx := val_nonneg (by decide) ha.words
  have hvy := val_nonneg (by decide) hb.words
  obtain ⟨rfl, h2⟩ : na = true ∧ val 4294967296 xs = 2 := by cases na <;> simp [num] at hx <;> first | omega | exact ⟨rfl, by omega⟩
  obtain ⟨rfl, h7⟩ : nb = false ∧ val 4294967296 ys = 7 := by cases nb <;> simp [num] at hy <;> first | omega | exact ⟨rfl, by omega⟩
  have tx : trimmed xs = [2] := nrm_unique (B := 4294967296) (by decide) ha.words.trimmed (Words.one (by decide)) (trimmed_nrm xs) ⟨fun _ => by decide, trivial⟩ (by rw [trimmed_val, h2]; rfl)
  have ty : trimmed ys = [7] := nrm_unique (B := 4294967296) (by decide) hb.words.trimmed (Words.one (by decide)) (trimmed_nrm ys) ⟨fun _ => by decide, trivial⟩ (by rw [trimmed_val, h7]; rfl)
  refine (Bitwise_and_ge true false x x' ca cb xs ys w ha hb (by omega) (by omega) (by rw [tx, ty]; simp)).mono ?_
  rintro e w' ⟨t, ls, rs, rfl, hlw, hrw, hll, hrl, hlv, hrv, ⟨neg, a, cap, ds, r1, r2, r3, r4, r5⟩, h⟩
  rw [tx] at hll hrl hlv hrv
  have e1 : ls = [4294967294, 4294967295] := two_words hlw hll _ _ (by decide) (by decide) (by rw [hlv, h2]; decide)
  have e2 : rs = [7, 0] := two_words hrw hrl _ _ (by decide) (by decide) (by rw [hrv, h7]; decide)
  have e3 : signed (zipB .and ls rs) = 6 := by rw [e1, e2]; decide
  exact ⟨t, rfl, ⟨neg, a, cap, ds, r1, r2, r3, by rw [r4, e3], by omega⟩, h⟩
def bigS : ByteArray := ⟨#[49, 50, 51, 52, 53, 54, 55, 56, 57, 48, 49, 50, 51, 52, 53, 54, 55, 56, 57, 48]⟩
def bigN : Int := 12345678901234567890
theorem bigS_size : bigS.size = 20 := by decide
theorem Parse_big (w : World) : Calls Try.prog 30 #[.string ⟨#[49, 50, 51, 52, 53, 54, 55, 56, 57, 48, 49, 50, 51, 52, 53, 54, 55, 56, 57, 48]⟩, .int .i64 10] w fun e w' => ∃ v, e = .returned (.tuple #[v, .bool true]) ∧ Out w' w.heap.size v bigN 21 ∧ Below w.heap.size w w' := by
  refine (Parse_ok bigS 10 w (by omega) (by decide) (by decide) ?_).mono ?_
  · decide
  · rintro e w' ⟨v, rfl, h1, h2⟩
    refine ⟨v, rfl, ?_, h2⟩
    have e : hor 10 (digs bigS) = bigN := by decide
    rw [← e]
    exact h1
def bigL : List Int := [0, 9, 8, 7, 6, 5, 4, 3, 2, 1, 0, 9, 8, 7, 6, 5, 4, 3, 2, 1]
theorem Text_big {w : World} {u : Value} {m : Nat} (hu : Num w u bigN m) (hm : m ≤ 1000) :
    Calls Try.prog 29 #[u] w fun e w' => e = .returned (.string ⟨#[49, 50, 51, 52, 53, 54, 55, 56, 57, 48, 49, 50, 51, 52, 53, 54, 55, 56, 57, 48]⟩) ∧ Below w.heap.size w w' := by
  have h := Text_pos hu hm (by decide) bigL (by unfold Words; decide) (by unfold bigL; simp [nrm]) (by decide)
  exact h
theorem Text_six {w : World} {u : Value} {m : Nat} (hu : Num w u 6 m) (hm : m ≤ 1000) :
    Calls Try.prog 29 #[u] w fun e w' => e = .returned (.string ⟨#[54]⟩) ∧ Below w.heap.size w w' :=
  Text_pos hu hm (by decide) [6] (by unfold Words; decide) (by simp [nrm]) (by decide)
end Go.Proofs.Ytdcjgepgiaaaoaa
