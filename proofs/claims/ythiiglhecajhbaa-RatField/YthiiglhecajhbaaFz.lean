/- Reading one literal: its texts. -/
import Derived.Test.YthiiglhecajhbaaFx
import Derived.Shelf.Strings.IndexAny
import Derived.Shelf.Strings.Search2
import Derived.Shelf.Small.Wraps
import Derived.Test.YthiiglhecajhbaaFly
import Derived.BigQuiet
namespace Go.Proofs.Ythiiglhecajhbaa
open Go.RowKit Go.Shelf Go.Lib
attribute [local go_sem ↓] Go.wp_at_zero Go.wp_at_succ
theorem below_drewN {B : Nat} {a b : World} (h : Below B a b) (n : Nat) : Below B a (b.drewN n) := ⟨h.os, h.tape, h.output, h.size, h.block⟩
set_option maxRecDepth 20000 in
set_option maxHeartbeats 2000000 in
theorem cutBase_lit (w : World) : Calls Try.prog 30 #[.string ⟨#[48, 120, 49, 46, 56, 112, 45, 49]⟩] w fun e w' => e = .returned (.tuple #[.int .i64 16, .string ⟨#[49, 46, 56, 112, 45, 49]⟩]) ∧ Below w.heap.size w w' := by
  have e1 : (⟨#[48, 120, 49, 46, 56, 112, 45, 49]⟩ : ByteArray).extract 2 8 = ⟨#[49, 46, 56, 112, 45, 49]⟩ := by decide
  go_enter Try.func30, Try.ntmps30
  go_wp2_with fail
  go_quiet (fail)
  go_wp2
  exact bodyPost_ret (v := .tuple #[.int .i64 16, .string ⟨#[49, 46, 56, 112, 45, 49]⟩]) (by simp [results, Try.results30, go_sem]) rfl ⟨rfl, below_drewN (Below.refl _ _) _⟩
theorem indexAny_lit (w : World) : Calls Try.prog 52 #[.string ⟨#[49, 46, 56, 112, 45, 49]⟩, .string ⟨#[112, 80]⟩] w fun e w' => e = .returned (.int .i64 3) ∧ Below w.heap.size w w' := by
  have k := Any.strings_IndexAny_short Try.indexAny ⟨#[49, 46, 56, 112, 45, 49]⟩ ⟨#[112, 80]⟩ w (by decide) (by decide) (fun j b hb => by
    match j, hb with
    | 0, hb => simp at hb; subst hb; decide
    | 1, hb => simp at hb; subst hb; decide
    | 2, hb => simp at hb; subst hb; decide
    | 3, hb => simp at hb; subst hb; decide
    | 4, hb => simp at hb; subst hb; decide
    | 5, hb => simp at hb; subst hb; decide)
  change Calls Try.prog 52 _ _ _ at k
  refine k.mono fun e w' ⟨he, pos, hw⟩ => ⟨?_, ?_⟩
  · have e1 : Lib.indexAny (⟨#[49, 46, 56, 112, 45, 49]⟩ : ByteArray).data.toList (⟨#[112, 80]⟩ : ByteArray).data.toList = 3 := by decide
    rw [he, e1]
  · rw [hw]
    exact (Below.refl _ _).alloc (Nat.le_refl _) _
theorem index_lit (w : World) : Calls Try.prog 72 #[.string ⟨#[49, 46, 56]⟩, .string ⟨#[46]⟩] w fun e w' => e = .returned (.int .i64 1) ∧ w' = w := by
  have k := Any.stringslite_Index_one Try.indexLite ⟨#[49, 46, 56]⟩ 46 w
  change Calls Try.prog 72 _ _ _ at k
  have e1 : Lib.indexByte (⟨#[49, 46, 56]⟩ : ByteArray).data.toList 46 = 1 := by decide
  rw [e1] at k
  exact k
theorem cutPrefix_lit (w : World) : Calls Try.prog 57 #[.string ⟨#[45, 49]⟩, .string ⟨#[45]⟩] w fun e w' => e = .returned (.tuple #[.string ⟨#[49]⟩, .bool true]) ∧ w' = w := by
  have k := Any.strings_CutPrefix Try.cutPrefix ⟨#[45, 49]⟩ ⟨#[45]⟩ w
  change Calls Try.prog 57 _ _ _ at k
  have e1 : Lib.trimPrefix (⟨#[45, 49]⟩ : ByteArray).data.toList (⟨#[45]⟩ : ByteArray).data.toList = [49] := by decide
  have e2 : Lib.hasPrefix (⟨#[45, 49]⟩ : ByteArray).data.toList (⟨#[45]⟩ : ByteArray).data.toList = true := by decide
  rw [e1, e2] at k
  exact k
set_option maxRecDepth 20000 in
set_option maxHeartbeats 2000000 in
theorem cutExponent_lit (w : World) : Calls Try.prog 31 #[.string ⟨#[49, 46, 56, 112, 45, 49]⟩, .int .i64 16] w fun e w' => e = .returned (.tuple #[.string ⟨#[49, 46, 56]⟩, .string ⟨#[45, 49]⟩, .bool true]) ∧ Below w.heap.size w w' := by
  have e1 : (⟨#[49, 46, 56, 112, 45, 49]⟩ : ByteArray).extract 0 3 = ⟨#[49, 46, 56]⟩ := by decide
  have e2 : (⟨#[49, 46, 56, 112, 45, 49]⟩ : ByteArray).extract 4 6 = ⟨#[45, 49]⟩ := by decide
  go_enter Try.func31, Try.ntmps31
  go_wp2_with (go_at_call 52; refine (indexAny_lit _).mono ?_; rintro e w1 ⟨rfl, hB⟩)
  go_quiet (fail)
  go_wp2
  exact bodyPost_ret (v := .tuple #[.string ⟨#[49, 46, 56]⟩, .string ⟨#[45, 49]⟩, .bool true]) (by simp [results, Try.results31, go_sem]) rfl ⟨rfl, below_drewN hB _⟩
set_option maxRecDepth 20000 in
set_option maxHeartbeats 2000000 in
theorem cut_lit (w : World) : Calls Try.prog 32 #[.string ⟨#[49, 46, 56]⟩, .string ⟨#[46]⟩] w fun e w' => e = .returned (.tuple #[.string ⟨#[49]⟩, .string ⟨#[56]⟩, .bool true]) ∧ Below w.heap.size w w' := by
  have e1 : (⟨#[49, 46, 56]⟩ : ByteArray).extract 0 1 = ⟨#[49]⟩ := by decide
  have e2 : (⟨#[49, 46, 56]⟩ : ByteArray).extract 2 3 = ⟨#[56]⟩ := by decide
  have k53 : ∀ w, Calls Try.prog 53 #[.string ⟨#[49, 46, 56]⟩, .string ⟨#[46]⟩] w fun e w' => e = .returned (.tuple #[.string ⟨#[49]⟩, .string ⟨#[56]⟩, .bool true]) ∧ Below w.heap.size w w' := by
    intro w
    go_enter Try.func53, Try.ntmps53
    go_wp2_with (go_at_call 72; refine (index_lit _).mono ?_; rintro e w1 ⟨rfl, rfl⟩)
    go_quiet (fail)
    go_wp2
    exact bodyPost_ret (v := .tuple #[.string ⟨#[49]⟩, .string ⟨#[56]⟩, .bool true]) (by simp [results, Try.results53, go_sem]) rfl ⟨rfl, below_drewN (Below.refl _ _) _⟩
  go_enter Try.func32, Try.ntmps32
  go_wp2_with (go_at_call 53; refine (k53 _).mono ?_; rintro e w1 ⟨rfl, hB⟩)
  exact bodyPost_ret (v := .tuple #[.string ⟨#[49]⟩, .string ⟨#[56]⟩, .bool true]) (by simp [results, Try.results32, go_sem]) rfl ⟨rfl, hB⟩
end Go.Proofs.Ythiiglhecajhbaa
