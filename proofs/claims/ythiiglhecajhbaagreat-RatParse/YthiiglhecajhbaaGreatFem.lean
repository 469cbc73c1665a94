/- Reading one literal: its texts. -/
import Derived.Test.YthiiglhecajhbaaGreatFxm
import Derived.Shelf.Strings.IndexAny
import Derived.Shelf.Strings.Search2
import Derived.Shelf.Small.Wraps
import Derived.Test.YthiiglhecajhbaaGreatFly
import Derived.BigQuiet
namespace Go.Proofs.YthiiglhecajhbaaGreat
open Go.RowKit Go.Shelf Go.Lib
attribute [local go_sem ↓] Go.wp_at_zero Go.wp_at_succ
theorem below_drewN {B : Nat} {a b : World} (h : Below B a b) (n : Nat) : Below B a (b.drewN n) := ⟨h.os, h.tape, h.output, h.size, h.block⟩
set_option maxRecDepth 20000 in
set_option maxHeartbeats 2000000 in
theorem cutBase_lit (w : World) : Calls Tryz.prog 58 #[.string ⟨#[48, 120, 49, 46, 56, 112, 45, 49]⟩] w fun e w' => e = .returned (.tuple #[.int .i64 16, .string ⟨#[49, 46, 56, 112, 45, 49]⟩]) ∧ Below w.heap.size w w' := by
  have e1 : (⟨#[48, 120, 49, 46, 56, 112, 45, 49]⟩ : ByteArray).extract 2 8 = ⟨#[49, 46, 56, 112, 45, 49]⟩ := by decide
  go_enter Tryz.func58, Tryz.ntmps58
  go_wp2_with fail
  go_quiet (fail)
  go_wp2
  exact bodyPost_ret (v := .tuple #[.int .i64 16, .string ⟨#[49, 46, 56, 112, 45, 49]⟩]) (by simp [results, Tryz.results58, go_sem]) rfl ⟨rfl, below_drewN (Below.refl _ _) _⟩
theorem indexAny_lit (w : World) : Calls Tryz.prog 93 #[.string ⟨#[49, 46, 56, 112, 45, 49]⟩, .string ⟨#[112, 80]⟩] w fun e w' => e = .returned (.int .i64 3) ∧ Below w.heap.size w w' := by
  have k := Any.strings_IndexAny_short Tryz.indexAny ⟨#[49, 46, 56, 112, 45, 49]⟩ ⟨#[112, 80]⟩ w (by decide) (by decide) (fun j b hb => by
    match j, hb with
    | 0, hb => simp at hb; subst hb; decide
    | 1, hb => simp at hb; subst hb; decide
    | 2, hb => simp at hb; subst hb; decide
    | 3, hb => simp at hb; subst hb; decide
    | 4, hb => simp at hb; subst hb; decide
    | 5, hb => simp at hb; subst hb; decide)
  change Calls Tryz.prog 93 _ _ _ at k
  refine k.mono fun e w' ⟨he, pos, hw⟩ => ⟨?_, ?_⟩
  · have e1 : Lib.indexAny (⟨#[49, 46, 56, 112, 45, 49]⟩ : ByteArray).data.toList (⟨#[112, 80]⟩ : ByteArray).data.toList = 3 := by decide
    rw [he, e1]
  · rw [hw]
    exact (Below.refl _ _).alloc (Nat.le_refl _) _
theorem index_lit (w : World) : Calls Tryz.prog 118 #[.string ⟨#[49, 46, 56]⟩, .string ⟨#[46]⟩] w fun e w' => e = .returned (.int .i64 1) ∧ w' = w := by
  have k := Any.stringslite_Index_one Tryz.indexLite ⟨#[49, 46, 56]⟩ 46 w
  change Calls Tryz.prog 118 _ _ _ at k
  have e1 : Lib.indexByte (⟨#[49, 46, 56]⟩ : ByteArray).data.toList 46 = 1 := by decide
  rw [e1] at k
  exact k
theorem cutPrefix_lit (w : World) : Calls Tryz.prog 98 #[.string ⟨#[45, 49]⟩, .string ⟨#[45]⟩] w fun e w' => e = .returned (.tuple #[.string ⟨#[49]⟩, .bool true]) ∧ w' = w := by
  have k := Any.strings_CutPrefix Tryz.cutPrefix ⟨#[45, 49]⟩ ⟨#[45]⟩ w
  change Calls Tryz.prog 98 _ _ _ at k
  have e1 : Lib.trimPrefix (⟨#[45, 49]⟩ : ByteArray).data.toList (⟨#[45]⟩ : ByteArray).data.toList = [49] := by decide
  have e2 : Lib.hasPrefix (⟨#[45, 49]⟩ : ByteArray).data.toList (⟨#[45]⟩ : ByteArray).data.toList = true := by decide
  rw [e1, e2] at k
  exact k
set_option maxRecDepth 20000 in
set_option maxHeartbeats 2000000 in
theorem cutExponent_lit (w : World) : Calls Tryz.prog 59 #[.string ⟨#[49, 46, 56, 112, 45, 49]⟩, .int .i64 16] w fun e w' => e = .returned (.tuple #[.string ⟨#[49, 46, 56]⟩, .string ⟨#[45, 49]⟩, .bool true]) ∧ Below w.heap.size w w' := by
  have e1 : (⟨#[49, 46, 56, 112, 45, 49]⟩ : ByteArray).extract 0 3 = ⟨#[49, 46, 56]⟩ := by decide
  have e2 : (⟨#[49, 46, 56, 112, 45, 49]⟩ : ByteArray).extract 4 6 = ⟨#[45, 49]⟩ := by decide
  go_enter Tryz.func59, Tryz.ntmps59
  go_wp2_with (go_at_call 93; refine (indexAny_lit _).mono ?_; rintro e w1 ⟨rfl, hB⟩)
  go_quiet (fail)
  go_wp2
  exact bodyPost_ret (v := .tuple #[.string ⟨#[49, 46, 56]⟩, .string ⟨#[45, 49]⟩, .bool true]) (by simp [results, Tryz.results59, go_sem]) rfl ⟨rfl, below_drewN hB _⟩
set_option maxRecDepth 20000 in
set_option maxHeartbeats 2000000 in
theorem cut_lit (w : World) : Calls Tryz.prog 60 #[.string ⟨#[49, 46, 56]⟩, .string ⟨#[46]⟩] w fun e w' => e = .returned (.tuple #[.string ⟨#[49]⟩, .string ⟨#[56]⟩, .bool true]) ∧ Below w.heap.size w w' := by
  have e1 : (⟨#[49, 46, 56]⟩ : ByteArray).extract 0 1 = ⟨#[49]⟩ := by decide
  have e2 : (⟨#[49, 46, 56]⟩ : ByteArray).extract 2 3 = ⟨#[56]⟩ := by decide
  have k53 : ∀ w, Calls Tryz.prog 94 #[.string ⟨#[49, 46, 56]⟩, .string ⟨#[46]⟩] w fun e w' => e = .returned (.tuple #[.string ⟨#[49]⟩, .string ⟨#[56]⟩, .bool true]) ∧ Below w.heap.size w w' := by
    intro w
    go_enter Tryz.func94, Tryz.ntmps94
    go_wp2_with (go_at_call 118; refine (index_lit _).mono ?_; rintro e w1 ⟨rfl, rfl⟩)
    go_quiet (fail)
    go_wp2
    exact bodyPost_ret (v := .tuple #[.string ⟨#[49]⟩, .string ⟨#[56]⟩, .bool true]) (by simp [results, Tryz.results94, go_sem]) rfl ⟨rfl, below_drewN (Below.refl _ _) _⟩
  go_enter Tryz.func60, Tryz.ntmps60
  go_wp2_with (go_at_call 94; refine (k53 _).mono ?_; rintro e w1 ⟨rfl, hB⟩)
  exact bodyPost_ret (v := .tuple #[.string ⟨#[49]⟩, .string ⟨#[56]⟩, .bool true]) (by simp [results, Tryz.results60, go_sem]) rfl ⟨rfl, hB⟩
end Go.Proofs.YthiiglhecajhbaaGreat
namespace Go.Proofs.YthiiglhecajhbaaGreat
open Go.RowKit
attribute [local go_sem ↓] Go.wp_at_zero Go.wp_at_succ
theorem parse_one (w : World) : Calls Tryz.prog 63 #[.string ⟨#[49]⟩, .int .i64 10] w fun e w' => ∃ v, e = .returned (.tuple #[v, .bool true]) ∧ Out w' w.heap.size v 1 2 ∧ Below w.heap.size w w' := by
  have k := Parse_ok ⟨#[49]⟩ 10 w (by decide) (by decide) (by decide) (fun k h => by
    have h' : k < 1 := h
    match k, h' with
    | 0, _ => show digitI ((49 : UInt8).toNat : Int) < 10; decide)
  have e : hor 10 (digs ⟨#[49]⟩) = 1 := by decide
  rw [e] at k
  exact k
theorem parse_18 (w : World) : Calls Tryz.prog 63 #[.string ⟨#[49, 56]⟩, .int .i64 16] w fun e w' => ∃ v, e = .returned (.tuple #[v, .bool true]) ∧ Out w' w.heap.size v 24 3 ∧ Below w.heap.size w w' := by
  have k := Parse_ok ⟨#[49, 56]⟩ 16 w (by decide) (by decide) (by decide) (fun k h => by
    have h' : k < 2 := h
    match k, h' with
    | 0, _ => show digitI ((49 : UInt8).toNat : Int) < 16; decide
    | 1, _ => show digitI ((56 : UInt8).toNat : Int) < 16; decide)
  have e : hor 16 (digs ⟨#[49, 56]⟩) = 24 := by decide
  rw [e] at k
  exact k
set_option maxRecDepth 20000 in
set_option maxHeartbeats 2000000 in
theorem parseExponent_lit (w : World) : Calls Tryz.prog 64 #[.string ⟨#[45, 49]⟩, .bool true] w fun e w' => e = .returned (.tuple #[.int .i64 (-1), .bool true]) ∧ Below w.heap.size w w' := by
  have kP := fun w => parse_one w
  replace kP := (show Hid _ from kP)
  go_enter Tryz.func64, Tryz.ntmps64
  go_wp2_with (go_at_call 98; refine (cutPrefix_lit _).mono ?_; rintro e w' ⟨rfl, rfl⟩)
  refine Calls.mono (kP.out _) ?_
  rintro e w1 ⟨v, rfl, hO, hb1⟩
  clear kP
  obtain ⟨n1, a1, l1, d1, rfl⟩ := hO.form
  obtain ⟨W, hW, hbW, hlt, ⟨c0, c1⟩, f, hnI⟩ := box2 w1 n1 a1 l1 d1
  have hN := hO.num.next hbW
  have k6 := Int64_num hN
  rw [show pick64 1 = 1 from by decide, show fits64 1 = true from by decide] at k6
  replace k6 := (show Hid _ from k6)
  have hB := bthen hb1 hbW
  clear f
  go_wp2_with fail
  rw [← hW]
  clear hW
  refine Calls.mono k6.out ?_
  rintro e w2 ⟨rfl, hb2⟩
  go_wp2
  exact bodyPost_ret (v := .tuple #[.int .i64 (-1), .bool true]) (by simp [results, Tryz.results64, go_sem]) rfl ⟨rfl, bthen hB hb2⟩
end Go.Proofs.YthiiglhecajhbaaGreat
