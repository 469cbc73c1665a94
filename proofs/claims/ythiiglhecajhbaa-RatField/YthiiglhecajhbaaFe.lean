/- The exponent of the literal. -/
import Derived.Test.YthiiglhecajhbaaFz
namespace Go.Proofs.Ythiiglhecajhbaa
open Go.RowKit
attribute [local go_sem ↓] Go.wp_at_zero Go.wp_at_succ
theorem parse_one (w : World) : Calls Try.prog 35 #[.string ⟨#[49]⟩, .int .i64 10] w fun e w' => ∃ v, e = .returned (.tuple #[v, .bool true]) ∧ Out w' w.heap.size v 1 2 ∧ Below w.heap.size w w' := by
  have k := Parse_ok ⟨#[49]⟩ 10 w (by decide) (by decide) (by decide) (fun k h => by
    have h' : k < 1 := h
    match k, h' with
    | 0, _ => show digitI ((49 : UInt8).toNat : Int) < 10; decide)
  have e : hor 10 (digs ⟨#[49]⟩) = 1 := by decide
  rw [e] at k
  exact k
theorem parse_18 (w : World) : Calls Try.prog 35 #[.string ⟨#[49, 56]⟩, .int .i64 16] w fun e w' => ∃ v, e = .returned (.tuple #[v, .bool true]) ∧ Out w' w.heap.size v 24 3 ∧ Below w.heap.size w w' := by
  have k := Parse_ok ⟨#[49, 56]⟩ 16 w (by decide) (by decide) (by decide) (fun k h => by
    have h' : k < 2 := h
    match k, h' with
    | 0, _ => show digitI ((49 : UInt8).toNat : Int) < 16; decide
    | 1, _ => show digitI ((56 : UInt8).toNat : Int) < 16; decide)
  have e : hor 16 (digs ⟨#[49, 56]⟩) = 24 := by decide
  rw [e] at k
  exact k
set_option maxRecDepth 20000 in
set_option maxHeartbeats 2000000 in
theorem parseExponent_lit (w : World) : Calls Try.prog 36 #[.string ⟨#[45, 49]⟩, .bool true] w fun e w' => e = .returned (.tuple #[.int .i64 (-1), .bool true]) ∧ Below w.heap.size w w' := by
  have kP := fun w => parse_one w
  replace kP := (show Hid _ from kP)
  go_enter Try.func36, Try.ntmps36
  go_wp2_with (go_at_call 57; refine (cutPrefix_lit _).mono ?_; rintro e w' ⟨rfl, rfl⟩)
  refine Calls.mono (kP.out _) ?_
  rintro e w1 ⟨v, rfl, hO, hb1⟩
  clear kP
  obtain ⟨n1, a1, l1, d1, rfl⟩ := hO.form
  obtain ⟨W, hW, hbW, hlt, ⟨c0, c1⟩, f, hnI⟩ := box2 w1 n1 a1 l1 d1
  have hN := hO.num.next hbW
  have k6 := Int64_num hN
  rw [show pick64 1 = 1 from by decide, show fits64 1 = true from by decide] at k6
  replace k6 := (show Hid _ from k6)
  have hB := bthen hb1 hbW
  clear f
  go_wp2_with fail
  rw [← hW]
  clear hW
  refine Calls.mono k6.out ?_
  rintro e w2 ⟨rfl, hb2⟩
  go_wp2
  exact bodyPost_ret (v := .tuple #[.int .i64 (-1), .bool true]) (by simp [results, Try.results36, go_sem]) rfl ⟨rfl, bthen hB hb2⟩
end Go.Proofs.Ythiiglhecajhbaa
