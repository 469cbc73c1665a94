/- scan: strconv.ParseUint to the base 16, readHex. -/
import Derived.Test.YtffggadmpdmbdaaGreatDoorTa
import Derived.Lib.AtoiErrMem
namespace Go.Proofs.YtffggadmpdmbdaaGreatDoor
open Go.RowKit
attribute [local go_sem ↓] Go.wp_at_zero Go.wp_at_succ
/-- What ParseUint answers: a number, or an error that is one. -/
def HexOut (e : Ending) : Option Nat → Prop
  | some v => e = .returned (.tuple #[.int .u64 v, .nilIface])
  | none => ∃ p, e = .returned (.tuple #[.int .u64 0, .iface 100 p])
set_option maxHeartbeats 4000000 in
set_option maxRecDepth 100000 in
theorem ParseUint_any (t : ByteArray) (hne : t.size ≠ 0) (h4 : t.size ≤ 4) (w : World) (hG : Glob w) : Calls Tryz.prog 65 #[.string t, .int .i64 16, .int .i64 16] w fun e w' => HexOut e (hexGo 0 t.toList) ∧ Below w.heap.size w w' := by
  have kp := parse16_any t hne h4 w
  have kb := Lib.bytesWorld_below w 5 t
  generalize Lib.bytesWorld w 5 t = W1 at *
  obtain ⟨⟨_, te, pe, hv⟩, _⟩ := hG.next kb
  cases hx : hexGo 0 t.toList with
  | some v =>
    rw [hx] at kp
    have kp' : Hid (Calls Tryz.prog 74 #[.string t, .int .i64 16, .int .i64 16] w fun e w' => e = .returned (.tuple #[.int .u64 v, .nilIface]) ∧ w' = W1) := kp
    clear kp hx hG hv
    go_enter Tryz.func65, Tryz.ntmps65
    go_wp2_with fail
    refine Calls.mono kp'.out ?_
    rintro e w2 ⟨rfl, rfl⟩
    go_wp2
    go_ret2
    exact ⟨rfl, kb⟩
  | none =>
    rw [hx] at kp
    have kp' : Hid (Calls Tryz.prog 74 #[.string t, .int .i64 16, .int .i64 16] w fun e w' => e = .returned (.tuple #[.int .u64 0, .iface 98 (.int .i64 2)]) ∧ w' = W1) := kp
    have ke : Hid _ := Tryz.strconv_toError_syntax ⟨#[80, 97, 114, 115, 101, 85, 105, 110, 116]⟩ t 16 16 _ W1 (by omega) hv (.inr ⟨te, pe, rfl⟩)
    clear kp hx hG hv
    go_enter Tryz.func65, Tryz.ntmps65
    go_wp2_with fail
    refine Calls.mono kp'.out ?_
    rintro e w2 ⟨rfl, rfl⟩
    go_wp2_with fail
    refine Calls.mono ke.out ?_
    rintro e w3 ⟨N, rfl, _, _, hb3⟩
    clear ke
    go_wp2
    go_ret2
    exact ⟨⟨_, rfl⟩, kb.trans (hb3.mono kb.size)⟩
/-- The number of an escape of n signs. -/
def hexAt (l : List UInt8) (n : Nat) : Option Nat := if l.length < n then none else hexGo 0 ((l.take n).drop 2)
set_option maxHeartbeats 4000000 in
set_option maxRecDepth 100000 in
theorem readHex_any (s : ByteArray) (n : Nat) (hn : n = 4 ∨ n = 6) (w : World) (hG : Glob w) (_hs : s.size < 4611686018427387904) : Calls Tryz.prog 57 #[.string s, .int .i64 n] w fun e w' => e = .returned (.tuple #[.int .u64 ((hexAt s.toList n).getD 0 : Nat), .bool (hexAt s.toList n).isSome]) ∧ Below w.heap.size w w' := by
  unfold hexAt
  rw [toList_len]
  by_cases hlt : s.size < n
  · rw [if_pos hlt]
    have d1 : decide ((s.size : Int) < n) = true := decide_eq_true (by omega)
    go_enter Tryz.func57, Tryz.ntmps57
    go_wp2
    go_ret2
    exact ⟨rfl, Below.refl _ _⟩
  · rw [if_neg hlt, ← toList_extract]
    have d1 : decide ((s.size : Int) < n) = false := decide_eq_false (by omega)
    have hsz : (s.extract 2 n).size = n - 2 := by rw [ByteArray.size_extract]; omega
    have kp : Hid _ := ParseUint_any (s.extract 2 n) (by omega) (by omega) w hG
    clear hsz hG
    generalize hexGo 0 (s.extract 2 n).toList = H at *
    go_enter Tryz.func57, Tryz.ntmps57
    go_wp2_with fail
    refine Calls.mono kp.out ?_
    rintro e w2 ⟨he, hb⟩
    clear kp
    cases H with
    | some v =>
      obtain rfl : e = .returned (.tuple #[.int .u64 v, .nilIface]) := he

      go_wp2_with fail
      go_region
      all_goals go_wp2
      all_goals go_ret2
      all_goals exact ⟨rfl, by first | exact hb | exact hb.drew⟩
    | none =>
      obtain ⟨p, rfl⟩ : ∃ p, e = .returned (.tuple #[.int .u64 0, .iface 100 p]) := he
      go_wp2_with fail
      go_region
      all_goals go_wp2
      all_goals go_ret2
      all_goals exact ⟨rfl, by first | exact hb | exact hb.drew⟩
end Go.Proofs.YtffggadmpdmbdaaGreatDoor
