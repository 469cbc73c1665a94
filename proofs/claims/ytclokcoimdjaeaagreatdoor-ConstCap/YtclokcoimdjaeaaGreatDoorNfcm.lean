/- ratio: Parse, given its cuts. -/
import Derived.Test.YtclokcoimdjaeaaGreatDoorNemm
namespace Go.Proofs.YtclokcoimdjaeaaGreatDoor
open Go.RowKit
attribute [local go_sem ↓] Go.wp_at_zero Go.wp_at_succ
/-- What Parse answers where a point or an exponent stands. -/
def FloatAns (w' : World) (t : Value) (ok : Bool) (B : Int) (D X : ByteArray) (np : Nat) (hasE FF : Bool) : Prop :=
  (ok = false ∧ LowE w' t 0 1 2 ∧ (FF = false ∨ ¬ goodT D B ∨ ∃ p, expAns X hasE p false)) ∨
  (ok = true ∧ FF = true ∧ goodT D B ∧ ∃ p, expAns X hasE p true ∧ ∃ r q : Int, r = (if B = 16 then 2 else 10) ∧ q = p - (if B = 16 then 4 * (np : Int) else np) ∧ ((0 ≤ q ∧ LowE w' t (hor B (digs D) * r ^ q.toNat) 1 (D.size + 1 + 116)) ∨ (q < 0 ∧ LowE w' t (hor B (digs D)) (r ^ (-q).toNat) (D.size + 1 + 114))))
def ParsePost (w : World) (B : Int) (X WH PT : ByteArray) (hasE hasP : Bool) (e : Ending) (w' : World) : Prop := ∃ t ok, e = .returned (.tuple #[t, .bool ok]) ∧ (if hasP = false ∧ hasE = false then WholeAns w' WH B t ok else FloatAns w' t ok B (WH ++ PT) X PT.size hasE (decide (B = 10) || (decide (B = 16) && hasE))) ∧ Below w.heap.size w w'
set_option maxRecDepth 20000 in
set_option maxHeartbeats 16000000 in
theorem parse_whole (s : ByteArray) (w : World) (B : Int) (R M X WH PT : ByteArray)
    (kB0 : ∀ W, Calls Tryz.prog 124 #[.string s] W fun e w' => e = .returned (.tuple #[.int .i64 B, .string R]) ∧ Below W.heap.size W w')
    (kE0 : ∀ W, Calls Tryz.prog 125 #[.string R, .int .i64 B] W fun e w' => e = .returned (.tuple #[.string M, .string X, .bool false]) ∧ Below W.heap.size W w')
    (kC0 : ∀ W, Calls Tryz.prog 126 #[.string M, .string ⟨#[46]⟩] W fun e w' => e = .returned (.tuple #[.string WH, .string PT, .bool false]) ∧ Below W.heap.size W w')
    (hWs : WH.size ≤ 60) (_hPs : PT.size ≤ 60) (_hDs : (WH ++ PT).size ≤ 60) (_hXs : X.size ≤ 60) : Calls Tryz.prog 73 #[.string s] w fun e w' => ParsePost w B X WH PT false false e w' := by
  have x0 := Box4.new w false none 0 0 false none 0 0 30 (by decide)
  have hbW : Below w.heap.size w (w.alloc (.cells #[.bool false, .slice none 0 0, .bool false, .slice none 0 0] 30)) := (Below.refl _ _).alloc (Nat.le_refl _) _
  obtain ⟨W, hW⟩ : ∃ W, W = w.alloc (.cells #[.bool false, .slice none 0 0, .bool false, .slice none 0 0] 30) := ⟨_, rfl⟩
  have hlt : w.heap.size < W.heap.size := by rw [hW]; simp
  rw [← hW] at x0 hbW
  have kB : Hid _ := kB0 W
  have kE : Hid _ := kE0
  have kC : Hid _ := kC0
  clear kB0 kE0 kC0
  have hsel : Hid (∀ w' t ok, WholeAns w' WH B t ok → (if false = false ∧ false = false then WholeAns w' WH B t ok else FloatAns w' t ok B (WH ++ PT) X PT.size false (decide (B = 10) || (decide (B = 16) && false)))) := fun w' t ok h => by rw [if_pos ⟨rfl, rfl⟩]; exact h
  go_enter Tryz.func73, Tryz.ntmps73
  go_upto_region 1 with fail
  rw [← hW]
  clear hW
  go_wp2_with fail
  refine Calls.mono kB.out ?_
  rintro e w1 ⟨rfl, b1⟩
  go_wp2_with fail
  refine Calls.mono (kE.out w1) ?_
  rintro e w2 ⟨rfl, b2⟩
  go_wp2_with fail
  refine Calls.mono (kC.out w2) ?_
  rintro e w3 ⟨rfl, b3⟩
  have b13 := bthen b1 (bthen b2 b3)
  clear kB kE kC
  go_wp2_with fail
  refine Calls.mono (parseWhole_any WH B (by omega) w3) ?_
  rintro e w8 ⟨t, ok, rfl, hA, b8⟩
  have bb := bthen b13 b8
  obtain ⟨n4, a4, l4, c4, n5, a5, l5, c5, rfl⟩ : ∃ n4 a4 l4 c4 n5 a5 l5 c5, t = .agg #[.bool n4, .slice a4 l4 c4, .bool n5, .slice a5 l5 c5] := by
    rcases hA with ⟨_, _, _, h⟩ | ⟨_, _, h⟩
    · exact h.form
    · exact h.form
  have y0 := x0.next bb
  obtain ⟨_, _, _, _, _, _, _, _, j0, j1, j2, j3, f⟩ := y0.cells
  have f0 := f 0
  have f1 := f 1
  have f2 := f 2
  have f3 := f 3
  clear f
  have hbx : Hid _ := put4_boxed (base := w.heap.size) y0.noint (by omega) n4 a4 l4 c4 n5 a5 l5 c5
  have hBf := bthen hbW bb
  have hAf : Hid (WholeAns ((((w8.setCell ⟨w.heap.size, 0, none⟩ (.bool n4)).setCell ⟨w.heap.size, 1, none⟩ (.slice a4 l4 c4)).setCell ⟨w.heap.size, 2, none⟩ (.bool n5)).setCell ⟨w.heap.size, 3, none⟩ (.slice a5 l5 c5)) WH B (.agg #[.bool n4, .slice a4 l4 c4, .bool n5, .slice a5 l5 c5]) ok) := by
    rcases hA with ⟨q1, q2, q3, h⟩ | ⟨q1, q2, h⟩
    · exact .inl ⟨q1, q2, q3, hbx.out.lowE h⟩
    · exact .inr ⟨q1, q2, hbx.out.lowE h⟩
  clear hA
  go_wp2
  exact bodyPost_ret (v := .tuple #[.agg #[.bool n4, .slice a4 l4 c4, .bool n5, .slice a5 l5 c5], .bool ok]) (by simp [results, Tryz.results73, go_sem, j0, j1, j2, j3]) rfl (show ParsePost _ _ _ _ _ _ _ _ _ from ⟨_, _, rfl, hsel.out _ _ _ hAf.out, hbx.out.keep hBf (Nat.le_refl _) hBf.size⟩)
end Go.Proofs.YtclokcoimdjaeaaGreatDoor
namespace Go.Proofs.YtclokcoimdjaeaaGreatDoor
open Go.RowKit
attribute [local go_sem ↓] Go.wp_at_zero Go.wp_at_succ
end Go.Proofs.YtclokcoimdjaeaaGreatDoor
namespace Go.Proofs.YtclokcoimdjaeaaGreatDoor
open Go.RowKit
attribute [local go_sem ↓] Go.wp_at_zero Go.wp_at_succ
end Go.Proofs.YtclokcoimdjaeaaGreatDoor
namespace Go.Proofs.YtclokcoimdjaeaaGreatDoor
open Go.RowKit
attribute [local go_sem ↓] Go.wp_at_zero Go.wp_at_succ
end Go.Proofs.YtclokcoimdjaeaaGreatDoor
