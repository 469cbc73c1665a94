/- ScanEnds: what is asked first. -/
import Derived.Test.YtffggadmpdmbdaaGreatDoorSq
import Derived.Lib.SlBytesConst
import Derived.Lib.SmallJoins
import Derived.Laws.IdiomStrings
namespace Go.Proofs.YtffggadmpdmbdaaGreatDoor
open Go.RowKit
attribute [local go_sem ↓] Go.wp_at_zero Go.wp_at_succ
theorem begun_scan : scanM [120, 32, 58, 61, 32, 49, 46, 53, 101, 51, 32, 47, 47, 32, 121, 10] = some (.good [⟨1, ba [120], 0⟩, ⟨5, ba [58, 61], 2⟩, ⟨3, ba [49, 46, 53, 101, 51], 5⟩, ⟨7, ba [10], 15⟩, ⟨0, ba [], 16⟩]) := by kernel_rfl
theorem begun_value : valM [34, 97, 92, 110, 34] = some ([97, 10], true) := by kernel_rfl
theorem begun_word : wordB [102, 117, 110, 99] = true := by kernel_rfl
theorem lit_toList (l : List UInt8) : (⟨l.toArray⟩ : ByteArray).toList = l := ba_toList l
set_option maxRecDepth 100000 in
set_option maxHeartbeats 8000000 in
theorem begun_said (w : World) (hG : Glob w) (hB2 : 3 < w.heap.size) : Calls Tryz.prog 4 #[] w fun e w' => e = .returned (.bool true) ∧ Below w.heap.size w w' := by
  obtain ⟨W, hW⟩ : ∃ W, W = w.alloc (.cells #[.int .u8 120, .int .u8 32, .int .u8 58, .int .u8 61, .int .u8 32, .int .u8 49, .int .u8 46, .int .u8 53, .int .u8 101, .int .u8 51, .int .u8 32, .int .u8 47, .int .u8 47, .int .u8 32, .int .u8 121, .int .u8 10] 5 (16, 17)) := ⟨_, rfl⟩
  have hcc : (convert 22 22 (.slice (some ⟨w.heap.size, 0, none⟩) 16 16)).run Tryz.prog (w.alloc (.cells #[.int .u8 120, .int .u8 32, .int .u8 58, .int .u8 61, .int .u8 32, .int .u8 49, .int .u8 46, .int .u8 53, .int .u8 101, .int .u8 51, .int .u8 32, .int .u8 47, .int .u8 47, .int .u8 32, .int .u8 121, .int .u8 10] 5)) = .ok (.slice (some ⟨w.heap.size, 0, none⟩) 16 16) W := by
    rw [hW]
    exact Lib.run_convert_bytes_const (P := Tryz.prog) w 22 5 #[.int .u8 120, .int .u8 32, .int .u8 58, .int .u8 61, .int .u8 32, .int .u8 49, .int .u8 46, .int .u8 53, .int .u8 101, .int .u8 51, .int .u8 32, .int .u8 47, .int .u8 47, .int .u8 32, .int .u8 121, .int .u8 10] 16 16 Tryz.underlying22 Tryz.underlying5
  have hbW : Below w.heap.size w W := by rw [hW]; exact (Below.refl _ _).alloc (Nat.le_refl _) _
  have hconv : (convert 22 9 (.slice (some ⟨w.heap.size, 0, none⟩) 16 16)).run Tryz.prog W = .ok (.string (ba [120, 32, 58, 61, 32, 49, 46, 53, 101, 51, 32, 47, 47, 32, 121, 10])) W := by
    refine run_convert_bytes_back (P := Tryz.prog) W 22 9 5 ⟨w.heap.size, 0, none⟩ 16 [120, 32, 58, 61, 32, 49, 46, 53, 101, 51, 32, 47, 47, 32, 121, 10] Tryz.underlying22 Tryz.underlying5 Tryz.underlying9 ?_
    intro j hj
    rw [addr_add, hW, World.cell?_alloc_mark]
    have hj' : j < 16 := hj
    match j, hj' with
    | 0, _ => rfl
    | 1, _ => rfl
    | 2, _ => rfl
    | 3, _ => rfl
    | 4, _ => rfl
    | 5, _ => rfl
    | 6, _ => rfl
    | 7, _ => rfl
    | 8, _ => rfl
    | 9, _ => rfl
    | 10, _ => rfl
    | 11, _ => rfl
    | 12, _ => rfl
    | 13, _ => rfl
    | 14, _ => rfl
    | 15, _ => rfl
    | n + 16, h => exact absurd h (by omega)
  have kS : Hid _ := Scan_any W (ba [120, 32, 58, 61, 32, 49, 46, 53, 101, 51, 32, 47, 47, 32, 121, 10]) (.slice (some ⟨w.heap.size, 0, none⟩) 16 16) hconv (hG.next hbW) (by have := hbW.size; omega) (by decide) _ (by rw [ba_toList]; exact begun_scan)
  go_enter Tryz.func4, Tryz.ntmps4
  go_wp2_with fail
  rw [← hW]
  clear hW hcc hconv
  refine Calls.mono kS.out ?_
  rintro e w1 ⟨⟨a, l, c, rfl, hO⟩, hb1⟩
  clear kS
  have hlen5 : ([⟨1, ba [120], 0⟩, ⟨5, ba [58, 61], 2⟩, ⟨3, ba [49, 46, 53, 101, 51], 5⟩, ⟨7, ba [10], 15⟩, ⟨0, ba [], 16⟩] : List Tok).length = 5 := rfl
  obtain ⟨g, cap, e, hg1, hg2⟩ := hO.form (by decide)
  cases e
  have c0 : w1.cell? ⟨g, 0, none⟩ = some (.int .i64 1) := hO.cellAt 0 (by decide)
  have c4 : w1.cell? ⟨g, 4, none⟩ = some (.string ⟨#[58, 61]⟩) := hO.cellAt 4 (by decide)
  have c6 : w1.cell? ⟨g, 6, none⟩ = some (.int .i64 3) := hO.cellAt 6 (by decide)
  have c9 : w1.cell? ⟨g, 9, none⟩ = some (.int .i64 7) := hO.cellAt 9 (by decide)
  have c11 : w1.cell? ⟨g, 11, none⟩ = some (.int .i64 15) := hO.cellAt 11 (by decide)
  have c12 : w1.cell? ⟨g, 12, none⟩ = some (.int .i64 0) := hO.cellAt 12 (by decide)
  have hB1 := bthen hbW hb1
  clear hO
  have kV : Hid _ := Value_any ⟨#[34, 97, 92, 110, 34]⟩ w1 (hG.next hB1) (by decide) [97, 10] true (by rw [show (⟨#[34, 97, 92, 110, 34]⟩ : ByteArray) = ba [34, 97, 92, 110, 34] from rfl, ba_toList]; exact begun_value)
  go_wp2_with fail
  refine Calls.mono kV.out ?_
  rintro e w2 ⟨rfl, hb2⟩
  clear kV
  replace c0 := keep_cell hb2 c0
  replace c4 := keep_cell hb2 c4
  replace c6 := keep_cell hb2 c6
  replace c9 := keep_cell hb2 c9
  replace c11 := keep_cell hb2 c11
  replace c12 := keep_cell hb2 c12
  have hB2' := bthen hB1 hb2
  have kW : Hid (∀ w, Calls Tryz.prog 10 #[.string ⟨#[102, 117, 110, 99]⟩] w fun e w' => e = .returned (.bool true) ∧ w' = w) := fun w => by
    have := Word_any ⟨#[102, 117, 110, 99]⟩ w
    rw [show (⟨#[102, 117, 110, 99]⟩ : ByteArray) = ba [102, 117, 110, 99] from rfl, ba_toList, begun_word] at this
    exact this
  have dv : ((ba [97, 10]).toList == [97, 10]) = true := by rw [ba_toList]; rfl
  have dop : ((⟨#[58, 61]⟩ : ByteArray).toList == [58, 61]) = true := by rw [show (⟨#[58, 61]⟩ : ByteArray) = ba [58, 61] from rfl, ba_toList]; rfl
  clear hb1 hb2 hB1
  go_wp2_with fail
  refine Calls.mono (kW.out _) ?_
  rintro e w3 ⟨rfl, rfl⟩
  go_wp2
  go_ret
  exact ⟨rfl, hB2'⟩
end Go.Proofs.YtffggadmpdmbdaaGreatDoor
