/- constants: the ends of uint. -/
import Derived.Test.YtclokcoimdjaeaaGreatDoorZhm
namespace Go.Proofs.YtclokcoimdjaeaaGreatDoor
open Go.RowKit
attribute [local go_sem ↓] Go.wp_at_zero Go.wp_at_succ
set_option maxRecDepth 20000 in
set_option maxHeartbeats 2000000 in
theorem ends_uint (w : World) : Calls Tryz.prog 182 #[.string ⟨#[117, 105, 110, 116]⟩] w fun e w' => ∃ u v, e = .returned (.tuple #[u, v, .bool true]) ∧ Num w' u (0) 2 ∧ Num w' v (18446744073709551615) 2 ∧ Below w.heap.size w w' := by
  obtain ⟨LO, hLO⟩ : ∃ LO : Int, LO = 0 := ⟨_, rfl⟩
  obtain ⟨HI, hHI⟩ : ∃ HI : Int, HI = 18446744073709551615 := ⟨_, rfl⟩
  rw [← hLO, ← hHI]
  have hLh : Hid (LO = 0 ∧ HI = 18446744073709551615) := ⟨hLO, hHI⟩
  clear hLO hHI
  obtain ⟨W, hW, hq2, hq3, hbW, hsz⟩ := two_new2 (w := w) (A := .cells #[.bool false, .slice none 0 0] 28) (B := .cells #[.bool false, .slice none 0 0] 28)
  have hall : Hid (Below w.heap.size w W ∧ W.heap.size = w.heap.size + 1 + 1 ∧ W.heap[w.heap.size]? = some (.cells #[.bool false, .slice none 0 0] 28 (0, 0)) ∧ W.heap[w.heap.size + 1]? = some (.cells #[.bool false, .slice none 0 0] 28 (0, 0))) := ⟨hbW, hsz, hq2, hq3⟩
  obtain ⟨w1, hw1⟩ : ∃ w1, w1 = W.alloc (.cells #[.int .u32 4294967295, .int .u32 4294967295] 139) := ⟨_, rfl⟩
  have hX : Below W.heap.size W w1 := by rw [hw1]; exact (Below.refl _ _).alloc (Nat.le_refl _) _
  have hqn : w1.heap[W.heap.size]? = some (.cells #[.int .u32 4294967295, .int .u32 4294967295] 139 (0, 0)) := by rw [hw1]; exact newAt _ _
  have hN2 : Num w1 (.agg #[.bool false, .slice (some ⟨W.heap.size, 0, none⟩) 2 2]) HI 2 := by
    rw [hLh.out.2]
    refine ⟨false, some ⟨W.heap.size, 0, none⟩, 2, [4294967295, 4294967295], rfl, ⟨by decide, by unfold maxLen; decide, fun h => (by cases h), fun x hx i hi => ?_, fun z hz => ?_⟩, by decide, by decide⟩
    · cases hx
      obtain ⟨⟨c0, c1⟩, _, _⟩ := cells2 hqn
      match i, hi with
      | 0, _ => exact c0
      | 1, _ => exact c1
    · simp at hz
      omega
  have hN1 : Num w1 (.agg #[.bool false, .slice none 0 0]) LO 2 := by rw [hLh.out.1]; exact num_nil _ _
  clear hqn
  clear hq2 hq3 hbW hsz
  go_enter Tryz.func182, Tryz.ntmps182
  go_upto_region 1 with fail
  rw [← hW]
  clear hW
  have hs := hall.out.2.1
  have hqa := (hX.block _ (by omega)).trans hall.out.2.2.1
  have hqb := (hX.block _ (by omega)).trans hall.out.2.2.2
  obtain ⟨⟨r0, r1⟩, rf, _⟩ := cells2 hqa
  obtain ⟨⟨s0, s1⟩, sf, _⟩ := cells2 hqb
  have rf0 := rf 0
  have rf1 := rf 1
  have sf0 := sf 0
  have sf1 := sf 1
  obtain ⟨W8, hW8⟩ : ∃ W8, W8 = (((w1.setCell ⟨w.heap.size, 0, none⟩ (.bool false)).setCell ⟨w.heap.size, 1, none⟩ (.slice none 0 0)).setCell ⟨w.heap.size + 1, 0, none⟩ (.bool false)).setCell ⟨w.heap.size + 1, 1, none⟩ (.slice (some ⟨W.heap.size, 0, none⟩) 2 2) := ⟨_, rfl⟩
  have hga : NoInt w1 w.heap.size := ⟨_, _, _, hqa, by decide, two_notInt (notInt_bool _) (notInt_slice _ _ _)⟩
  have hgb : NoInt w1 (w.heap.size + 1) := ⟨_, _, _, hqb, by decide, two_notInt (notInt_bool _) (notInt_slice _ _ _)⟩
  have hbx : Boxed w.heap.size w1 W8 := by rw [hW8]; exact put22 hga hgb (Nat.le_refl _) (by omega) _ _ _ _ _ _ _ _
  have hf : Hid (Num W8 (.agg #[.bool false, .slice none 0 0]) LO 2 ∧ Num W8 (.agg #[.bool false, .slice (some ⟨W.heap.size, 0, none⟩) 2 2]) HI 2 ∧ Below w.heap.size w W8) := ⟨hbx.num hN1, hbx.num hN2, hbx.keep (hall.out.1.trans (hX.mono (by omega))) (Nat.le_refl _) (by have := hX.size; omega)⟩
  have hj : Hid (W8.cell? ⟨w.heap.size, 0, none⟩ = some (.bool false) ∧ W8.cell? ⟨w.heap.size, 1, none⟩ = some (.slice none 0 0) ∧ W8.cell? ⟨w.heap.size + 1, 0, none⟩ = some (.bool false) ∧ W8.cell? ⟨w.heap.size + 1, 1, none⟩ = some (.slice (some ⟨W.heap.size, 0, none⟩) 2 2)) := by
    show _ ∧ _ ∧ _ ∧ _
    rw [hW8]
    refine ⟨?_, ?_, ?_, ?_⟩ <;> simp [go_sem, r0, r1, s0, s1]
  clear hN1 hN2 hX hqa hqb rf sf hga hgb hbx hs hall
  rw [hw1] at r0 r1 s0 s1 rf0 rf1 sf0 sf1 hW8
  clear hw1
  go_wp2
  rw [← hW8]
  obtain ⟨j0, j1, j2, j3⟩ := hj.out
  exact bodyPost_ret (v := .tuple #[.agg #[.bool false, .slice none 0 0], .agg #[.bool false, .slice (some ⟨W.heap.size, 0, none⟩) 2 2], .bool true]) (by simp [results, Tryz.results182, go_sem, j0, j1, j2, j3]) rfl ⟨_, _, rfl, hf.out.1, hf.out.2.1, hf.out.2.2⟩
end Go.Proofs.YtclokcoimdjaeaaGreatDoor
