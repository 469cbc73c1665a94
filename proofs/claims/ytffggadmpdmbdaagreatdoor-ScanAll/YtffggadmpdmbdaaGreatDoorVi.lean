/- scan: the law of all tokens. -/
import Derived.Test.YtffggadmpdmbdaaGreatDoorVg
import Derived.Test.YtffggadmpdmbdaaGreatDoorVh
namespace Go.Proofs.YtffggadmpdmbdaaGreatDoor
open Go.RowKit
attribute [local go_sem ↓] Go.wp_at_zero Go.wp_at_succ
theorem refScan_all (w : World) (a : Option Addr) (cap : Nat) (zs : List Int) (h : Row w .u8 256 a cap zs) (hl : zs.length < 1000000) (res : Res) (hM : scanM (byteL zs) = some res) : Calls Tryz.prog 7 #[.slice a zs.length cap] w fun e w' => ScanOut w w' e res ∧ Below w.heap.size w w' := by
  have hbl : (byteL zs).length = zs.length := by unfold byteL; simp
  by_cases hz : zs = []
  · subst hz
    have : res = .good [⟨0, ba [], 0⟩] := (Option.some.inj hM).symm
    subst this
    exact refScan_nil w a cap
  · have hp : 0 < zs.length := List.length_pos_iff.2 hz
    cases a with
    | none => have := h.nil rfl; have := h.le; omega
    | some x =>
      have hc := h.cell x rfl 0 hp
      have hx : x.block < w.heap.size := by
        have := cell_lt hc
        rw [add_block] at this
        exact this
      have := refScan_any w x cap (byteL zs) (row_bytes w x cap zs h) hx (by rw [hbl]; exact h.le) (by rw [hbl]; exact hl) res hM
      rw [hbl] at this
      exact this
set_option maxRecDepth 100000 in
set_option maxHeartbeats 8000000 in
theorem scanAll_any (a : Option Addr) (cap : Nat) (zs : List Int) (w : World) (hRow : Row w .u8 256 a cap zs) (hG : Glob w) (hB2 : 3 < w.heap.size) : Calls Tryz.prog 3 #[.slice a zs.length cap] w fun e w' => e = .returned (.bool true) ∧ Below w.heap.size w w' := by
  have kB : Hid _ := begun_said w hG hB2
  have hys : (zs.take 600).length ≤ 600 := by rw [List.length_take]; omega
  have hRy : Hid (Row w .u8 256 a cap (zs.take 600)) := ⟨by have := hRow.le; rw [List.length_take]; omega, hRow.max, hRow.nil, fun x hx i hi => by rw [List.length_take] at hi; rw [hRow.cell x hx i (by omega), List.getElem?_take_of_lt (by omega)], fun z hz => hRow.words z (List.mem_of_mem_take hz)⟩
  have kS : Hid (∀ w1, Below w.heap.size w w1 → Calls Tryz.prog 5 #[.slice a zs.length cap, .int .i64 600] w1 fun e w' => e = .returned (.slice a (zs.take 600).length cap) ∧ w' = w1) := fun w1 hb => Short_any a cap zs 600 w1 (hRow.next hb) (by decide)
  clear hRow
  generalize zs.take 600 = ys at *
  obtain ⟨res, hres⟩ := scan_some (byteL ys)
  have hbl : (byteL ys).length = ys.length := by unfold byteL; simp
  go_enter Tryz.func3, Tryz.ntmps3
  go_wp2_with fail
  refine Calls.mono kB.out ?_
  rintro e w1 ⟨rfl, hb1⟩
  clear kB
  have hconv := row_conv w1 a cap ys (hRy.out.next hb1)
  have kC : Hid _ := Scan_any w1 (ba (byteL ys)) _ hconv (hG.next hb1) (by have := hb1.size; omega) (by rw [ba_size', hbl]; omega) res (by rw [ba_toList]; exact hres)
  have kS1 : Hid _ := kS.out w1 hb1
  clear kS hconv
  go_wp2_with fail
  refine Calls.mono kS1.out ?_
  rintro e w2 ⟨rfl, rfl⟩
  clear kS1
  go_wp2_with fail
  refine Calls.mono kC.out ?_
  rintro e w3 ⟨hout, hb3⟩
  clear kC
  have hB3 : Below w.heap.size w w3 := hb1.trans (hb3.mono hb1.size)
  have kR : Hid _ := refScan_all w3 a cap ys (hRy.out.next hB3) (by omega) res hres
  cases res with
  | bad p =>
    obtain rfl := hout
    have hp := scan_bad (byteL ys) _ 0 [] p (Nat.zero_le _) hres
    rw [hbl] at hp
    have dp : decide ((p : Int) ≤ (ys.length : Int)) = true := decide_eq_true (by omega)
    clear hres
    go_wp2_with fail
    refine Calls.mono kR.out ?_
    rintro e w4 ⟨hout2, hb4⟩
    clear kR
    obtain rfl := hout2
    have hB4 : Below w.heap.size w w4 := hB3.trans (hb4.mono hB3.size)
    go_wp2
    go_ret
    exact ⟨rfl, hB4⟩
  | good ts =>
    obtain ⟨h0, _⟩ := again_scan _ _ hres
    obtain ⟨hn1, _⟩ := scan_size _ _ _ _ _ (Nat.zero_le _) (Nat.zero_le _) (fun t ht => by cases ht) hres
    obtain ⟨g, cap1, rfl, hg, hcell⟩ := hout.goodForm h0
    clear hres hout
    go_wp2_with fail
    refine Calls.mono kR.out ?_
    rintro e w4 ⟨hout2, hb4⟩
    clear kR
    obtain ⟨g2, cap2, rfl, hg2, hcell2⟩ := hout2.goodForm h0
    have hB4 : Below w.heap.size w w4 := hB3.trans (hb4.mono hB3.size)
    have hcell3 : TokAt w4 g ts := fun k hk => ⟨(hb4.cell (by exact hg)).trans (hcell k hk).1, (hb4.cell (by exact hg)).trans (hcell k hk).2.1, (hb4.cell (by exact hg)).trans (hcell k hk).2.2⟩
    have kM : Hid _ := Same_any w4 g cap1 g2 cap2 ts hcell3 hcell2 (by omega)
    clear hout2 hcell hcell2 hcell3
    go_wp2_with fail
    refine Calls.mono kM.out ?_
    rintro e w5 ⟨rfl, n, rfl⟩
    clear kM
    have hB5 : Below w.heap.size w (w4.drewN n) := hB4.trans ⟨rfl, rfl, rfl, Nat.le_refl _, fun _ _ => rfl⟩
    go_wp2
    go_ret
    exact ⟨rfl, hB5⟩
end Go.Proofs.YtffggadmpdmbdaaGreatDoor
