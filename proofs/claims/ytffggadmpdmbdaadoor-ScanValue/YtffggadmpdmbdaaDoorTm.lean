/- scan: the law of values. -/
import Derived.Test.YtffggadmpdmbdaaDoorTk
import Derived.Test.YtffggadmpdmbdaaDoorTl
import Derived.Test.YtffggadmpdmbdaaDoorSt
namespace Go.Proofs.YtffggadmpdmbdaaDoor
open Go.RowKit
attribute [local go_sem ↓] Go.wp_at_zero Go.wp_at_succ
theorem val_some (l : List UInt8) : ∃ t ok, valM l = some (t, ok) := by
  by_cases h : 0 < l.length ∧ (byteAt l 0 = 34 ∨ byteAt l 0 = 96)
  · obtain ⟨r, out, _, h2⟩ := val_text l h.1 h.2
    exact ⟨_, _, h2⟩
  · exact ⟨_, _, val_none l h⟩
set_option maxRecDepth 100000 in
set_option maxHeartbeats 8000000 in
theorem scanValue_any (s : ByteArray) (w : World) (hG : Glob w) (hB2 : 3 < w.heap.size) : Calls Tryd.prog 4 #[.string s] w fun e w' => e = .returned (.bool true) ∧ Below w.heap.size w w' := by
  have kB : Hid _ := begun_said w hG hB2
  by_cases hgt : s.size > 200
  · have d1 : decide ((s.size : Int) > 200) = true := decide_eq_true (by omega)
    obtain ⟨S, hSe⟩ : ∃ S, S = s.extract 0 200 := ⟨_, rfl⟩
    have hS : S.size ≤ 200 := by rw [hSe]; simp; omega
    obtain ⟨t, ok, hM⟩ := val_some S.toList
    go_enter Tryd.func4, Tryd.ntmps4
    go_wp2_with fail
    refine Calls.mono kB.out ?_
    rintro e w1 ⟨rfl, hb1⟩
    clear kB
    have kV : Hid _ := Value_any S w1 (hG.next hb1) (by omega) t ok hM
    go_upto_region 4 with fail
    rw [← hSe]
    clear hSe
    go_wp2_with fail
    refine Calls.mono kV.out ?_
    rintro e w2 ⟨rfl, hb2⟩
    clear kV
    have hB2' : Below w.heap.size w w2 := hb1.trans (hb2.mono hb1.size)
    have kR : Hid _ := refValue_any S w2 (by omega) t ok hM
    clear hM hb2
    generalize hT : ba t = T at *
    clear hT
    go_wp2_with fail
    refine Calls.mono kR.out ?_
    rintro e w3 ⟨rfl, hb3⟩
    clear kR
    have hB3 : Below w.heap.size w w3 := hB2'.trans (hb3.mono hB2'.size)
    have kW : Hid _ := Word_any S w3
    have kQ : Hid _ := refWord_any S w3
    generalize wordB S.toList = WB at *
    clear hb3
    go_wp2_with fail
    refine Calls.mono kW.out ?_
    rintro e w4 ⟨rfl, rfl⟩
    clear kW
    go_wp2_with fail
    refine Calls.mono kQ.out ?_
    rintro e w5 ⟨rfl, hb5⟩
    clear kQ
    have hB5 : Below w.heap.size w w5 := hB3.trans (hb5.mono hB3.size)
    go_wp2
    go_ret
    exact ⟨rfl, hB5⟩
  · have d1 : decide ((s.size : Int) > 200) = false := decide_eq_false (by omega)
    have hS : s.size ≤ 200 := by omega
    obtain ⟨t, ok, hM⟩ := val_some s.toList
    go_enter Tryd.func4, Tryd.ntmps4
    go_wp2_with fail
    refine Calls.mono kB.out ?_
    rintro e w1 ⟨rfl, hb1⟩
    clear kB
    have kV : Hid _ := Value_any s w1 (hG.next hb1) (by omega) t ok hM
    go_wp2_with fail
    refine Calls.mono kV.out ?_
    rintro e w2 ⟨rfl, hb2⟩
    clear kV
    have hB2' : Below w.heap.size w w2 := hb1.trans (hb2.mono hb1.size)
    have kR : Hid _ := refValue_any s w2 (by omega) t ok hM
    clear hM hb2
    generalize hT : ba t = T at *
    clear hT
    go_wp2_with fail
    refine Calls.mono kR.out ?_
    rintro e w3 ⟨rfl, hb3⟩
    clear kR
    have hB3 : Below w.heap.size w w3 := hB2'.trans (hb3.mono hB2'.size)
    have kW : Hid _ := Word_any s w3
    have kQ : Hid _ := refWord_any s w3
    generalize wordB s.toList = WB at *
    clear hb3
    go_wp2_with fail
    refine Calls.mono kW.out ?_
    rintro e w4 ⟨rfl, rfl⟩
    clear kW
    go_wp2_with fail
    refine Calls.mono kQ.out ?_
    rintro e w5 ⟨rfl, hb5⟩
    clear kQ
    have hB5 : Below w.heap.size w w5 := hB3.trans (hb5.mono hB3.size)
    go_wp2
    go_ret
    exact ⟨rfl, hB5⟩
end Go.Proofs.YtffggadmpdmbdaaDoor
