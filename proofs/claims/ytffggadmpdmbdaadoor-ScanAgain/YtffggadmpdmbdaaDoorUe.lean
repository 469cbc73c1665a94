/- scan: the law of reading again. -/
import Derived.Test.YtffggadmpdmbdaaDoorUd
import Derived.BigQuiet
namespace Go.Proofs.YtffggadmpdmbdaaDoor
open Go.RowKit
attribute [local go_sem ↓] Go.wp_at_zero Go.wp_at_succ
theorem again_take (ts : List Tok) (k : Nat) (hk : k < ts.length) : again (ts.take (k + 1)) = again (ts.take k) ++ againT ts[k] := by
  rw [List.take_succ_eq_append_getElem hk, again_snoc]
theorem ScanOut.goodForm {w w' : World} {e : Ending} {ts : List Tok} (h : ScanOut w w' e (.good ts)) (h0 : 0 < ts.length) : ∃ g cap, e = .returned (.tuple #[.slice (some ⟨g, 0, none⟩) ts.length cap, .int .i64 0, .bool true]) ∧ g < w'.heap.size ∧ (∀ k (hk : k < ts.length), w'.cell? ⟨g, k * 3, none⟩ = some (.int .i64 ts[k].kind) ∧ w'.cell? ⟨g, k * 3 + 1, none⟩ = some (.string ts[k].text) ∧ w'.cell? ⟨g, k * 3 + 2, none⟩ = some (.int .i64 ts[k].at')) := by
  obtain ⟨a, l, c, rfl, hO⟩ := h
  obtain ⟨g, cap, e, hg1, hg2⟩ := hO.form h0
  cases e
  refine ⟨g, _, rfl, hg2, fun k hk => ?_⟩
  obtain ⟨f0, f1, f2⟩ := flatT_get ts k hk
  have q0 := hO.cellAt (k * 3) (by omega)
  have q1 := hO.cellAt (k * 3 + 1) (by omega)
  have q2 := hO.cellAt (k * 3 + 2) (by omega)
  exact ⟨q0.trans f0, q1.trans f1, q2.trans f2⟩
set_option maxRecDepth 100000 in
set_option maxHeartbeats 16000000 in
theorem scanAgain_any (a : Option Addr) (cap : Nat) (zs : List Int) (w : World) (hRow : Row w .u8 256 a cap zs) (hG : Glob w) (hB2 : 3 < w.heap.size) : Calls Tryd.prog 3 #[.slice a zs.length cap] w fun e w' => e = .returned (.bool true) ∧ Below w.heap.size w w' := by
  obtain ⟨i0, hi0, hz0, hz1, hz2⟩ := info_parts Tryd.info5
  have kB : Hid _ := begun_said w hG hB2
  have hys : (zs.take 400).length ≤ 400 := by rw [List.length_take]; omega
  have hRy : Hid (Row w .u8 256 a cap (zs.take 400)) := ⟨by have := hRow.le; rw [List.length_take]; omega, hRow.max, hRow.nil, fun x hx i hi => by rw [List.length_take] at hi; rw [hRow.cell x hx i (by omega), List.getElem?_take_of_lt (by omega)], fun z hz => hRow.words z (List.mem_of_mem_take hz)⟩
  have kS : Hid (∀ w1, Below w.heap.size w w1 → Calls Tryd.prog 8 #[.slice a zs.length cap, .int .i64 400] w1 fun e w' => e = .returned (.slice a (zs.take 400).length cap) ∧ w' = w1) := fun w1 hb => Short_any a cap zs 400 w1 (hRow.next hb) (by decide)
  clear hRow
  generalize zs.take 400 = ys at *
  obtain ⟨res, hres⟩ := scan_some (byteL ys)
  have hbl : (byteL ys).length ≤ 400 := by unfold byteL; simp; exact hys
  go_enter Tryd.func3, Tryd.ntmps3
  go_wp2_with fail
  refine Calls.mono kB.out ?_
  rintro e w1 ⟨rfl, hb1⟩
  clear kB
  have hconv := row_conv w1 a cap ys (hRy.out.next hb1)
  have kC : Hid _ := Scan_any w1 (ba (byteL ys)) _ hconv (hG.next hb1) (by have := hb1.size; omega) (by rw [ba_size']; omega) res (by rw [ba_toList]; exact hres)
  have kS1 : Hid _ := kS.out w1 hb1
  clear kS hconv
  go_wp2_with fail
  refine Calls.mono kS1.out ?_
  rintro e w2 ⟨rfl, rfl⟩
  clear kS1
  go_wp2_with fail
  refine Calls.mono kC.out ?_
  rintro e w3 ⟨hout, hb3⟩
  clear kC
  have hB3 : Below w.heap.size w w3 := hb1.trans (hb3.mono hb1.size)
  cases res with
  | bad p =>
    obtain rfl := hout
    clear hres
    go_wp2
    go_ret
    exact ⟨rfl, hB3⟩
  | good ts =>
    obtain ⟨h0, ts', hag, hsame⟩ := again_scan _ _ hres
    obtain ⟨hn1, hn2⟩ := scan_size _ _ _ _ _ (Nat.zero_le _) (Nat.zero_le _) (fun t ht => by cases ht) hres
    obtain ⟨g, cap1, rfl, hg, hcell⟩ := hout.goodForm h0
    have hal : ∀ k, k ≤ ts.length → (again (ts.take k)).length ≤ 161604 := by
      intro k hk
      have h1 := again_len (ts.take k) 401 (fun t ht => by have := hn2 t (List.mem_of_mem_take ht); omega)
      rw [List.length_take] at h1
      have h2 : min k ts.length * 402 ≤ 402 * 402 := Nat.mul_le_mul_right _ (by omega)
      omega
    have htx : ∀ k (hk : k < ts.length), ts[k].text.size ≤ 401 := by
      intro k hk
      have := hn2 ts[k] (List.getElem_mem hk)
      rw [toList_len] at this
      omega
    have hsl : ts'.length = ts.length := by have := congrArg List.length hsame; simpa using this
    have hlen402 : ts.length ≤ 402 := by omega
    have dz : ((ts.length : Int) == 0) = false := by rw [beq_eq_false_iff_ne]; omega
    replace hal : Hid _ := hal
    replace htx : Hid _ := htx
    replace hcell : Hid _ := hcell
    replace hag : Hid _ := hag
    replace hsame : Hid _ := hsame
    clear hout hn1 hn2 hres hys hRy
    go_upto_region 7 with fail
    go_loopw [7, 8] (fun vs vi wr => ∃ k : Nat, vi = .int .i64 k ∧ k ≤ ts.length ∧ Hid (wr.ownsRow w3.heap.size 5 1 vs (again (ts.take k)).length (Lib.byteCells (again (ts.take k)))) ∧ Hid (Below w3.heap.size w3 wr)) (fun _ vi _ => ts.length - (intOf vi).toNat)
    case atStart => exact ⟨0, rfl, Nat.zero_le _, World.ownsRow_nil _ _ _ _, Below.refl _ _⟩
    case round =>
      obtain ⟨k, rfl, hk, hO, hb⟩ := hrel
      by_cases hlt : k < ts.length
      · have d1 : decide ((k : Int) < ts.length) = true := decide_eq_true (by omega)
        obtain ⟨_, c1, _⟩ := hcell.out k hlt
        have q1 : wr.cell? ⟨g, k * 3 + 1, none⟩ = some (.string ts[k].text) := (hb.out.cell (by exact hg)).trans c1
        have hat := again_take ts k hlt
        have ht1 := htx.out k hlt
        have hl1 := hal.out k (by omega)
        have hw1 : IntKind.i64.wrap ((k : Int) + 1) = ((k + 1 : Nat) : Int) := by rw [IntKind.wrap_i64]; omega
        generalize ts[k] = t at *
        replace hat : Hid _ := hat
        have hvlt : Hid _ := hO.out.lt
        have hbs := hb.out.size
        clear c1 hal htx hag hsame
        generalize hA : again (ts.take k) = acc at *
        clear hA
        go_wp2_with (at_builtin; refine Lib.wpList_append_own_string _ rfl _ _ 22 9 rfl w3.heap.size 5 i0 Tryd.underlying22 Tryd.underlying9 hi0 hz0 hz1 hz2 _ _ _ rfl hO.out t.text rfl ?c3 ?c4 hbs ?_)
        case c3 => unfold maxLen; omega
        case c4 => omega
        intro v' w4 hO4 hgrow _
        have hb4 : Hid (Below w3.heap.size w3 w4) := hb.out.grown hgrow hbs (fun b hb => (hvlt.out b hb).1)
        have q4 : w4.cell? ⟨g, k * 3 + 1, none⟩ = some (.string t.text) := by
          have h1 := hb.out.cell (p := ⟨g, k * 3 + 1, none⟩) (by exact hg)
          have h2 := hb4.out.cell (p := ⟨g, k * 3 + 1, none⟩) (by exact hg)
          exact h2.trans (h1.symm.trans q1)
        have hO5 : Hid (w4.ownsRow w3.heap.size 5 1 v' (acc ++ t.text.toList).length (Lib.byteCells (acc ++ t.text.toList))) := by
          rw [strCells_ba, byteCells_app] at hO4
          rw [List.length_append, toList_len]
          exact hO4
        clear hO4 hgrow hvlt hO hbs q1
        by_cases hnl : t.text.toList = [10]
        · have dn : (t.text.toList != [10]) = false := by rw [hnl]; rfl
          have de : (t.text.toList == [10]) = true := by rw [hnl]; rfl
          have hO6 : Hid (w4.ownsRow w3.heap.size 5 1 v' (again (ts.take (k + 1))).length (Lib.byteCells (again (ts.take (k + 1))))) := by
            rw [hat.out]
            unfold againT
            rw [if_pos hnl, List.append_nil]
            exact hO5.out
          clear hO5 hnl
          go_wp2
          go_roundw
          case rel => exact ⟨k + 1, by go_num, by omega, hO6, hb4⟩
          case measure => simp [intOf]; omega
        · have dn : (t.text.toList != [10]) = true := by simpa using hnl
          have de : (t.text.toList == [10]) = false := by simpa using hnl
          have hvlt : Hid _ := hO5.out.lt
          have hbs := hb4.out.size
          have hAl : (acc ++ t.text.toList).length ≤ 200000 := by rw [List.length_append, toList_len]; omega
          have hat2 : Hid (again (ts.take (k + 1)) = (acc ++ t.text.toList) ++ [32]) := by
            show again _ = _
            rw [hat.out]
            unfold againT
            rw [if_neg hnl, List.append_assoc]
          clear hnl hat
          generalize acc ++ t.text.toList = acc2 at *
          have hO6 : Hid ((w4.alloc (.cells #[.int .u8 32] 5)).ownsRow w3.heap.size 5 1 v' acc2.length (Lib.byteCells acc2)) := hO5.out.alloc _
          go_wp2_with (at_builtin; refine wpList_append_lies _ (by rfl) (.tmp 48) (.tmp 49) 22 (by rfl) w3.heap.size 5 i0 _ 1 1 Tryd.underlying22 hi0 hz0 hz1 hz2 (by rfl) (by decide) v' acc2.length (Lib.byteCells acc2) (by rfl) hO6.out ⟨w4.heap.size, 0, none⟩ 1 1 [.int .u8 32] (by rfl) (by rfl) (one_news w4 32) (one_cell 32) (by decide) (by unfold maxLen; omega) (by omega) (by simp; omega) (w4.heap.size + 1) (by simp) ?_)
          intro g' cap' w5 hO7 hg7 hat7 hlt7
          have hO8 : Hid (w5.ownsRow w3.heap.size 5 1 (.slice (some ⟨g', 0, none⟩) (acc2.length + 1) cap') (again (ts.take (k + 1))).length (Lib.byteCells (again (ts.take (k + 1))))) := by
            rw [hat2.out, List.length_append]
            have e2 : Lib.byteCells (acc2 ++ [32]) = Lib.byteCells acc2 ++ [.int .u8 32] := by simp [Lib.byteCells]
            rw [e2]
            exact hO7
          have hb8 : Hid (Below w3.heap.size w3 w5) := (hb4.out.alloc hbs _).grown hg7 (by simp; omega) (fun b hb => (hvlt.out b hb).1)
          clear hO7 hg7 hat7 hlt7 hO6 hO5 hvlt
          go_wp2
          go_roundw
          case rel => exact ⟨k + 1, by go_num, by omega, hO8, hb8⟩
          case measure => simp [intOf]; omega
      · obtain rfl : k = ts.length := by omega
        have d1 : decide ((ts.length : Int) < ts.length) = false := decide_eq_false (by omega)
        have hO' := hO.out
        have hl1 := hal.out ts.length (Nat.le_refl _)
        rw [List.take_length] at hO' hl1
        have hconv := row_text wr _ u7 (again ts) hO'
        have hB4 : Below w.heap.size w wr := hB3.trans (hb.out.mono hB3.size)
        have kC : Hid _ := Scan_any wr (ba (again ts)) u7 hconv (hG.next hB4) (by have := hB4.size; omega) (by rw [ba_size']; omega) (.good ts') (by rw [ba_toList]; exact hag.out)
        have hcell2 : Hid (∀ k (hk : k < ts.length), wr.cell? ⟨g, k * 3, none⟩ = some (.int .i64 ts[k].kind) ∧ wr.cell? ⟨g, k * 3 + 1, none⟩ = some (.string ts[k].text)) := fun k hk => ⟨(hb.out.cell (by exact hg)).trans (hcell.out k hk).1, (hb.out.cell (by exact hg)).trans (hcell.out k hk).2.1⟩
        have hg2 : g < wr.heap.size := Nat.lt_of_lt_of_le hg hb.out.size
        clear hal htx hag hcell hO hO' hconv hl1 hlt hk
        go_wp2_with fail
        refine Calls.mono kC.out ?_
        rintro e w5 ⟨hout, hb5⟩
        clear kC
        obtain ⟨g2, cap2, rfl, hg5, hcell5⟩ := hout.goodForm (by omega)
        rw [hsl]
        have hB5 : Below w.heap.size w w5 := hB4.trans (hb5.mono hB4.size)
        have hcm : Hid (∀ k, k < ts.length → ∃ (kd : Int) (tx : ByteArray), w5.cell? ⟨g, k * 3, none⟩ = some (.int .i64 kd) ∧ w5.cell? ⟨g, k * 3 + 1, none⟩ = some (.string tx) ∧ w5.cell? ⟨g2, k * 3, none⟩ = some (.int .i64 kd) ∧ w5.cell? ⟨g2, k * 3 + 1, none⟩ = some (.string tx)) := by
          intro k hk
          have hk' : k < ts'.length := by omega
          obtain ⟨a1, a2⟩ := hcell2.out k hk
          obtain ⟨b1, b2, _⟩ := hcell5 k hk'
          have hke : keyT ts'[k] = keyT ts[k] := by
            have h1 : (ts'.map keyT)[k]? = (ts.map keyT)[k]? := by rw [hsame.out]
            rw [List.getElem?_map, List.getElem?_map, List.getElem?_eq_getElem hk, List.getElem?_eq_getElem hk'] at h1
            exact Option.some.inj h1
          obtain ⟨e1, e2⟩ := Prod.mk.inj hke
          rw [e1] at b1
          rw [e2] at b2
          exact ⟨_, _, (hb5.cell (by exact hg2)).trans a1, (hb5.cell (by exact hg2)).trans a2, b1, b2⟩
        clear hout hcell5 hcell2 hsame
        go_upto_region 16 with fail
        go_loopw [12] (fun vi wq => ∃ k n : Nat, vi = .int .i64 k ∧ k ≤ ts.length ∧ wq = w5.drewN n) (fun vi _ => ts.length - (intOf vi).toNat)
        case atStart => exact ⟨0, 0, rfl, Nat.zero_le _, rfl⟩
        case round =>
          obtain ⟨k, n, rfl, hk, rfl⟩ := hrel
          by_cases hlt : k < ts.length
          · have d3 : decide ((k : Int) < ts.length) = true := decide_eq_true (by omega)
            obtain ⟨kd, tx, c1, c2, c3, c4⟩ := hcm.out k hlt
            have hw1 : IntKind.i64.wrap ((k : Int) + 1) = ((k + 1 : Nat) : Int) := by rw [IntKind.wrap_i64]; omega
            go_upto_region 18 with fail
            go_quiet (fail)
            go_wp2
            go_roundw
            case rel => exact ⟨k + 1, n + nq, by go_num, by omega, by simp⟩
            case measure => simp [intOf]; omega
          · obtain rfl : k = ts.length := by omega
            have d3 : decide ((ts.length : Int) < ts.length) = false := decide_eq_false (by omega)
            have hB6 : Below w.heap.size w (w5.drewN n) := hB5.trans ⟨rfl, rfl, rfl, Nat.le_refl _, fun _ _ => rfl⟩
            go_wp2
            go_ret
            exact ⟨rfl, hB6⟩
end Go.Proofs.YtffggadmpdmbdaaDoor
