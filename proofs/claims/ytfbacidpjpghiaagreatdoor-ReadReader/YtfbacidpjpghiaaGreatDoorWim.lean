/- The reader: the law. -/
import Derived.Test.YtfbacidpjpghiaaGreatDoorWgm
import Derived.Test.YtfbacidpjpghiaaGreatDoorWam
import Derived.Test.YtfbacidpjpghiaaGreatDoorVg
namespace Go.Proofs.YtfbacidpjpghiaaGreatDoor
open Go.RowKit
attribute [local go_sem ↓] Go.wp_at_zero Go.wp_at_succ
theorem refScan_all (w : World) (a : Option Addr) (cap : Nat) (zs : List Int) (h : Row w .u8 256 a cap zs) (hl : zs.length < 1000000) (res : Res) (hM : scanM (byteL zs) = some res) : Calls Tryz.prog 14 #[.slice a zs.length cap] w fun e w' => ScanOut w w' e res ∧ Below w.heap.size w w' := by
  have hbl : (byteL zs).length = zs.length := by unfold byteL; simp
  by_cases hz : zs = []
  · subst hz
    have : res = .good [⟨0, ba [], 0⟩] := (Option.some.inj hM).symm
    subst this
    exact refScan_nil w a cap
  · have hp : 0 < zs.length := List.length_pos_iff.2 hz
    cases a with
    | none => have := h.nil rfl; have := h.le; omega
    | some x =>
      have hc := h.cell x rfl 0 hp
      have hx : x.block < w.heap.size := by
        have := cell_lt hc
        rw [add_block] at this
        exact this
      have := refScan_any w x cap (byteL zs) (row_bytes w x cap zs h) hx (by rw [hbl]; exact h.le) (by rw [hbl]; exact hl) res hM
      rw [hbl] at this
      exact this
/-- What the document's tokens are. -/
def ScannedOut (w w' : World) (e : Ending) : Res → Prop
  | .bad _ => ∃ v, e = .returned (.tuple #[v, .bool false])
  | .good ts => ∃ g c, e = .returned (.tuple #[.slice (some ⟨g, 0, none⟩) ts.length c, .bool true]) ∧ g < w'.heap.size ∧ w.heap.size ≤ g ∧ TokAt w' g ts
set_option maxRecDepth 100000 in
set_option maxHeartbeats 8000000 in
theorem scanned_any (w : World) (a : Option Addr) (cap : Nat) (zs : List Int) (h : Row w .u8 256 a cap zs) (hl : zs.length < 1000000) (res : Res) (hM : scanM (byteL zs) = some res) (h0 : ∀ ts, res = .good ts → 0 < ts.length) : Calls Tryz.prog 7 #[.slice a zs.length cap] w fun e w' => ScannedOut w w' e res ∧ Below w.heap.size w w' := by
  have kS : Hid _ := refScan_all w a cap zs h hl res hM
  clear h hM
  go_enter Tryz.func7, Tryz.ntmps7
  go_wp2_with fail
  refine Calls.mono kS.out ?_
  rintro e w1 ⟨hout, hb1⟩
  clear kS
  cases res with
  | bad p =>
    obtain rfl := hout
    go_wp2
    exact bodyPost_ret (v := .tuple #[.slice none 0 0, .bool false]) (by simp [results, Tryz.results7, go_sem]) rfl ⟨⟨_, rfl⟩, hb1⟩
  | good ts =>
    have hp := h0 ts rfl
    obtain ⟨al, ll, cl, he, hO⟩ := id hout
    obtain ⟨g, cap, rfl, hg, hcell⟩ := hout.goodForm hp
    obtain ⟨g3, c3, e3, hg3, _⟩ := hO.form hp
    have hgg : w.heap.size ≤ g := by
      cases e3
      simp only [Ending.returned.injEq, Value.tuple.injEq] at he
      cases he
      exact hg3
    clear hO he hout
    go_wp2
    exact bodyPost_ret (v := .tuple #[.slice (some ⟨g, 0, none⟩) ts.length cap, .bool true]) (by simp [results, Tryz.results7, go_sem]) rfl ⟨⟨_, _, rfl, hg, hgg, hcell⟩, hb1⟩
end Go.Proofs.YtfbacidpjpghiaaGreatDoor
namespace Go.Proofs.YtfbacidpjpghiaaGreatDoor
open Go.RowKit
attribute [local go_sem ↓] Go.wp_at_zero Go.wp_at_succ
/-- what the loop holds -/
structure Lp (w : World) (b g c g2 c2 p : Nat) (ts : List Tok) (wr : World) : Prop where
  rd : RdAt wr b g ts.length c p
  t1 : TokAt wr g ts
  t2 : TokAt wr g2 ts
  bel : Below w.heap.size w wr
  lo : w.heap.size ≤ b
  n1 : g ≠ b
  n2 : g2 ≠ b
theorem Lp.next {w : World} {b g c g2 c2 p q : Nat} {ts : List Tok} {wr w' : World} (h : Lp w b g c g2 c2 p ts wr) (hs : Sp b wr w') (h0 : 0 < ts.length) (hr : RdAt w' b g ts.length c q) : Lp w b g c g2 c2 q ts w' :=
  ⟨hr, h.t1.next (hs.block g (h.t1.lt h0) h.n1), h.t2.next (hs.block g2 (h.t2.lt h0) h.n2), ⟨hs.os.trans h.bel.os, hs.tape.trans h.bel.tape, hs.output.trans h.bel.output, Nat.le_trans h.bel.size hs.size, fun k hk => (hs.block k (Nat.lt_of_lt_of_le hk h.bel.size) (by have := h.lo; omega)).trans (h.bel.block k hk)⟩, h.lo, h.n1, h.n2⟩
theorem two_toks {w V : World} {kd ta : Int} {tx : ByteArray} (hV : V = (w.alloc (.cells #[.int .i64 kd, .string tx, .int .i64 ta] 32)).alloc (.cells #[.int .i64 kd, .string tx, .int .i64 ta] 32)) :
    V.cell? ⟨w.heap.size, 0, none⟩ = some (.int .i64 kd) ∧ V.cell? ⟨w.heap.size, 1, none⟩ = some (.string tx) ∧ V.cell? ⟨w.heap.size, 2, none⟩ = some (.int .i64 ta) ∧ V.cell? ⟨w.heap.size + 1, 0, none⟩ = some (.int .i64 kd) ∧ V.cell? ⟨w.heap.size + 1, 1, none⟩ = some (.string tx) ∧ V.cell? ⟨w.heap.size + 1, 2, none⟩ = some (.int .i64 ta) ∧ Below w.heap.size w V := by
  have h1 : (w.alloc (.cells #[.int .i64 kd, .string tx, .int .i64 ta] 32)).heap.size = w.heap.size + 1 := by simp
  have n1 : V.heap[w.heap.size + 1]? = some (.cells #[.int .i64 kd, .string tx, .int .i64 ta] 32 (0, 0)) := by rw [hV, ← h1]; exact new_at _ _
  have n0 : V.heap[w.heap.size]? = some (.cells #[.int .i64 kd, .string tx, .int .i64 ta] 32 (0, 0)) := by rw [hV, Below.heap_alloc _ _ _ (by omega)]; exact new_at _ _
  refine ⟨by simp [World.cell?, n0], by simp [World.cell?, n0], by simp [World.cell?, n0], by simp [World.cell?, n1], by simp [World.cell?, n1], by simp [World.cell?, n1], ?_⟩
  rw [hV]
  exact ((Below.refl _ _).alloc (Nat.le_refl _) _).alloc (by omega) _
set_option maxRecDepth 100000 in
set_option maxHeartbeats 8000000 in
theorem readReader_any (a : Option Addr) (cap : Nat) (zs : List Int) (kk : Int) (w : World) (hRow : Row w .u8 256 a cap zs) (hG : Glob w) (hB7 : 7 < w.heap.size) : Calls Tryz.prog 3 #[.slice a zs.length cap, .int .i64 kk] w fun e w' => e = .returned (.bool true) ∧ Below w.heap.size w w' := by
  have kB : Hid _ := begun_any w hB7
  have hys : (zs.take 300).length ≤ 300 := by rw [List.length_take]; omega
  have hRy : Hid (Row w .u8 256 a cap (zs.take 300)) := ⟨by have := hRow.le; rw [List.length_take]; omega, hRow.max, hRow.nil, fun x hx i hi => by rw [List.length_take] at hi; rw [hRow.cell x hx i (by omega), List.getElem?_take_of_lt (by omega)], fun z hz => hRow.words z (List.mem_of_mem_take hz)⟩
  have kS : Hid (∀ w1, Below w.heap.size w w1 → Calls Tryz.prog 5 #[.slice a zs.length cap, .int .i64 300] w1 fun e w' => e = .returned (.slice a (zs.take 300).length cap) ∧ w' = w1) := fun w1 hb => Short_any a cap zs 300 w1 (hRow.next hb) (by decide)
  clear hRow
  generalize zs.take 300 = ys at *
  obtain ⟨res, hres⟩ := scan_some (byteL ys)
  have hbl : (byteL ys).length = ys.length := by unfold byteL; simp
  have hgd : ∀ ts, res = .good ts → 0 < ts.length ∧ ts.length < 100000 := fun ts e => by
    subst e
    obtain ⟨h0, _⟩ := again_scan _ _ hres
    obtain ⟨hn1, _⟩ := scan_size _ _ _ _ _ (Nat.zero_le _) (Nat.zero_le _) (fun t ht => by cases ht) hres
    exact ⟨h0, by omega⟩
  go_enter Tryz.func3, Tryz.ntmps3
  go_wp2_with fail
  refine Calls.mono kB.out ?_
  rintro e w1 ⟨rfl, hb1⟩
  clear kB
  have hconv := row_conv w1 a cap ys (hRy.out.next hb1)
  have hB3 : 3 < w1.heap.size := by have := hb1.size; omega
  have kN : Hid _ := New_any w1 (ba (byteL ys)) _ hconv (hG.next hb1) hB3 (by rw [ba_size', hbl]; omega) res (by rw [ba_toList]; exact hres) hgd
  have kS1 : Hid _ := kS.out w1 hb1
  clear kS hconv
  go_wp2_with fail
  refine Calls.mono kS1.out ?_
  rintro e w2 ⟨rfl, rfl⟩
  clear kS1
  go_wp2_with fail
  refine Calls.mono kN.out ?_
  rintro e w3 ⟨hout, hb3⟩
  clear kN
  have hBB : Below w.heap.size w w3 := hb1.trans (hb3.mono hb1.size)
  have kR : Hid _ := scanned_any w3 a cap ys (hRy.out.next hBB) (by omega) res hres (fun ts e => (hgd ts e).1)
  cases res with
  | bad p =>
    obtain rfl := hout
    clear hres hgd
    go_wp2_with fail
    refine Calls.mono kR.out ?_
    rintro e w4 ⟨⟨v, hout2⟩, hb4⟩
    clear kR
    obtain rfl := hout2
    have hB4 : Below w.heap.size w w4 := hBB.trans (hb4.mono hBB.size)
    go_wp2_with fail
    go_loopw [10] (fun v10 wr => v10 = .int .i64 0 ∧ wr = w4) (fun _ _ => 0)
    case atStart => exact ⟨rfl, rfl⟩
    case round =>
      obtain ⟨rfl, rfl⟩ := hrel
      go_wp2
      all_goals
        go_ret
        exact ⟨rfl, hB4⟩
  | good ts =>
    obtain ⟨h0, hl⟩ := hgd ts rfl
    obtain ⟨l, pe, hts, hk0⟩ := scan_kind _ _ _ _ _ (fun t ht => by cases ht) hres
    have hkind : Hid (∀ (k : Nat) (hk : k < ts.length), ts[k].kind = 0 ↔ k = ts.length - 1) := by
      subst hts
      intro k hk
      rw [kind_mid hk0 k hk]
      simp
    clear hts hk0 l pe hres hgd
    obtain ⟨b, g, c, rfl, hR, hT, hg, hgb, hlo⟩ := hout
    go_wp2_with fail
    refine Calls.mono kR.out ?_
    rintro e w4 ⟨⟨g2, c2, rfl, hg2, hlo2, hT2⟩, hb4⟩
    clear kR
    have hB4 : Below w.heap.size w w4 := hBB.trans (hb4.mono hBB.size)
    have hbl : b < w3.heap.size := hR.cells.2.2
    have hL : Hid (Lp w b g c g2 c2 0 ts w4) := ⟨hR.same (hb4.block b hbl), hT.next (hb4.block g hg), hT2, hB4, Nat.le_trans hb1.size hlo, hgb, by omega⟩
    clear hR hT hT2 hB4 hBB
    clear hg hlo2 hg2 hbl hb4 hb3 hlo hB3 hb1
    go_wp2_with fail
    go_loopw [10] (fun v10 wr => ∃ i : Nat, v10 = .int .i64 i ∧ i ≤ 100 ∧ Hid (Lp w b g c g2 c2 (min i (ts.length - 1)) ts wr)) (fun v10 _ => 100 - (intOf v10).toNat)
    case atStart => exact ⟨0, rfl, by omega, by rw [Nat.zero_min]; exact hL⟩
    case round =>
      obtain ⟨i, rfl, hi, hL⟩ := hrel
      by_cases hc : (i : Int) < kk
      · by_cases hc2 : i < 100
        · have dc : decide ((i : Int) < kk) = true := decide_eq_true hc
          have dc2 : decide ((i : Int) < 100) = true := decide_eq_true (by omega)
          obtain ⟨p, hp⟩ : ∃ p, p = min i (ts.length - 1) := ⟨_, rfl⟩
          rw [← hp] at hL
          have hpl : p < ts.length := by omega
          have kP : Hid _ := Peek_any wr b g c p ts hL.out.rd hL.out.t1 hpl hl
          have kN : Hid (∀ w5, Below wr.heap.size wr w5 → Calls Tryz.prog 9 #[.pointer (some ⟨b, 0, none⟩)] w5 fun e w' => e = .returned ts[p].val ∧ RdAt w' b g ts.length c (if ts[p].kind = 0 then p else p + 1) ∧ Sp b w5 w') := fun w5 h5 =>
            Next_any w5 b g c p ts (hL.out.rd.same (h5.block b hL.out.rd.cells.2.2)) (hL.out.t1.next (h5.block g (hL.out.t1.lt h0))) hgb hpl hl
          have hnx : (if ts[p].kind = 0 then p else p + 1) = min (i + 1) (ts.length - 1) := by
            split
            · rename_i h9; have := (hkind.out p hpl).1 h9; omega
            · rename_i h9; have := mt (hkind.out p hpl).2 h9; omega
          rw [hnx] at kN
          have hw1 : IntKind.i64.wrap ((i : Int) + 1) = ((i + 1 : Nat) : Int) := by rw [IntKind.wrap_i64]; omega
          have hw2 : IntKind.i64.wrap ((ts.length : Int) - 1) = (ts.length : Int) - 1 := by rw [IntKind.wrap_i64]; omega
          have hT2 : ∀ w7, Sp b wr w7 → w7.cell? ⟨g2, p * 3, none⟩ = some (.int .i64 ts[p].kind) ∧ w7.cell? ⟨g2, p * 3 + 1, none⟩ = some (.string ts[p].text) ∧ w7.cell? ⟨g2, p * 3 + 2, none⟩ = some (.int .i64 ts[p].at') := fun w7 h7 => hL.out.t2.next (h7.block g2 (hL.out.t2.lt h0) hL.out.n2) p hpl
          have hT2h : Hid _ := hT2
          clear hT2
          unfold Tok.val at kP kN
          generalize ts[p].kind = kd at *
          generalize ts[p].text = tx at *
          generalize ts[p].at' = ta at *
          have hLn : Hid (∀ w7, Sp b wr w7 → RdAt w7 b g ts.length c (min (i + 1) (ts.length - 1)) → Lp w b g c g2 c2 (min (i + 1) (ts.length - 1)) ts w7) := fun w7 h7 hr => hL.out.next h7 h0 hr
          by_cases hin : i < ts.length
          · have dn : decide ((ts.length : Int) ≤ (i : Int)) = false := decide_eq_false (by omega)
            obtain rfl : p = i := by omega
            clear hp
            go_wp2_with fail
            refine Calls.mono kP.out ?_
            rintro e w5 ⟨rfl, hb5⟩
            have kN1 : Hid _ := kN.out w5 hb5
            clear kP kN
            go_wp2_with fail
            refine Calls.mono kN1.out ?_
            rintro e w6 ⟨rfl, hr6, hs6⟩
            clear kN1
            obtain ⟨V, hV⟩ : ∃ V, V = (w6.alloc (.cells #[.int .i64 kd, .string tx, .int .i64 ta] 32)).alloc (.cells #[.int .i64 kd, .string tx, .int .i64 ta] 32) := ⟨_, rfl⟩
            obtain ⟨v0, v1, v2, v3, v4, v5, hbV⟩ := two_toks hV
            have hsV : Sp b wr V := ((Sp.of hb5).trans hs6).below hbV
            obtain ⟨q0, q1, q2⟩ := hT2h.out V hsV
            have hbs := hr6.cells.2.2
            have hL2 : Hid (∀ n, Lp w b g c g2 c2 (min (p + 1) (ts.length - 1)) ts (V.drewN n)) := fun n => hLn.out _ (hsV.below ⟨rfl, rfl, rfl, Nat.le_refl _, fun _ _ => rfl⟩) ((hr6.same (hbV.block b hbs)).same rfl)
            clear hT2h hLn hL
            go_upto_region 14 with fail
            rw [← hV]
            clear hV hbV hsV hr6 hs6
            go_quiet (fail)
            go_wp2
            go_roundw
            case rel => exact ⟨p + 1, by go_num, by omega, hL2.out _⟩
            case measure => simp [intOf]; omega
          · have dn : decide ((ts.length : Int) ≤ (i : Int)) = true := decide_eq_true (by omega)
            have hw3 : IntKind.i64.wrap ((ts.length : Int) - 1) = (p : Int) := by rw [IntKind.wrap_i64]; omega
            have hpt : (p : Int) < ts.length := by omega
            have hm2 : min (i + 1) (ts.length - 1) = p := by omega
            clear hp hw2
            rw [hm2] at kN hLn
            go_wp2_with fail
            refine Calls.mono kP.out ?_
            rintro e w5 ⟨rfl, hb5⟩
            have kN1 : Hid _ := kN.out w5 hb5
            clear kP kN
            go_wp2_with fail
            refine Calls.mono kN1.out ?_
            rintro e w6 ⟨rfl, hr6, hs6⟩
            clear kN1
            obtain ⟨V, hV⟩ : ∃ V, V = (w6.alloc (.cells #[.int .i64 kd, .string tx, .int .i64 ta] 32)).alloc (.cells #[.int .i64 kd, .string tx, .int .i64 ta] 32) := ⟨_, rfl⟩
            obtain ⟨v0, v1, v2, v3, v4, v5, hbV⟩ := two_toks hV
            have hsV : Sp b wr V := ((Sp.of hb5).trans hs6).below hbV
            obtain ⟨q0, q1, q2⟩ := hT2h.out V hsV
            have hbs := hr6.cells.2.2
            have hL2 : Hid (∀ n, Lp w b g c g2 c2 p ts (V.drewN n)) := fun n => hLn.out _ (hsV.below ⟨rfl, rfl, rfl, Nat.le_refl _, fun _ _ => rfl⟩) ((hr6.same (hbV.block b hbs)).same rfl)
            clear hT2h hLn hL
            go_upto_region 14 with fail
            rw [← hV]
            clear hV hbV hsV hr6 hs6
            go_quiet (fail)
            go_wp2
            go_roundw
            case rel => exact ⟨i + 1, by go_num, by omega, by rw [hm2]; exact hL2.out _⟩
            case measure => simp [intOf]; omega
        · have dc : decide ((i : Int) < kk) = true := decide_eq_true hc
          have dc2 : decide ((i : Int) < 100) = false := decide_eq_false (by omega)
          go_wp2
          go_ret
          exact ⟨rfl, hL.out.bel⟩
      · have dc : decide ((i : Int) < kk) = false := decide_eq_false hc
        go_wp2
        go_ret
        exact ⟨rfl, hL.out.bel⟩
end Go.Proofs.YtfbacidpjpghiaaGreatDoor
