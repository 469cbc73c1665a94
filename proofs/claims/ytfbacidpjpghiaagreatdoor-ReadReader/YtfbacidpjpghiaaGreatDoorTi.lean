/- scan, the second road: text. -/
import Derived.Test.YtfbacidpjpghiaaGreatDoorTh
namespace Go.Proofs.YtfbacidpjpghiaaGreatDoor
open Go.RowKit
attribute [local go_sem ↓] Go.wp_at_zero Go.wp_at_succ
theorem row_news (w : World) (t : List UInt8) : ∀ j u, (Lib.byteCells t)[j]? = some u → (w.alloc (.cells (Lib.byteCells t).toArray 5)).cell? ((⟨w.heap.size, 0, none⟩ : Addr).add j) = some u := by
  intro j u hj
  rw [addr_add]
  have hh : (w.alloc (.cells (Lib.byteCells t).toArray 5)).heap[w.heap.size]? = some (.cells (Lib.byteCells t).toArray 5) := by
    show (w.heap.push _)[w.heap.size]? = _
    simp
  unfold World.cell?
  rw [hh]
  simp
  simpa using hj
theorem byte_cells (t : List UInt8) : ∀ u ∈ Lib.byteCells t, u.oneCell' = true := by
  intro u hu
  unfold Lib.byteCells at hu
  obtain ⟨b, _, rfl⟩ := List.mem_map.1 hu
  rfl
set_option maxRecDepth 100000 in
set_option maxHeartbeats 16000000 in
theorem text_any (w : World) (ad : Addr) (cap i : Nat) (l : List UInt8) (hB : BytesAt w ad l) (hg : ad.block < w.heap.size) (hcap : l.length ≤ cap) (hi : i < l.length) (hl : l.length < 1000000) (q : Nat) (hq : q = (l.getD i 0).toNat) (hq2 : q = 34 ∨ q = 96) (f : Nat) (r : Nat) (out : List UInt8) (hM : txtGo l q i f (i + 1) [] = some (r, out)) :
    Calls Tryz.prog 30 #[.slice (some ad) l.length cap, .int .i64 i] w fun e w' => ∃ v, e = .returned (.tuple #[.int .i64 r, v]) ∧ w'.ownsRow w.heap.size 5 1 v out.length (Lib.byteCells out) ∧ Below w.heap.size w w' := by
  obtain ⟨i0, hi0, hz0, hz1, hz2⟩ := info_parts Tryz.info5'
  have hc := hB i hi
  rw [← hq] at hc
  clear hq
  have hw0 : IntKind.i64.wrap ((i : Int) + 1) = ((i + 1 : Nat) : Int) := by rw [IntKind.wrap_i64]; omega
  replace hB : Hid _ := hB
  replace hM : Hid _ := hM
  go_enter Tryz.func30, Tryz.ntmps30
  go_wp2
  go_loopw [6, 8, 9, 10, 11, 12, 13] (fun vo vk _ _ _ _ _ wr => ∃ (k f : Nat) (acc : List UInt8), vk = .int .i64 k ∧ i + 1 ≤ k ∧ k ≤ l.length ∧ acc.length ≤ k ∧ Hid (txtGo l q i f k acc = some (r, out)) ∧ Hid (wr.ownsRow w.heap.size 5 1 vo acc.length (Lib.byteCells acc)) ∧ Hid (Below w.heap.size w wr)) (fun _ vk _ _ _ _ _ _ => l.length - (intOf vk).toNat)
  case atStart => exact ⟨i + 1, f, [], rfl, Nat.le_refl _, hi, Nat.zero_le _, hM.out, World.ownsRow_nil _ _ _ _, Below.refl _ _⟩
  case round =>
    obtain ⟨k, f, acc, rfl, hik, hk, hacc, hI, hO, hb⟩ := hrel
    clear hM hc
    cases f with
    | zero => exact absurd hI.out (by unfold txtGo; simp)
    | succ f =>
      have hI' := hI.out
      unfold txtGo at hI'
      by_cases hlt : k < l.length
      · have d1 : decide ((k : Int) < l.length) = true := decide_eq_true (by omega)
        rw [if_pos hlt, byteAt_get l k hlt] at hI'
        have hBr : Hid (BytesAt wr ad l) := BytesAt.next hB.out hb.out hg
        have hc := hBr.out k hlt
        have hc256 : (l.getD k 0).toNat < 256 := UInt8.toNat_lt _
        clear hI
        by_cases cq : (l.getD k 0).toNat = q
        · rw [if_pos (by omega)] at hI'
          obtain ⟨hr1, hr2⟩ := Prod.mk.inj (Option.some.inj hI')
          subst hr2
          rw [cq] at hc
          have hw2 : IntKind.i64.wrap ((k : Int) + 1) = (k : Int) + 1 := by rw [IntKind.wrap_i64]; omega
          have hw3 : IntKind.i64.wrap ((k : Int) + 1 - i) = ((k + 1 - i : Nat) : Int) := by rw [IntKind.wrap_i64]; omega
          rw [hr1] at hw3
          clear hI' hBr hr1
          go_wp2
          exact bodyPost_ret (v := .tuple #[.int .i64 r, u6]) (by simp [results, Tryz.results30, go_sem]) rfl ⟨_, rfl, hO.out, hb.out⟩
        · have cqi : ¬ (((l.getD k 0).toNat : Int) = (q : Int)) := fun h => cq (Int.ofNat.inj h)
          rw [if_neg cqi] at hI'
          obtain ⟨t, n, hp⟩ := pieceM_some (l.drop k) (q : Int)
          rw [hp] at hI'
          have harm := piece_arms l k hlt q t n hq2 hp
          have ku : Hid _ := utf_any wr ad cap k l hBr.out hlt (by omega)
          have hcq : (((l.getD k 0).toNat : Int) == (q : Int)) = false := by rw [beq_eq_false_iff_ne]; exact cqi
          clear cqi
          clear hp
          generalize hC : (l.getD k 0).toNat = C at *
          rcases harm with ⟨rfl, rfl, rfl, rfl⟩ | ⟨rfl, rfl, he⟩ | ⟨rfl, rfl, rfl, rfl, hu⟩ | ⟨h34, h96, hu, ht, hn⟩
          · obtain ⟨rfl, rfl⟩ := Prod.mk.inj (Option.some.inj hI')
            clear ku hI' hBr
            go_wp2
            exact bodyPost_ret (v := .tuple #[.int .i64 0, .slice none 0 0]) (by simp [results, Tryz.results30, go_sem]) rfl ⟨_, rfl, World.ownsRow_nil _ _ _ _, hb.out⟩
          · have kat : Hid _ := at_any wr ad cap (k + 1) l hBr.out (by omega) (by omega)
            have hw1 : IntKind.i64.wrap ((k : Int) + 1) = ((k + 1 : Nat) : Int) := by rw [IntKind.wrap_i64]; omega
            unfold escM at he
            rw [List.length_drop, byteAt_drop] at he
            clear ku hC hcq cq
            by_cases hsh : l.length - k < 2
            · rw [if_pos hsh] at he
              obtain ⟨rfl, rfl⟩ := Prod.mk.inj (Option.some.inj he)
              obtain ⟨rfl, rfl⟩ := Prod.mk.inj (Option.some.inj hI')
              have h0 : (l.getD (k + 1) 0).toNat = 0 := by
                rw [List.getD_eq_getElem?_getD, List.getElem?_eq_none (by omega)]; rfl
              rw [h0] at kat
              clear he hI' h0 hBr
              go_wp2_with fail
              refine Calls.mono kat.out ?_
              rintro e w2 ⟨rfl, rfl⟩
              clear kat
              go_wp2
              exact bodyPost_ret (v := .tuple #[.int .i64 0, .slice none 0 0]) (by simp [results, Tryz.results30, go_sem]) rfl ⟨_, rfl, World.ownsRow_nil _ _ _ _, hb.out⟩
            · have hk1 : k + 1 < l.length := by omega
              rw [if_neg hsh, byteAt_get l (k + 1) hk1] at he
              have hc1 := hBr.out (k + 1) hk1
              have hc1' := hc1
              rw [add_succ] at hc1'
              have htk := take2_drop1 l k hk1
              rw [htk] at he
              have hE256 : (l.getD (k + 1) 0).toNat < 256 := UInt8.toNat_lt _
              generalize l.getD (k + 1) 0 = Eb at *
              generalize hE : Eb.toNat = E at *
              clear htk
              by_cases c92 : E = 92
              · subst c92
                rw [if_pos (.inl rfl)] at he
                obtain ⟨ht, rfl⟩ := Prod.mk.inj (Option.some.inj he)
                have htb : Hid (t = [Eb]) := ht.symm
                have hxb : Hid (Eb.toNat = 92) := hE
                have hI2 : Hid (txtGo l ((34 : Nat) : Int) i f (k + 2) (acc ++ t) = some (r, out)) := hI'
                clear he ht hI' hBr hE
                have hO1 : Hid ((wr.alloc (.cells #[.int .u8 92] 5)).ownsRow w.heap.size 5 1 u6 acc.length (Lib.byteCells acc)) := hO.out.alloc _
                have hvlt : Hid _ := hO.out.lt
                have hbs := hb.out.size
                have hw2 : IntKind.i64.wrap ((k : Int) + 2) = ((k + 2 : Nat) : Int) := by rw [IntKind.wrap_i64]; omega
                go_wp2_with fail
                refine Calls.mono kat.out ?_
                rintro e w2 ⟨rfl, rfl⟩
                clear kat
                go_wp2_with (at_builtin; refine wpList_append_lies _ (by rfl) (.tmp 55) (.tmp 61) 22 (by rfl) w.heap.size 5 i0 _ 1 1 Tryz.underlying22 hi0 hz0 hz1 hz2 (by rfl) (by decide) u6 acc.length (Lib.byteCells acc) (by rfl) hO1.out ⟨w2.heap.size, 0, none⟩ 1 1 [.int .u8 92] (by rfl) (by rfl) (one_news w2 92) (one_cell 92) (by decide) (by unfold maxLen; omega) (by omega) (by simp; omega) (w2.heap.size + 1) (by simp) ?_)
                intro g' cap' w4 hO4 hg4 hat hlt4
                have hO5 : Hid (w4.ownsRow w.heap.size 5 1 (.slice (some ⟨g', 0, none⟩) (acc.length + 1) cap') (acc ++ t).length (Lib.byteCells (acc ++ t))) := by
                  have e1 : (acc ++ t).length = acc.length + 1 := by rw [htb.out]; simp
                  have e2 : Lib.byteCells (acc ++ t) = Lib.byteCells acc ++ [.int .u8 92] := by rw [htb.out]; simp [Lib.byteCells, hxb.out]
                  rw [e1, e2]
                  exact hO4
                have hb5 : Hid (Below w.heap.size w w4) := (hb.out.alloc hbs _).grown hg4 (by simp; omega) (fun b hb => (hvlt.out b hb).1)
                have hal : (acc ++ t).length ≤ k + 2 := by rw [htb.out]; simp; omega
                clear hO4 hg4 hat hlt4 hvlt hO1
                go_wp2
                refine ⟨⟨_, _, _, _, _, _, _, _, _, _, _, _, _, _, _, _, _, _, _, _, _, _, _, _, _, _, _, _, _, _, _, _, _, _, _, _, _, _, _, _, _, _, _, _, _, _, _, _, _, _, _, _, _, _, _, _, _, _, _, _, _, _, _, _, _, _, _, _, _, _, _, _, _, _, _, _, _, _, _, _, _, _, _, _, _, _, _, _, _, _, _, _, _, _, _, _, _, _, _, _, _, _, _, _, _, _, _, _, _, _, _, _, _, _, _, _, _, _, _, _, _, _, _, _, _, _, _, _, _, _, _, _, _, _, _, _, _, _, _, _, _, _, ?rel, rfl⟩, ?measure⟩
                case rel => exact ⟨k + 2, f, acc ++ t, by go_num, by omega, by omega, hal, hI2, hO5, hb5⟩
                case measure => simp [intOf]; omega
              · by_cases c34 : E = 34
                · subst c34
                  rw [if_pos (.inr rfl)] at he
                  obtain ⟨ht, rfl⟩ := Prod.mk.inj (Option.some.inj he)
                  have htb : Hid (t = [Eb]) := ht.symm
                  have hxb : Hid ((Eb : UInt8).toNat = 34) := hE
                  have hI2 : Hid (txtGo l ((34 : Nat) : Int) i f (k + 2) (acc ++ t) = some (r, out)) := hI'
                  clear he ht hI' hBr hE
                  have hO1 : Hid ((wr.alloc (.cells #[.int .u8 34] 5)).ownsRow w.heap.size 5 1 u6 acc.length (Lib.byteCells acc)) := hO.out.alloc _
                  have hvlt : Hid _ := hO.out.lt
                  have hbs := hb.out.size
                  have hw2 : IntKind.i64.wrap ((k : Int) + 2) = ((k + 2 : Nat) : Int) := by rw [IntKind.wrap_i64]; omega
                  go_wp2_with fail
                  refine Calls.mono kat.out ?_
                  rintro e w2 ⟨rfl, rfl⟩
                  clear kat
                  go_wp2_with (at_builtin; refine wpList_append_lies _ (by rfl) (.tmp 55) (.tmp 61) 22 (by rfl) w.heap.size 5 i0 _ 1 1 Tryz.underlying22 hi0 hz0 hz1 hz2 (by rfl) (by decide) u6 acc.length (Lib.byteCells acc) (by rfl) hO1.out ⟨w2.heap.size, 0, none⟩ 1 1 [.int .u8 34] (by rfl) (by rfl) (one_news w2 34) (one_cell 34) (by decide) (by unfold maxLen; omega) (by omega) (by simp; omega) (w2.heap.size + 1) (by simp) ?_)
                  intro g' cap' w4 hO4 hg4 hat hlt4
                  have hO5 : Hid (w4.ownsRow w.heap.size 5 1 (.slice (some ⟨g', 0, none⟩) (acc.length + 1) cap') (acc ++ t).length (Lib.byteCells (acc ++ t))) := by
                    have e1 : (acc ++ t).length = acc.length + 1 := by rw [htb.out]; simp
                    have e2 : Lib.byteCells (acc ++ t) = Lib.byteCells acc ++ [.int .u8 34] := by rw [htb.out]; simp [Lib.byteCells, hxb.out]
                    rw [e1, e2]
                    exact hO4
                  have hb5 : Hid (Below w.heap.size w w4) := (hb.out.alloc hbs _).grown hg4 (by simp; omega) (fun b hb => (hvlt.out b hb).1)
                  have hal : (acc ++ t).length ≤ k + 2 := by rw [htb.out]; simp; omega
                  clear hO4 hg4 hat hlt4 hvlt hO1
                  go_wp2
                  refine ⟨⟨_, _, _, _, _, _, _, _, _, _, _, _, _, _, _, _, _, _, _, _, _, _, _, _, _, _, _, _, _, _, _, _, _, _, _, _, _, _, _, _, _, _, _, _, _, _, _, _, _, _, _, _, _, _, _, _, _, _, _, _, _, _, _, _, _, _, _, _, _, _, _, _, _, _, _, _, _, _, _, _, _, _, _, _, _, _, _, _, _, _, _, _, _, _, _, _, _, _, _, _, _, _, _, _, _, _, _, _, _, _, _, _, _, _, _, _, _, _, _, _, _, _, _, _, _, _, _, _, _, _, _, _, _, _, _, _, _, _, _, _, _, _, ?rel, rfl⟩, ?measure⟩
                  case rel => exact ⟨k + 2, f, acc ++ t, by go_num, by omega, by omega, hal, hI2, hO5, hb5⟩
                  case measure => simp [intOf]; omega
                · by_cases c110 : E = 110
                  · subst c110
                    rw [if_neg (by omega), if_pos (show ((110 : Nat) : Int) = 110 from rfl)] at he
                    obtain ⟨ht, rfl⟩ := Prod.mk.inj (Option.some.inj he)
                    have htb : Hid (t = [10]) := ht.symm
                    have hxb : Hid ((10 : UInt8).toNat = 10) := rfl
                    have hI2 : Hid (txtGo l ((34 : Nat) : Int) i f (k + 2) (acc ++ t) = some (r, out)) := hI'
                    clear he ht hI' hBr hE
                    have hO1 : Hid ((wr.alloc (.cells #[.int .u8 10] 5)).ownsRow w.heap.size 5 1 u6 acc.length (Lib.byteCells acc)) := hO.out.alloc _
                    have hvlt : Hid _ := hO.out.lt
                    have hbs := hb.out.size
                    have hw2 : IntKind.i64.wrap ((k : Int) + 2) = ((k + 2 : Nat) : Int) := by rw [IntKind.wrap_i64]; omega
                    go_wp2_with fail
                    refine Calls.mono kat.out ?_
                    rintro e w2 ⟨rfl, rfl⟩
                    clear kat
                    go_wp2_with (at_builtin; refine wpList_append_lies _ (by rfl) (.tmp 67) (.tmp 68) 22 (by rfl) w.heap.size 5 i0 _ 1 1 Tryz.underlying22 hi0 hz0 hz1 hz2 (by rfl) (by decide) u6 acc.length (Lib.byteCells acc) (by rfl) hO1.out ⟨w2.heap.size, 0, none⟩ 1 1 [.int .u8 10] (by rfl) (by rfl) (one_news w2 10) (one_cell 10) (by decide) (by unfold maxLen; omega) (by omega) (by simp; omega) (w2.heap.size + 1) (by simp) ?_)
                    intro g' cap' w4 hO4 hg4 hat hlt4
                    have hO5 : Hid (w4.ownsRow w.heap.size 5 1 (.slice (some ⟨g', 0, none⟩) (acc.length + 1) cap') (acc ++ t).length (Lib.byteCells (acc ++ t))) := by
                      have e1 : (acc ++ t).length = acc.length + 1 := by rw [htb.out]; simp
                      have e2 : Lib.byteCells (acc ++ t) = Lib.byteCells acc ++ [.int .u8 10] := by rw [htb.out]; simp [Lib.byteCells, hxb.out]
                      rw [e1, e2]
                      exact hO4
                    have hb5 : Hid (Below w.heap.size w w4) := (hb.out.alloc hbs _).grown hg4 (by simp; omega) (fun b hb => (hvlt.out b hb).1)
                    have hal : (acc ++ t).length ≤ k + 2 := by rw [htb.out]; simp; omega
                    clear hO4 hg4 hat hlt4 hvlt hO1
                    go_wp2
                    refine ⟨⟨_, _, _, _, _, _, _, _, _, _, _, _, _, _, _, _, _, _, _, _, _, _, _, _, _, _, _, _, _, _, _, _, _, _, _, _, _, _, _, _, _, _, _, _, _, _, _, _, _, _, _, _, _, _, _, _, _, _, _, _, _, _, _, _, _, _, _, _, _, _, _, _, _, _, _, _, _, _, _, _, _, _, _, _, _, _, _, _, _, _, _, _, _, _, _, _, _, _, _, _, _, _, _, _, _, _, _, _, _, _, _, _, _, _, _, _, _, _, _, _, _, _, _, _, _, _, _, _, _, _, _, _, _, _, _, _, _, _, _, _, _, _, ?rel, rfl⟩, ?measure⟩
                    case rel => exact ⟨k + 2, f, acc ++ t, by go_num, by omega, by omega, hal, hI2, hO5, hb5⟩
                    case measure => simp [intOf]; omega
                  · by_cases c116 : E = 116
                    · subst c116
                      rw [if_neg (by omega), if_neg (by omega), if_pos (show ((116 : Nat) : Int) = 116 from rfl)] at he
                      obtain ⟨ht, rfl⟩ := Prod.mk.inj (Option.some.inj he)
                      have htb : Hid (t = [9]) := ht.symm
                      have hxb : Hid ((9 : UInt8).toNat = 9) := rfl
                      have hI2 : Hid (txtGo l ((34 : Nat) : Int) i f (k + 2) (acc ++ t) = some (r, out)) := hI'
                      clear he ht hI' hBr hE
                      have hO1 : Hid ((wr.alloc (.cells #[.int .u8 9] 5)).ownsRow w.heap.size 5 1 u6 acc.length (Lib.byteCells acc)) := hO.out.alloc _
                      have hvlt : Hid _ := hO.out.lt
                      have hbs := hb.out.size
                      have hw2 : IntKind.i64.wrap ((k : Int) + 2) = ((k + 2 : Nat) : Int) := by rw [IntKind.wrap_i64]; omega
                      go_wp2_with fail
                      refine Calls.mono kat.out ?_
                      rintro e w2 ⟨rfl, rfl⟩
                      clear kat
                      go_wp2_with (at_builtin; refine wpList_append_lies _ (by rfl) (.tmp 74) (.tmp 75) 22 (by rfl) w.heap.size 5 i0 _ 1 1 Tryz.underlying22 hi0 hz0 hz1 hz2 (by rfl) (by decide) u6 acc.length (Lib.byteCells acc) (by rfl) hO1.out ⟨w2.heap.size, 0, none⟩ 1 1 [.int .u8 9] (by rfl) (by rfl) (one_news w2 9) (one_cell 9) (by decide) (by unfold maxLen; omega) (by omega) (by simp; omega) (w2.heap.size + 1) (by simp) ?_)
                      intro g' cap' w4 hO4 hg4 hat hlt4
                      have hO5 : Hid (w4.ownsRow w.heap.size 5 1 (.slice (some ⟨g', 0, none⟩) (acc.length + 1) cap') (acc ++ t).length (Lib.byteCells (acc ++ t))) := by
                        have e1 : (acc ++ t).length = acc.length + 1 := by rw [htb.out]; simp
                        have e2 : Lib.byteCells (acc ++ t) = Lib.byteCells acc ++ [.int .u8 9] := by rw [htb.out]; simp [Lib.byteCells, hxb.out]
                        rw [e1, e2]
                        exact hO4
                      have hb5 : Hid (Below w.heap.size w w4) := (hb.out.alloc hbs _).grown hg4 (by simp; omega) (fun b hb => (hvlt.out b hb).1)
                      have hal : (acc ++ t).length ≤ k + 2 := by rw [htb.out]; simp; omega
                      clear hO4 hg4 hat hlt4 hvlt hO1
                      go_wp2
                      refine ⟨⟨_, _, _, _, _, _, _, _, _, _, _, _, _, _, _, _, _, _, _, _, _, _, _, _, _, _, _, _, _, _, _, _, _, _, _, _, _, _, _, _, _, _, _, _, _, _, _, _, _, _, _, _, _, _, _, _, _, _, _, _, _, _, _, _, _, _, _, _, _, _, _, _, _, _, _, _, _, _, _, _, _, _, _, _, _, _, _, _, _, _, _, _, _, _, _, _, _, _, _, _, _, _, _, _, _, _, _, _, _, _, _, _, _, _, _, _, _, _, _, _, _, _, _, _, _, _, _, _, _, _, _, _, _, _, _, _, _, _, _, _, _, _, ?rel, rfl⟩, ?measure⟩
                      case rel => exact ⟨k + 2, f, acc ++ t, by go_num, by omega, by omega, hal, hI2, hO5, hb5⟩
                      case measure => simp [intOf]; omega
                    · by_cases c120 : E = 120
                      · subst c120
                        rw [if_neg (by omega), if_neg (by omega), if_neg (by omega), if_pos (show ((120 : Nat) : Int) = 120 from rfl)] at he
                        have hx := hexAt_digs l k 2 (by omega)
                        have kd : Hid _ := digits_any wr ad cap (k + 2) 16 l hBr.out (by omega) (by omega)
                        unfold byteM at he
                        have hdl := digsL_le 16 (l.drop (k + 2))
                        rw [List.length_drop] at hdl
                        have hw2 : IntKind.i64.wrap ((k : Int) + 2) = ((k + 2 : Nat) : Int) := by rw [IntKind.wrap_i64]; omega
                        generalize digsL 16 (l.drop (k + 2)) = D at *
                        by_cases hD2 : D < 2
                        · have h4 : hexAt (l.drop k) 4 = none := hx.1 hD2
                          rw [h4] at he
                          obtain ⟨rfl, rfl⟩ := Prod.mk.inj (Option.some.inj he)
                          obtain ⟨rfl, rfl⟩ := Prod.mk.inj (Option.some.inj hI')
                          have dD : decide ((D : Int) < 2) = true := decide_eq_true (by omega)
                          clear he hI' hBr hE hx hdl hD2 h4
                          go_wp2_with fail
                          refine Calls.mono kat.out ?_
                          rintro e w2 ⟨rfl, rfl⟩
                          clear kat
                          go_wp2_with fail
                          refine Calls.mono kd.out ?_
                          rintro e w3 ⟨rfl, rfl⟩
                          clear kd
                          go_wp2
                          exact bodyPost_ret (v := .tuple #[.int .i64 0, .slice none 0 0]) (by simp [results, Tryz.results30, go_sem]) rfl ⟨_, rfl, World.ownsRow_nil _ _ _ _, hb.out⟩
                        · obtain ⟨hkn, h5, V, hV⟩ := hx.2 (by omega)
                          have h4 : hexAt (l.drop k) 4 = some V := h5.trans hV
                          have hVlt : V < 65536 := hexAt_lt _ 4 V h4 (by decide)
                          rw [h4] at he
                          have dD : decide ((D : Int) < 2) = false := decide_eq_false (by omega)
                          have hV0 : Hid (hexGo 0 (((l.drop (k + 2)).drop 0).take (2 - 0)) = some V) := by rw [List.drop_zero]; exact hV
                          replace he : Hid _ := he
                          replace hI' : Hid _ := hI'
                          clear hE hx hdl hD2 h4 h5 hV
                          go_wp2_with fail
                          refine Calls.mono kat.out ?_
                          rintro e w2 ⟨rfl, rfl⟩
                          clear kat
                          go_wp2_with fail
                          refine Calls.mono kd.out ?_
                          rintro e w3 ⟨rfl, rfl⟩
                          clear kd
                          go_wp2
                          go_loop [11, 12] (fun vv vj => ∃ x a : Nat, vv = .int .i64 x ∧ vj = .int .i64 a ∧ a ≤ 2 ∧ x < 16 ^ a ∧ Hid (hexGo x (((l.drop (k + 2)).drop a).take (2 - a)) = some V)) (fun _ vj => 2 - (intOf vj).toNat)
                          case atStart => exact ⟨0, 0, rfl, rfl, Nat.zero_le _, by decide, hV0⟩
                          case round =>
                            clear hV0
                            obtain ⟨x, a, rfl, rfl, ha, hxa, hJ⟩ := hrel
                            by_cases hlt2 : a < 2
                            · have d2 : decide ((a : Int) < 2) = true := decide_eq_true (by omega)
                              obtain ⟨hxx, hJ2⟩ := hexGo_step (l.drop (k + 2)) 2 a x V hlt2 (by rw [List.length_drop]; omega) hJ.out
                              have hgd : (l.drop (k + 2)).getD a 0 = l.getD (k + 2 + a) 0 := by rw [List.getD_eq_getElem?_getD, List.getElem?_drop, List.getD_eq_getElem?_getD]
                              rw [hgd] at hxx hJ2
                              have hcj := hBr.out (k + 2 + a) (by omega)
                              have kg : Hid _ := fun w => Digit_any (l.getD (k + 2 + a) 0).toNat (UInt8.toNat_lt _) w
                              have hdig : digN (l.getD (k + 2 + a) 0).toNat = (hexD (l.getD (k + 2 + a) 0).toNat : Int) := by unfold digN; rw [if_pos hxx]
                              have hh := hexD_lt _ hxx
                              have hpw : 16 ^ a ≤ 16 ^ 1 := Nat.pow_le_pow_right (by decide) (by omega)
                              have hx2 : 16 * x + hexD (l.getD (k + 2 + a) 0).toNat < 16 ^ (a + 1) := by rw [Nat.pow_succ]; omega
                              generalize (l.getD (k + 2 + a) 0).toNat = C2 at *
                              rw [hdig] at kg
                              generalize hexD C2 = H at *
                              have hx9 : x < 65536 := by
                                have : (16 : Nat) ^ 1 ≤ 65536 := by decide
                                omega
                              have hw3 : IntKind.i64.wrap (((k + 2 : Nat) : Int) + (a : Int)) = ((k + 2 + a : Nat) : Int) := by rw [IntKind.wrap_i64]; omega
                              have hw4 : IntKind.i64.wrap (16 * (x : Int)) = ((16 * x : Nat) : Int) := by rw [IntKind.wrap_i64]; omega
                              have hw5 : IntKind.i64.wrap (((16 * x : Nat) : Int) + (H : Int)) = ((16 * x + H : Nat) : Int) := by rw [IntKind.wrap_i64]; omega
                              have hw6 : IntKind.i64.wrap ((a : Int) + 1) = ((a + 1 : Nat) : Int) := by rw [IntKind.wrap_i64]; omega
                              replace hJ2 : Hid _ := hJ2
                              generalize hP : k + 2 + a = P at *
                              generalize hQ : k + 2 = Q at *
                              have hPl : P < l.length := by omega
                              clear hJ hgd hdig hxx hpw
                              go_wp2_with fail
                              refine Calls.mono (kg.out _) ?_
                              rintro e w4 ⟨rfl, rfl⟩
                              clear kg
                              go_wp2
                              refine ⟨⟨16 * x + H, a + 1, by go_num, by go_num, by omega, hx2, hJ2⟩, by simp [intOf]; omega⟩
                            · obtain rfl : a = 2 := by omega
                              have hxV : x = V := by
                                have := hJ.out
                                rw [Nat.sub_self, List.take_zero] at this
                                exact Option.some.inj this
                              subst hxV
                              have d2 : decide ((((2 : Nat)) : Int) < 2) = false := by decide
                              clear hJ hlt2 ha hxa
                              have hwb : IntKind.u8.wrap (x : Int) = ((x % 256 : Nat) : Int) := by rw [IntKind.wrap_u8]; omega
                              obtain ⟨ht, hn⟩ := Prod.mk.inj (Option.some.inj he.out)
                              subst hn
                              have hI2 : Hid (txtGo l ((34 : Nat) : Int) i f (k + 4) (acc ++ t) = some (r, out)) := hI'.out
                              have htb : Hid (t = [UInt8.ofNat (x % 256)]) := ht.symm
                              have hm256 : x % 256 < 256 := Nat.mod_lt _ (by decide)
                              generalize x % 256 = m at *
                              have hxb : Hid ((UInt8.ofNat m).toNat = m) := by show (UInt8.ofNat m).toNat = m; simp; omega
                              have hw7 : IntKind.i64.wrap ((k : Int) + 4) = ((k + 4 : Nat) : Int) := by rw [IntKind.wrap_i64]; omega
                              have hO1 : Hid ((w3.alloc (.cells #[.int .u8 m] 5)).ownsRow w.heap.size 5 1 u6 acc.length (Lib.byteCells acc)) := hO.out.alloc _
                              have hvlt : Hid _ := hO.out.lt
                              have hbs := hb.out.size
                              clear he ht hI' hBr
                              go_wp2_with (at_builtin; refine wpList_append_lies _ (by rfl) (.tmp 112) (.tmp 115) 22 (by rfl) w.heap.size 5 i0 _ 1 1 Tryz.underlying22 hi0 hz0 hz1 hz2 (by rfl) (by decide) u6 acc.length (Lib.byteCells acc) (by rfl) hO1.out ⟨w3.heap.size, 0, none⟩ 1 1 [.int .u8 m] (by rfl) (by rfl) (one_news w3 m) (one_cell m) (by decide) (by unfold maxLen; omega) (by omega) (by simp; omega) (w3.heap.size + 1) (by simp) ?_)
                              intro g' cap' w4 hO4 hg4 hat hlt4
                              have hO5 : Hid (w4.ownsRow w.heap.size 5 1 (.slice (some ⟨g', 0, none⟩) (acc.length + 1) cap') (acc ++ t).length (Lib.byteCells (acc ++ t))) := by
                                have e1 : (acc ++ t).length = acc.length + 1 := by rw [htb.out]; simp
                                have e2 : Lib.byteCells (acc ++ t) = Lib.byteCells acc ++ [.int .u8 m] := by rw [htb.out]; simp [Lib.byteCells]; omega
                                rw [e1, e2]
                                exact hO4
                              have hb5 : Hid (Below w.heap.size w w4) := (hb.out.alloc hbs _).grown hg4 (by simp; omega) (fun b hb => (hvlt.out b hb).1)
                              have hal : (acc ++ t).length ≤ k + 4 := by rw [htb.out]; simp; omega
                              clear hO4 hg4 hat hlt4 hvlt hO1
                              go_wp2
                              refine ⟨⟨_, _, _, _, _, _, _, _, _, _, _, _, _, _, _, _, _, _, _, _, _, _, _, _, _, _, _, _, _, _, _, _, _, _, _, _, _, _, _, _, _, _, _, _, _, _, _, _, _, _, _, _, _, _, _, _, _, _, _, _, _, _, _, _, _, _, _, _, _, _, _, _, _, _, _, _, _, _, _, _, _, _, _, _, _, _, _, _, _, _, _, _, _, _, _, _, _, _, _, _, _, _, _, _, _, _, _, _, _, _, _, _, _, _, _, _, _, _, _, _, _, _, _, _, _, _, _, _, _, _, _, _, _, _, _, _, _, _, _, _, _, _, ?rel, rfl⟩, ?measure⟩
                              case rel => exact ⟨k + 4, f, acc ++ t, by go_num, by omega, by omega, hal, hI2, hO5, hb5⟩
                              case measure => simp [intOf]; omega
                      · by_cases c117 : E = 117
                        · subst c117
                          rw [if_neg (by omega), if_neg (by omega), if_neg (by omega), if_neg (by omega), if_pos (show ((117 : Nat) : Int) = 117 from rfl)] at he
                          have hx := hexAt_digs l k 4 (by omega)
                          have kd : Hid _ := digits_any wr ad cap (k + 2) 16 l hBr.out (by omega) (by omega)
                          unfold pointM at he
                          have hdl := digsL_le 16 (l.drop (k + 2))
                          rw [List.length_drop] at hdl
                          have hw2 : IntKind.i64.wrap ((k : Int) + 2) = ((k + 2 : Nat) : Int) := by rw [IntKind.wrap_i64]; omega
                          generalize digsL 16 (l.drop (k + 2)) = D at *
                          by_cases hD2 : D < 4
                          · have h4 : hexAt (l.drop k) 6 = none := hx.1 hD2
                            rw [h4] at he
                            obtain ⟨rfl, rfl⟩ := Prod.mk.inj (Option.some.inj he)
                            obtain ⟨rfl, rfl⟩ := Prod.mk.inj (Option.some.inj hI')
                            have dD : decide ((D : Int) < 4) = true := decide_eq_true (by omega)
                            clear he hI' hBr hE hx hdl hD2 h4
                            go_wp2_with fail
                            refine Calls.mono kat.out ?_
                            rintro e w2 ⟨rfl, rfl⟩
                            clear kat
                            go_wp2_with fail
                            refine Calls.mono kd.out ?_
                            rintro e w3 ⟨rfl, rfl⟩
                            clear kd
                            go_wp2
                            exact bodyPost_ret (v := .tuple #[.int .i64 0, .slice none 0 0]) (by simp [results, Tryz.results30, go_sem]) rfl ⟨_, rfl, World.ownsRow_nil _ _ _ _, hb.out⟩
                          · obtain ⟨hkn, h5, V, hV⟩ := hx.2 (by omega)
                            have h4 : hexAt (l.drop k) 6 = some V := h5.trans hV
                            have hVlt : V < 65536 := hexAt_lt _ 6 V h4 (by decide)
                            rw [h4] at he
                            have dD : decide ((D : Int) < 4) = false := decide_eq_false (by omega)
                            have hV0 : Hid (hexGo 0 (((l.drop (k + 2)).drop 0).take (4 - 0)) = some V) := by rw [List.drop_zero]; exact hV
                            replace he : Hid _ := he
                            replace hI' : Hid _ := hI'
                            clear hE hx hdl hD2 h4 h5 hV
                            go_wp2_with fail
                            refine Calls.mono kat.out ?_
                            rintro e w2 ⟨rfl, rfl⟩
                            clear kat
                            go_wp2_with fail
                            refine Calls.mono kd.out ?_
                            rintro e w3 ⟨rfl, rfl⟩
                            clear kd
                            go_wp2
                            go_loop [11, 12] (fun vv vj => ∃ x a : Nat, vv = .int .i64 x ∧ vj = .int .i64 a ∧ a ≤ 4 ∧ x < 16 ^ a ∧ Hid (hexGo x (((l.drop (k + 2)).drop a).take (4 - a)) = some V)) (fun _ vj => 4 - (intOf vj).toNat)
                            case atStart => exact ⟨0, 0, rfl, rfl, Nat.zero_le _, by decide, hV0⟩
                            case round =>
                              clear hV0
                              obtain ⟨x, a, rfl, rfl, ha, hxa, hJ⟩ := hrel
                              by_cases hlt2 : a < 4
                              · have d2 : decide ((a : Int) < 4) = true := decide_eq_true (by omega)
                                obtain ⟨hxx, hJ2⟩ := hexGo_step (l.drop (k + 2)) 4 a x V hlt2 (by rw [List.length_drop]; omega) hJ.out
                                have hgd : (l.drop (k + 2)).getD a 0 = l.getD (k + 2 + a) 0 := by rw [List.getD_eq_getElem?_getD, List.getElem?_drop, List.getD_eq_getElem?_getD]
                                rw [hgd] at hxx hJ2
                                have hcj := hBr.out (k + 2 + a) (by omega)
                                have kg : Hid _ := fun w => Digit_any (l.getD (k + 2 + a) 0).toNat (UInt8.toNat_lt _) w
                                have hdig : digN (l.getD (k + 2 + a) 0).toNat = (hexD (l.getD (k + 2 + a) 0).toNat : Int) := by unfold digN; rw [if_pos hxx]
                                have hh := hexD_lt _ hxx
                                have hpw : 16 ^ a ≤ 16 ^ 3 := Nat.pow_le_pow_right (by decide) (by omega)
                                have hx2 : 16 * x + hexD (l.getD (k + 2 + a) 0).toNat < 16 ^ (a + 1) := by rw [Nat.pow_succ]; omega
                                generalize (l.getD (k + 2 + a) 0).toNat = C2 at *
                                rw [hdig] at kg
                                generalize hexD C2 = H at *
                                have hx9 : x < 65536 := by
                                  have : (16 : Nat) ^ 3 ≤ 65536 := by decide
                                  omega
                                have hw3 : IntKind.i64.wrap (((k + 2 : Nat) : Int) + (a : Int)) = ((k + 2 + a : Nat) : Int) := by rw [IntKind.wrap_i64]; omega
                                have hw4 : IntKind.i64.wrap (16 * (x : Int)) = ((16 * x : Nat) : Int) := by rw [IntKind.wrap_i64]; omega
                                have hw5 : IntKind.i64.wrap (((16 * x : Nat) : Int) + (H : Int)) = ((16 * x + H : Nat) : Int) := by rw [IntKind.wrap_i64]; omega
                                have hw6 : IntKind.i64.wrap ((a : Int) + 1) = ((a + 1 : Nat) : Int) := by rw [IntKind.wrap_i64]; omega
                                replace hJ2 : Hid _ := hJ2
                                generalize hP : k + 2 + a = P at *
                                generalize hQ : k + 2 = Q at *
                                have hPl : P < l.length := by omega
                                clear hJ hgd hdig hxx hpw
                                go_wp2_with fail
                                refine Calls.mono (kg.out _) ?_
                                rintro e w4 ⟨rfl, rfl⟩
                                clear kg
                                go_wp2
                                refine ⟨⟨16 * x + H, a + 1, by go_num, by go_num, by omega, hx2, hJ2⟩, by simp [intOf]; omega⟩
                              · obtain rfl : a = 4 := by omega
                                have hxV : x = V := by
                                  have := hJ.out
                                  rw [Nat.sub_self, List.take_zero] at this
                                  exact Option.some.inj this
                                subst hxV
                                have d2 : decide ((((4 : Nat)) : Int) < 4) = false := by decide
                                clear hJ hlt2 ha hxa
                                have he' := he.out
                                clear he
                                by_cases hsur : 55296 ≤ x ∧ x < 57344
                                · have hv : ¬ Lib.validRune (x : Int) = true := by unfold Lib.validRune; simp; omega
                                  simp only [if_neg hv] at he'
                                  obtain ⟨rfl, rfl⟩ := Prod.mk.inj (Option.some.inj he')
                                  obtain ⟨rfl, rfl⟩ := Prod.mk.inj (Option.some.inj hI'.out)
                                  have g1 : decide ((x : Int) ≥ 55296) = true := decide_eq_true (by omega)
                                  have g2 : decide ((x : Int) < 57344) = true := decide_eq_true (by omega)
                                  clear he' hI' hBr hsur hv hVlt
                                  go_wp2
                                  exact bodyPost_ret (v := .tuple #[.int .i64 0, .slice none 0 0]) (by simp [results, Tryz.results30, go_sem]) rfl ⟨_, rfl, World.ownsRow_nil _ _ _ _, hb.out⟩
                                · have hv : Lib.validRune (x : Int) = true := by unfold Lib.validRune; simp; omega
                                  simp only [if_pos hv] at he'
                                  obtain ⟨ht, hn⟩ := Prod.mk.inj (Option.some.inj he')
                                  subst hn
                                  rw [encode_rune8 x hVlt hv] at ht
                                  have hI2 : Hid (txtGo l ((34 : Nat) : Int) i f (k + 6) (acc ++ t) = some (r, out)) := hI'.out
                                  have k8 : Hid _ := rune8_any x hVlt w3
                                  obtain ⟨hL1, hL2⟩ : 0 < t.length ∧ t.length ≤ 3 := by
                                    rw [← ht]
                                    unfold rune8M
                                    split
                                    · simp
                                    · split <;> simp
                                  rw [ht] at k8
                                  have hw7 : IntKind.i64.wrap ((k : Int) + 6) = ((k + 6 : Nat) : Int) := by rw [IntKind.wrap_i64]; omega
                                  have hbs := hb.out.size
                                  clear he' hI' hBr hv ht
                                  by_cases hge : 55296 ≤ x
                                  · have g1 : decide ((x : Int) ≥ 55296) = true := decide_eq_true (by omega)
                                    have g2 : decide ((x : Int) < 57344) = false := decide_eq_false (by omega)
                                    go_wp2_with fail
                                    refine Calls.mono k8.out ?_
                                    rintro e w4 ⟨rfl, hw4⟩
                                    clear k8
                                    have hO1 : Hid (w4.ownsRow w.heap.size 5 1 u6 acc.length (Lib.byteCells acc)) := by rw [hw4]; exact hO.out.alloc _
                                    have hnews : Hid (∀ j u, (Lib.byteCells t)[j]? = some u → w4.cell? ((⟨w3.heap.size, 0, none⟩ : Addr).add j) = some u) := by rw [hw4]; exact row_news w3 t
                                    have hb4 : Hid (Below w.heap.size w w4) := by rw [hw4]; exact hb.out.alloc hbs _
                                    have hs4 : w.heap.size ≤ w4.heap.size := hb4.out.size
                                    have hvlt : Hid _ := hO1.out.lt
                                    clear hw4
                                    generalize w3.heap.size = G3 at *
                                    go_wp2_with (at_builtin; refine wpList_append_lies _ (by rfl) (.tmp 123) (.tmp 125) 22 (by rfl) w.heap.size 5 i0 _ 1 1 Tryz.underlying22 hi0 hz0 hz1 hz2 (by rfl) (by decide) u6 acc.length (Lib.byteCells acc) (by rfl) hO1.out ⟨G3, 0, none⟩ t.length t.length (Lib.byteCells t) (by rfl) (by rw [Lib.byteCells_length, Nat.mul_one]) hnews.out (byte_cells t) hL1 (by unfold maxLen; omega) (by omega) hs4 _ rfl ?_)
                                    intro g' cap' w5 hO4 hg4 hat hlt4
                                    have hO5 : Hid (w5.ownsRow w.heap.size 5 1 (.slice (some ⟨g', 0, none⟩) (acc.length + t.length) cap') (acc ++ t).length (Lib.byteCells (acc ++ t))) := by
                                      have e2 : Lib.byteCells (acc ++ t) = Lib.byteCells acc ++ Lib.byteCells t := by simp [Lib.byteCells]
                                      rw [List.length_append, e2]
                                      exact hO4
                                    have hb5 : Hid (Below w.heap.size w w5) := hb4.out.grown hg4 hs4 (fun b hb => (hvlt.out b hb).1)
                                    have hal : (acc ++ t).length ≤ k + 6 := by rw [List.length_append]; omega
                                    clear hO4 hg4 hat hlt4 hvlt hO1 hnews
                                    go_wp2
                                    refine ⟨⟨_, _, _, _, _, _, _, _, _, _, _, _, _, _, _, _, _, _, _, _, _, _, _, _, _, _, _, _, _, _, _, _, _, _, _, _, _, _, _, _, _, _, _, _, _, _, _, _, _, _, _, _, _, _, _, _, _, _, _, _, _, _, _, _, _, _, _, _, _, _, _, _, _, _, _, _, _, _, _, _, _, _, _, _, _, _, _, _, _, _, _, _, _, _, _, _, _, _, _, _, _, _, _, _, _, _, _, _, _, _, _, _, _, _, _, _, _, _, _, _, _, _, _, _, _, _, _, _, _, _, _, _, _, _, _, _, _, _, _, _, _, _, ?rel, rfl⟩, ?measure⟩
                                    case rel => exact ⟨k + 6, f, acc ++ t, by go_num, by omega, by omega, hal, hI2, hO5, hb5⟩
                                    case measure => simp [intOf]; omega
                                  · have g1 : decide ((x : Int) ≥ 55296) = false := decide_eq_false (by omega)
                                    go_wp2_with fail
                                    refine Calls.mono k8.out ?_
                                    rintro e w4 ⟨rfl, hw4⟩
                                    clear k8
                                    have hO1 : Hid (w4.ownsRow w.heap.size 5 1 u6 acc.length (Lib.byteCells acc)) := by rw [hw4]; exact hO.out.alloc _
                                    have hnews : Hid (∀ j u, (Lib.byteCells t)[j]? = some u → w4.cell? ((⟨w3.heap.size, 0, none⟩ : Addr).add j) = some u) := by rw [hw4]; exact row_news w3 t
                                    have hb4 : Hid (Below w.heap.size w w4) := by rw [hw4]; exact hb.out.alloc hbs _
                                    have hs4 : w.heap.size ≤ w4.heap.size := hb4.out.size
                                    have hvlt : Hid _ := hO1.out.lt
                                    clear hw4
                                    generalize w3.heap.size = G3 at *
                                    go_wp2_with (at_builtin; refine wpList_append_lies _ (by rfl) (.tmp 123) (.tmp 125) 22 (by rfl) w.heap.size 5 i0 _ 1 1 Tryz.underlying22 hi0 hz0 hz1 hz2 (by rfl) (by decide) u6 acc.length (Lib.byteCells acc) (by rfl) hO1.out ⟨G3, 0, none⟩ t.length t.length (Lib.byteCells t) (by rfl) (by rw [Lib.byteCells_length, Nat.mul_one]) hnews.out (byte_cells t) hL1 (by unfold maxLen; omega) (by omega) hs4 _ rfl ?_)
                                    intro g' cap' w5 hO4 hg4 hat hlt4
                                    have hO5 : Hid (w5.ownsRow w.heap.size 5 1 (.slice (some ⟨g', 0, none⟩) (acc.length + t.length) cap') (acc ++ t).length (Lib.byteCells (acc ++ t))) := by
                                      have e2 : Lib.byteCells (acc ++ t) = Lib.byteCells acc ++ Lib.byteCells t := by simp [Lib.byteCells]
                                      rw [List.length_append, e2]
                                      exact hO4
                                    have hb5 : Hid (Below w.heap.size w w5) := hb4.out.grown hg4 hs4 (fun b hb => (hvlt.out b hb).1)
                                    have hal : (acc ++ t).length ≤ k + 6 := by rw [List.length_append]; omega
                                    clear hO4 hg4 hat hlt4 hvlt hO1 hnews
                                    go_wp2
                                    refine ⟨⟨_, _, _, _, _, _, _, _, _, _, _, _, _, _, _, _, _, _, _, _, _, _, _, _, _, _, _, _, _, _, _, _, _, _, _, _, _, _, _, _, _, _, _, _, _, _, _, _, _, _, _, _, _, _, _, _, _, _, _, _, _, _, _, _, _, _, _, _, _, _, _, _, _, _, _, _, _, _, _, _, _, _, _, _, _, _, _, _, _, _, _, _, _, _, _, _, _, _, _, _, _, _, _, _, _, _, _, _, _, _, _, _, _, _, _, _, _, _, _, _, _, _, _, _, _, _, _, _, _, _, _, _, _, _, _, _, _, _, _, _, _, _, ?rel, rfl⟩, ?measure⟩
                                    case rel => exact ⟨k + 6, f, acc ++ t, by go_num, by omega, by omega, hal, hI2, hO5, hb5⟩
                                    case measure => simp [intOf]; omega
                        · rw [if_neg (by omega), if_neg (by omega), if_neg (by omega), if_neg (by omega), if_neg (by omega)] at he
                          obtain ⟨rfl, rfl⟩ := Prod.mk.inj (Option.some.inj he)
                          obtain ⟨rfl, rfl⟩ := Prod.mk.inj (Option.some.inj hI')
                          have e92 : ((E : Int) == 92) = false := by rw [beq_eq_false_iff_ne]; omega
                          have e34 : ((E : Int) == 34) = false := by rw [beq_eq_false_iff_ne]; omega
                          have e110 : ((E : Int) == 110) = false := by rw [beq_eq_false_iff_ne]; omega
                          have e116 : ((E : Int) == 116) = false := by rw [beq_eq_false_iff_ne]; omega
                          have e120 : ((E : Int) == 120) = false := by rw [beq_eq_false_iff_ne]; omega
                          have e117 : ((E : Int) == 117) = false := by rw [beq_eq_false_iff_ne]; omega
                          clear he hI' hBr hE c92 c34 c110 c116 c120 c117
                          go_wp2_with fail
                          refine Calls.mono kat.out ?_
                          rintro e w2 ⟨rfl, rfl⟩
                          clear kat
                          go_wp2
                          exact bodyPost_ret (v := .tuple #[.int .i64 0, .slice none 0 0]) (by simp [results, Tryz.results30, go_sem]) rfl ⟨_, rfl, World.ownsRow_nil _ _ _ _, hb.out⟩
          · rw [hu] at ku
            have hI2 : Hid (txtGo l 96 i f (k + 1) acc = some (r, out)) := by
              have h : txtGo l ((96 : Nat) : Int) i f (k + (0 + 1)) (acc ++ []) = some (r, out) := hI'
              rw [List.append_nil] at h
              exact h
            have hw1 : IntKind.i64.wrap ((k : Int) + 1) = ((k + 1 : Nat) : Int) := by rw [IntKind.wrap_i64]; omega
            clear hI' hBr hu
            go_wp2_with fail
            refine Calls.mono ku.out ?_
            rintro e w2 ⟨rfl, rfl⟩
            clear ku
            go_wp2
            refine ⟨⟨_, _, _, _, _, _, _, _, _, _, _, _, _, _, _, _, _, _, _, _, _, _, _, _, _, _, _, _, _, _, _, _, _, _, _, _, _, _, _, _, _, _, _, _, _, _, _, _, _, _, _, _, _, _, _, _, _, _, _, _, _, _, _, _, _, _, _, _, _, _, _, _, _, _, _, _, _, _, _, _, _, _, _, _, _, _, _, _, _, _, _, _, _, _, _, _, _, _, _, _, _, _, _, _, _, _, _, _, _, _, _, _, _, _, _, _, _, _, _, _, _, _, _, _, _, _, _, _, _, _, _, _, _, _, _, _, _, _, _, _, _, _, ?rel, rfl⟩, ?measure⟩
            case rel => exact ⟨k + 1, f, acc, by go_num, by omega, by omega, by omega, hI2, hO, hb⟩
            case measure => simp [intOf]; omega
          · rw [hu] at ku
            cases n with
            | zero =>
              obtain ⟨rfl, rfl⟩ := Prod.mk.inj (Option.some.inj hI')
              clear hI' hBr hu ht
              rcases hq2 with rfl | rfl
              · obtain ⟨x1, x2⟩ := h34 rfl
                have e10 : ((C : Int) == 10) = false := by simp; omega
                have e92 : ((C : Int) == 92) = false := by simp; omega
                clear h34 h96 x1 x2 hC
                go_wp2_with fail
                refine Calls.mono ku.out ?_
                rintro e w2 ⟨rfl, rfl⟩
                clear ku
                go_wp2
                exact bodyPost_ret (v := .tuple #[.int .i64 0, .slice none 0 0]) (by simp [results, Tryz.results30, go_sem]) rfl ⟨_, rfl, World.ownsRow_nil _ _ _ _, hb.out⟩
              · clear h34 h96 hC
                go_wp2_with fail
                refine Calls.mono ku.out ?_
                rintro e w2 ⟨rfl, rfl⟩
                clear ku
                go_wp2
                exact bodyPost_ret (v := .tuple #[.int .i64 0, .slice none 0 0]) (by simp [results, Tryz.results30, go_sem]) rfl ⟨_, rfl, World.ownsRow_nil _ _ _ _, hb.out⟩
            | succ n =>
              have ht' := ht (by omega)
              clear ht
              have hI2 : Hid (txtGo l q i f (k + (n + 1)) (acc ++ t) = some (r, out)) := hI'
              clear hI' hu
              rcases hq2 with rfl | rfl
              · obtain ⟨x1, x2⟩ := h34 rfl
                have e10 : ((C : Int) == 10) = false := by simp; omega
                have e92 : ((C : Int) == 92) = false := by simp; omega
                clear h34 h96 x1 x2 hC
                have hlen : t.length = n + 1 := by rw [ht', List.length_take, List.length_drop]; omega
                have hnews : ∀ j u, (Lib.byteCells t)[j]? = some u → wr.cell? ((ad.add k).add j) = some u := by
                  intro j u hj
                  have hjl : j < n + 1 := by
                    have := (List.getElem?_eq_some_iff.1 hj).1
                    rw [Lib.byteCells_length, hlen] at this
                    exact this
                  rw [Addr.add_add, hBr.out (k + j) (by omega)]
                  rw [ht'] at hj
                  unfold Lib.byteCells at hj
                  rw [List.getElem?_map, List.getElem?_take_of_lt hjl, List.getElem?_drop, List.getElem?_eq_getElem (show k + j < l.length by omega)] at hj
                  rw [← Option.some.inj hj]
                  simp [List.getD, List.getElem?_eq_getElem (show k + j < l.length by omega)]
                have hone : ∀ u ∈ Lib.byteCells t, u.oneCell' = true := by
                  intro u hu
                  unfold Lib.byteCells at hu
                  obtain ⟨b, _, rfl⟩ := List.mem_map.1 hu
                  rfl
                have hvlt := hO.out.lt
                have hbs := hb.out.size
                have hw1 : IntKind.i64.wrap ((k : Int) + ((n + 1 : Nat) : Int)) = ((k + (n + 1) : Nat) : Int) := by rw [IntKind.wrap_i64]; omega
                replace hnews : Hid _ := hnews
                replace hone : Hid _ := hone
                replace hvlt : Hid _ := hvlt
                replace ht' : Hid _ := ht'
                clear hBr
                generalize hN : n + 1 = N at *
                have hkN : k + N ≤ l.length := by omega
                have hN0 : (((N : Nat) : Int) == 0) = false := by simp; omega
                have hNp : 0 < N := by omega
                clear hN hn
                go_wp2_with fail
                refine Calls.mono ku.out ?_
                rintro e w2 ⟨rfl, rfl⟩
                clear ku
                go_wp2_with (at_builtin; refine wpList_append_lies _ (by rfl) (.tmp 142) (.tmp 148) 22 (by rfl) w.heap.size 5 i0 _ 1 1 Tryz.underlying22 hi0 hz0 hz1 hz2 (by rfl) (by decide) u6 acc.length (Lib.byteCells acc) (by rfl) hO.out (ad.add k) N (cap - k) (Lib.byteCells t) (by simp [go_sem]) (by rw [Lib.byteCells_length, hlen, Nat.mul_one]) hnews.out hone.out hNp (by unfold maxLen; omega) (by omega) hbs _ rfl ?_)
                intro g' cap' w4 hO4 hg4 hat hlt4
                have hO5 : Hid (w4.ownsRow w.heap.size 5 1 (.slice (some ⟨g', 0, none⟩) (acc.length + N) cap') (acc ++ t).length (Lib.byteCells (acc ++ t))) := by
                  have e1 : (acc ++ t).length = acc.length + N := by rw [List.length_append, hlen]
                  have e2 : Lib.byteCells (acc ++ t) = Lib.byteCells acc ++ Lib.byteCells t := by simp [Lib.byteCells]
                  rw [e1, e2]
                  exact hO4
                have hb5 : Hid (Below w.heap.size w w4) := hb.out.grown hg4 hbs (fun b hb => (hvlt.out b hb).1)
                have hal : (acc ++ t).length ≤ k + N := by rw [List.length_append, hlen]; omega
                clear hO4 hg4 hat hlt4 hnews hone hvlt hlen
                go_wp2
                refine ⟨⟨_, _, _, _, _, _, _, _, _, _, _, _, _, _, _, _, _, _, _, _, _, _, _, _, _, _, _, _, _, _, _, _, _, _, _, _, _, _, _, _, _, _, _, _, _, _, _, _, _, _, _, _, _, _, _, _, _, _, _, _, _, _, _, _, _, _, _, _, _, _, _, _, _, _, _, _, _, _, _, _, _, _, _, _, _, _, _, _, _, _, _, _, _, _, _, _, _, _, _, _, _, _, _, _, _, _, _, _, _, _, _, _, _, _, _, _, _, _, _, _, _, _, _, _, _, _, _, _, _, _, _, _, _, _, _, _, _, _, _, _, _, _, ?rel, rfl⟩, ?measure⟩
                case rel => exact ⟨k + N, f, acc ++ t, by go_num, by omega, hkN, hal, hI2, hO5, hb5⟩
                case measure => simp [intOf]; omega
              · have e13 : ((C : Int) != 13) = true := by
                  have := h96 rfl
                  simp; omega
                clear h34 h96 hC
                have hlen : t.length = n + 1 := by rw [ht', List.length_take, List.length_drop]; omega
                have hnews : ∀ j u, (Lib.byteCells t)[j]? = some u → wr.cell? ((ad.add k).add j) = some u := by
                  intro j u hj
                  have hjl : j < n + 1 := by
                    have := (List.getElem?_eq_some_iff.1 hj).1
                    rw [Lib.byteCells_length, hlen] at this
                    exact this
                  rw [Addr.add_add, hBr.out (k + j) (by omega)]
                  rw [ht'] at hj
                  unfold Lib.byteCells at hj
                  rw [List.getElem?_map, List.getElem?_take_of_lt hjl, List.getElem?_drop, List.getElem?_eq_getElem (show k + j < l.length by omega)] at hj
                  rw [← Option.some.inj hj]
                  simp [List.getD, List.getElem?_eq_getElem (show k + j < l.length by omega)]
                have hone : ∀ u ∈ Lib.byteCells t, u.oneCell' = true := by
                  intro u hu
                  unfold Lib.byteCells at hu
                  obtain ⟨b, _, rfl⟩ := List.mem_map.1 hu
                  rfl
                have hvlt := hO.out.lt
                have hbs := hb.out.size
                have hw1 : IntKind.i64.wrap ((k : Int) + ((n + 1 : Nat) : Int)) = ((k + (n + 1) : Nat) : Int) := by rw [IntKind.wrap_i64]; omega
                replace hnews : Hid _ := hnews
                replace hone : Hid _ := hone
                replace hvlt : Hid _ := hvlt
                replace ht' : Hid _ := ht'
                clear hBr
                generalize hN : n + 1 = N at *
                have hkN : k + N ≤ l.length := by omega
                have hN0 : (((N : Nat) : Int) == 0) = false := by simp; omega
                have hNp : 0 < N := by omega
                clear hN hn
                go_wp2_with fail
                refine Calls.mono ku.out ?_
                rintro e w2 ⟨rfl, rfl⟩
                clear ku
                go_wp2_with (at_builtin; refine wpList_append_lies _ (by rfl) (.tmp 142) (.tmp 148) 22 (by rfl) w.heap.size 5 i0 _ 1 1 Tryz.underlying22 hi0 hz0 hz1 hz2 (by rfl) (by decide) u6 acc.length (Lib.byteCells acc) (by rfl) hO.out (ad.add k) N (cap - k) (Lib.byteCells t) (by simp [go_sem]) (by rw [Lib.byteCells_length, hlen, Nat.mul_one]) hnews.out hone.out hNp (by unfold maxLen; omega) (by omega) hbs _ rfl ?_)
                intro g' cap' w4 hO4 hg4 hat hlt4
                have hO5 : Hid (w4.ownsRow w.heap.size 5 1 (.slice (some ⟨g', 0, none⟩) (acc.length + N) cap') (acc ++ t).length (Lib.byteCells (acc ++ t))) := by
                  have e1 : (acc ++ t).length = acc.length + N := by rw [List.length_append, hlen]
                  have e2 : Lib.byteCells (acc ++ t) = Lib.byteCells acc ++ Lib.byteCells t := by simp [Lib.byteCells]
                  rw [e1, e2]
                  exact hO4
                have hb5 : Hid (Below w.heap.size w w4) := hb.out.grown hg4 hbs (fun b hb => (hvlt.out b hb).1)
                have hal : (acc ++ t).length ≤ k + N := by rw [List.length_append, hlen]; omega
                clear hO4 hg4 hat hlt4 hnews hone hvlt hlen
                go_wp2
                refine ⟨⟨_, _, _, _, _, _, _, _, _, _, _, _, _, _, _, _, _, _, _, _, _, _, _, _, _, _, _, _, _, _, _, _, _, _, _, _, _, _, _, _, _, _, _, _, _, _, _, _, _, _, _, _, _, _, _, _, _, _, _, _, _, _, _, _, _, _, _, _, _, _, _, _, _, _, _, _, _, _, _, _, _, _, _, _, _, _, _, _, _, _, _, _, _, _, _, _, _, _, _, _, _, _, _, _, _, _, _, _, _, _, _, _, _, _, _, _, _, _, _, _, _, _, _, _, _, _, _, _, _, _, _, _, _, _, _, _, _, _, _, _, _, _, ?rel, rfl⟩, ?measure⟩
                case rel => exact ⟨k + N, f, acc ++ t, by go_num, by omega, hkN, hal, hI2, hO5, hb5⟩
                case measure => simp [intOf]; omega
      · rw [if_neg hlt] at hI'
        obtain ⟨rfl, rfl⟩ := Prod.mk.inj (Option.some.inj hI')
        have d1 : decide ((k : Int) < l.length) = false := decide_eq_false (by omega)
        clear hI' hI
        go_wp2
        exact bodyPost_ret (v := .tuple #[.int .i64 0, .slice none 0 0]) (by simp [results, Tryz.results30, go_sem]) rfl ⟨_, rfl, World.ownsRow_nil _ _ _ _, hb.out⟩
end Go.Proofs.YtfbacidpjpghiaaGreatDoor
