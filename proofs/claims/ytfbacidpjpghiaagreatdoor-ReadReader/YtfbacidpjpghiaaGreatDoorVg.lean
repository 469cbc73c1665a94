/- scan, the second road: Scan. -/
import Derived.Test.YtfbacidpjpghiaaGreatDoorVf
import Derived.Test.YtfbacidpjpghiaaGreatDoorVb
import Derived.Test.YtfbacidpjpghiaaGreatDoorTi
import Derived.Test.YtfbacidpjpghiaaGreatDoorTk
namespace Go.Proofs.YtfbacidpjpghiaaGreatDoor
open Go.RowKit
attribute [local go_sem ↓] Go.wp_at_zero Go.wp_at_succ
theorem tok_news (w : World) (k a : Int) (s : ByteArray) : ∀ j u, ([.int .i64 k, .string s, .int .i64 a] : List Value)[j]? = some u → (w.alloc (.cells #[.int .i64 k, .string s, .int .i64 a] 32)).cell? ((⟨w.heap.size, 0, none⟩ : Addr).add j) = some u := by
  intro j u hj
  rw [addr_add]
  match j, hj with
  | 0, hj => simp at hj; subst hj; simp [go_sem]
  | 1, hj => simp at hj; subst hj; simp [go_sem]
  | 2, hj => simp at hj; subst hj; simp [go_sem]
theorem tok_one (k a : Int) (s : ByteArray) : ∀ u ∈ ([.int .i64 k, .string s, .int .i64 a] : List Value), u.oneCell' = true := by
  intro u hu
  simp at hu
  rcases hu with rfl | rfl | rfl <;> rfl
/-- What a round holds: the tokens so far, in a row of their own. -/
structure Toks (w wr : World) (v : Value) (ts : List Tok) : Prop where
  own : wr.ownsRow w.heap.size 32 3 v ts.length (flatT ts)
  below : Below w.heap.size w wr
theorem Toks.next {w wr wr' : World} {v : Value} {ts : List Tok} (h : Toks w wr v ts) (hb : Below wr.heap.size wr wr') : Toks w wr' v ts := by
  refine ⟨h.own.kept (grownBy_of_below hb none) ?_, h.below.trans (hb.mono h.below.size)⟩
  rcases h : v.ownBlock with _ | k
  · exact .inl rfl
  · exact .inr (by simp)
theorem Toks.form {w wr : World} {v : Value} {ts : List Tok} (h : Toks w wr v ts) : ∃ a n c, v = .slice a n c := by
  rcases h.own.2 with ⟨rfl, _⟩ | ⟨g, cap, cur, rfl, _⟩
  · exact ⟨_, _, _, rfl⟩
  · exact ⟨_, _, _, rfl⟩
set_option maxRecDepth 100000 in
set_option maxHeartbeats 64000000 in
theorem refScan_any (w : World) (ad : Addr) (cap : Nat) (l : List UInt8) (hB : BytesAt w ad l) (hg : ad.block < w.heap.size) (hcap : l.length ≤ cap) (hl : l.length < 1000000) (res : Res) (hM : scanM l = some res) : Calls Tryz.prog 14 #[.slice (some ad) l.length cap] w fun e w' => ScanOut w w' e res ∧ Below w.heap.size w w' := by
  obtain ⟨i0, hi0, hz0, hz1, hz2⟩ := info_parts Tryz.info32
  obtain ⟨P, hP⟩ : ∃ P : Ending → World → Prop, P = fun e w' => ScanOut w w' e res ∧ Below w.heap.size w w' := ⟨_, rfl⟩
  rw [show (fun (e : Ending) (w' : World) => ScanOut w w' e res ∧ Below w.heap.size w w') = P from hP.symm]
  have hbad : Hid (∀ p wr, res = .bad p → Below w.heap.size w wr → P (.returned (.tuple #[.slice none 0 0, .int .i64 (p : Nat), .bool false])) wr) := by
    intro p wr hr hb
    rw [hP, hr]
    exact ⟨rfl, hb⟩
  have hgood : Hid (∀ ts wr a n c, res = .good ts → Toks w wr (.slice a n c) ts → P (.returned (.tuple #[.slice a n c, .int .i64 0, .bool true])) wr) := by
    intro ts wr a n c hr ht
    rw [hP, hr]
    exact ⟨⟨a, n, c, rfl, ht.own⟩, ht.below⟩
  clear hP
  have hM0 : Hid (scanGo l (l.length + 1) 0 [] = some res) := hM
  replace hB : Hid _ := hB
  clear hM
  go_enter Tryz.func14, Tryz.ntmps14
  go_wp2
  go_loopw [5, 6, 7, 8, 9, 10] (fun v5 v6 _ _ _ _ wr => ∃ (k f : Nat) (ts : List Tok), v6 = .int .i64 k ∧ k ≤ l.length ∧ ts.length ≤ k ∧ Hid (scanGo l f k ts = some res) ∧ Hid (Toks w wr v5 ts)) (fun _ v6 _ _ _ _ _ => l.length - (intOf v6).toNat)
  case atStart => exact ⟨0, l.length + 1, [], rfl, Nat.zero_le _, Nat.zero_le _, hM0, ⟨World.ownsRow_nil _ _ _ _, Below.refl _ _⟩⟩
  case round =>
    obtain ⟨k, f, ts, rfl, hk, htl, hI, hT⟩ := hrel
    obtain ⟨ta, tn, tc, rfl⟩ := hT.out.form
    cases f with
    | zero => exact absurd hI.out (by unfold scanGo; simp)
    | succ f =>
      have hI' := hI.out
      rw [scanGo] at hI'
      clear hI hM0
      by_cases hlt : k < l.length
      · have d1 : decide ((k : Int) < l.length) = true := decide_eq_true (by omega)
        rw [if_pos hlt] at hI'
        replace hI' : Hid _ := hI'
        have hBr : Hid (BytesAt wr ad l) := BytesAt.next (w := w) (ad := ad) (l := l) hB.out hT.out.below hg
        have hbs := hT.out.below.size
        have hgr : ad.block < wr.heap.size := by omega
        have hc := hBr.out k hlt
        have hC0 : Hid (byteAt (l.drop k) 0 = (((l.getD k 0).toNat : Nat) : Int)) := by show _ = _; rw [byteAt_drop, Nat.add_zero, byteAt_get l k hlt]
        have hc256 : (l.getD k 0).toNat < 256 := UInt8.toNat_lt _
        generalize (l.getD k 0).toNat = C at *
        go_upto_block 2 with fail
        go_cut [8, 9, 10] from 11 to 154 (fun v8 v9 v10 wc => ∃ (lf : Bool) (n : Nat) (kd : Int), v8 = .bool lf ∧ v9 = .int .i64 n ∧ v10 = .int .i64 kd ∧ Hid (stepR l k ts lf n kd) ∧ Hid (Toks w wc (.slice ta tn tc) ts))
        case rest =>
          obtain ⟨lf, n, kd, rfl, rfl, rfl, hS, hTc⟩ := hcut
          clear hc hC0 hBr hT
          have hwn : ∀ m : Nat, m ≤ l.length → IntKind.i64.wrap ((m : Nat) : Int) = ((m : Nat) : Int) := fun m hm => by rw [IntKind.wrap_i64]; omega
          clear hwn
          rcases hS.out with ⟨rfl, x, hst⟩ | ⟨hn, hkn, hst, hlf⟩
          · have hI2 := hI'.out
            rw [hst] at hI2
            have hres := Option.some.inj hI2
            have hP := hbad.out k wc hres.symm hTc.out.below
            clear hI2 hst hS hI' hbad hgood hres
            go_wp2
            exact bodyPost_ret (v := .tuple #[.slice none 0 0, .int .i64 k, .bool false]) (by simp [results, Tryz.results14, go_sem]) rfl hP
          · have hI2 := hI'.out
            rw [hst] at hI2
            replace hI2 : Hid _ := hI2
            obtain ⟨KN, hKN⟩ : ∃ KN, KN = k + n := ⟨_, rfl⟩
            have hw1 : IntKind.i64.wrap ((k : Int) + (n : Int)) = ((KN : Nat) : Int) := by rw [IntKind.wrap_i64]; omega
            have dn : ((n : Int) == 0) = false := by rw [beq_eq_false_iff_ne]; omega
            have hKl : KN ≤ l.length := by omega
            have hkK : k < KN := by omega
            clear hst hS hI' hbad hgood
            by_cases hkd : kd = 0
            · subst hkd
              have hI3 : Hid (scanGo l f KN (if lf = true then endL ts k else ts) = some res) := by show _ = _; rw [hKN]; exact hI2.out
              clear hI2 hlf
              replace hKN : Hid _ := hKN
              cases lf with
              | true =>
                have hI4 : Hid (scanGo l f KN (if endsB ts = true then ts ++ [⟨7, ⟨#[10]⟩, k⟩] else ts) = some res) := by show _ = _; rw [← endL_ends]; exact hI3.out
                have ke : Hid _ := ends_any wc w.heap.size ta tn tc ts hTc.out.own (by omega)
                clear hI3
                generalize endsB ts = EB at *
                go_wp2_with fail
                refine Calls.mono ke.out ?_
                rintro e w3 ⟨rfl, hb3⟩
                clear ke
                have hT3 : Hid (Toks w w3 (.slice ta tn tc) ts) := hTc.out.next hb3
                clear hTc hb3
                cases EB with
                | true =>
                  have hI5 : Hid (scanGo l f KN (ts ++ [⟨7, ⟨#[10]⟩, k⟩]) = some res) := hI4.out
                  clear hI4
                  have hO1 : Hid ((w3.alloc (.cells #[.int .i64 7, .string ⟨#[10]⟩, .int .i64 k] 32)).ownsRow w.heap.size 32 3 (.slice ta tn tc) ts.length (flatT ts)) := hT3.out.own.alloc _
                  have hvlt : Hid _ := hT3.out.own.lt
                  have hbs1 := hT3.out.below.size
                  go_wp2_with (at_builtin; refine wpList_append_lies _ (by rfl) (.tmp 132) (.tmp 135) 28 (by rfl) w.heap.size 32 i0 _ 3 32 Tryz.underlying28 hi0 hz0 hz1 hz2 (by rfl) (by decide) (.slice ta tn tc) ts.length (flatT ts) (by rfl) hO1.out ⟨w3.heap.size, 0, none⟩ 1 1 [.int .i64 7, .string ⟨#[10]⟩, .int .i64 k] (by rfl) (by rfl) (tok_news w3 7 k ⟨#[10]⟩) (tok_one 7 k ⟨#[10]⟩) (by decide) (by unfold maxLen; omega) (by omega) (by simp; omega) (w3.heap.size + 1) (by simp) ?_)
                  intro g' cap' w4 hO4 hg4 hat hlt4
                  have hT4 : Hid (Toks w w4 (.slice (some ⟨g', 0, none⟩) (ts.length + 1) cap') (ts ++ [⟨7, ⟨#[10]⟩, k⟩])) := by
                    refine ⟨?_, (hT3.out.below.alloc hbs1 _).grown hg4 (by simp; omega) (fun b hb => (hvlt.out b hb).1)⟩
                    rw [List.length_append, flatT_snoc]
                    exact hO4
                  clear hO4 hg4 hat hlt4 hO1 hvlt
                  go_wp2
                  go_roundw
                  case rel => exact ⟨KN, f, _, by go_num, by omega, by simp; omega, hI5, hT4⟩
                  case measure => simp [intOf]; omega
                | false =>
                  have hI5 : Hid (scanGo l f KN ts = some res) := hI4.out
                  clear hI4
                  go_wp2
                  go_roundw
                  case rel => exact ⟨KN, f, _, by go_num, by omega, by omega, hI5, hT3⟩
                  case measure => simp [intOf]; omega
              | false =>
                have hI5 : Hid (scanGo l f KN ts = some res) := hI3.out
                clear hI3
                go_wp2
                go_roundw
                case rel => exact ⟨KN, f, _, by go_num, by omega, by omega, hI5, hTc⟩
                case measure => simp [intOf]; omega
            · obtain rfl := hlf hkd
              clear hlf
              have dk : (kd != 0) = true := by simpa using hkd
              have hI3 : Hid (scanGo l f KN (ts ++ [⟨kd, ba ((l.drop k).take n), k⟩]) = some res) := by
                have h := hI2.out
                rw [if_neg hkd] at h
                show _ = _
                rw [hKN]
                exact h
              have hBc : BytesAt wc ad l := BytesAt.next (w := w) (ad := ad) (l := l) hB.out hTc.out.below hg
              have hcv : ∀ c, (convert 22 9 (.slice (some (ad.add k)) n c)).run Tryz.prog wc = .ok (.string (ba ((l.drop k).take n))) wc := fun c => part_conv wc ad k n c l hBc hkn
              have hsub : KN - k = n := by omega
              have hle1 : k ≤ KN := by omega
              have hle2 : KN ≤ cap := by omega
              have hle3 : k < cap := by omega
              clear hI2 hkd hBc
              generalize ba ((l.drop k).take n) = TX at *
              replace hKN : Hid _ := hKN
              have hO1 : Hid ((wc.alloc (.cells #[.int .i64 kd, .string TX, .int .i64 k] 32)).ownsRow w.heap.size 32 3 (.slice ta tn tc) ts.length (flatT ts)) := hTc.out.own.alloc _
              have hvlt : Hid _ := hTc.out.own.lt
              have hbs1 := hTc.out.below.size
              go_wp2_with (at_builtin; refine wpList_append_lies _ (by rfl) (.tmp 139) (.tmp 150) 28 (by rfl) w.heap.size 32 i0 _ 3 32 Tryz.underlying28 hi0 hz0 hz1 hz2 (by rfl) (by decide) (.slice ta tn tc) ts.length (flatT ts) (by rfl) hO1.out ⟨wc.heap.size, 0, none⟩ 1 1 [.int .i64 kd, .string TX, .int .i64 k] (by rfl) (by rfl) (tok_news wc kd k TX) (tok_one kd k TX) (by decide) (by unfold maxLen; omega) (by omega) (by simp; omega) (wc.heap.size + 1) (by simp) ?_)
              intro g' cap' w4 hO4 hg4 hat hlt4
              have hT4 : Hid (Toks w w4 (.slice (some ⟨g', 0, none⟩) (ts.length + 1) cap') (ts ++ [⟨kd, TX, k⟩])) := by
                refine ⟨?_, (hTc.out.below.alloc hbs1 _).grown hg4 (by simp; omega) (fun b hb => (hvlt.out b hb).1)⟩
                rw [List.length_append, flatT_snoc]
                exact hO4
              clear hO4 hg4 hat hlt4 hO1 hvlt
              go_wp2
              go_roundw
              case rel => exact ⟨KN, f, _, by go_num, by omega, by simp; omega, hI3, hT4⟩
              case measure => simp [intOf]; omega
        case first =>
          clear hbad hgood hI'
          by_cases h10 : C = 10
          · subst h10
            have hS : Hid (stepR l k ts true 1 0) := r_line l k ts hlt hC0.out
            clear hC0 hc hBr
            go_wp2
            go_meet
            all_goals exact ⟨true, 1, 0, by first | rfl | (congr 1), by first | rfl | (congr 1), by first | rfl | (congr 1), hS, hT⟩
          · by_cases h32 : C = 32
            · subst h32
              have hS : Hid (stepR l k ts false 1 0) := r_space l k ts hlt (by rw [hC0.out]; decide) (by rw [hC0.out]; decide)
              clear hC0 hc hBr
              go_wp2
              go_meet
              all_goals exact ⟨false, 1, 0, by first | rfl | (congr 1), by first | rfl | (congr 1), by first | rfl | (congr 1), hS, hT⟩
            · by_cases h9 : C = 9
              · subst h9
                have hS : Hid (stepR l k ts false 1 0) := r_space l k ts hlt (by rw [hC0.out]; decide) (by rw [hC0.out]; decide)
                clear hC0 hc hBr
                go_wp2
                go_meet
                all_goals exact ⟨false, 1, 0, by first | rfl | (congr 1), by first | rfl | (congr 1), by first | rfl | (congr 1), hS, hT⟩
              · by_cases h13 : C = 13
                · subst h13
                  have hS : Hid (stepR l k ts false 1 0) := r_space l k ts hlt (by rw [hC0.out]; decide) (by rw [hC0.out]; decide)
                  clear hC0 hc hBr
                  go_wp2
                  go_meet
                  all_goals exact ⟨false, 1, 0, by first | rfl | (congr 1), by first | rfl | (congr 1), by first | rfl | (congr 1), hS, hT⟩
                · by_cases h47 : C = 47
                  · subst h47
                    have ka : Hid _ := at_any wr ad cap (k + 1) l hBr.out (by omega) (by omega)
                    have hv1 := atv l (k + 1)
                    have hb1 : Hid (byteAt (l.drop k) 1 = byteAt l (k + 1)) := by show _ = _; rw [byteAt_drop]
                    have hl1 : Hid ((l.getD (k + 1) 0).toNat ≠ 0 → k + 1 < l.length) := by
                      intro h
                      rcases Nat.lt_or_ge (k + 1) l.length with h2 | h2
                      · exact h2
                      · exfalso
                        apply h
                        rw [List.getD_eq_getElem?_getD, List.getElem?_eq_none h2]; rfl
                    have hw1 : IntKind.i64.wrap ((k : Int) + 1) = ((k + 1 : Nat) : Int) := by rw [IntKind.wrap_i64]; omega
                    generalize hC1 : (l.getD (k + 1) 0).toNat = C1 at *
                    by_cases h1 : C1 = 47
                    · subst h1
                      have hS : Hid (stepR l k ts false (spanL notNl (l.drop k)) 0) := r_slash l k ts hlt hC0.out (by rw [hb1.out]; omega)
                      have kc : Hid _ := comment_line wr ad cap k l hBr.out (hl1.out (by decide)) hl hC1
                      clear hC0 hc hBr hv1 hb1 hl1
                      generalize spanL notNl (l.drop k) = ON at *
                      go_wp2_with fail
                      refine Calls.mono ka.out ?_
                      rintro e w2 ⟨rfl, rfl⟩
                      go_wp2_with fail
                      refine Calls.mono kc.out ?_
                      rintro e w2 ⟨rfl, rfl⟩
                      go_wp2
                      go_meet
                      all_goals exact ⟨false, ON, 0, by first | rfl | (congr 1), by first | rfl | (congr 1), by first | rfl | (congr 1), hS, hT⟩
                    · by_cases h2 : C1 = 42
                      · subst h2
                        have hS : Hid (stepR l k ts (cmtF (cmtGo (l.drop (k + 2)) false)) (cmtN (cmtGo (l.drop (k + 2)) false)) 0) := r_star l k ts hC0.out (by rw [hb1.out]; omega)
                        have kc : Hid _ := comment_star wr ad cap k l hBr.out (hl1.out (by decide)) hl hC1 _ rfl
                        clear hC0 hc hBr hv1 hb1 hl1
                        generalize cmtF (cmtGo (l.drop (k + 2)) false) = LF at *
                        generalize cmtN (cmtGo (l.drop (k + 2)) false) = ON at *
                        go_wp2_with fail
                        refine Calls.mono ka.out ?_
                        rintro e w2 ⟨rfl, rfl⟩
                        go_wp2_with fail
                        refine Calls.mono ka.out ?_
                        rintro e w2 ⟨rfl, rfl⟩
                        go_wp2_with fail
                        refine Calls.mono kc.out ?_
                        rintro e w2 ⟨rfl, rfl⟩
                        go_wp2
                        go_meet
                        all_goals exact ⟨LF, ON, 0, by first | rfl | (congr 1), by first | rfl | (congr 1), by first | rfl | (congr 1), hS, hT⟩
                      · have e1 : ((C1 : Int) == 47) = false := by rw [beq_eq_false_iff_ne]; omega
                        have e2 : ((C1 : Int) == 42) = false := by rw [beq_eq_false_iff_ne]; omega
                        have hg1 : byteAt (l.drop k) 0 ≠ 10 := by rw [hC0.out]; decide
                        have hg2 : isSpaceB (byteAt (l.drop k) 0) = false := by rw [hC0.out]; decide
                        have hg3 : ¬ (byteAt (l.drop k) 0 = 47 ∧ (byteAt (l.drop k) 1 = 47 ∨ byteAt (l.drop k) 1 = 42)) := fun h => by have := h.2; rw [hb1.out] at this; omega
                        have klt : Hid _ := letter_any 47 wr
                        rw [show isLetterB ((47 : Nat) : Int) = false from by decide] at klt
                        have kdg : Hid _ := digit_any 47 wr
                        rw [show isDigitB ((47 : Nat) : Int) = false from by decide] at kdg
                        clear hv1 hl1 h1 h2 hC1
                        have hm : measureM (l.drop k) = some (5, opL (l.drop k)) := by
                          unfold measureM
                          rw [hC0.out]
                          rw [if_neg (by decide), if_neg (fun h => h.elim (fun h => absurd h (by decide)) (fun h => absurd h.1 (by decide))), if_neg (by decide), if_neg (by decide)]
                        have hS : Hid (stepR l k ts false (opL (l.drop k)) 5) := r_tok l k ts hlt hg1 hg2 hg3 5 5 _ hm (fun _ => ⟨rfl, by decide⟩)
                        have kop : Hid _ := op_any wr ad cap k l hBr.out hgr hcap hlt hl
                        clear hb1 hm hg1 hg2 hg3 hC0 hBr
                        generalize opL (l.drop k) = ON at *
                        go_wp2_with fail
                        refine Calls.mono ka.out ?_
                        rintro e w2 ⟨rfl, rfl⟩
                        go_wp2_with fail
                        refine Calls.mono ka.out ?_
                        rintro e w2 ⟨rfl, rfl⟩
                        go_wp2_with fail
                        refine Calls.mono klt.out ?_
                        rintro e w2 ⟨rfl, rfl⟩
                        go_wp2_with fail
                        refine Calls.mono kdg.out ?_
                        rintro e w2 ⟨rfl, rfl⟩
                        go_wp2_with fail
                        refine Calls.mono kop.out ?_
                        rintro e w3 ⟨rfl, hb3⟩
                        have hT3 : Hid (Toks w w3 (.slice ta tn tc) ts) := hT.out.next hb3
                        clear kop hb3
                        go_wp2
                        go_meet
                        all_goals exact ⟨false, ON, 5, by first | rfl | (congr 1), by first | rfl | (congr 1), by first | rfl | (congr 1), hS, hT3⟩
                  · have e10 : ((C : Int) == 10) = false := by rw [beq_eq_false_iff_ne]; omega
                    have e32 : ((C : Int) == 32) = false := by rw [beq_eq_false_iff_ne]; omega
                    have e9 : ((C : Int) == 9) = false := by rw [beq_eq_false_iff_ne]; omega
                    have e13 : ((C : Int) == 13) = false := by rw [beq_eq_false_iff_ne]; omega
                    have e47 : ((C : Int) == 47) = false := by rw [beq_eq_false_iff_ne]; omega
                    have hg1 : byteAt (l.drop k) 0 ≠ 10 := by rw [hC0.out]; omega
                    have hg2 : isSpaceB (byteAt (l.drop k) 0) = false := by rw [hC0.out]; unfold isSpaceB; apply decide_eq_false; omega
                    have hg3 : ¬ (byteAt (l.drop k) 0 = 47 ∧ (byteAt (l.drop k) 1 = 47 ∨ byteAt (l.drop k) 1 = 42)) := fun h => by have := h.1; rw [hC0.out] at this; omega
                    clear h10 h32 h9 h13 h47
                    by_cases hlet : isLetterB (C : Int) = true
                    · have klt : Hid _ := letter_any C wr
                      rw [hlet] at klt
                      have hm : measureM (l.drop k) = some (nameM (l.drop k)) := by
                        unfold measureM
                        rw [hC0.out, if_pos hlet]
                      obtain ⟨S, hSS⟩ : ∃ S, S = spanL inNameB (l.drop k) := ⟨_, rfl⟩
                      have hSl := spanL_le inNameB (l.drop k)
                      rw [List.length_drop, ← hSS] at hSl
                      have hS0 : Hid (S = 1 + spanL inNameB (l.drop (k + 1))) := by
                        show S = _
                        rw [hSS, drop_cons l k hlt]
                        have h1 : inNameB (((l.getD k 0).toNat : Nat) : Int) = true := by
                          have h2 := hC0.out
                          rw [byteAt_drop, Nat.add_zero, byteAt_get l k hlt] at h2
                          rw [h2]
                          unfold inNameB
                          rw [hlet]
                          rfl
                        rw [spanL, if_pos h1]
                        omega
                      have hS1 : 1 ≤ S := by have := hS0.out; omega
                      have hnm : nameM (l.drop k) = (if wordB ((l.drop k).take S) then 6 else 1, S) := by unfold nameM; rw [← hSS]
                      rw [hnm] at hm
                      have hS : Hid (∀ kd : Int, kd = (if wordB ((l.drop k).take S) then 6 else 1) → stepR l k ts false S kd) := fun kd hkd => r_tok l k ts hlt hg1 hg2 hg3 kd _ _ hm (fun _ => ⟨hkd, by rw [hkd]; split <;> decide⟩)
                      clear hm hg1 hg2 hg3 hC0 hnm hSS
                      go_wp2_with fail
                      refine Calls.mono klt.out ?_
                      rintro e w2 ⟨rfl, rfl⟩
                      clear klt
                      go_wp2
                      go_loop [9] (fun vn => ∃ n : Nat, vn = .int .i64 n ∧ 1 ≤ n ∧ n ≤ S ∧ Hid (S = n + spanL inNameB (l.drop (k + n)))) (fun vn => S - (intOf vn).toNat)
                      case atStart => exact ⟨1, rfl, Nat.le_refl _, hS1, hS0⟩
                      case round =>
                        obtain ⟨n, rfl, hn1, hnS, hI⟩ := hrel
                        have hI' := hI.out
                        clear hI hS0
                        obtain ⟨KN, hKN⟩ : ∃ KN, KN = k + n := ⟨_, rfl⟩
                        rw [← hKN] at hI'
                        have hKl : KN ≤ l.length := by omega
                        have hwk : IntKind.i64.wrap ((k : Int) + (n : Int)) = ((KN : Nat) : Int) := by rw [IntKind.wrap_i64]; omega
                        have kat : Hid _ := at_any w2 ad cap KN l hBr.out (by omega) (by omega)
                        have hv := atv l KN
                        have hstep : inNameB (byteAt l KN) = true → n + 1 ≤ S ∧ S = n + 1 + spanL inNameB (l.drop (KN + 1)) := by
                          intro h
                          have hlt2 : KN < l.length := by
                            rcases Nat.lt_or_ge KN l.length with h2 | h2
                            · exact h2
                            · exfalso
                              unfold byteAt at h
                              rw [List.drop_eq_nil_of_le h2] at h
                              exact absurd h (by decide)
                          rw [byteAt_get l KN hlt2] at h
                          rw [drop_cons l KN hlt2, spanL, if_pos h] at hI'
                          omega
                        have hend : inNameB (byteAt l KN) = false → S = n := by
                          intro h
                          rcases Nat.lt_or_ge KN l.length with hlt2 | hlt2
                          · rw [byteAt_get l KN hlt2] at h
                            rw [drop_cons l KN hlt2, spanL, if_neg (by rw [h]; decide)] at hI'
                            omega
                          · rw [List.drop_eq_nil_of_le hlt2] at hI'
                            simpa [spanL] using hI'
                        have hnx : KN + 1 = k + (n + 1) := by omega
                        have hw9 : IntKind.i64.wrap ((n : Int) + 1) = ((n + 1 : Nat) : Int) := by rw [IntKind.wrap_i64]; omega
                        generalize (l.getD KN 0).toNat = AT at *
                        have hAB : inNameB (byteAt l KN) = (isLetterB (AT : Int) || isDigitB (AT : Int)) := by
                          unfold inNameB
                          rcases hv with h | ⟨h1, h2⟩
                          · rw [h]
                          · rw [h1, h2]; decide
                        rw [hAB] at hstep hend
                        have kl2 : Hid _ := letter_any AT w2
                        have kd2 : Hid _ := digit_any AT w2
                        replace hKN : Hid _ := hKN
                        clear hv hAB hI'
                        by_cases c1 : isLetterB (AT : Int) = true
                        · rw [c1] at kl2
                          obtain ⟨h1, h2⟩ := hstep (by rw [c1]; rfl)
                          rw [hnx] at h2
                          replace h2 : Hid _ := h2
                          clear hstep hend c1 hnx
                          go_wp2_with fail
                          refine Calls.mono kat.out ?_
                          rintro e w2 ⟨rfl, rfl⟩
                          go_wp2_with fail
                          refine Calls.mono kl2.out ?_
                          rintro e w2 ⟨rfl, rfl⟩

                          go_wp2
                          refine ⟨⟨n + 1, by go_num, by omega, h1, h2⟩, by simp [intOf]; omega⟩
                        · have c1f : isLetterB (AT : Int) = false := by simpa using c1
                          rw [c1f] at kl2 hstep hend
                          by_cases c2 : isDigitB (AT : Int) = true
                          · rw [c2] at kd2
                            obtain ⟨h1, h2⟩ := hstep (by rw [c2]; rfl)
                            rw [hnx] at h2
                            replace h2 : Hid _ := h2
                            clear hstep hend c1 c1f c2 hnx
                            go_wp2_with fail
                            refine Calls.mono kat.out ?_
                            rintro e w2 ⟨rfl, rfl⟩
                            go_wp2_with fail
                            refine Calls.mono kl2.out ?_
                            rintro e w2 ⟨rfl, rfl⟩
                            go_wp2_with fail
                            refine Calls.mono kat.out ?_
                            rintro e w2 ⟨rfl, rfl⟩
                            go_wp2_with fail
                            refine Calls.mono kd2.out ?_
                            rintro e w2 ⟨rfl, rfl⟩

                            go_wp2
                            refine ⟨⟨n + 1, by go_num, by omega, h1, h2⟩, by simp [intOf]; omega⟩
                          · have c2f : isDigitB (AT : Int) = false := by simpa using c2
                            rw [c2f] at kd2 hend
                            obtain rfl := hend rfl
                            clear hstep hend c1 c1f c2 c2f hnx
                            have hkn : k + S ≤ l.length := by omega
                            go_wp2_with fail
                            refine Calls.mono kat.out ?_
                            rintro e w2 ⟨rfl, rfl⟩
                            go_wp2_with fail
                            refine Calls.mono kl2.out ?_
                            rintro e w2 ⟨rfl, rfl⟩
                            go_wp2_with fail
                            refine Calls.mono kat.out ?_
                            rintro e w2 ⟨rfl, rfl⟩
                            go_wp2_with fail
                            refine Calls.mono kd2.out ?_
                            rintro e w2 ⟨rfl, rfl⟩

                            have hcv : ∀ c, (convert 22 9 (.slice (some (ad.add k)) S c)).run Tryz.prog w2 = .ok (.string (ba ((l.drop k).take S))) w2 := fun c => part_conv w2 ad k S c l hBr.out hkn
                            have kw : Hid _ := refWord_any (ba ((l.drop k).take S)) w2
                            rw [ba_toList] at kw
                            have hsub : KN - k = S := by have := hKN.out; omega
                            have hle1 : k ≤ KN := by have := hKN.out; omega
                            have hle2 : KN ≤ cap := by omega
                            have hle3 : k < cap := by omega
                            generalize ba ((l.drop k).take S) = TX at *
                            clear hBr kat kl2 kd2
                            generalize wordB ((l.drop k).take S) = WB at *
                            go_wp2_with fail
                            refine Calls.mono kw.out ?_
                            rintro e w3 ⟨rfl, hb3⟩

                            have hT3 : Hid (Toks w w3 (.slice ta tn tc) ts) := hT.out.next hb3
                            clear kw hb3 hcv
                            cases WB with
                            | true =>
                              have hS2 : Hid (stepR l k ts false S 6) := hS.out 6 rfl
                              clear hS
                              go_wp2
                              go_meet
                              all_goals exact ⟨false, S, 6, by first | rfl | (congr 1), by first | rfl | (congr 1), by first | rfl | (congr 1), hS2, hT3⟩
                            | false =>
                              have hS2 : Hid (stepR l k ts false S 1) := hS.out 1 rfl
                              clear hS
                              go_wp2
                              go_meet
                              all_goals exact ⟨false, S, 1, by first | rfl | (congr 1), by first | rfl | (congr 1), by first | rfl | (congr 1), hS2, hT3⟩
                    · have klt : Hid _ := letter_any C wr
                      rw [show isLetterB (C : Int) = false by simpa using hlet] at klt
                      have kdg : Hid _ := digit_any C wr
                      by_cases hdig : isDigitB (C : Int) = true
                      · rw [hdig] at kdg
                        have hm : measureM (l.drop k) = some (numberM (l.drop k)) := by
                          unfold measureM
                          rw [hC0.out, if_neg hlet, if_pos (.inl hdig)]
                        have hnk := number_kind (l.drop k)
                        have hS : Hid (∀ K : Int, ((numberM (l.drop k)).2 ≠ 0 → K = (numberM (l.drop k)).1) → stepR l k ts false (numberM (l.drop k)).2 K) := fun K hK => r_tok l k ts hlt hg1 hg2 hg3 K _ _ hm (fun h => ⟨hK h, by rw [hK h]; omega⟩)
                        have kn : Hid _ := number_any wr ad cap k l hBr.out hlt hl
                        clear hm hg1 hg2 hg3 hC0 hBr hnk
                        generalize (numberM (l.drop k)).2 = NN at *
                        generalize (numberM (l.drop k)).1 = NKD at *
                        go_wp2_with fail
                        refine Calls.mono klt.out ?_
                        rintro e w2 ⟨rfl, rfl⟩
                        go_wp2_with fail
                        refine Calls.mono kdg.out ?_
                        rintro e w2 ⟨rfl, rfl⟩
                        go_wp2_with fail
                        refine Calls.mono kn.out ?_
                        rintro e w2 ⟨KD, rfl, hKD, rfl⟩
                        have hS2 : Hid (stepR l k ts false NN KD) := hS.out KD hKD
                        clear kn hKD hS
                        go_wp2
                        go_meet
                        all_goals exact ⟨false, NN, KD, by first | rfl | (congr 1), by first | rfl | (congr 1), by first | rfl | (congr 1), hS2, hT⟩
                      · rw [show isDigitB (C : Int) = false by simpa using hdig] at kdg
                        by_cases h46 : C = 46
                        · subst h46
                          have ka : Hid _ := at_any wr ad cap (k + 1) l hBr.out (by omega) (by omega)
                          have hv1 := atv l (k + 1)
                          have hb1 : Hid (byteAt (l.drop k) 1 = byteAt l (k + 1)) := by show _ = _; rw [byteAt_drop]
                          have hl1 : Hid ((l.getD (k + 1) 0).toNat ≠ 0 → k + 1 < l.length) := by
                            intro h
                            rcases Nat.lt_or_ge (k + 1) l.length with h2 | h2
                            · exact h2
                            · exfalso
                              apply h
                              rw [List.getD_eq_getElem?_getD, List.getElem?_eq_none h2]; rfl
                          have hw1 : IntKind.i64.wrap ((k : Int) + 1) = ((k + 1 : Nat) : Int) := by rw [IntKind.wrap_i64]; omega
                          generalize hC1 : (l.getD (k + 1) 0).toNat = C1 at *
                          have kd1 : Hid _ := digit_any C1 wr
                          have hdb : isDigitB (byteAt (l.drop k) 1) = isDigitB (C1 : Int) := by
                            rw [hb1.out]
                            rcases hv1 with h | ⟨h1, h2⟩
                            · rw [h]
                            · rw [h1, h2]; decide
                          by_cases hd1 : isDigitB (C1 : Int) = true
                          · rw [hd1] at kd1
                            have hm : measureM (l.drop k) = some (numberM (l.drop k)) := by
                              unfold measureM
                              have hc1 : C1 ≠ 0 := fun h => by rw [h] at hd1; exact absurd hd1 (by decide)
                              have hll := hl1.out hc1
                              rw [hC0.out, if_neg (by decide), if_pos (.inr ⟨rfl, by rw [List.length_drop]; omega, by rw [hdb]; exact hd1⟩)]
                            have hnk := number_kind (l.drop k)
                            have hS : Hid (∀ K : Int, ((numberM (l.drop k)).2 ≠ 0 → K = (numberM (l.drop k)).1) → stepR l k ts false (numberM (l.drop k)).2 K) := fun K hK => r_tok l k ts hlt hg1 hg2 hg3 K _ _ hm (fun h => ⟨hK h, by rw [hK h]; omega⟩)
                            have kn : Hid _ := number_any wr ad cap k l hBr.out hlt hl
                            clear hdb hv1 hb1 hl1 hC1 hd1 hlet hdig hm hg1 hg2 hg3 hC0 hBr hnk
                            generalize (numberM (l.drop k)).2 = NN at *
                            generalize (numberM (l.drop k)).1 = NKD at *
                            go_wp2_with fail
                            refine Calls.mono klt.out ?_
                            rintro e w2 ⟨rfl, rfl⟩
                            go_wp2_with fail
                            refine Calls.mono kdg.out ?_
                            rintro e w2 ⟨rfl, rfl⟩
                            go_wp2_with fail
                            refine Calls.mono ka.out ?_
                            rintro e w2 ⟨rfl, rfl⟩
                            go_wp2_with fail
                            refine Calls.mono kd1.out ?_
                            rintro e w2 ⟨rfl, rfl⟩
                            go_wp2_with fail
                            refine Calls.mono kn.out ?_
                            rintro e w2 ⟨KD, rfl, hKD, rfl⟩
                            have hS2 : Hid (stepR l k ts false NN KD) := hS.out KD hKD
                            clear kn hKD hS
                            go_wp2
                            go_meet
                            all_goals exact ⟨false, NN, KD, by first | rfl | (congr 1), by first | rfl | (congr 1), by first | rfl | (congr 1), hS2, hT⟩
                          · rw [show isDigitB (C1 : Int) = false by simpa using hd1] at kd1
                            have hm : measureM (l.drop k) = some (5, opL (l.drop k)) := by
                              unfold measureM
                              rw [hC0.out]
                              rw [if_neg (by decide), if_neg (fun h => h.elim (fun h => absurd h (by decide)) (fun h => hd1 (by rw [← hdb]; exact h.2.2))), if_neg (by decide), if_neg (by decide)]
                            have hS : Hid (stepR l k ts false (opL (l.drop k)) 5) := r_tok l k ts hlt hg1 hg2 hg3 5 5 _ hm (fun _ => ⟨rfl, by decide⟩)
                            have kop : Hid _ := op_any wr ad cap k l hBr.out hgr hcap hlt hl
                            clear hdb hv1 hb1 hl1 hC1 hd1 hlet hdig hm hg1 hg2 hg3 hC0 hBr
                            generalize opL (l.drop k) = ON at *
                            go_wp2_with fail
                            refine Calls.mono klt.out ?_
                            rintro e w2 ⟨rfl, rfl⟩
                            go_wp2_with fail
                            refine Calls.mono kdg.out ?_
                            rintro e w2 ⟨rfl, rfl⟩
                            go_wp2_with fail
                            refine Calls.mono ka.out ?_
                            rintro e w2 ⟨rfl, rfl⟩
                            go_wp2_with fail
                            refine Calls.mono kd1.out ?_
                            rintro e w2 ⟨rfl, rfl⟩
                            go_wp2_with fail
                            refine Calls.mono kop.out ?_
                            rintro e w3 ⟨rfl, hb3⟩
                            have hT3 : Hid (Toks w w3 (.slice ta tn tc) ts) := hT.out.next hb3
                            clear kop hb3
                            go_wp2
                            go_meet
                            all_goals exact ⟨false, ON, 5, by first | rfl | (congr 1), by first | rfl | (congr 1), by first | rfl | (congr 1), hS, hT3⟩
                        · have e46 : ((C : Int) == 46) = false := by rw [beq_eq_false_iff_ne]; omega
                          by_cases hq34 : C = 34
                          · clear klt kdg hlet hdig h46
                            subst hq34
                            obtain ⟨r, out, htx, hm⟩ := str_text l k hlt (by rw [hC0.out]; decide)
                            rw [hC0.out] at htx
                            have hS : Hid (stepR l k ts false r 4) := r_tok l k ts hlt hg1 hg2 hg3 4 4 _ hm (fun _ => ⟨rfl, by decide⟩)
                            have hgd : 34 = (l.getD k 0).toNat := by
                              have h2 := hC0.out
                              rw [byteAt_drop, Nat.add_zero, byteAt_get l k hlt] at h2
                              omega
                            have ktx : Hid _ := text_any wr ad cap k l hBr.out hgr hcap hlt hl 34 hgd (by decide) (l.length + 1) r out htx
                            have klt : Hid _ := letter_any 34 wr
                            rw [show isLetterB ((34 : Nat) : Int) = false by decide] at klt
                            have kdg : Hid _ := digit_any 34 wr
                            rw [show isDigitB ((34 : Nat) : Int) = false by decide] at kdg
                            clear hm hg1 hg2 hg3 hC0 hBr htx hgd
                            go_wp2_with fail
                            refine Calls.mono klt.out ?_
                            rintro e w2 ⟨rfl, rfl⟩
                            go_wp2_with fail
                            refine Calls.mono kdg.out ?_
                            rintro e w2 ⟨rfl, rfl⟩
                            go_wp2_with fail
                            refine Calls.mono ktx.out ?_
                            rintro e w3 ⟨v, rfl, _, hb3⟩
                            have hT3 : Hid (Toks w w3 (.slice ta tn tc) ts) := hT.out.next hb3
                            clear ktx hb3
                            go_wp2
                            go_meet
                            all_goals exact ⟨false, r, 4, by first | rfl | (congr 1), by first | rfl | (congr 1), by first | rfl | (congr 1), hS, hT3⟩
                          · by_cases hq96 : C = 96
                            · clear klt kdg hlet hdig h46
                              subst hq96
                              obtain ⟨r, out, htx, hm⟩ := str_text l k hlt (by rw [hC0.out]; decide)
                              rw [hC0.out] at htx
                              have hS : Hid (stepR l k ts false r 4) := r_tok l k ts hlt hg1 hg2 hg3 4 4 _ hm (fun _ => ⟨rfl, by decide⟩)
                              have hgd : 96 = (l.getD k 0).toNat := by
                                have h2 := hC0.out
                                rw [byteAt_drop, Nat.add_zero, byteAt_get l k hlt] at h2
                                omega
                              have ktx : Hid _ := text_any wr ad cap k l hBr.out hgr hcap hlt hl 96 hgd (by decide) (l.length + 1) r out htx
                              have klt : Hid _ := letter_any 96 wr
                              rw [show isLetterB ((96 : Nat) : Int) = false by decide] at klt
                              have kdg : Hid _ := digit_any 96 wr
                              rw [show isDigitB ((96 : Nat) : Int) = false by decide] at kdg
                              clear hm hg1 hg2 hg3 hC0 hBr htx hgd
                              go_wp2_with fail
                              refine Calls.mono klt.out ?_
                              rintro e w2 ⟨rfl, rfl⟩
                              go_wp2_with fail
                              refine Calls.mono kdg.out ?_
                              rintro e w2 ⟨rfl, rfl⟩
                              go_wp2_with fail
                              refine Calls.mono ktx.out ?_
                              rintro e w3 ⟨v, rfl, _, hb3⟩
                              have hT3 : Hid (Toks w w3 (.slice ta tn tc) ts) := hT.out.next hb3
                              clear ktx hb3
                              go_wp2
                              go_meet
                              all_goals exact ⟨false, r, 4, by first | rfl | (congr 1), by first | rfl | (congr 1), by first | rfl | (congr 1), hS, hT3⟩
                            · have e34 : ((C : Int) == 34) = false := by rw [beq_eq_false_iff_ne]; omega
                              have e96 : ((C : Int) == 96) = false := by rw [beq_eq_false_iff_ne]; omega
                              by_cases h59 : C = 59
                              · subst h59
                                have hm : measureM (l.drop k) = some (7, 1) := by
                                  unfold measureM
                                  rw [hC0.out, if_neg hlet, if_neg (fun h => h.elim hdig (fun h => absurd h.1 (by decide))), if_neg (by decide), if_pos (by decide)]
                                have hS : Hid (stepR l k ts false 1 7) := r_tok l k ts hlt hg1 hg2 hg3 7 7 _ hm (fun _ => ⟨rfl, by decide⟩)
                                clear hm hg1 hg2 hg3 hC0 hBr hlet hdig
                                go_wp2_with fail
                                refine Calls.mono klt.out ?_
                                rintro e w2 ⟨rfl, rfl⟩
                                go_wp2_with fail
                                refine Calls.mono kdg.out ?_
                                rintro e w2 ⟨rfl, rfl⟩
                                go_wp2
                                go_meet
                                all_goals exact ⟨false, 1, 7, by first | rfl | (congr 1), by first | rfl | (congr 1), by first | rfl | (congr 1), hS, hT⟩
                              · have e59 : ((C : Int) == 59) = false := by rw [beq_eq_false_iff_ne]; omega
                                have hm : measureM (l.drop k) = some (5, opL (l.drop k)) := by
                                  unfold measureM
                                  rw [hC0.out, if_neg hlet, if_neg (fun h => h.elim hdig (fun h => h46 (by have := h.1; omega))), if_neg (by omega), if_neg (by omega)]
                                have hS : Hid (stepR l k ts false (opL (l.drop k)) 5) := r_tok l k ts hlt hg1 hg2 hg3 5 5 _ hm (fun _ => ⟨rfl, by decide⟩)
                                have kop : Hid _ := op_any wr ad cap k l hBr.out hgr hcap hlt hl
                                clear hlet hdig h46 hq34 hq96 h59 hm hg1 hg2 hg3 hC0 hBr
                                generalize opL (l.drop k) = ON at *
                                go_wp2_with fail
                                refine Calls.mono klt.out ?_
                                rintro e w2 ⟨rfl, rfl⟩
                                go_wp2_with fail
                                refine Calls.mono kdg.out ?_
                                rintro e w2 ⟨rfl, rfl⟩
                                go_wp2_with fail
                                refine Calls.mono kop.out ?_
                                rintro e w3 ⟨rfl, hb3⟩
                                have hT3 : Hid (Toks w w3 (.slice ta tn tc) ts) := hT.out.next hb3
                                clear kop hb3
                                go_wp2
                                go_meet
                                all_goals exact ⟨false, ON, 5, by first | rfl | (congr 1), by first | rfl | (congr 1), by first | rfl | (congr 1), hS, hT3⟩
      · obtain rfl : k = l.length := by omega
        rw [if_neg hlt] at hI'
        have hres := (Option.some.inj hI').symm
        rw [endL_ends] at hres
        have d1 : decide ((l.length : Int) < l.length) = false := decide_eq_false (by omega)
        have ke : Hid _ := ends_any wr w.heap.size ta tn tc ts hT.out.own (by omega)
        clear hI' hlt hbad
        generalize endsB ts = EB at *
        replace hres : Hid _ := hres
        obtain ⟨LN, hLN⟩ : ∃ LN : Int, LN = (l.length : Int) := ⟨_, rfl⟩
        go_wp2_with fail
        refine Calls.mono ke.out ?_
        rintro e w3 ⟨rfl, hb3⟩
        clear ke
        have hT3 : Hid (Toks w w3 (.slice ta tn tc) ts) := hT.out.next hb3
        clear hT hb3
        cases EB with
        | true =>
          have hO1 : Hid ((w3.alloc (.cells #[.int .i64 7, .string ⟨#[10]⟩, .int .i64 (l.length : Int)] 32)).ownsRow w.heap.size 32 3 (.slice ta tn tc) ts.length (flatT ts)) := hT3.out.own.alloc _
          have hvlt : Hid _ := hT3.out.own.lt
          have hbs1 := hT3.out.below.size
          go_wp2_with (at_builtin; refine wpList_append_lies _ (by rfl) (.tmp 157) (.tmp 161) 28 (by rfl) w.heap.size 32 i0 _ 3 32 Tryz.underlying28 hi0 hz0 hz1 hz2 (by rfl) (by decide) (.slice ta tn tc) ts.length (flatT ts) (by rfl) hO1.out ⟨w3.heap.size, 0, none⟩ 1 1 [.int .i64 7, .string ⟨#[10]⟩, .int .i64 (l.length : Int)] (by rfl) (by rfl) (tok_news w3 7 (l.length : Int) ⟨#[10]⟩) (tok_one 7 (l.length : Int) ⟨#[10]⟩) (by decide) (by unfold maxLen; omega) (by omega) (by simp; omega) (w3.heap.size + 1) (by simp) ?_)
          intro g' cap' w4 hO4 hg4 hat hlt4
          have hT4 : Hid (Toks w w4 (.slice (some ⟨g', 0, none⟩) (ts.length + 1) cap') (ts ++ [⟨7, ⟨#[10]⟩, (l.length : Int)⟩])) := by
            refine ⟨?_, (hT3.out.below.alloc hbs1 _).grown hg4 (by simp; omega) (fun b hb => (hvlt.out b hb).1)⟩
            rw [List.length_append, flatT_snoc]
            exact hO4
          clear hO4 hg4 hat hlt4 hO1 hvlt
          have hl2 : (ts ++ [(⟨7, ⟨#[10]⟩, (l.length : Int)⟩ : Tok)]).length = ts.length + 1 := by simp
          have hr2 : Hid (res = .good ((ts ++ [⟨7, ⟨#[10]⟩, (l.length : Int)⟩]) ++ [⟨0, ba [], (l.length : Int)⟩])) := hres.out
          generalize ts ++ [(⟨7, ⟨#[10]⟩, (l.length : Int)⟩ : Tok)] = ts2 at *
          have hl3 : ts2.length ≤ l.length + 1 := by omega
          clear hT3 hres hbs1 hl2
          generalize ts.length + 1 = TN at *
          have hO1 : Hid ((w4.alloc (.cells #[.int .i64 0, .string ⟨#[]⟩, .int .i64 (l.length : Int)] 32)).ownsRow w.heap.size 32 3 (.slice (some ⟨g', 0, none⟩) TN cap') ts2.length (flatT ts2)) := hT4.out.own.alloc _
          have hvlt : Hid _ := hT4.out.own.lt
          have hbs1 := hT4.out.below.size
          go_wp2_with (at_builtin; refine wpList_append_lies _ (by rfl) (.tmp 163) (.tmp 167) 28 (by rfl) w.heap.size 32 i0 _ 3 32 Tryz.underlying28 hi0 hz0 hz1 hz2 (by rfl) (by decide) (.slice (some ⟨g', 0, none⟩) TN cap') ts2.length (flatT ts2) (by rfl) hO1.out ⟨w4.heap.size, 0, none⟩ 1 1 [.int .i64 0, .string ⟨#[]⟩, .int .i64 (l.length : Int)] (by rfl) (by rfl) (tok_news w4 0 (l.length : Int) ⟨#[]⟩) (tok_one 0 (l.length : Int) ⟨#[]⟩) (by decide) (by unfold maxLen; omega) (by omega) (by simp; omega) (w4.heap.size + 1) (by simp) ?_)
          intro g2 cap2 w5 hO4 hg4 hat hlt4
          have hT5 : Hid (Toks w w5 (.slice (some ⟨g2, 0, none⟩) (ts2.length + 1) cap2) (ts2 ++ [⟨0, ⟨#[]⟩, (l.length : Int)⟩])) := by
            refine ⟨?_, (hT4.out.below.alloc hbs1 _).grown hg4 (by simp; omega) (fun b hb => (hvlt.out b hb).1)⟩
            rw [List.length_append, flatT_snoc]
            exact hO4
          clear hO4 hg4 hat hlt4 hO1 hvlt
          have hP := hgood.out _ w5 _ _ _ hr2.out hT5.out
          clear hgood hr2
          go_wp2
          exact bodyPost_ret (v := .tuple #[.slice (some ⟨g2, 0, none⟩) (ts2.length + 1) cap2, .int .i64 0, .bool true]) (by simp [results, Tryz.results14, go_sem]) rfl hP
        | false =>
          have hr2 : Hid (res = .good (ts ++ [⟨0, ba [], (l.length : Int)⟩])) := hres.out
          clear hres
          have hO1 : Hid ((w3.alloc (.cells #[.int .i64 0, .string ⟨#[]⟩, .int .i64 (l.length : Int)] 32)).ownsRow w.heap.size 32 3 (.slice ta tn tc) ts.length (flatT ts)) := hT3.out.own.alloc _
          have hvlt : Hid _ := hT3.out.own.lt
          have hbs1 := hT3.out.below.size
          go_wp2_with (at_builtin; refine wpList_append_lies _ (by rfl) (.tmp 163) (.tmp 167) 28 (by rfl) w.heap.size 32 i0 _ 3 32 Tryz.underlying28 hi0 hz0 hz1 hz2 (by rfl) (by decide) (.slice ta tn tc) ts.length (flatT ts) (by rfl) hO1.out ⟨w3.heap.size, 0, none⟩ 1 1 [.int .i64 0, .string ⟨#[]⟩, .int .i64 (l.length : Int)] (by rfl) (by rfl) (tok_news w3 0 (l.length : Int) ⟨#[]⟩) (tok_one 0 (l.length : Int) ⟨#[]⟩) (by decide) (by unfold maxLen; omega) (by omega) (by simp; omega) (w3.heap.size + 1) (by simp) ?_)
          intro g' cap' w4 hO4 hg4 hat hlt4
          have hT4 : Hid (Toks w w4 (.slice (some ⟨g', 0, none⟩) (ts.length + 1) cap') (ts ++ [⟨0, ⟨#[]⟩, (l.length : Int)⟩])) := by
            refine ⟨?_, (hT3.out.below.alloc hbs1 _).grown hg4 (by simp; omega) (fun b hb => (hvlt.out b hb).1)⟩
            rw [List.length_append, flatT_snoc]
            exact hO4
          clear hO4 hg4 hat hlt4 hO1 hvlt
          have hP := hgood.out _ w4 _ _ _ hr2.out hT4.out
          clear hgood hr2
          go_wp2
          exact bodyPost_ret (v := .tuple #[.slice (some ⟨g', 0, none⟩) (ts.length + 1) cap', .int .i64 0, .bool true]) (by simp [results, Tryz.results14, go_sem]) rfl hP
end Go.Proofs.YtfbacidpjpghiaaGreatDoor
