/- scan: a step. -/
import Derived.Test.YtffggadmpdmbdaaGreatDoorSm
namespace Go.Proofs.YtffggadmpdmbdaaGreatDoor
open Go.RowKit
attribute [local go_sem ↓] Go.wp_at_zero Go.wp_at_succ
def stepM (l : List UInt8) (pos : Nat) (ts : List Tok) : Option (Bool × Nat × List Tok) :=
  if byteAt l 0 = 10 then some (true, pos + 1, endL ts pos)
  else if isSpaceB (byteAt l 0) = true then some (true, pos + 1, ts)
  else if Lib.hasPrefix l [47, 47] = true then some (true, pos + (lineM l).toNat, ts)
  else if Lib.hasPrefix l [47, 42] = true then some (decide ((commentM l).toNat ≠ 0), pos + (commentM l).toNat, if (commentM l).toNat = 0 then ts else commentT l (commentM l).toNat pos ts)
  else (measureM l).map fun x => (decide (x.2 ≠ 0), pos + x.2, if x.2 = 0 then ts else ts ++ [⟨x.1, ba (l.take x.2), pos⟩])
theorem indexByte_le (l : List UInt8) (c : UInt8) : Lib.indexByte l c ≤ l.length := by
  induction l with
  | nil => unfold Lib.indexByte; simp
  | cons b l ih =>
    unfold Lib.indexByte
    simp only [List.length_cons]
    split
    · omega
    · split <;> omega
theorem lineM_le (s : ByteArray) : 0 ≤ lineM s.toList ∧ lineM s.toList ≤ s.size := by
  have := indexByte_le s.toList 10
  unfold lineM
  rw [toList_len] at this ⊢
  split
  · exact ⟨by omega, this⟩
  · exact ⟨by omega, by omega⟩
theorem prefix_len (l p : List UInt8) (h : Lib.hasPrefix l p = true) : p.length ≤ l.length := by
  have : p.isPrefixOf l = true := h
  exact (List.isPrefixOf_iff_prefix.1 this).length_le
set_option maxRecDepth 20000 in
set_option maxHeartbeats 4000000 in
theorem step_any {w : World} {B g : Nat} {src : ByteArray} {pos : Nat} {ts : List Tok} (h : Rd w B g src pos ts) (hG : Glob w) (hB2 : 3 < B) (hpos : pos < src.size) (hsz : src.size < 1000000000) (hl : ts.length < 1000000000) (ok : Bool) (p' : Nat) (ts' : List Tok) (hM : stepM (src.toList.drop pos) pos ts = some (ok, p', ts')) :
    Calls Tryz.prog 11 #[.pointer (some ⟨g, 0, none⟩)] w fun e w' => e = .returned (.bool ok) ∧ Rd w' B g src p' ts' ∧ Below B w w' := by
  have hlo := h.lo
  have hgs := h.hi
  have c0 := h.c0
  have c1 := h.c1
  have hss : (src.extract pos src.size).size = src.size - pos := by rw [ByteArray.size_extract]; omega
  obtain ⟨s, hs⟩ : ∃ s, s = src.extract pos src.size := ⟨_, rfl⟩
  rw [← toList_drop, ← hs] at hM
  rw [← hs] at hss
  have hs0 : 0 < s.size := by omega
  unfold stepM at hM
  rw [byteAt_lt s hs0] at hM
  replace h : Hid _ := h
  go_enter Tryz.func11, Tryz.ntmps11
  go_upto_region 1 with fail
  go_cut [3] from 4 (fun v wc => v = .string s ∧ ∃ nq, wc = w.drewN nq)
  case first =>
    go_quiet (fail)
    go_wp2
    go_meet
    case rel => exact ⟨by rw [hs], nq, by first | trivial | rfl⟩
  case rest =>
    obtain ⟨rfl, nq, hW⟩ := hcut
    clear c0 c1 hs
    have hD : Below w.heap.size w wc := by rw [hW]; exact ⟨rfl, rfl, rfl, Nat.le_refl _, fun _ _ => rfl⟩
    have hR := h.out.next hD
    have hG1 := hG.next hD
    have hbB : Below B w wc := hD.mono (by omega)
    clear hW hD hG h
    generalize wc = W at *
    generalize hC : ((s[0]'hs0).toNat : Int) = C at *
    by_cases c10 : C = 10
    · have e10 : (C == 10) = true := by simp [c10]
      rw [if_pos c10] at hM
      obtain ⟨rfl, rfl, rfl⟩ := (by simpa using hM : true = ok ∧ pos + 1 = p' ∧ endL ts pos = ts')
      have c1 := hR.c1
      have ke : Hid _ := endLine_any hR pos hl
      replace hR : Hid _ := hR
      clear hM
      go_wp2_with fail
      refine Calls.mono ke.out ?_
      rintro e w2 ⟨rfl, hR2, hb2⟩
      clear ke hR c1
      have hB2q := hbB.trans hb2
      have c1 := hR2.c1
      have f1 := hR2.fz 1
      have hRm : Hid _ := hR2.move (pos + 1)
      have hBf : Hid (Below B w (w2.setCell ⟨g, 1, none⟩ (.int .i64 ((pos + 1 : Nat) : Int)))) := hB2q.setCell hlo _
      replace hR2 : Hid _ := hR2
      go_wp2
      go_ret
      exact ⟨rfl, hRm.out, hBf.out⟩
    · have e10 : (C == 10) = false := by simp [c10]
      rw [if_neg c10] at hM
      have ks : Hid _ := fun w => isSpace_any C w
      go_wp2_with fail
      refine Calls.mono (ks.out _) ?_
      rintro e w2 ⟨rfl, rfl⟩
      cases hsp : isSpaceB C with
      | true =>
        rw [if_pos hsp] at hM
        obtain ⟨rfl, rfl, rfl⟩ := (by simpa using hM : true = ok ∧ pos + 1 = p' ∧ ts = ts')
        clear hM hsp
        have c1 := hR.c1
        have f1 := hR.fz 1
        have hRm : Hid _ := hR.move (pos + 1)
        have hBf : Hid (Below B w (w2.setCell ⟨g, 1, none⟩ (.int .i64 ((pos + 1 : Nat) : Int)))) := hbB.setCell hlo _
        replace hR : Hid _ := hR
        go_wp2
        go_ret
        exact ⟨rfl, hRm.out, hBf.out⟩
      | false =>
        rw [if_neg (by rw [hsp]; decide)] at hM
        clear hsp
        have k1 : Hid (∀ w, Calls Tryz.prog 28 #[.string s, .string ⟨#[47, 47]⟩] w fun e w' => e = .returned (.bool (Lib.hasPrefix s.toList [47, 47])) ∧ w' = w) := fun w => by
          have := Tryz.strings_HasPrefix s ⟨#[47, 47]⟩ w
          rw [← ByteArray.toList_eq] at this
          exact this
        have k2 : Hid (∀ w, Calls Tryz.prog 28 #[.string s, .string ⟨#[47, 42]⟩] w fun e w' => e = .returned (.bool (Lib.hasPrefix s.toList [47, 42])) ∧ w' = w) := fun w => by
          have := Tryz.strings_HasPrefix s ⟨#[47, 42]⟩ w
          rw [← ByteArray.toList_eq] at this
          exact this
        go_wp2_with fail
        refine Calls.mono (k1.out _) ?_
        rintro e w3 ⟨rfl, rfl⟩
        cases hp1 : Lib.hasPrefix s.toList [47, 47] with
        | true =>
          rw [if_pos hp1] at hM
          obtain ⟨rfl, hp', rfl⟩ := (by simpa using hM : true = ok ∧ pos + (lineM s.toList).toNat = p' ∧ ts = ts')
          obtain ⟨hl0, hl1⟩ := lineM_le s
          obtain ⟨n, hn⟩ : ∃ n : Nat, lineM s.toList = (n : Int) := ⟨(lineM s.toList).toNat, by omega⟩
          have kl : Hid _ := fun w => lineLength_any s w
          rw [hn] at kl hl1 hp'
          rw [Int.toNat_natCast] at hp'
          subst hp'
          clear hM hp1 k1 k2 hn hl0
          have hD : Below w3.heap.size w3 w3.drew := (Below.refl _ _).drew
          have hRd := hR.next hD
          have c1 := hRd.c1
          have c1' := hR.c1
          have f1 := hRd.fz 1
          have hRm : Hid _ := hRd.move (pos + n)
          have hBf : Hid (Below B w (w3.drew.setCell ⟨g, 1, none⟩ (.int .i64 ((pos + n : Nat) : Int)))) := (hbB.trans (hD.mono (by have := hbB.size; omega))).setCell hlo _
          replace hR : Hid _ := hR
          replace hRd : Hid _ := hRd
          go_upto_region 9 with fail
          go_region_with (go_at_call 29; refine Calls.mono (kl.out _) ?_; rintro e w4 ⟨rfl, rfl⟩)
          all_goals
            have hwr : IntKind.i64.wrap ((pos : Int) + (n : Int)) = ((pos + n : Nat) : Int) := by rw [IntKind.wrap_i64]; omega
            go_wp2
            go_ret
            refine ⟨rfl, ?_, ?_⟩
            · first | exact hRm.out | (exact (hR.out.move (pos + n)).next (Below.refl _ _).drew) | (rw [hwr]; exact (hR.out.move (pos + n)).next (Below.refl _ _).drew)
            · first | exact hBf.out | (exact (hbB.setCell hlo _).drew) | (rw [hwr]; exact (hbB.setCell hlo _).drew)
        | false =>
          rw [if_neg (by rw [hp1]; decide)] at hM
          clear hp1
          go_wp2_with fail
          refine Calls.mono (k2.out _) ?_
          rintro e w4 ⟨rfl, rfl⟩
          cases hp2 : Lib.hasPrefix s.toList [47, 42] with
          | true =>
            rw [if_pos hp2] at hM
            have hlen := prefix_len _ _ hp2
            rw [toList_len] at hlen
            simp at hlen
            obtain ⟨hl0, hl1⟩ := commentM_room s hlen
            obtain ⟨n, hn⟩ : ∃ n : Nat, commentM s.toList = (n : Int) := ⟨(commentM s.toList).toNat, by omega⟩
            rw [hn, Int.toNat_natCast] at hM
            obtain ⟨e1, e2⟩ := Prod.mk.inj (Option.some.inj hM)
            obtain ⟨e2, e3⟩ := Prod.mk.inj e2
            have kc : Hid _ := readComment_any hR hG1 s hlen (by omega) (by omega) hl n hn
            rw [e1, e2, e3] at kc
            clear hM hp2 k1 k2 hn hl0 e1 e2 e3 hR
            go_wp2_with fail
            refine Calls.mono kc.out ?_
            rintro e w5 ⟨rfl, hR5, hb5⟩
            have hBf : Hid _ := hbB.trans hb5
            replace hR5 : Hid _ := hR5
            go_wp2
            go_ret
            exact ⟨rfl, hR5.out, hBf.out⟩
          | false =>
            rw [if_neg (by rw [hp2]; decide)] at hM
            obtain ⟨⟨k, n⟩, hme, hM⟩ := Option.map_eq_some_iff.1 hM
            obtain ⟨e1, e2⟩ := Prod.mk.inj hM
            obtain ⟨e2, e3⟩ := Prod.mk.inj e2
            simp only at e1 e2 e3
            have kt : Hid _ := readToken_any hR hG1 hB2 s hs0 (by omega) (by omega) hl k n hme
            rw [e1, e2, e3] at kt
            clear hM hp2 k1 k2 hme e1 e2 e3 hR
            go_wp2_with fail
            refine Calls.mono kt.out ?_
            rintro e w5 ⟨rfl, hR5, hb5⟩
            have hBf : Hid _ := hbB.trans hb5
            replace hR5 : Hid _ := hR5
            go_wp2
            go_ret
            exact ⟨rfl, hR5.out, hBf.out⟩
end Go.Proofs.YtffggadmpdmbdaaGreatDoor
