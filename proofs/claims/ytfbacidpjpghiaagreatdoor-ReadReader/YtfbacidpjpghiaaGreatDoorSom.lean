/- scan: a comment, a token, a step. -/
import Derived.Test.YtfbacidpjpghiaaGreatDoorSkm
namespace Go.Proofs.YtfbacidpjpghiaaGreatDoor
open Go.RowKit
attribute [local go_sem ↓] Go.wp_at_zero Go.wp_at_succ
def ba (l : List UInt8) : ByteArray := ⟨l.toArray⟩
theorem ba_toList (l : List UInt8) : (ba l).toList = l := by rw [ByteArray.toList_eq]; rfl
theorem ba_of (s : ByteArray) : ba s.toList = s := by rw [ByteArray.toList_eq]; unfold ba; simp
theorem ba_take (s : ByteArray) (n : Nat) : s.extract 0 n = ba (s.toList.take n) := by rw [← ba_of (s.extract 0 n), toList_take]
theorem index_room (l sub : List UInt8) (h : 0 ≤ Lib.index l sub) : Lib.index l sub + sub.length ≤ l.length := by
  induction l with
  | nil =>
    unfold Lib.index at h ⊢
    split
    · rename_i he
      have : sub = [] := by cases sub with | nil => rfl | cons => simp at he
      subst this
      simp
    · rename_i he
      rw [if_neg he] at h
      omega
  | cons b l ih =>
    unfold Lib.index at h ⊢
    split
    · rename_i hp
      have := (List.isPrefixOf_iff_prefix.1 hp).length_le
      simp at this ⊢
      omega
    · rename_i hp
      rw [if_neg hp] at h
      split
      · rename_i hm
        rw [if_pos hm] at h
        omega
      · rename_i hm
        rw [if_neg hm] at h
        have hm' : Lib.index l sub ≠ -1 := by simpa using hm
        have := ih (by omega)
        simp only [List.length_cons]
        omega
theorem commentM_room (s : ByteArray) (h2 : 2 ≤ s.size) : 0 ≤ commentM s.toList ∧ commentM s.toList ≤ s.size := by
  unfold commentM
  split
  · exact ⟨by omega, by omega⟩
  · have := index_room (s.toList.drop 2) [42, 47] (by omega)
    rw [List.length_drop, toList_len] at this
    simp at this
    exact ⟨by omega, by omega⟩
/-- Behind a comment of n bytes. -/
def commentT (l : List UInt8) (n pos : Nat) (ts : List Tok) : List Tok := if 0 ≤ Lib.indexByte (l.take n) 10 then endL ts pos else ts
theorem endL_len (ts : List Tok) (a : Int) : (endL ts a).length ≤ ts.length + 1 := by
  unfold endL
  split
  · omega
  · split
    · simp
    · omega
set_option maxRecDepth 20000 in
set_option maxHeartbeats 4000000 in
theorem readComment_any {w : World} {B g : Nat} {src : ByteArray} {pos : Nat} {ts : List Tok} (h : Rd w B g src pos ts) (hG : Glob w) (s : ByteArray) (h2 : 2 ≤ s.size) (hs : s.size < 4294967281) (hp : pos < 1000000000) (hl : ts.length < 1000000000) (n : Nat) (hn : commentM s.toList = (n : Int)) :
    Calls Tryz.prog 40 #[.pointer (some ⟨g, 0, none⟩), .string s] w fun e w' => e = .returned (.bool (decide (n ≠ 0))) ∧ Rd w' B g src (pos + n) (if n = 0 then ts else commentT s.toList n pos ts) ∧ Below B w w' := by
  have hlo := h.lo
  have hgs := h.hi
  have kc : Hid _ := commentLength_any s w hG h2 hs
  rw [hn] at kc
  have hroom := (commentM_room s h2).2
  rw [hn] at hroom
  by_cases hz : n = 0
  · subst hz
    replace h : Hid _ := h
    go_enter Tryz.func40, Tryz.ntmps40
    go_wp2_with fail
    refine Calls.mono kc.out ?_
    rintro e w1 ⟨rfl, rfl⟩
    go_wp2
    go_ret
    exact ⟨rfl, by first | trivial | exact h.out | simpa using h.out, Below.refl _ _⟩
  · have d0 : ((n : Int) == 0) = false := by simpa using hz
    have hdn : decide (n ≠ 0) = true := decide_eq_true hz
    rw [if_neg hz, hdn]
    have hT : Hid (commentT s.toList n pos ts = if 0 ≤ Lib.indexByte (s.toList.take n) 10 then endL ts pos else ts) := rfl
    have kk : Hid (∀ w, Calls Tryz.prog 56 #[.string (s.extract 0 n), .string ⟨#[10]⟩] w fun e w' => e = .returned (.bool (decide (0 ≤ Lib.indexByte (s.toList.take n) 10))) ∧ w' = w) := fun w => by
      have := Tryz.strings_Contains_one (s.extract 0 n) 10 w
      rw [← ByteArray.toList_eq, toList_take] at this
      exact this
    have c1 := h.c1
    have f1 := h.fz 1
    have ke : Hid _ := endLine_any h pos hl
    replace h : Hid _ := h
    go_enter Tryz.func40, Tryz.ntmps40
    go_wp2_with fail
    refine Calls.mono kc.out ?_
    rintro e w1 ⟨rfl, rfl⟩
    clear kc
    go_wp2_with fail
    refine Calls.mono (kk.out _) ?_
    rintro e w2 ⟨rfl, rfl⟩
    by_cases hi : 0 ≤ Lib.indexByte (s.toList.take n) 10
    · rw [if_pos hi] at hT
      rw [decide_eq_true hi]
      clear hi kk
      go_wp2_with fail
      refine Calls.mono ke.out ?_
      rintro e w3 ⟨rfl, hR, hb⟩
      clear ke c1 f1
      have c1 := hR.c1
      have f1 := hR.fz 1
      have hRm : Hid _ := hR.move (pos + n)
      have hBf : Hid (Below B w2 (w3.setCell ⟨g, 1, none⟩ (.int .i64 ((pos + n : Nat) : Int)))) := hb.setCell hlo _
      replace hR : Hid _ := hR
      go_wp2
      go_ret
      exact ⟨rfl, by rw [hT.out]; exact hRm.out, hBf.out⟩
    · rw [if_neg hi] at hT
      rw [decide_eq_false hi]
      clear hi kk ke
      have hRm : Hid _ := h.out.move (pos + n)
      have hBf : Hid (Below B w2 (w2.setCell ⟨g, 1, none⟩ (.int .i64 ((pos + n : Nat) : Int)))) := (Below.refl _ _).setCell hlo _
      go_wp2
      go_ret
      exact ⟨rfl, by rw [hT.out]; exact hRm.out, hBf.out⟩
set_option maxRecDepth 20000 in
set_option maxHeartbeats 4000000 in
theorem readToken_any {w : World} {B g : Nat} {src : ByteArray} {pos : Nat} {ts : List Tok} (h : Rd w B g src pos ts) (hG : Glob w) (_hB2 : 3 < B) (s : ByteArray) (h0 : 0 < s.size) (hs : s.size < 4294967281) (hp : pos < 1000000000) (hl : ts.length < 1000000000) (k : Int) (n : Nat) (hM : measureM s.toList = some (k, n)) :
    Calls Tryz.prog 41 #[.pointer (some ⟨g, 0, none⟩), .string s] w fun e w' => e = .returned (.bool (decide (n ≠ 0))) ∧ Rd w' B g src (pos + n) (if n = 0 then ts else ts ++ [⟨k, ba (s.toList.take n), pos⟩]) ∧ Below B w w' := by
  have hlo := h.lo
  have hgs := h.hi
  have km : Hid _ := measure_any s w hG h0 k n hM (by omega)
  have hroom := measureM_le s h0 hM
  clear hM
  by_cases hz : n = 0
  · subst hz
    replace h : Hid _ := h
    go_enter Tryz.func41, Tryz.ntmps41
    go_wp2_with fail
    refine Calls.mono km.out ?_
    rintro e w1 ⟨rfl, hb⟩
    have hR : Hid _ := h.out.next hb
    have hbB : Below B w w1 := hb.mono (by omega)
    go_wp2
    go_ret
    exact ⟨rfl, by first | trivial | exact hR.out | simpa using hR.out, hbB⟩
  · have d0 : ((n : Int) == 0) = false := by simpa using hz
    have hdn : decide (n ≠ 0) = true := decide_eq_true hz
    rw [if_neg hz, hdn]
    replace h : Hid _ := h
    go_enter Tryz.func41, Tryz.ntmps41
    go_wp2_with fail
    refine Calls.mono km.out ?_
    rintro e w1 ⟨rfl, hb⟩
    clear km
    have hR := h.out.next hb
    have hbB : Below B w w1 := hb.mono (by omega)
    have c1 := hR.c1
    have hD : Below w1.heap.size w1 w1.drew := (Below.refl _ _).drew
    have hRd := hR.next hD
    have kp : Hid _ := put_any hRd k pos (s.extract 0 n) hl
    rw [ba_take] at kp
    have hba := ba_take s n
    go_upto_region 4 with fail
    go_cut [] from 14 (fun wc => ∃ X : Unit, Rd wc B g src pos (ts ++ [⟨k, ba (s.toList.take n), pos⟩]) ∧ Below B w1 wc)
    case first =>
      replace hR : Hid _ := hR
      replace hRd : Hid _ := hRd
      go_region_with (go_at_call 22; refine Calls.mono kp.out ?_; rintro e w3 ⟨rfl, hR3, hb3⟩; have hBB : Below B w1 w3 := (hD.mono (by have := hbB.size; omega)).trans hb3)
      all_goals
        go_wp2
        go_meet
        case rel => exact ⟨(), hR3, hBB⟩
    case rest =>
      obtain ⟨_, hR4, hb4⟩ := hcut
      clear hR hRd kp c1
      have c1 := hR4.c1
      have f1 := hR4.fz 1
      have hRm : Hid _ := hR4.move (pos + n)
      have hBf : Hid (Below B w (wc.setCell ⟨g, 1, none⟩ (.int .i64 ((pos + n : Nat) : Int)))) := (hbB.trans hb4).setCell hlo _
      replace hR4 : Hid _ := hR4
      go_wp2
      go_ret
      exact ⟨rfl, hRm.out, hBf.out⟩
end Go.Proofs.YtfbacidpjpghiaaGreatDoor
namespace Go.Proofs.YtfbacidpjpghiaaGreatDoor
open Go.RowKit
attribute [local go_sem ↓] Go.wp_at_zero Go.wp_at_succ
def stepM (l : List UInt8) (pos : Nat) (ts : List Tok) : Option (Bool × Nat × List Tok) :=
  if byteAt l 0 = 10 then some (true, pos + 1, endL ts pos)
  else if isSpaceB (byteAt l 0) = true then some (true, pos + 1, ts)
  else if Lib.hasPrefix l [47, 47] = true then some (true, pos + (lineM l).toNat, ts)
  else if Lib.hasPrefix l [47, 42] = true then some (decide ((commentM l).toNat ≠ 0), pos + (commentM l).toNat, if (commentM l).toNat = 0 then ts else commentT l (commentM l).toNat pos ts)
  else (measureM l).map fun x => (decide (x.2 ≠ 0), pos + x.2, if x.2 = 0 then ts else ts ++ [⟨x.1, ba (l.take x.2), pos⟩])
theorem indexByte_le (l : List UInt8) (c : UInt8) : Lib.indexByte l c ≤ l.length := by
  induction l with
  | nil => unfold Lib.indexByte; simp
  | cons b l ih =>
    unfold Lib.indexByte
    simp only [List.length_cons]
    split
    · omega
    · split <;> omega
theorem lineM_le (s : ByteArray) : 0 ≤ lineM s.toList ∧ lineM s.toList ≤ s.size := by
  have := indexByte_le s.toList 10
  unfold lineM
  rw [toList_len] at this ⊢
  split
  · exact ⟨by omega, this⟩
  · exact ⟨by omega, by omega⟩
theorem prefix_len (l p : List UInt8) (h : Lib.hasPrefix l p = true) : p.length ≤ l.length := by
  have : p.isPrefixOf l = true := h
  exact (List.isPrefixOf_iff_prefix.1 this).length_le
set_option maxRecDepth 20000 in
set_option maxHeartbeats 4000000 in
theorem step_any {w : World} {B g : Nat} {src : ByteArray} {pos : Nat} {ts : List Tok} (h : Rd w B g src pos ts) (hG : Glob w) (hB2 : 3 < B) (hpos : pos < src.size) (hsz : src.size < 1000000000) (hl : ts.length < 1000000000) (ok : Bool) (p' : Nat) (ts' : List Tok) (hM : stepM (src.toList.drop pos) pos ts = some (ok, p', ts')) :
    Calls Tryz.prog 20 #[.pointer (some ⟨g, 0, none⟩)] w fun e w' => e = .returned (.bool ok) ∧ Rd w' B g src p' ts' ∧ Below B w w' := by
  have hlo := h.lo
  have hgs := h.hi
  have c0 := h.c0
  have c1 := h.c1
  have hss : (src.extract pos src.size).size = src.size - pos := by rw [ByteArray.size_extract]; omega
  obtain ⟨s, hs⟩ : ∃ s, s = src.extract pos src.size := ⟨_, rfl⟩
  rw [← toList_drop, ← hs] at hM
  rw [← hs] at hss
  have hs0 : 0 < s.size := by omega
  unfold stepM at hM
  rw [byteAt_lt s hs0] at hM
  replace h : Hid _ := h
  go_enter Tryz.func20, Tryz.ntmps20
  go_upto_region 1 with fail
  go_cut [3] from 4 (fun v wc => v = .string s ∧ ∃ nq, wc = w.drewN nq)
  case first =>
    go_quiet (fail)
    go_wp2
    go_meet
    case rel => exact ⟨by rw [hs], nq, by first | trivial | rfl⟩
  case rest =>
    obtain ⟨rfl, nq, hW⟩ := hcut
    clear c0 c1 hs
    have hD : Below w.heap.size w wc := by rw [hW]; exact ⟨rfl, rfl, rfl, Nat.le_refl _, fun _ _ => rfl⟩
    have hR := h.out.next hD
    have hG1 := hG.next hD
    have hbB : Below B w wc := hD.mono (by omega)
    clear hW hD hG h
    generalize wc = W at *
    generalize hC : ((s[0]'hs0).toNat : Int) = C at *
    by_cases c10 : C = 10
    · have e10 : (C == 10) = true := by simp [c10]
      rw [if_pos c10] at hM
      obtain ⟨rfl, rfl, rfl⟩ := (by simpa using hM : true = ok ∧ pos + 1 = p' ∧ endL ts pos = ts')
      have c1 := hR.c1
      have ke : Hid _ := endLine_any hR pos hl
      replace hR : Hid _ := hR
      clear hM
      go_wp2_with fail
      refine Calls.mono ke.out ?_
      rintro e w2 ⟨rfl, hR2, hb2⟩
      clear ke hR c1
      have hB2q := hbB.trans hb2
      have c1 := hR2.c1
      have f1 := hR2.fz 1
      have hRm : Hid _ := hR2.move (pos + 1)
      have hBf : Hid (Below B w (w2.setCell ⟨g, 1, none⟩ (.int .i64 ((pos + 1 : Nat) : Int)))) := hB2q.setCell hlo _
      replace hR2 : Hid _ := hR2
      go_wp2
      go_ret
      exact ⟨rfl, hRm.out, hBf.out⟩
    · have e10 : (C == 10) = false := by simp [c10]
      rw [if_neg c10] at hM
      have ks : Hid _ := fun w => isSpace_any C w
      go_wp2_with fail
      refine Calls.mono (ks.out _) ?_
      rintro e w2 ⟨rfl, rfl⟩
      cases hsp : isSpaceB C with
      | true =>
        rw [if_pos hsp] at hM
        obtain ⟨rfl, rfl, rfl⟩ := (by simpa using hM : true = ok ∧ pos + 1 = p' ∧ ts = ts')
        clear hM hsp
        have c1 := hR.c1
        have f1 := hR.fz 1
        have hRm : Hid _ := hR.move (pos + 1)
        have hBf : Hid (Below B w (w2.setCell ⟨g, 1, none⟩ (.int .i64 ((pos + 1 : Nat) : Int)))) := hbB.setCell hlo _
        replace hR : Hid _ := hR
        go_wp2
        go_ret
        exact ⟨rfl, hRm.out, hBf.out⟩
      | false =>
        rw [if_neg (by rw [hsp]; decide)] at hM
        clear hsp
        have k1 : Hid (∀ w, Calls Tryz.prog 38 #[.string s, .string ⟨#[47, 47]⟩] w fun e w' => e = .returned (.bool (Lib.hasPrefix s.toList [47, 47])) ∧ w' = w) := fun w => by
          have := Tryz.strings_HasPrefix s ⟨#[47, 47]⟩ w
          rw [← ByteArray.toList_eq] at this
          exact this
        have k2 : Hid (∀ w, Calls Tryz.prog 38 #[.string s, .string ⟨#[47, 42]⟩] w fun e w' => e = .returned (.bool (Lib.hasPrefix s.toList [47, 42])) ∧ w' = w) := fun w => by
          have := Tryz.strings_HasPrefix s ⟨#[47, 42]⟩ w
          rw [← ByteArray.toList_eq] at this
          exact this
        go_wp2_with fail
        refine Calls.mono (k1.out _) ?_
        rintro e w3 ⟨rfl, rfl⟩
        cases hp1 : Lib.hasPrefix s.toList [47, 47] with
        | true =>
          rw [if_pos hp1] at hM
          obtain ⟨rfl, hp', rfl⟩ := (by simpa using hM : true = ok ∧ pos + (lineM s.toList).toNat = p' ∧ ts = ts')
          obtain ⟨hl0, hl1⟩ := lineM_le s
          obtain ⟨n, hn⟩ : ∃ n : Nat, lineM s.toList = (n : Int) := ⟨(lineM s.toList).toNat, by omega⟩
          have kl : Hid _ := fun w => lineLength_any s w
          rw [hn] at kl hl1 hp'
          rw [Int.toNat_natCast] at hp'
          subst hp'
          clear hM hp1 k1 k2 hn hl0
          have hD : Below w3.heap.size w3 w3.drew := (Below.refl _ _).drew
          have hRd := hR.next hD
          have c1 := hRd.c1
          have c1' := hR.c1
          have f1 := hRd.fz 1
          have hRm : Hid _ := hRd.move (pos + n)
          have hBf : Hid (Below B w (w3.drew.setCell ⟨g, 1, none⟩ (.int .i64 ((pos + n : Nat) : Int)))) := (hbB.trans (hD.mono (by have := hbB.size; omega))).setCell hlo _
          replace hR : Hid _ := hR
          replace hRd : Hid _ := hRd
          go_upto_region 9 with fail
          go_region_with (go_at_call 39; refine Calls.mono (kl.out _) ?_; rintro e w4 ⟨rfl, rfl⟩)
          all_goals
            have hwr : IntKind.i64.wrap ((pos : Int) + (n : Int)) = ((pos + n : Nat) : Int) := by rw [IntKind.wrap_i64]; omega
            go_wp2
            go_ret
            refine ⟨rfl, ?_, ?_⟩
            · first | exact hRm.out | (exact (hR.out.move (pos + n)).next (Below.refl _ _).drew) | (rw [hwr]; exact (hR.out.move (pos + n)).next (Below.refl _ _).drew)
            · first | exact hBf.out | (exact (hbB.setCell hlo _).drew) | (rw [hwr]; exact (hbB.setCell hlo _).drew)
        | false =>
          rw [if_neg (by rw [hp1]; decide)] at hM
          clear hp1
          go_wp2_with fail
          refine Calls.mono (k2.out _) ?_
          rintro e w4 ⟨rfl, rfl⟩
          cases hp2 : Lib.hasPrefix s.toList [47, 42] with
          | true =>
            rw [if_pos hp2] at hM
            have hlen := prefix_len _ _ hp2
            rw [toList_len] at hlen
            simp at hlen
            obtain ⟨hl0, hl1⟩ := commentM_room s hlen
            obtain ⟨n, hn⟩ : ∃ n : Nat, commentM s.toList = (n : Int) := ⟨(commentM s.toList).toNat, by omega⟩
            rw [hn, Int.toNat_natCast] at hM
            obtain ⟨e1, e2⟩ := Prod.mk.inj (Option.some.inj hM)
            obtain ⟨e2, e3⟩ := Prod.mk.inj e2
            have kc : Hid _ := readComment_any hR hG1 s hlen (by omega) (by omega) hl n hn
            rw [e1, e2, e3] at kc
            clear hM hp2 k1 k2 hn hl0 e1 e2 e3 hR
            go_wp2_with fail
            refine Calls.mono kc.out ?_
            rintro e w5 ⟨rfl, hR5, hb5⟩
            have hBf : Hid _ := hbB.trans hb5
            replace hR5 : Hid _ := hR5
            go_wp2
            go_ret
            exact ⟨rfl, hR5.out, hBf.out⟩
          | false =>
            rw [if_neg (by rw [hp2]; decide)] at hM
            obtain ⟨⟨k, n⟩, hme, hM⟩ := Option.map_eq_some_iff.1 hM
            obtain ⟨e1, e2⟩ := Prod.mk.inj hM
            obtain ⟨e2, e3⟩ := Prod.mk.inj e2
            simp only at e1 e2 e3
            have kt : Hid _ := readToken_any hR hG1 hB2 s hs0 (by omega) (by omega) hl k n hme
            rw [e1, e2, e3] at kt
            clear hM hp2 k1 k2 hme e1 e2 e3 hR
            go_wp2_with fail
            refine Calls.mono kt.out ?_
            rintro e w5 ⟨rfl, hR5, hb5⟩
            have hBf : Hid _ := hbB.trans hb5
            replace hR5 : Hid _ := hR5
            go_wp2
            go_ret
            exact ⟨rfl, hR5.out, hBf.out⟩
end Go.Proofs.YtfbacidpjpghiaaGreatDoor
namespace Go.Proofs.YtfbacidpjpghiaaGreatDoor
open Go.RowKit
attribute [local go_sem ↓] Go.wp_at_zero Go.wp_at_succ
theorem stepM_lt (s : ByteArray) (h0 : 0 < s.size) {pos p' : Nat} {ts ts' : List Tok} (h : stepM s.toList pos ts = some (true, p', ts')) : pos < p' ∧ p' ≤ pos + s.size ∧ ts'.length ≤ ts.length + 1 := by
  unfold stepM at h
  split at h
  · obtain ⟨_, e2⟩ := Prod.mk.inj (Option.some.inj h)
    obtain ⟨rfl, rfl⟩ := Prod.mk.inj e2
    exact ⟨by omega, by omega, endL_len _ _⟩
  · split at h
    · obtain ⟨_, e2⟩ := Prod.mk.inj (Option.some.inj h)
      obtain ⟨rfl, rfl⟩ := Prod.mk.inj e2
      exact ⟨by omega, by omega, by omega⟩
    · split at h
      · rename_i hp
        obtain ⟨_, e2⟩ := Prod.mk.inj (Option.some.inj h)
        obtain ⟨rfl, rfl⟩ := Prod.mk.inj e2
        obtain ⟨l0, l1⟩ := lineM_le s
        have hpos : 0 < lineM s.toList := by
          unfold lineM
          rw [toList_len]
          split
          · rename_i hi
            have hq : [47, 47].isPrefixOf s.toList = true := hp
            cases hl : s.toList with
            | nil => rw [hl] at hq; cases hq
            | cons c r =>
              rw [hl] at hq hi
              have hc : c = 47 := by
                have := (List.isPrefixOf_iff_prefix.1 hq)
                obtain ⟨t, ht⟩ := this
                have := congrArg List.head? ht
                simp at this
                exact this.symm
              subst hc
              unfold Lib.indexByte at hi ⊢
              rw [if_neg (by decide)] at hi ⊢
              split
              · rename_i hm
                rw [if_pos hm] at hi
                omega
              · rename_i hm
                rw [if_neg hm] at hi
                have hm' : Lib.indexByte r 10 ≠ -1 := by simpa using hm
                omega
          · omega
        exact ⟨by omega, by omega, by omega⟩
      · split at h
        · rename_i hp
          have hlen := prefix_len _ _ hp
          rw [toList_len] at hlen
          simp at hlen
          obtain ⟨l0, l1⟩ := commentM_room s hlen
          obtain ⟨e1, e2⟩ := Prod.mk.inj (Option.some.inj h)
          obtain ⟨rfl, rfl⟩ := Prod.mk.inj e2
          have hn : (commentM s.toList).toNat ≠ 0 := by simpa using e1
          refine ⟨by omega, by omega, ?_⟩
          rw [if_neg hn]
          unfold commentT
          split
          · exact endL_len _ _
          · omega
        · obtain ⟨⟨k, n⟩, hme, h⟩ := Option.map_eq_some_iff.1 h
          obtain ⟨e1, e2⟩ := Prod.mk.inj h
          obtain ⟨rfl, rfl⟩ := Prod.mk.inj e2
          have hn : n ≠ 0 := by simpa using e1
          have := measureM_le s h0 hme
          simp only
          refine ⟨by omega, by omega, ?_⟩
          rw [if_neg hn]
          simp
/-- Tokens, or the place of what is wrong. -/
inductive Res where
  | bad (p : Nat)
  | good (ts : List Tok)
def scanGo (S : List UInt8) : Nat → Nat → List Tok → Option Res
  | 0, _, _ => none
  | f + 1, pos, ts => if pos < S.length then (match stepM (S.drop pos) pos ts with
      | none => none
      | some (false, p, _) => some (.bad p)
      | some (true, p, ts') => scanGo S f p ts') else some (.good (endL ts pos ++ [⟨0, ba [], pos⟩]))
def scanM (S : List UInt8) : Option Res := scanGo S (S.length + 1) 0 []
/-- What Scan answers. -/
def ScanOut (w w' : World) (e : Ending) : Res → Prop
  | .bad p => e = .returned (.tuple #[.slice none 0 0, .int .i64 p, .bool false])
  | .good ts => ∃ a l c, e = .returned (.tuple #[.slice a l c, .int .i64 0, .bool true]) ∧ w'.ownsRow w.heap.size 32 3 (.slice a l c) ts.length (flatT ts)
theorem ba_nil : ba [] = ⟨#[]⟩ := rfl
set_option maxRecDepth 20000 in
set_option maxHeartbeats 4000000 in
theorem Scan_any (w : World) (S : ByteArray) (v : Value) (hconv : (convert 22 9 v).run Tryz.prog w = .ok (.string S) w) (hG : Glob w) (hB2 : 3 < w.heap.size) (hsz : S.size < 900000000) (res : Res) (hM : scanM S.toList = some res) :
    Calls Tryz.prog 12 #[v] w fun e w' => ScanOut w w' e res ∧ Below w.heap.size w w' := by
  obtain ⟨W, hW⟩ : ∃ W, W = w.alloc (.cells #[.string S, .int .i64 0, .slice none 0 0] 52) := ⟨_, rfl⟩
  have hbW : Below w.heap.size w W := by rw [hW]; exact (Below.refl _ _).alloc (Nat.le_refl _) _
  have hR0 : Rd W w.heap.size w.heap.size S 0 [] := by
    rw [hW]
    exact ⟨by simp [go_sem], by simp [go_sem], ⟨.slice none 0 0, by simp [go_sem], World.ownsRow_nil _ _ _ _, by simp [Value.ownBlock], none, 0, 0, rfl⟩, fun o => by simp [go_sem], Nat.le_refl _, by simp⟩
  have hOut : Hid (∀ w' p, ScanOut w w' (.returned (.tuple #[.slice none 0 0, .int .i64 (p : Nat), .bool false])) (.bad p)) := fun w' p => rfl
  obtain ⟨g, hg⟩ : ∃ g, g = w.heap.size := ⟨_, rfl⟩
  replace hM : Hid _ := hM
  replace hG : Hid (Glob w) := hG
  go_enter Tryz.func12, Tryz.ntmps12
  go_upto_region 2 with fail
  rw [← hW]
  clear hW hconv
  go_loopw [] (fun wr => ∃ (f pos : Nat) (ts : List Tok), Hid (Rd wr w.heap.size w.heap.size S pos ts) ∧ pos ≤ S.size ∧ ts.length ≤ pos ∧ Hid (scanGo S.toList f pos ts = some res) ∧ Hid (Below w.heap.size w wr)) (fun wr => (S.size - intOf ((wr.cell? ⟨w.heap.size, 1, none⟩).getD undef)).toNat)
  case atStart => exact ⟨S.size + 1, 0, [], hR0, Nat.zero_le _, Nat.le_refl _, by have := hM.out; unfold scanM at this; rw [toList_len] at this; exact this, hbW⟩
  case round =>
    obtain ⟨f, pos, ts, hR, hp, hl, hI, hb⟩ := hrel
    have c0 := hR.out.c0
    have c1 := hR.out.c1
    have hGr : Hid (Glob wr) := Glob.next hG.out hb.out
    cases f with
    | zero => exact absurd hI.out (by unfold scanGo; simp)
    | succ f =>
      have hI' := hI.out
      unfold scanGo at hI'
      rw [toList_len] at hI'
      by_cases hlt : pos < S.size
      · have d1 : decide ((pos : Int) < S.size) = true := decide_eq_true (by omega)
        rw [if_pos hlt] at hI'
        have hss : (S.extract pos S.size).size = S.size - pos := by rw [ByteArray.size_extract]; omega
        have klt : Hid (∀ p' ts', stepM (S.toList.drop pos) pos ts = some (true, p', ts') → pos < p' ∧ p' ≤ pos + (S.size - pos) ∧ ts'.length ≤ ts.length + 1) := fun p' ts' h => by
          have := stepM_lt (S.extract pos S.size) (by omega) (pos := pos) (ts := ts) (p' := p') (ts' := ts') (by rw [toList_drop]; exact h)
          rw [hss] at this
          exact this
        have kst : Hid (∀ ok p' ts', stepM (S.toList.drop pos) pos ts = some (ok, p', ts') → Calls Tryz.prog 20 #[.pointer (some ⟨w.heap.size, 0, none⟩)] wr fun e w' => e = .returned (.bool ok) ∧ Rd w' w.heap.size w.heap.size S p' ts' ∧ Below w.heap.size wr w') := fun ok p' ts' h => step_any hR.out hGr.out hB2 hlt (by omega) (by omega) ok p' ts' h
        clear hss
        cases hst : stepM (S.toList.drop pos) pos ts with
        | none => rw [hst] at hI'; cases hI'
        | some r =>
          obtain ⟨ok, p', ts'⟩ := r
          rw [hst] at hI'
          have ks : Hid _ := kst.out ok p' ts' hst
          have kl : Hid _ := klt.out p' ts'
          cases ok with
          | false =>
            clear kst klt kl hst hGr hI
            go_wp2_with fail
            refine Calls.mono ks.out ?_
            rintro e w2 ⟨rfl, hR2, hb2⟩
            have hB2' : Hid _ := hb.out.trans hb2
            have e1 := hR2.c1
            clear c0 c1 hR hR0 ks
            replace hR2 : Hid _ := hR2
            obtain rfl := Option.some.inj hI'
            go_upto_region 4 with fail
            go_quiet (fail)
            go_wp2
            exact bodyPost_ret (v := .tuple #[.slice none 0 0, .int .i64 p', .bool false]) (by simp [results, Tryz.results12, go_sem]) rfl ⟨rfl, by first | exact hB2'.out | (exact hB2'.out.drew) | (exact hB2'.out.trans ⟨rfl, rfl, rfl, Nat.le_refl _, fun _ _ => rfl⟩)⟩
          | true =>
            have hk := kl.out hst
            clear kst klt kl hst hGr hI
            go_wp2_with fail
            refine Calls.mono ks.out ?_
            rintro e w2 ⟨rfl, hR2, hb2⟩
            have hB2' : Hid _ := hb.out.trans hb2
            have e1 := hR2.c1
            replace hR2 : Hid _ := hR2
            replace hI' : Hid (scanGo S.toList f p' ts' = some res) := hI'
            clear hR0 ks
            go_wp2
            go_roundw
            case rel => exact ⟨f, p', ts', hR2, by omega, by omega, hI', hB2'⟩
            case measure => rw [e1, c1]; simp [intOf]; omega
      · have d1 : decide ((pos : Int) < S.size) = false := decide_eq_false (by omega)
        rw [if_neg hlt] at hI'
        have ke : Hid _ := endLine_any hR.out pos (by omega)
        obtain rfl := Option.some.inj hI'
        clear hI hGr hR0
        go_wp2_with fail
        refine Calls.mono ke.out ?_
        rintro e w2 ⟨rfl, hR2, hb2⟩
        have hB2' : Hid _ := hb.out.trans hb2
        clear c0 c1 hR ke
        have c1 := hR2.c1
        have hel := endL_len ts pos
        have kp : Hid _ := put_any hR2 0 pos ⟨#[]⟩ (by omega)
        replace hR2 : Hid _ := hR2
        go_wp2_with fail
        refine Calls.mono kp.out ?_
        rintro e w3 ⟨rfl, hR3, hb3⟩
        have hB3' : Hid _ := hB2'.out.trans hb3
        clear c1 hR2 kp
        obtain ⟨v3, v30, v31, v32, a3, l3, c3, rfl⟩ := hR3.c2
        replace v31 : Hid _ := v31
        replace hR3 : Hid _ := hR3
        go_wp2
        exact bodyPost_ret (v := .tuple #[.slice a3 l3 c3, .int .i64 0, .bool true]) (by simp [results, Tryz.results12, go_sem]) rfl ⟨⟨a3, l3, c3, rfl, v31.out⟩, hB3'.out⟩
end Go.Proofs.YtfbacidpjpghiaaGreatDoor
