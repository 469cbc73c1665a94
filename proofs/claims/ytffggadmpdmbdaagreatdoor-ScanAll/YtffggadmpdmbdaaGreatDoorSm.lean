/- scan: a comment, a token, a step. -/
import Derived.Test.YtffggadmpdmbdaaGreatDoorSk
namespace Go.Proofs.YtffggadmpdmbdaaGreatDoor
open Go.RowKit
attribute [local go_sem ↓] Go.wp_at_zero Go.wp_at_succ
def ba (l : List UInt8) : ByteArray := ⟨l.toArray⟩
theorem ba_toList (l : List UInt8) : (ba l).toList = l := by rw [ByteArray.toList_eq]; rfl
theorem ba_of (s : ByteArray) : ba s.toList = s := by rw [ByteArray.toList_eq]; unfold ba; simp
theorem ba_take (s : ByteArray) (n : Nat) : s.extract 0 n = ba (s.toList.take n) := by rw [← ba_of (s.extract 0 n), toList_take]
theorem index_room (l sub : List UInt8) (h : 0 ≤ Lib.index l sub) : Lib.index l sub + sub.length ≤ l.length := by
  induction l with
  | nil =>
    unfold Lib.index at h ⊢
    split
    · rename_i he
      have : sub = [] := by cases sub with | nil => rfl | cons => simp at he
      subst this
      simp
    · rename_i he
      rw [if_neg he] at h
      omega
  | cons b l ih =>
    unfold Lib.index at h ⊢
    split
    · rename_i hp
      have := (List.isPrefixOf_iff_prefix.1 hp).length_le
      simp at this ⊢
      omega
    · rename_i hp
      rw [if_neg hp] at h
      split
      · rename_i hm
        rw [if_pos hm] at h
        omega
      · rename_i hm
        rw [if_neg hm] at h
        have hm' : Lib.index l sub ≠ -1 := by simpa using hm
        have := ih (by omega)
        simp only [List.length_cons]
        omega
theorem commentM_room (s : ByteArray) (h2 : 2 ≤ s.size) : 0 ≤ commentM s.toList ∧ commentM s.toList ≤ s.size := by
  unfold commentM
  split
  · exact ⟨by omega, by omega⟩
  · have := index_room (s.toList.drop 2) [42, 47] (by omega)
    rw [List.length_drop, toList_len] at this
    simp at this
    exact ⟨by omega, by omega⟩
/-- Behind a comment of n bytes. -/
def commentT (l : List UInt8) (n pos : Nat) (ts : List Tok) : List Tok := if 0 ≤ Lib.indexByte (l.take n) 10 then endL ts pos else ts
theorem endL_len (ts : List Tok) (a : Int) : (endL ts a).length ≤ ts.length + 1 := by
  unfold endL
  split
  · omega
  · split
    · simp
    · omega
set_option maxRecDepth 20000 in
set_option maxHeartbeats 4000000 in
theorem readComment_any {w : World} {B g : Nat} {src : ByteArray} {pos : Nat} {ts : List Tok} (h : Rd w B g src pos ts) (hG : Glob w) (s : ByteArray) (h2 : 2 ≤ s.size) (hs : s.size < 4294967281) (hp : pos < 1000000000) (hl : ts.length < 1000000000) (n : Nat) (hn : commentM s.toList = (n : Int)) :
    Calls Tryz.prog 30 #[.pointer (some ⟨g, 0, none⟩), .string s] w fun e w' => e = .returned (.bool (decide (n ≠ 0))) ∧ Rd w' B g src (pos + n) (if n = 0 then ts else commentT s.toList n pos ts) ∧ Below B w w' := by
  have hlo := h.lo
  have hgs := h.hi
  have kc : Hid _ := commentLength_any s w hG h2 hs
  rw [hn] at kc
  have hroom := (commentM_room s h2).2
  rw [hn] at hroom
  by_cases hz : n = 0
  · subst hz
    replace h : Hid _ := h
    go_enter Tryz.func30, Tryz.ntmps30
    go_wp2_with fail
    refine Calls.mono kc.out ?_
    rintro e w1 ⟨rfl, rfl⟩
    go_wp2
    go_ret
    exact ⟨rfl, by first | trivial | exact h.out | simpa using h.out, Below.refl _ _⟩
  · have d0 : ((n : Int) == 0) = false := by simpa using hz
    have hdn : decide (n ≠ 0) = true := decide_eq_true hz
    rw [if_neg hz, hdn]
    have hT : Hid (commentT s.toList n pos ts = if 0 ≤ Lib.indexByte (s.toList.take n) 10 then endL ts pos else ts) := rfl
    have kk : Hid (∀ w, Calls Tryz.prog 44 #[.string (s.extract 0 n), .string ⟨#[10]⟩] w fun e w' => e = .returned (.bool (decide (0 ≤ Lib.indexByte (s.toList.take n) 10))) ∧ w' = w) := fun w => by
      have := Tryz.strings_Contains_one (s.extract 0 n) 10 w
      rw [← ByteArray.toList_eq, toList_take] at this
      exact this
    have c1 := h.c1
    have f1 := h.fz 1
    have ke : Hid _ := endLine_any h pos hl
    replace h : Hid _ := h
    go_enter Tryz.func30, Tryz.ntmps30
    go_wp2_with fail
    refine Calls.mono kc.out ?_
    rintro e w1 ⟨rfl, rfl⟩
    clear kc
    go_wp2_with fail
    refine Calls.mono (kk.out _) ?_
    rintro e w2 ⟨rfl, rfl⟩
    by_cases hi : 0 ≤ Lib.indexByte (s.toList.take n) 10
    · rw [if_pos hi] at hT
      rw [decide_eq_true hi]
      clear hi kk
      go_wp2_with fail
      refine Calls.mono ke.out ?_
      rintro e w3 ⟨rfl, hR, hb⟩
      clear ke c1 f1
      have c1 := hR.c1
      have f1 := hR.fz 1
      have hRm : Hid _ := hR.move (pos + n)
      have hBf : Hid (Below B w2 (w3.setCell ⟨g, 1, none⟩ (.int .i64 ((pos + n : Nat) : Int)))) := hb.setCell hlo _
      replace hR : Hid _ := hR
      go_wp2
      go_ret
      exact ⟨rfl, by rw [hT.out]; exact hRm.out, hBf.out⟩
    · rw [if_neg hi] at hT
      rw [decide_eq_false hi]
      clear hi kk ke
      have hRm : Hid _ := h.out.move (pos + n)
      have hBf : Hid (Below B w2 (w2.setCell ⟨g, 1, none⟩ (.int .i64 ((pos + n : Nat) : Int)))) := (Below.refl _ _).setCell hlo _
      go_wp2
      go_ret
      exact ⟨rfl, by rw [hT.out]; exact hRm.out, hBf.out⟩
set_option maxRecDepth 20000 in
set_option maxHeartbeats 4000000 in
theorem readToken_any {w : World} {B g : Nat} {src : ByteArray} {pos : Nat} {ts : List Tok} (h : Rd w B g src pos ts) (hG : Glob w) (_hB2 : 3 < B) (s : ByteArray) (h0 : 0 < s.size) (hs : s.size < 4294967281) (hp : pos < 1000000000) (hl : ts.length < 1000000000) (k : Int) (n : Nat) (hM : measureM s.toList = some (k, n)) :
    Calls Tryz.prog 31 #[.pointer (some ⟨g, 0, none⟩), .string s] w fun e w' => e = .returned (.bool (decide (n ≠ 0))) ∧ Rd w' B g src (pos + n) (if n = 0 then ts else ts ++ [⟨k, ba (s.toList.take n), pos⟩]) ∧ Below B w w' := by
  have hlo := h.lo
  have hgs := h.hi
  have km : Hid _ := measure_any s w hG h0 k n hM (by omega)
  have hroom := measureM_le s h0 hM
  clear hM
  by_cases hz : n = 0
  · subst hz
    replace h : Hid _ := h
    go_enter Tryz.func31, Tryz.ntmps31
    go_wp2_with fail
    refine Calls.mono km.out ?_
    rintro e w1 ⟨rfl, hb⟩
    have hR : Hid _ := h.out.next hb
    have hbB : Below B w w1 := hb.mono (by omega)
    go_wp2
    go_ret
    exact ⟨rfl, by first | trivial | exact hR.out | simpa using hR.out, hbB⟩
  · have d0 : ((n : Int) == 0) = false := by simpa using hz
    have hdn : decide (n ≠ 0) = true := decide_eq_true hz
    rw [if_neg hz, hdn]
    replace h : Hid _ := h
    go_enter Tryz.func31, Tryz.ntmps31
    go_wp2_with fail
    refine Calls.mono km.out ?_
    rintro e w1 ⟨rfl, hb⟩
    clear km
    have hR := h.out.next hb
    have hbB : Below B w w1 := hb.mono (by omega)
    have c1 := hR.c1
    have hD : Below w1.heap.size w1 w1.drew := (Below.refl _ _).drew
    have hRd := hR.next hD
    have kp : Hid _ := put_any hRd k pos (s.extract 0 n) hl
    rw [ba_take] at kp
    have hba := ba_take s n
    go_upto_region 4 with fail
    go_cut [] from 14 (fun wc => ∃ X : Unit, Rd wc B g src pos (ts ++ [⟨k, ba (s.toList.take n), pos⟩]) ∧ Below B w1 wc)
    case first =>
      replace hR : Hid _ := hR
      replace hRd : Hid _ := hRd
      go_region_with (go_at_call 13; refine Calls.mono kp.out ?_; rintro e w3 ⟨rfl, hR3, hb3⟩; have hBB : Below B w1 w3 := (hD.mono (by have := hbB.size; omega)).trans hb3)
      all_goals
        go_wp2
        go_meet
        case rel => exact ⟨(), hR3, hBB⟩
    case rest =>
      obtain ⟨_, hR4, hb4⟩ := hcut
      clear hR hRd kp c1
      have c1 := hR4.c1
      have f1 := hR4.fz 1
      have hRm : Hid _ := hR4.move (pos + n)
      have hBf : Hid (Below B w (wc.setCell ⟨g, 1, none⟩ (.int .i64 ((pos + n : Nat) : Int)))) := (hbB.trans hb4).setCell hlo _
      replace hR4 : Hid _ := hR4
      go_wp2
      go_ret
      exact ⟨rfl, hRm.out, hBf.out⟩
end Go.Proofs.YtffggadmpdmbdaaGreatDoor
