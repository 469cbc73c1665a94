/- scan: Scan. -/
import Derived.Test.YtffggadmpdmbdaaGreatDoorSn
namespace Go.Proofs.YtffggadmpdmbdaaGreatDoor
open Go.RowKit
attribute [local go_sem ↓] Go.wp_at_zero Go.wp_at_succ
theorem stepM_lt (s : ByteArray) (h0 : 0 < s.size) {pos p' : Nat} {ts ts' : List Tok} (h : stepM s.toList pos ts = some (true, p', ts')) : pos < p' ∧ p' ≤ pos + s.size ∧ ts'.length ≤ ts.length + 1 := by
  unfold stepM at h
  split at h
  · obtain ⟨_, e2⟩ := Prod.mk.inj (Option.some.inj h)
    obtain ⟨rfl, rfl⟩ := Prod.mk.inj e2
    exact ⟨by omega, by omega, endL_len _ _⟩
  · split at h
    · obtain ⟨_, e2⟩ := Prod.mk.inj (Option.some.inj h)
      obtain ⟨rfl, rfl⟩ := Prod.mk.inj e2
      exact ⟨by omega, by omega, by omega⟩
    · split at h
      · rename_i hp
        obtain ⟨_, e2⟩ := Prod.mk.inj (Option.some.inj h)
        obtain ⟨rfl, rfl⟩ := Prod.mk.inj e2
        obtain ⟨l0, l1⟩ := lineM_le s
        have hpos : 0 < lineM s.toList := by
          unfold lineM
          rw [toList_len]
          split
          · rename_i hi
            have hq : [47, 47].isPrefixOf s.toList = true := hp
            cases hl : s.toList with
            | nil => rw [hl] at hq; cases hq
            | cons c r =>
              rw [hl] at hq hi
              have hc : c = 47 := by
                have := (List.isPrefixOf_iff_prefix.1 hq)
                obtain ⟨t, ht⟩ := this
                have := congrArg List.head? ht
                simp at this
                exact this.symm
              subst hc
              unfold Lib.indexByte at hi ⊢
              rw [if_neg (by decide)] at hi ⊢
              split
              · rename_i hm
                rw [if_pos hm] at hi
                omega
              · rename_i hm
                rw [if_neg hm] at hi
                have hm' : Lib.indexByte r 10 ≠ -1 := by simpa using hm
                omega
          · omega
        exact ⟨by omega, by omega, by omega⟩
      · split at h
        · rename_i hp
          have hlen := prefix_len _ _ hp
          rw [toList_len] at hlen
          simp at hlen
          obtain ⟨l0, l1⟩ := commentM_room s hlen
          obtain ⟨e1, e2⟩ := Prod.mk.inj (Option.some.inj h)
          obtain ⟨rfl, rfl⟩ := Prod.mk.inj e2
          have hn : (commentM s.toList).toNat ≠ 0 := by simpa using e1
          refine ⟨by omega, by omega, ?_⟩
          rw [if_neg hn]
          unfold commentT
          split
          · exact endL_len _ _
          · omega
        · obtain ⟨⟨k, n⟩, hme, h⟩ := Option.map_eq_some_iff.1 h
          obtain ⟨e1, e2⟩ := Prod.mk.inj h
          obtain ⟨rfl, rfl⟩ := Prod.mk.inj e2
          have hn : n ≠ 0 := by simpa using e1
          have := measureM_le s h0 hme
          simp only
          refine ⟨by omega, by omega, ?_⟩
          rw [if_neg hn]
          simp
/-- Tokens, or the place of what is wrong. -/
inductive Res where
  | bad (p : Nat)
  | good (ts : List Tok)
def scanGo (S : List UInt8) : Nat → Nat → List Tok → Option Res
  | 0, _, _ => none
  | f + 1, pos, ts => if pos < S.length then (match stepM (S.drop pos) pos ts with
      | none => none
      | some (false, p, _) => some (.bad p)
      | some (true, p, ts') => scanGo S f p ts') else some (.good (endL ts pos ++ [⟨0, ba [], pos⟩]))
def scanM (S : List UInt8) : Option Res := scanGo S (S.length + 1) 0 []
/-- What Scan answers. -/
def ScanOut (w w' : World) (e : Ending) : Res → Prop
  | .bad p => e = .returned (.tuple #[.slice none 0 0, .int .i64 p, .bool false])
  | .good ts => ∃ a l c, e = .returned (.tuple #[.slice a l c, .int .i64 0, .bool true]) ∧ w'.ownsRow w.heap.size 33 3 (.slice a l c) ts.length (flatT ts)
theorem ba_nil : ba [] = ⟨#[]⟩ := rfl
set_option maxRecDepth 20000 in
set_option maxHeartbeats 4000000 in
theorem Scan_any (w : World) (S : ByteArray) (v : Value) (hconv : (convert 22 9 v).run Tryz.prog w = .ok (.string S) w) (hG : Glob w) (hB2 : 3 < w.heap.size) (hsz : S.size < 900000000) (res : Res) (hM : scanM S.toList = some res) :
    Calls Tryz.prog 6 #[v] w fun e w' => ScanOut w w' e res ∧ Below w.heap.size w w' := by
  obtain ⟨W, hW⟩ : ∃ W, W = w.alloc (.cells #[.string S, .int .i64 0, .slice none 0 0] 36) := ⟨_, rfl⟩
  have hbW : Below w.heap.size w W := by rw [hW]; exact (Below.refl _ _).alloc (Nat.le_refl _) _
  have hR0 : Rd W w.heap.size w.heap.size S 0 [] := by
    rw [hW]
    exact ⟨by simp [go_sem], by simp [go_sem], ⟨.slice none 0 0, by simp [go_sem], World.ownsRow_nil _ _ _ _, by simp [Value.ownBlock], none, 0, 0, rfl⟩, fun o => by simp [go_sem], Nat.le_refl _, by simp⟩
  have hOut : Hid (∀ w' p, ScanOut w w' (.returned (.tuple #[.slice none 0 0, .int .i64 (p : Nat), .bool false])) (.bad p)) := fun w' p => rfl
  obtain ⟨g, hg⟩ : ∃ g, g = w.heap.size := ⟨_, rfl⟩
  replace hM : Hid _ := hM
  replace hG : Hid (Glob w) := hG
  go_enter Tryz.func6, Tryz.ntmps6
  go_upto_region 2 with fail
  rw [← hW]
  clear hW hconv
  go_loopw [] (fun wr => ∃ (f pos : Nat) (ts : List Tok), Hid (Rd wr w.heap.size w.heap.size S pos ts) ∧ pos ≤ S.size ∧ ts.length ≤ pos ∧ Hid (scanGo S.toList f pos ts = some res) ∧ Hid (Below w.heap.size w wr)) (fun wr => (S.size - intOf ((wr.cell? ⟨w.heap.size, 1, none⟩).getD undef)).toNat)
  case atStart => exact ⟨S.size + 1, 0, [], hR0, Nat.zero_le _, Nat.le_refl _, by have := hM.out; unfold scanM at this; rw [toList_len] at this; exact this, hbW⟩
  case round =>
    obtain ⟨f, pos, ts, hR, hp, hl, hI, hb⟩ := hrel
    have c0 := hR.out.c0
    have c1 := hR.out.c1
    have hGr : Hid (Glob wr) := Glob.next hG.out hb.out
    cases f with
    | zero => exact absurd hI.out (by unfold scanGo; simp)
    | succ f =>
      have hI' := hI.out
      unfold scanGo at hI'
      rw [toList_len] at hI'
      by_cases hlt : pos < S.size
      · have d1 : decide ((pos : Int) < S.size) = true := decide_eq_true (by omega)
        rw [if_pos hlt] at hI'
        have hss : (S.extract pos S.size).size = S.size - pos := by rw [ByteArray.size_extract]; omega
        have klt : Hid (∀ p' ts', stepM (S.toList.drop pos) pos ts = some (true, p', ts') → pos < p' ∧ p' ≤ pos + (S.size - pos) ∧ ts'.length ≤ ts.length + 1) := fun p' ts' h => by
          have := stepM_lt (S.extract pos S.size) (by omega) (pos := pos) (ts := ts) (p' := p') (ts' := ts') (by rw [toList_drop]; exact h)
          rw [hss] at this
          exact this
        have kst : Hid (∀ ok p' ts', stepM (S.toList.drop pos) pos ts = some (ok, p', ts') → Calls Tryz.prog 11 #[.pointer (some ⟨w.heap.size, 0, none⟩)] wr fun e w' => e = .returned (.bool ok) ∧ Rd w' w.heap.size w.heap.size S p' ts' ∧ Below w.heap.size wr w') := fun ok p' ts' h => step_any hR.out hGr.out hB2 hlt (by omega) (by omega) ok p' ts' h
        clear hss
        cases hst : stepM (S.toList.drop pos) pos ts with
        | none => rw [hst] at hI'; cases hI'
        | some r =>
          obtain ⟨ok, p', ts'⟩ := r
          rw [hst] at hI'
          have ks : Hid _ := kst.out ok p' ts' hst
          have kl : Hid _ := klt.out p' ts'
          cases ok with
          | false =>
            clear kst klt kl hst hGr hI
            go_wp2_with fail
            refine Calls.mono ks.out ?_
            rintro e w2 ⟨rfl, hR2, hb2⟩
            have hB2' : Hid _ := hb.out.trans hb2
            have e1 := hR2.c1
            clear c0 c1 hR hR0 ks
            replace hR2 : Hid _ := hR2
            obtain rfl := Option.some.inj hI'
            go_upto_region 4 with fail
            go_quiet (fail)
            go_wp2
            exact bodyPost_ret (v := .tuple #[.slice none 0 0, .int .i64 p', .bool false]) (by simp [results, Tryz.results6, go_sem]) rfl ⟨rfl, by first | exact hB2'.out | (exact hB2'.out.drew) | (exact hB2'.out.trans ⟨rfl, rfl, rfl, Nat.le_refl _, fun _ _ => rfl⟩)⟩
          | true =>
            have hk := kl.out hst
            clear kst klt kl hst hGr hI
            go_wp2_with fail
            refine Calls.mono ks.out ?_
            rintro e w2 ⟨rfl, hR2, hb2⟩
            have hB2' : Hid _ := hb.out.trans hb2
            have e1 := hR2.c1
            replace hR2 : Hid _ := hR2
            replace hI' : Hid (scanGo S.toList f p' ts' = some res) := hI'
            clear hR0 ks
            go_wp2
            go_roundw
            case rel => exact ⟨f, p', ts', hR2, by omega, by omega, hI', hB2'⟩
            case measure => rw [e1, c1]; simp [intOf]; omega
      · have d1 : decide ((pos : Int) < S.size) = false := decide_eq_false (by omega)
        rw [if_neg hlt] at hI'
        have ke : Hid _ := endLine_any hR.out pos (by omega)
        obtain rfl := Option.some.inj hI'
        clear hI hGr hR0
        go_wp2_with fail
        refine Calls.mono ke.out ?_
        rintro e w2 ⟨rfl, hR2, hb2⟩
        have hB2' : Hid _ := hb.out.trans hb2
        clear c0 c1 hR ke
        have c1 := hR2.c1
        have hel := endL_len ts pos
        have kp : Hid _ := put_any hR2 0 pos ⟨#[]⟩ (by omega)
        replace hR2 : Hid _ := hR2
        go_wp2_with fail
        refine Calls.mono kp.out ?_
        rintro e w3 ⟨rfl, hR3, hb3⟩
        have hB3' : Hid _ := hB2'.out.trans hb3
        clear c1 hR2 kp
        obtain ⟨v3, v30, v31, v32, a3, l3, c3, rfl⟩ := hR3.c2
        replace v31 : Hid _ := v31
        replace hR3 : Hid _ := hR3
        go_wp2
        exact bodyPost_ret (v := .tuple #[.slice a3 l3 c3, .int .i64 0, .bool true]) (by simp [results, Tryz.results6, go_sem]) rfl ⟨⟨a3, l3, c3, rfl, v31.out⟩, hB3'.out⟩
end Go.Proofs.YtffggadmpdmbdaaGreatDoor
