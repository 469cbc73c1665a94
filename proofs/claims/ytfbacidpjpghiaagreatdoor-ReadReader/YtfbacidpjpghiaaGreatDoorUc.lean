/- scan: what is written is read again. -/
import Derived.Test.YtfbacidpjpghiaaGreatDoorUb
namespace Go.Proofs.YtfbacidpjpghiaaGreatDoor
open Go.RowKit
/-- The texts of tokens, with blanks between. -/
def againT (t : Tok) : List UInt8 := t.text.toList ++ if t.text.toList = [10] then [] else [32]
def again (ts : List Tok) : List UInt8 := ts.flatMap againT
theorem again_snoc (ts : List Tok) (t : Tok) : again (ts ++ [t]) = again ts ++ againT t := by simp [again]
def keyT (t : Tok) : Int × ByteArray := (t.kind, t.text)
def SameT (ts ts' : List Tok) : Prop := ts'.map keyT = ts.map keyT
theorem SameT.snoc {ts ts' : List Tok} (h : SameT ts ts') (t t' : Tok) (hk : keyT t' = keyT t) : SameT (ts ++ [t]) (ts' ++ [t']) := by
  unfold SameT at h ⊢
  rw [List.map_append, List.map_append, h, List.map_singleton, List.map_singleton, hk]
theorem SameT.last {ts ts' : List Tok} (h : SameT ts ts') : ts'.getLast?.map keyT = ts.getLast?.map keyT := by
  rw [← List.getLast?_map, ← List.getLast?_map, h]
def Reads (ts : List Tok) : Prop := ∃ ts' c, SameT ts ts' ∧ c ≤ (again ts).length ∧ ∀ R F, scanGo (again ts ++ R) (F + c) 0 [] = scanGo (again ts ++ R) F (again ts).length ts'
theorem reads_nil : Reads [] := ⟨[], 0, rfl, Nat.zero_le _, fun _ _ => rfl⟩
theorem step_blank (R : List UInt8) (pos : Nat) (ts : List Tok) : stepM (32 :: R) pos ts = some (true, pos + 1, ts) := by
  have h : byteAt (32 :: R) 0 = 32 := rfl
  unfold stepM
  rw [h, if_neg (by decide), if_pos (by decide)]
theorem step_line (R : List UInt8) (pos : Nat) (ts : List Tok) : stepM (10 :: R) pos ts = some (true, pos + 1, endL ts pos) := by
  have h : byteAt (10 :: R) 0 = 10 := rfl
  unfold stepM
  rw [h, if_pos rfl]
theorem scanGo_step (S : List UInt8) (F pos p : Nat) (ts ts' : List Tok) (hp : pos < S.length) (h : stepM (S.drop pos) pos ts = some (true, p, ts')) : scanGo S (F + 1) pos ts = scanGo S F p ts' := by
  rw [scanGo, if_pos hp, h]
theorem reads_good (ts : List Tok) (t : Tok) (h : Reads ts) (hg : Good t) : Reads (ts ++ [t]) := by
  obtain ⟨ts', c, hs, hc, hr⟩ := h
  obtain ⟨l, n, hm, h0, hn, ht, g1, g2, g3, g4⟩ := hg
  have htl : t.text.toList = l.take n := by rw [ht, ba_toList]
  have hne : t.text.toList ≠ [10] := by
    intro h
    rw [htl] at h
    apply g1
    have : byteAt (l.take n) 0 = byteAt l 0 := byteAt_take l n 0 h0
    rw [← this, h]
    rfl
  have ha : againT t = l.take n ++ [32] := by unfold againT; rw [if_neg hne, htl]
  have hlen : (again (ts ++ [t])).length = (again ts).length + n + 1 := by
    rw [again_snoc, ha, List.length_append, List.length_append, List.length_take, Nat.min_eq_left hn]
    simp
    omega
  refine ⟨ts' ++ [⟨t.kind, ba (l.take n), (again ts).length⟩], c + 2, hs.snoc _ _ (by unfold keyT; simp only; rw [ht]), by rw [hlen]; omega, fun R F => ?_⟩
  have hS : again (ts ++ [t]) ++ R = again ts ++ ext l n R := by
    rw [again_snoc, ha]
    unfold ext
    simp
  rw [hlen, hS, show F + (c + 2) = (F + 2) + c by omega, hr]
  have hL : (again ts ++ ext l n R).length = (again ts).length + (n + 1 + R.length) := by rw [List.length_append, ext_len l n R hn]
  rw [scanGo_step _ (F + 1) _ ((again ts).length + n) ts' (ts' ++ [⟨t.kind, ba (l.take n), (again ts).length⟩]) (by rw [hL]; omega)
    (by rw [List.drop_left]; exact step_good l t.kind n R _ ts' hm h0 hn g1 g2 g3 g4)]
  rw [scanGo_step _ F _ ((again ts).length + n + 1) _ (ts' ++ [⟨t.kind, ba (l.take n), (again ts).length⟩]) (by rw [hL]; omega)
    (by
      rw [← List.drop_drop, List.drop_left, ext_drop l n n R (Nat.le_refl _) hn, Nat.sub_self, ext_zero]
      exact step_blank R _ _)]
theorem endL_asks {ts : List Tok} {t : Tok} (a : Int) (h : ts.getLast? = some t) (hk : asksM t.kind t.text.toList = true) : endL ts a = ts ++ [⟨7, ⟨#[10]⟩, a⟩] := by
  unfold endL
  rw [h]
  simp only
  rw [if_pos hk]
theorem reads_semi (ts : List Tok) (t : Tok) (a : Int) (h : Reads ts) (hl : ts.getLast? = some t) (hk : asksM t.kind t.text.toList = true) : Reads (ts ++ [⟨7, ⟨#[10]⟩, a⟩]) := by
  obtain ⟨ts', c, hs, hc, hr⟩ := h
  have ha : againT ⟨7, ⟨#[10]⟩, a⟩ = [10] := by
    have e : (⟨#[10]⟩ : ByteArray).toList = [10] := by rw [ByteArray.toList_eq]
    unfold againT
    simp only [e]
    rfl
  have hlen : (again (ts ++ [⟨7, ⟨#[10]⟩, a⟩])).length = (again ts).length + 1 := by
    rw [again_snoc, ha, List.length_append]
    rfl
  have hl' := hs.last
  rw [hl, Option.map_some] at hl'
  obtain ⟨t', h1, h2⟩ := Option.map_eq_some_iff.1 hl'
  obtain ⟨e1, e2⟩ := Prod.mk.inj h2
  have hk' : asksM t'.kind t'.text.toList = true := by rw [e1, e2]; exact hk
  refine ⟨ts' ++ [⟨7, ⟨#[10]⟩, (again ts).length⟩], c + 1, hs.snoc _ _ rfl, by rw [hlen]; omega, fun R F => ?_⟩
  have hS : again (ts ++ [⟨7, ⟨#[10]⟩, a⟩]) ++ R = again ts ++ 10 :: R := by
    rw [again_snoc, ha]
    simp
  rw [hlen, hS, show F + (c + 1) = (F + 1) + c by omega, hr]
  rw [scanGo_step _ F _ ((again ts).length + 1) ts' (ts' ++ [⟨7, ⟨#[10]⟩, (again ts).length⟩]) (by simp)
    (by rw [List.drop_left, step_line, endL_asks _ h1 hk'])]
theorem reads_end (ts : List Tok) (a : Int) (h : Reads ts) : Reads (endL ts a) := by
  cases hl : ts.getLast? with
  | none => unfold endL; rw [hl]; exact h
  | some t =>
    by_cases hk : asksM t.kind t.text.toList = true
    · rw [endL_asks a hl hk]
      exact reads_semi ts t a h hl hk
    · unfold endL
      rw [hl]
      simp only
      rw [if_neg hk]
      exact h
theorem step_reads (l : List UInt8) (hl : 0 < l.length) (pos p : Nat) (ts ts' : List Tok) (h : stepM l pos ts = some (true, p, ts')) (hR : Reads ts) : Reads ts' := by
  unfold stepM at h
  split at h
  · obtain ⟨_, e2⟩ := Prod.mk.inj (Option.some.inj h)
    obtain ⟨_, rfl⟩ := Prod.mk.inj e2
    exact reads_end ts _ hR
  · rename_i g1
    split at h
    · obtain ⟨_, e2⟩ := Prod.mk.inj (Option.some.inj h)
      obtain ⟨_, rfl⟩ := Prod.mk.inj e2
      exact hR
    · rename_i g2
      split at h
      · obtain ⟨_, e2⟩ := Prod.mk.inj (Option.some.inj h)
        obtain ⟨_, rfl⟩ := Prod.mk.inj e2
        exact hR
      · rename_i g3
        split at h
        · obtain ⟨_, e2⟩ := Prod.mk.inj (Option.some.inj h)
          obtain ⟨_, rfl⟩ := Prod.mk.inj e2
          split
          · exact hR
          · unfold commentT
            split
            · exact reads_end ts _ hR
            · exact hR
        · rename_i g4
          obtain ⟨⟨k, n⟩, hme, h⟩ := Option.map_eq_some_iff.1 h
          obtain ⟨e1, e2⟩ := Prod.mk.inj h
          obtain ⟨_, rfl⟩ := Prod.mk.inj e2
          have hn : n ≠ 0 := by simpa using e1
          simp only
          rw [if_neg hn]
          exact reads_good ts _ hR ⟨l, n, hme, by omega, measure_le l k n hl hme, rfl, g1, by simpa using g2, by simpa using g3, by simpa using g4⟩
def NoAsk (ts : List Tok) : Prop := ∀ t, ts.getLast? = some t → asksM t.kind t.text.toList = false
theorem noAsk_end (ts : List Tok) (a : Int) : NoAsk (endL ts a) := by
  intro t ht
  cases hl : ts.getLast? with
  | none =>
    unfold endL at ht
    rw [hl] at ht
    simp only at ht
    rw [hl] at ht
    cases ht
  | some u =>
    by_cases hk : asksM u.kind u.text.toList = true
    · rw [endL_asks a hl hk, List.getLast?_append] at ht
      obtain rfl := Option.some.inj ht
      have e : (⟨#[10]⟩ : ByteArray).toList = [10] := by rw [ByteArray.toList_eq]
      show asksM 7 (⟨#[10]⟩ : ByteArray).toList = false
      rw [e]
      rfl
    · unfold endL at ht
      rw [hl] at ht
      simp only at ht
      rw [if_neg hk, hl] at ht
      obtain rfl := Option.some.inj ht
      simpa using hk
theorem scan_reads (S : List UInt8) (f pos : Nat) (ts out : List Tok) (hR : Reads ts) (h : scanGo S f pos ts = some (.good out)) : ∃ ts2 p, Reads ts2 ∧ NoAsk ts2 ∧ out = ts2 ++ [⟨0, ba [], p⟩] := by
  induction f generalizing pos ts with
  | zero => cases h
  | succ f ih =>
    rw [scanGo] at h
    split at h
    · rename_i hp
      cases hst : stepM (S.drop pos) pos ts with
      | none => rw [hst] at h; cases h
      | some x =>
        obtain ⟨b, p, ts'⟩ := x
        rw [hst] at h
        cases b with
        | false => cases h
        | true => exact ih p ts' (step_reads _ (by rw [List.length_drop]; omega) _ _ _ _ hst hR) h
    · cases h
      exact ⟨_, _, reads_end ts _ hR, noAsk_end ts _, rfl⟩
/-- What is written is read again as the same. -/
theorem again_scan (S : List UInt8) (out : List Tok) (h : scanM S = some (.good out)) : 0 < out.length ∧ ∃ out', scanM (again out) = some (.good out') ∧ SameT out out' := by
  obtain ⟨ts2, p, hR, hN, rfl⟩ := scan_reads S _ 0 [] out reads_nil h
  refine ⟨by simp, ?_⟩
  obtain ⟨ts', c, hs, hc, hr⟩ := hR
  have ha : again (ts2 ++ [⟨0, ba [], p⟩]) = again ts2 ++ [32] := by
    rw [again_snoc]
    unfold againT
    simp only [ba_toList]
    rfl
  have hN' : endL ts' (((again ts2).length + 1 : Nat) : Int) = ts' := by
    unfold endL
    have hl' := hs.last
    cases hl : ts'.getLast? with
    | none => rfl
    | some u =>
      rw [hl, Option.map_some] at hl'
      obtain ⟨t, h1, h2⟩ := Option.map_eq_some_iff.1 hl'.symm
      obtain ⟨e1, e2⟩ := Prod.mk.inj h2
      have := hN t h1
      rw [e1, e2] at this
      simp only [this]
      rfl
  refine ⟨ts' ++ [⟨0, ba [], ((again ts2).length + 1 : Nat)⟩], ?_, hs.snoc _ _ rfl⟩
  unfold scanM
  have hL : (again ts2 ++ [32]).length = (again ts2).length + 1 := by simp
  obtain ⟨F, hF⟩ : ∃ F, (again ts2 ++ [32]).length + 1 = (F + 2) + c := ⟨(again ts2 ++ [32]).length + 1 - 2 - c, by rw [hL]; omega⟩
  rw [ha, hF, hr [32] (F + 2), scanGo_step _ (F + 1) _ ((again ts2).length + 1) ts' ts' (by rw [hL]; omega) (by rw [List.drop_left, step_blank])]
  rw [scanGo, if_neg (by rw [hL]; omega), hN']
theorem step_some (l : List UInt8) (hl : 0 < l.length) (pos : Nat) (ts : List Tok) : ∃ b p ts', stepM l pos ts = some (b, p, ts') := by
  unfold stepM
  split
  · exact ⟨_, _, _, rfl⟩
  · split
    · exact ⟨_, _, _, rfl⟩
    · split
      · exact ⟨_, _, _, rfl⟩
      · split
        · exact ⟨_, _, _, rfl⟩
        · have : ∃ x, measureM l = some x := by
            unfold measureM
            split
            · exact ⟨_, rfl⟩
            · split
              · exact ⟨_, rfl⟩
              · split
                · rename_i hq
                  obtain ⟨r, out, h1, h2, _⟩ := txt_go l (byteAt l 0) (l.length + 1) 1 [] (Nat.le_refl _) hl (by omega)
                  have hs : strM l = some r := by
                    unfold strM
                    rw [if_neg (by omega)]
                    exact h2
                  rw [hs]
                  exact ⟨_, rfl⟩
                · split
                  · exact ⟨_, rfl⟩
                  · exact ⟨_, rfl⟩
          obtain ⟨x, hx⟩ := this
          rw [hx]
          exact ⟨_, _, _, rfl⟩
/-- The model answers at every text. -/
theorem scan_some (S : List UInt8) : ∃ res, scanM S = some res := by
  have key : ∀ f pos ts, pos ≤ S.length → S.length < f + pos → ∃ res, scanGo S f pos ts = some res := by
    intro f
    induction f with
    | zero => intro pos ts h1 h2; omega
    | succ f ih =>
      intro pos ts h1 h2
      rw [scanGo]
      split
      · rename_i hp
        obtain ⟨b, p, ts', hst⟩ := step_some (S.drop pos) (by rw [List.length_drop]; omega) pos ts
        rw [hst]
        cases b with
        | false => exact ⟨_, rfl⟩
        | true =>
          have hs : (ba (S.drop pos)).toList = S.drop pos := ba_toList _
          have := stepM_lt (ba (S.drop pos)) (by rw [ba_size', List.length_drop]; omega) (pos := pos) (p' := p) (ts := ts) (ts' := ts') (by rw [hs]; exact hst)
          rw [ba_size', List.length_drop] at this
          exact ih p ts' (by omega) (by omega)
      · exact ⟨_, rfl⟩
  exact key _ 0 [] (Nat.zero_le _) (by omega)
end Go.Proofs.YtfbacidpjpghiaaGreatDoor
