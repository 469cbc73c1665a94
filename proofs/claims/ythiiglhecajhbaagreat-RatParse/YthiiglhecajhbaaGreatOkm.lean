/- RatParse: texts as bytes and as lists. -/
import Derived.Test.YthiiglhecajhbaaGreatNfcm
import Derived.Test.YthiiglhecajhbaaGreatOgm
import Derived.Test.YthiiglhecajhbaaGreatOh
import Derived.Test.YthiiglhecajhbaaGreatFbm
namespace Go.Proofs.YthiiglhecajhbaaGreat
namespace Nn
open Go.RowKit
theorem drop_cons (s : ByteArray) {k : Nat} (h : k < s.size) : s.toList.drop k = s[k] :: s.toList.drop (k + 1) := by
  rw [ByteArray.toList_eq]
  have h' : k < s.data.toList.length := by simpa using h
  rw [List.drop_eq_getElem_cons h']
  congr 1
theorem mem_at (s : ByteArray) {k : Nat} (h : k < s.size) : s[k] ∈ s.toList := by
  have : s[k] ∈ s.toList.drop k := by rw [drop_cons s h]; simp
  exact List.mem_of_mem_drop this
theorem at_mem (s : ByteArray) {c : UInt8} (h : c ∈ s.toList) : ∃ k, ∃ hk : k < s.size, s[k]'hk = c := by
  obtain ⟨k, hk, rfl⟩ := List.getElem_of_mem h
  have hk' : k < s.size := by rw [← toList_len]; exact hk
  refine ⟨k, hk', ?_⟩
  have h1 := drop_cons s hk'
  rw [List.drop_eq_getElem_cons hk] at h1
  injection h1 with h1 h2
  exact h1.symm
theorem goodT_iff (s : ByteArray) (b : Int) : goodT s b ↔ goodL s.toList b := by
  unfold goodT goodL
  constructor
  · rintro ⟨h0, hb, hd⟩
    refine ⟨fun h => ?_, hb, fun c hc => ?_⟩
    · rw [← toList_len, h] at h0; exact absurd h0 (by decide)
    · obtain ⟨k, hk, rfl⟩ := at_mem s hc
      exact decide_eq_true (hd k hk)
  · rintro ⟨h0, hb, hd⟩
    refine ⟨?_, hb, fun k hk => ?_⟩
    · rw [← toList_len]; exact List.length_pos_iff.2 h0
    · exact of_decide_eq_true (hd _ (mem_at s hk))
theorem hor_list (b : Int) (s : ByteArray) : hor b (digs s) = horL b s.toList := by
  unfold horL digs
  rw [ByteArray.toList_eq]
theorem lead_iff (s : ByteArray) (b : Int) : leadB s b = true ↔ leadL s.toList b := by
  unfold leadB leadL
  rw [toList_len]
  constructor
  · intro h
    simp only [Bool.and_eq_true, decide_eq_true_eq] at h
    obtain ⟨⟨h1, h2⟩, h3⟩ := h
    refine ⟨h1, h2, ?_⟩
    rw [byteAt_lt s (show 0 < s.size by omega), ← get_bang s 0 (by omega), h3]
    rfl
  · rintro ⟨h1, h2, h3⟩
    simp only [Bool.and_eq_true, decide_eq_true_eq]
    refine ⟨⟨h1, h2⟩, ?_⟩
    rw [byteAt_lt s (show 0 < s.size by omega), ← get_bang s 0 (by omega)] at h3
    omega
theorem lead_false (s : ByteArray) (b : Int) : leadB s b = false ↔ ¬ leadL s.toList b := by
  rw [← lead_iff]
  simp
theorem mk_list (l : List UInt8) : (⟨l.toArray⟩ : ByteArray).toList = l := by rw [ByteArray.toList_eq]
theorem expDigits_list (x : ByteArray) : (expDigits x).toList = expD x.toList := by
  unfold expDigits expD
  rw [ByteArray.toList_eq x]
  split
  · exact mk_list _
  · exact mk_list _
theorem expOK_iff (x : ByteArray) : (goodT (expDigits x) 10 ∧ hor 10 (digs (expDigits x)) ≤ 999) ↔ expOK x.toList := by
  unfold expOK
  rw [goodT_iff, hor_list, expDigits_list]
theorem bytes_inj {a b : ByteArray} (h : a.toList = b.toList) : a = b := by
  rw [ByteArray.toList_eq, ByteArray.toList_eq] at h
  obtain ⟨⟨x⟩⟩ := a
  obtain ⟨⟨y⟩⟩ := b
  simp at h
  rw [h]
theorem ex_list (s : ByteArray) (a b : Nat) : (s.extract a b).toList = (s.toList.take b).drop a := by
  rw [ByteArray.toList_eq, ByteArray.toList_eq, ByteArray.data_extract, Array.toList_extract, List.extract_eq_take_drop, ← List.drop_take]
theorem app_list (a b : ByteArray) : (a ++ b).toList = a.toList ++ b.toList := by
  rw [ByteArray.toList_eq, ByteArray.toList_eq, ByteArray.toList_eq]
  simp
/-- A cut of bytes is the cut of their list. -/
theorem cut_bytes (s : ByteArray) (I : Int) : ∃ (M X : ByteArray) (h : Bool), cutR s I = .tuple #[.string M, .string X, .bool h] ∧ cutL s.toList I = (M.toList, X.toList, h) := by
  unfold cutR cutL
  by_cases hI : I < 0
  · rw [if_pos hI, if_pos hI]
    exact ⟨s, ⟨#[]⟩, false, rfl, by rw [ByteArray.toList_eq ⟨#[]⟩]⟩
  · rw [if_neg hI, if_neg hI]
    refine ⟨_, _, _, rfl, ?_⟩
    rw [ex_list, ex_list, List.drop_zero, show s.toList.take s.size = s.toList from List.take_of_length_le (by rw [toList_len]; exact Nat.le_refl _)]
theorem cut_len (l : List UInt8) (I : Int) : (cutL l I).1.length + (cutL l I).2.1.length ≤ l.length := by
  unfold cutL
  split
  · simp
  · simp only [List.length_take, List.length_drop]
    omega
/-- The base and the rest of a text. -/
theorem base_cases (s : ByteArray) : (baseI s = 10 ∧ restS s = s ∧ basedM s.toList = decimalM s.toList) ∨ (∃ c0, s.toList = 48 :: c0 :: (restS s).toList ∧ ((baseI s = 16 ∧ (c0.toNat = 120 ∨ c0.toNat = 88)) ∨ (baseI s = 8 ∧ (c0.toNat = 111 ∨ c0.toNat = 79)) ∨ (baseI s = 2 ∧ (c0.toNat = 98 ∨ c0.toNat = 66)))) := by
  by_cases h10 : baseI s = 10
  · left
    refine ⟨h10, by unfold restS; rw [if_pos h10], ?_⟩
    apply based_dec
    by_cases h2 : s.size < 2
    · right
      rw [byteAt_end s.toList 1 (by rw [toList_len]; omega)]
      omega
    · rw [byteAt_lt s (show 0 < s.size by omega), byteAt_lt s (show 1 < s.size by omega), ← get_bang s 0 (by omega), ← get_bang s 1 (by omega)]
      unfold baseI at h10
      by_cases h48 : (s.get! 0).toNat = 48
      · right
        rw [if_neg (fun h => h.elim h2 (fun h => h h48))] at h10
        split at h10
        · exact absurd h10 (by decide)
        · split at h10
          · exact absurd h10 (by decide)
          · split at h10
            · exact absurd h10 (by decide)
            · omega
      · left; omega
  · right
    have hr : restS s = s.extract 2 s.size := by unfold restS; rw [if_neg h10]
    have h2 : ¬ s.size < 2 := fun h => h10 (by unfold baseI; rw [if_pos (.inl h)])
    have h48 : (s.get! 0).toNat = 48 := by
      by_cases h : (s.get! 0).toNat = 48
      · exact h
      · exact absurd (by unfold baseI; rw [if_pos (.inr h)]) h10
    have e0 : s[0]'(by omega) = 48 := by
      rw [get_bang s 0 (by omega)] at h48
      exact UInt8.toNat_inj.1 h48
    refine ⟨s[1]'(by omega), ?_, ?_⟩
    · have h0 := drop_cons s (show 0 < s.size by omega)
      have h1 := drop_cons s (show 1 < s.size by omega)
      rw [List.drop_zero] at h0
      rw [h0, e0, h1, hr, ex_list, List.take_of_length_le (by rw [toList_len]; exact Nat.le_refl _)]
    · rw [← get_bang s 1 (by omega)]
      have hb : baseI s = if (s.get! 1).toNat = 120 ∨ (s.get! 1).toNat = 88 then 16 else if (s.get! 1).toNat = 111 ∨ (s.get! 1).toNat = 79 then 8 else if (s.get! 1).toNat = 98 ∨ (s.get! 1).toNat = 66 then 2 else 10 := by
        unfold baseI
        rw [if_neg (fun h => h.elim h2 (fun h => h h48))]
      split at hb
      · rename_i h; exact .inl ⟨hb, h⟩
      · split at hb
        · rename_i h; exact .inr (.inl ⟨hb, h⟩)
        · split at hb
          · rename_i h; exact .inr (.inr ⟨hb, h⟩)
          · exact absurd hb h10
theorem roads (s : ByteArray) : Same2 (baseI s) s.toList (restS s).toList := by
  rcases base_cases s with ⟨h1, h2, h3⟩ | ⟨c0, hL, h⟩
  · rw [h1, h2]; exact roads10 _ h3
  · have hc0 : byteAt (48 :: c0 :: (restS s).toList) 0 = 48 := rfl
    have hc1 : byteAt (48 :: c0 :: (restS s).toList) 1 = (c0.toNat : Int) := rfl
    rw [hL]
    rcases h with ⟨hb, hc⟩ | ⟨hb, hc⟩ | ⟨hb, hc⟩
    · rw [hb]
      exact roads16 c0 _ (based_hex _ hc0 (by rw [hc1]; omega))
    · rw [hb]
      exact roadsW 8 (.inr (.inl rfl)) (by decide) (by decide) isOctalB span8 c0 _ (based_oct _ hc0 (by rw [hc1]; omega))
    · rw [hb]
      exact roadsW 2 (.inl rfl) (by decide) (by decide) isBinaryB span2 c0 _ (based_bin _ hc0 (by rw [hc1]; omega))
/-- The first road, whole: its cuts and what Parse then answers. -/
theorem parse_cut (s : ByteArray) (hs : s.size ≤ 60) : ∃ (M X WH PT : ByteArray) (hE hP : Bool), eCut (baseI s) (restS s).toList = (M.toList, X.toList, hE) ∧ pCut M.toList = (WH.toList, PT.toList, hP) ∧ WH.size ≤ 60 ∧ PT.size ≤ 60 ∧ (WH ++ PT).size ≤ 60 ∧ X.size ≤ 60 ∧ ∀ w, Calls Tryz.prog 33 #[.string s] w fun e w' => ParsePost w (baseI s) X WH PT hE hP e w' := by
  have hRs : (restS s).size ≤ s.size := by
    unfold restS
    split
    · exact Nat.le_refl _
    · rw [ByteArray.size_extract]; omega
  obtain ⟨M, X, hE, hc1, hl1⟩ := cut_bytes (restS s) (Lib.indexAny (restS s).toList (lts (baseI s)))
  obtain ⟨WH, PT, hP, hc2, hl2⟩ := cut_bytes M (Lib.indexAny M.toList [46])
  have n1 := cut_len (restS s).toList (Lib.indexAny (restS s).toList (lts (baseI s)))
  have n2 := cut_len M.toList (Lib.indexAny M.toList [46])
  rw [hl1, toList_len] at n1
  rw [hl2, toList_len] at n2
  simp only [toList_len] at n1 n2
  have hsz : (WH ++ PT).size = WH.size + PT.size := by rw [← toList_len, app_list, List.length_append, toList_len, toList_len]
  have kB : ∀ W, Calls Tryz.prog 58 #[.string s] W fun e w' => e = .returned (.tuple #[.int .i64 (baseI s), .string (restS s)]) ∧ Below W.heap.size W w' := fun W => cutBase_any s (by omega) W
  have kE : ∀ W, Calls Tryz.prog 59 #[.string (restS s), .int .i64 (baseI s)] W fun e w' => e = .returned (.tuple #[.string M, .string X, .bool hE]) ∧ Below W.heap.size W w' := fun W => by
    have := cutExponent_any (restS s) (by omega) (baseI s) W (Lib.indexAny (restS s).toList (lts (baseI s))) (by
      unfold lts
      rw [ByteArray.toList_eq]
      split <;> rfl)
    rw [show (if Lib.indexAny (restS s).toList (lts (baseI s)) < 0 then Value.tuple #[.string (restS s), .string ⟨#[]⟩, .bool false] else .tuple #[.string ((restS s).extract 0 (Lib.indexAny (restS s).toList (lts (baseI s))).toNat), .string ((restS s).extract ((Lib.indexAny (restS s).toList (lts (baseI s))).toNat + 1) (restS s).size), .bool true]) = .tuple #[.string M, .string X, .bool hE] from hc1] at this
    exact this
  have kC : ∀ W, Calls Tryz.prog 60 #[.string M, .string ⟨#[46]⟩] W fun e w' => e = .returned (.tuple #[.string WH, .string PT, .bool hP]) ∧ Below W.heap.size W w' := fun W => by
    have := cut_any M (by omega) W (Lib.indexAny M.toList [46]) (by rw [ByteArray.toList_eq, Lib.indexAny_one])
    rw [hc2] at this
    exact this
  refine ⟨M, X, WH, PT, hE, hP, hl1, hl2, by omega, by omega, by omega, by omega, fun w => ?_⟩
  cases hE <;> cases hP
  · exact parse_whole s w _ _ M X WH PT kB kE kC (by omega) (by omega) (by omega) (by omega)
  · exact parse_tf s w _ _ M X WH PT kB kE kC (by omega) (by omega) (by omega) (by omega)
  · exact parse_ft s w _ _ M X WH PT kB kE kC (by omega) (by omega) (by omega) (by omega)
  · exact parse_tt s w _ _ M X WH PT kB kE kC (by omega) (by omega) (by omega) (by omega)
end Nn
end Go.Proofs.YthiiglhecajhbaaGreat
namespace Go.Proofs.YthiiglhecajhbaaGreat
namespace Nn
open Go.RowKit
theorem low_one (n : Int) : Low n 1 n 1 := ⟨by decide, by simp, by omega⟩
theorem low_same {n d p q p' q' : Int} (hd : 0 < d) (h : Low n d p q) (h' : Low n d p' q') : p = p' ∧ q = q' := by
  refine low_uniq h.1 h'.1 h.2.1 h'.2.1 ?_
  have e1 := h.2.2
  have e2 := h'.2.2
  have : p * q' * d = p' * q * d := by
    have a1 : p * q' * d = p * d * q' := by grind
    have a2 : p' * q * d = p' * d * q := by grind
    rw [a1, a2, e1, e2]
    grind
  exact Int.eq_of_mul_eq_mul_right (by omega) this
theorem lowE_more {w : World} {v : Value} {n d : Int} {m k : Nat} (h : LowE w v n d m) (hk : m ≤ k) : LowE w v n d k := by
  obtain ⟨p, q, hf, hl⟩ := h
  exact ⟨p, q, hf.more hk, hl⟩
def Road1 (s : ByteArray) (ok : Bool) (P D : Int) : Prop := ∀ w, Calls Tryz.prog 33 #[.string s] w fun e w' => ∃ t, e = .returned (.tuple #[t, .bool ok]) ∧ LowE w' t P D 200 ∧ Below w.heap.size w w'
def Road2 (s : ByteArray) (ok : Bool) (P D : Int) : Prop := ∀ w, Calls Tryz.prog 34 #[.string s] w fun e w' => ∃ t, e = .returned (.tuple #[t, .bool ok]) ∧ (∃ p q, RatR w' t p q 400 ∧ Low P D p q) ∧ Below w.heap.size w w'
theorem prefix45 (x : List UInt8) : Lib.hasPrefix x [45] = true ↔ byteAt x 0 = 45 := by
  unfold Lib.hasPrefix
  cases x with
  | nil => simp [List.isPrefixOf, byteAt_nil]
  | cons c x =>
    rw [byteAt_cons0]
    constructor
    · intro h
      have : 45 = c := by simpa [List.isPrefixOf] using h
      rw [← this]; rfl
    · intro h
      have : c = 45 := UInt8.toNat_inj.1 (by simpa using (by omega : c.toNat = 45))
      subst this; rfl
/-- The exponent that both roads tell. -/
def expE (X : ByteArray) (hE : Bool) : Int := if hE = true then (if Lib.hasPrefix X.data.toList [45] = true then -(hor 10 (digs (expDigits X))) else hor 10 (digs (expDigits X))) else 0
theorem expAns_E {X : ByteArray} {hE : Bool} {p : Int} (h : expAns X hE p true) : p = expE X hE := by
  unfold expE
  rcases h with ⟨rfl, rfl, _⟩ | ⟨_, _, _, h⟩ | ⟨rfl, _, _, _, h⟩
  · rfl
  · cases h
  · rw [h, if_pos rfl]
theorem expE_is {X : ByteArray} {hE : Bool} {tl : List UInt8} (h : (hE = false ∧ tl = []) ∨ (hE = true ∧ ∃ c, tl = c :: X.toList ∧ expL X.toList)) : ExpIs tl (expE X hE) := by
  rcases h with ⟨rfl, rfl⟩ | ⟨rfl, c, rfl, hx⟩
  · exact .inl ⟨rfl, rfl⟩
  · refine .inr ⟨c, X.toList, rfl, fun h => ?_, ?_, ?_⟩
    · have := hx.1
      rw [h] at this
      exact this (by simp)
    · rw [expV_eq _ hx]
      exact ((exp_same _).1 hx).2
    · unfold expE
      rw [if_pos rfl, expV_eq _ hx, hor_list, expDigits_list]
      rw [← ByteArray.toList_eq]
      by_cases hp : byteAt X.toList 0 = 45
      · rw [if_pos hp, if_pos ((prefix45 _).2 hp)]
      · rw [if_neg hp, if_neg (fun h => hp ((prefix45 _).1 h))]
theorem parse_both (s : ByteArray) (hs : s.size ≤ 60) : ∃ ok P D, 0 < D ∧ Road1 s ok P D ∧ Road2 s ok P D := by
  obtain ⟨M, X, WH, PT, hE, hP, hec, hpc, hWs, hPs, hDs, hXs, hpar⟩ := parse_cut s hs
  obtain ⟨hiff, hval⟩ := roads s
  have hpc' : pCut (eCut (baseI s) (restS s).toList).1 = (WH.toList, PT.toList, hP) := by rw [hec]; exact hpc
  have hA : acc1 (baseI s) (restS s).toList ↔ if hP = false ∧ hE = false then goodT WH (baseI s) ∧ leadB WH (baseI s) = false else (baseI s = 10 ∨ (baseI s = 16 ∧ hE = true)) ∧ goodT (WH ++ PT) (baseI s) ∧ (hE = true → expOK X.toList) := by
    unfold acc1
    rw [hpc', hec]
    simp only
    split
    · rw [goodT_iff, lead_false]
    · rw [goodT_iff, app_list]
  rw [hpc', hec] at hval
  simp only at hval
  by_cases ha : acc1 (baseI s) (restS s).toList
  · rcases hval ha with ⟨h1, h2, h3, h4⟩ | ⟨h1, h4, tl, hm, htl⟩
    · have hA' := hA.1 ha
      rw [if_pos ⟨h1, h2⟩] at hA'
      have hWR : WH = restS s := bytes_inj h3
      refine ⟨true, hor (baseI s) (digs (restS s)), 1, by decide, fun w => ?_, fun w => ?_⟩
      · refine (hpar w).mono ?_
        rintro e w' ⟨t, ok, rfl, hR, hb⟩
        rw [if_pos ⟨h1, h2⟩] at hR
        rcases hR with ⟨rfl, _, _, hL⟩ | ⟨_, hno, _⟩
        · rw [hWR] at hL hWs
          exact ⟨t, rfl, lowE_more hL (by omega), hb⟩
        · exact absurd hA' hno
      · refine (Number_int s w hs (hiff.1 ha) h4 _ _ rfl rfl (by rw [← hWR]; exact hA'.1)).mono ?_
        rintro e w' ⟨t, rfl, hR, hb⟩
        exact ⟨t, rfl, ⟨_, _, ratR_more hR (by decide), low_one _⟩, hb⟩
    · have hA' := hA.1 ha
      rw [if_neg h1] at hA'
      obtain ⟨hF, hg, hx⟩ := hA'
      obtain ⟨rr, hrr⟩ : ∃ rr : Int, rr = if baseI s = 16 then 2 else 10 := ⟨_, rfl⟩
      have hBr : (baseI s = 10 ∧ rr = 10) ∨ (baseI s = 16 ∧ rr = 2) := by
        rcases hF with h | ⟨h, _⟩
        · left; rw [hrr, h]; exact ⟨rfl, rfl⟩
        · right; rw [hrr, h]; exact ⟨rfl, rfl⟩
      obtain ⟨Q, hQ⟩ : ∃ Q : Int, Q = expE X hE - (if baseI s = 16 then 4 * (PT.size : Int) else (PT.size : Int)) := ⟨_, rfl⟩
      have hV : horL (baseI s) (WH.toList ++ PT.toList) = hor (baseI s) (digs (WH ++ PT)) := by rw [hor_list, app_list]
      rw [hV, toList_len] at hm
      have hrp : ∀ n : Nat, 0 < rr ^ n := fun n => Int.pow_pos (by rcases hBr with ⟨_, h⟩ | ⟨_, h⟩ <;> omega)
      have k2 := fun w => Number_float s w hs (hiff.1 ha) h4 (baseI s) (restS s) rfl rfl rr hBr _ _ tl hm (expE X hE) (expE_is htl) Q hQ
      have k1 : ∀ w, Calls Tryz.prog 33 #[.string s] w fun e w' => ∃ t, e = .returned (.tuple #[t, .bool true]) ∧ ((0 ≤ Q ∧ LowE w' t (hor (baseI s) (digs (WH ++ PT)) * rr ^ Q.toNat) 1 200) ∨ (Q < 0 ∧ LowE w' t (hor (baseI s) (digs (WH ++ PT))) (rr ^ (-Q).toNat) 200)) ∧ Below w.heap.size w w' := fun w => by
        refine (hpar w).mono ?_
        rintro e w' ⟨t, ok, rfl, hR, hb⟩
        rw [if_neg h1] at hR
        rcases hR with ⟨rfl, _, hno⟩ | ⟨rfl, _, _, p, hpX, r, q, hr, hq, hL⟩
        · exfalso
          rcases hno with hno | hno | ⟨p, hpX⟩
          · rcases hF with h | ⟨h, h'⟩
            · rw [h] at hno; simp at hno
            · rw [h, h'] at hno; simp at hno
          · exact hno hg
          · rcases hpX with ⟨_, _, h⟩ | ⟨hE1, hno, _⟩ | ⟨_, _, _, h, _⟩
            · cases h
            · exact hno ((expOK_iff X).2 (hx hE1))
            · cases h
        · have hp := expAns_E hpX
          rw [← hrr] at hr
          rw [hp, ← hQ] at hq
          rw [hr, hq] at hL
          refine ⟨t, rfl, ?_, hb⟩
          rcases hL with ⟨h0, hL⟩ | ⟨h0, hL⟩
          · exact .inl ⟨h0, lowE_more hL (by omega)⟩
          · exact .inr ⟨h0, lowE_more hL (by omega)⟩
      by_cases h0 : 0 ≤ Q
      · refine ⟨true, hor (baseI s) (digs (WH ++ PT)) * rr ^ Q.toNat, 1, by decide, fun w => ?_, fun w => ?_⟩
        · refine (k1 w).mono ?_
          rintro e w' ⟨t, rfl, hL, hb⟩
          rcases hL with ⟨_, hL⟩ | ⟨h, _⟩
          · exact ⟨t, rfl, hL, hb⟩
          · omega
        · refine (k2 w).mono ?_
          rintro e w' ⟨t, rfl, ⟨p, q, hR, hL⟩, hb⟩
          rcases hL with ⟨_, rfl, rfl⟩ | ⟨h, _⟩
          · exact ⟨t, rfl, ⟨_, _, hR, low_one _⟩, hb⟩
          · omega
      · refine ⟨true, hor (baseI s) (digs (WH ++ PT)), rr ^ (-Q).toNat, hrp _, fun w => ?_, fun w => ?_⟩
        · refine (k1 w).mono ?_
          rintro e w' ⟨t, rfl, hL, hb⟩
          rcases hL with ⟨h, _⟩ | ⟨_, hL⟩
          · omega
          · exact ⟨t, rfl, hL, hb⟩
        · refine (k2 w).mono ?_
          rintro e w' ⟨t, rfl, ⟨p, q, hR, hL⟩, hb⟩
          rcases hL with ⟨h, _⟩ | ⟨_, hL⟩
          · omega
          · exact ⟨t, rfl, ⟨_, _, hR, hL⟩, hb⟩
  · refine ⟨false, 0, 1, by decide, fun w => ?_, fun w => ?_⟩
    · refine (hpar w).mono ?_
      rintro e w' ⟨t, ok, rfl, hR, hb⟩
      by_cases hw : hP = false ∧ hE = false
      · rw [if_pos hw] at hR
        rcases hR with ⟨_, h1, h2, _⟩ | ⟨rfl, _, hL⟩
        · exact absurd (hA.2 (by rw [if_pos hw]; exact ⟨h1, h2⟩)) ha
        · exact ⟨t, rfl, lowE_more hL (by decide), hb⟩
      · rw [if_neg hw] at hR
        rcases hR with ⟨rfl, hL, _⟩ | ⟨_, hF, hg, p, hpX, _⟩
        · exact ⟨t, rfl, lowE_more hL (by decide), hb⟩
        · refine absurd (hA.2 (by
            rw [if_neg hw]
            refine ⟨by simpa using hF, hg, fun hE1 => ?_⟩
            rcases hpX with ⟨h, _⟩ | ⟨_, _, _, h⟩ | ⟨_, h1, h2, _⟩
            · rw [hE1] at h; cases h
            · cases h
            · exact (expOK_iff X).1 ⟨h1, h2⟩)) ha
    · refine (Number_no s w hs (fun h => ha (hiff.2 h))).mono ?_
      rintro e w' ⟨t, rfl, hR, hb⟩
      exact ⟨t, rfl, ⟨_, _, ratR_more hR (by decide), low_one _⟩, hb⟩
end Nn
end Go.Proofs.YthiiglhecajhbaaGreat
namespace Go.Proofs.YthiiglhecajhbaaGreat
open Go.RowKit Nn
attribute [local go_sem ↓] Go.wp_at_zero Go.wp_at_succ
set_option maxRecDepth 20000 in
set_option maxHeartbeats 4000000 in
theorem ratParse_any (s : ByteArray) (w : World) : Calls Tryz.prog 5 #[.string s] w fun e w' => e = .returned (.bool true) ∧ Below w.heap.size w w' := by
  have kb : Hid _ := begun_said w
  by_cases hs : 60 < s.size
  · have d1 : decide ((s.size : Int) > 60) = true := decide_eq_true (by omega)
    have p2 : (60 : Int) ≤ (s.size : Int) := by omega
    obtain ⟨ok, P, D, hD, h1, h2⟩ := parse_both (s.extract 0 60) (by rw [ByteArray.size_extract]; omega)
    have k1 : Hid _ := h1
    have k2 : Hid _ := h2
    clear h1 h2
    go_enter Tryz.func5, Tryz.ntmps5
    go_wp2_with fail
    refine Calls.mono kb.out ?_
    rintro e w1 ⟨rfl, b1⟩
    clear kb
    generalize hS : s.extract 0 60 = S at *
    go_wp2_with fail
    refine Calls.mono (k1.out w1) ?_
    rintro e w2 ⟨t2, rfl, ⟨p, q, hF, hl⟩, b2⟩
    obtain ⟨n1, a1, l1, c1, n2, a2, l2, c2, rfl⟩ := hF.form
    obtain ⟨W2, hW2⟩ : ∃ W2, W2 = w2.alloc (.cells #[.bool n1, .slice a1 l1 c1, .bool n2, .slice a2 l2 c2] 26) := ⟨_, rfl⟩
    have bW2 : Below w2.heap.size w2 W2 := by rw [hW2]; exact (Below.refl _ _).alloc (Nat.le_refl _) _
    have g0 : W2.cell? ⟨w2.heap.size, 0, none⟩ = some (.bool n1) := by rw [hW2]; simp [go_sem]
    have g1 : W2.cell? ⟨w2.heap.size, 1, none⟩ = some (.slice a1 l1 c1) := by rw [hW2]; simp [go_sem]
    have g2 : W2.cell? ⟨w2.heap.size, 2, none⟩ = some (.bool n2) := by rw [hW2]; simp [go_sem]
    have g3 : W2.cell? ⟨w2.heap.size, 3, none⟩ = some (.slice a2 l2 c2) := by rw [hW2]; simp [go_sem]
    go_upto_region 5 with fail
    rw [← hW2]
    clear hW2
    go_wp2_with fail
    refine Calls.mono (k2.out W2) ?_
    rintro e w3 ⟨t3, rfl, ⟨p', q', hR, hl'⟩, b3⟩
    obtain ⟨rfl, rfl⟩ := low_same hD hl hl'
    obtain ⟨n3, a3, l3, c3, n4, a4, l4, c4, rfl⟩ := ratR_form hR
    obtain ⟨W3, hW3⟩ : ∃ W3, W3 = w3.alloc (.cells #[.bool n3, .slice a3 l3 c3, .bool n4, .slice a4 l4 c4] 34) := ⟨_, rfl⟩
    have bW3 : Below w3.heap.size w3 W3 := by rw [hW3]; exact (Below.refl _ _).alloc (Nat.le_refl _) _
    have b23 := bthen b3 bW3
    replace g0 := keep_cell b23 g0
    replace g1 := keep_cell b23 g1
    replace g2 := keep_cell b23 g2
    replace g3 := keep_cell b23 g3
    have g4 : W3.cell? ⟨w3.heap.size, 0, none⟩ = some (.bool n3) := by rw [hW3]; simp [go_sem]
    have g5 : W3.cell? ⟨w3.heap.size, 1, none⟩ = some (.slice a3 l3 c3) := by rw [hW3]; simp [go_sem]
    have g6 : W3.cell? ⟨w3.heap.size, 2, none⟩ = some (.bool n4) := by rw [hW3]; simp [go_sem]
    have g7 : W3.cell? ⟨w3.heap.size, 3, none⟩ = some (.slice a4 l4 c4) := by rw [hW3]; simp [go_sem]
    have hIs : Hid _ := rIsRat_same ((hF.next bW2).next b23) (hR.next bW3) (by decide) (by decide)
    have bb := bthen b1 (bthen b2 (bthen bW2 b23))
    go_upto_region 6 with fail
    rw [← hW3]
    clear hW3 hF hR hl hl' k1 k2
    cases ok
    all_goals
      go_wp2_with fail
      refine Calls.mono hIs.out ?_
      rintro e w4 ⟨rfl, b4⟩
      have hfin : Hid _ := bthen bb b4
      go_wp2
      go_ret
      exact ⟨rfl, hfin.out⟩

  · have d1 : decide ((s.size : Int) > 60) = false := decide_eq_false (by omega)
    obtain ⟨ok, P, D, hD, h1, h2⟩ := parse_both s (by omega)
    have k1 : Hid _ := h1
    have k2 : Hid _ := h2
    clear h1 h2
    go_enter Tryz.func5, Tryz.ntmps5
    go_wp2_with fail
    refine Calls.mono kb.out ?_
    rintro e w1 ⟨rfl, b1⟩
    clear kb
    go_wp2_with fail
    refine Calls.mono (k1.out w1) ?_
    rintro e w2 ⟨t2, rfl, ⟨p, q, hF, hl⟩, b2⟩
    obtain ⟨n1, a1, l1, c1, n2, a2, l2, c2, rfl⟩ := hF.form
    obtain ⟨W2, hW2⟩ : ∃ W2, W2 = w2.alloc (.cells #[.bool n1, .slice a1 l1 c1, .bool n2, .slice a2 l2 c2] 26) := ⟨_, rfl⟩
    have bW2 : Below w2.heap.size w2 W2 := by rw [hW2]; exact (Below.refl _ _).alloc (Nat.le_refl _) _
    have g0 : W2.cell? ⟨w2.heap.size, 0, none⟩ = some (.bool n1) := by rw [hW2]; simp [go_sem]
    have g1 : W2.cell? ⟨w2.heap.size, 1, none⟩ = some (.slice a1 l1 c1) := by rw [hW2]; simp [go_sem]
    have g2 : W2.cell? ⟨w2.heap.size, 2, none⟩ = some (.bool n2) := by rw [hW2]; simp [go_sem]
    have g3 : W2.cell? ⟨w2.heap.size, 3, none⟩ = some (.slice a2 l2 c2) := by rw [hW2]; simp [go_sem]
    go_upto_region 5 with fail
    rw [← hW2]
    clear hW2
    go_wp2_with fail
    refine Calls.mono (k2.out W2) ?_
    rintro e w3 ⟨t3, rfl, ⟨p', q', hR, hl'⟩, b3⟩
    obtain ⟨rfl, rfl⟩ := low_same hD hl hl'
    obtain ⟨n3, a3, l3, c3, n4, a4, l4, c4, rfl⟩ := ratR_form hR
    obtain ⟨W3, hW3⟩ : ∃ W3, W3 = w3.alloc (.cells #[.bool n3, .slice a3 l3 c3, .bool n4, .slice a4 l4 c4] 34) := ⟨_, rfl⟩
    have bW3 : Below w3.heap.size w3 W3 := by rw [hW3]; exact (Below.refl _ _).alloc (Nat.le_refl _) _
    have b23 := bthen b3 bW3
    replace g0 := keep_cell b23 g0
    replace g1 := keep_cell b23 g1
    replace g2 := keep_cell b23 g2
    replace g3 := keep_cell b23 g3
    have g4 : W3.cell? ⟨w3.heap.size, 0, none⟩ = some (.bool n3) := by rw [hW3]; simp [go_sem]
    have g5 : W3.cell? ⟨w3.heap.size, 1, none⟩ = some (.slice a3 l3 c3) := by rw [hW3]; simp [go_sem]
    have g6 : W3.cell? ⟨w3.heap.size, 2, none⟩ = some (.bool n4) := by rw [hW3]; simp [go_sem]
    have g7 : W3.cell? ⟨w3.heap.size, 3, none⟩ = some (.slice a4 l4 c4) := by rw [hW3]; simp [go_sem]
    have hIs : Hid _ := rIsRat_same ((hF.next bW2).next b23) (hR.next bW3) (by decide) (by decide)
    have bb := bthen b1 (bthen b2 (bthen bW2 b23))
    go_upto_region 6 with fail
    rw [← hW3]
    clear hW3 hF hR hl hl' k1 k2
    cases ok
    all_goals
      go_wp2_with fail
      refine Calls.mono hIs.out ?_
      rintro e w4 ⟨rfl, b4⟩
      have hfin : Hid _ := bthen bb b4
      go_wp2
      go_ret
      exact ⟨rfl, hfin.out⟩

end Go.Proofs.YthiiglhecajhbaaGreat
