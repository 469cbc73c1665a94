/- Texts and numbers of both roads: what each comes to. -/
import Derived.Test.YtdcjgepgiaaaoaaTe
import Derived.Test.YtdcjgepgiaaaoaaTf
import Derived.Test.YtdcjgepgiaaaoaaTg
namespace Go.Proofs.Ytdcjgepgiaaaoaa
open Go.RowKit
theorem decs (n : Nat) : 0 < n → ∃ ds, Words 10 ds ∧ nrm ds ∧ ds ≠ [] ∧ val 10 ds = (n : Int) := by
  induction n using Nat.strongRecOn with
  | ind n ih =>
    intro h
    by_cases h9 : n < 10
    · exact ⟨[(n : Int)], Words.one (by omega), ⟨fun _ => by omega, trivial⟩, by simp, by simp [val]⟩
    · obtain ⟨ds, h1, h2, h3, h4⟩ := ih (n / 10) (by omega) (by omega)
      refine ⟨((n % 10 : Nat) : Int) :: ds, Words.cons (by omega) h1, ⟨fun e => absurd e h3, h2⟩, by simp, ?_⟩
      rw [val_cons, h4]
      omega
/-- The digits of a number's text: of 0 there is one. -/
def Decs (y : Int) (ds : List Int) : Prop := Words 10 ds ∧ ds ≠ [] ∧ val 10 ds = (y.natAbs : Int) ∧ (y ≠ 0 → nrm ds) ∧ (y = 0 → ds = [0])
theorem decs_of (y : Int) : ∃ ds, Decs y ds := by
  by_cases h : y = 0
  · subst h
    exact ⟨[0], Words.one (by decide), by simp, rfl, fun h => absurd rfl h, fun _ => rfl⟩
  · obtain ⟨ds, h1, h2, h3, h4⟩ := decs y.natAbs (by omega)
    exact ⟨ds, h1, h3, h4, fun _ => h2, fun e => absurd e h⟩
theorem Text_num {w : World} {u : Value} {y : Int} {m : Nat} {ds : List Int} (hd : Decs y ds) (hu : Num w u y m) (hm : m ≤ 1000) :
    Calls Try.prog 29 #[u] w fun e w' => e = .returned (.string (txt (decide (y < 0)) ds)) ∧ Below w.heap.size w w' := by
  by_cases h0 : y = 0
  · have e := hd.2.2.2.2 h0
    subst e
    subst h0
    exact Text_nought hu hm
  · obtain ⟨na, x, ca, xs, rfl, ha, rfl, hl⟩ := hu
    have hv := val_nonneg (B := 4294967296) (by decide) ha.words
    have hne : trimmed xs ≠ [] := by
      intro e
      have := (trimmed_zero_iff (by decide) ha.words).1 e
      apply h0
      cases na <;> simp [num, this]
    have hvp := nrm_val_pos (B := 4294967296) (by decide) ha.words.trimmed (trimmed_nrm xs) hne
    rw [trimmed_val] at hvp
    have hna : decide (num 4294967296 na xs < 0) = na := by cases na <;> simp [num] <;> omega
    refine (Text_any na x ca xs w ha (by omega) hne).mono ?_
    rintro e w' ⟨es, h1, h2, h3, h4, rfl, h⟩
    have : es = ds := nrm_unique (B := 10) (by decide) h1 hd.1 h2 (hd.2.2.2.1 h0) (by rw [h4, hd.2.2.1]; exact val_abs (by decide) ha.words)
    subst this
    rw [hna]
    exact ⟨rfl, h⟩
theorem rText_num {w : World} {u : Value} {y : Int} {m : Nat} {ds : List Int} (hd : Decs y ds) (hu : Rint w u y m) (hm : m ≤ 200) :
    Calls Try.prog 35 #[u] w fun e w' => e = .returned (.string (txt (decide (y < 0)) ds)) ∧ Below w.heap.size w w' := by
  obtain ⟨na, x, ca, xs, rfl, ha, hn, rfl, hl⟩ := hu
  by_cases h0 : num 65536 na xs = 0
  · have hx : xs = [] := by
      by_cases e : xs = []
      · exact e
      · have := nrm_val_pos (B := 65536) (by decide) ha.words hn.1 e
        cases na <;> simp [num] at h0 <;> omega
    subst hx
    have e := hd.2.2.2.2 h0
    subst e
    have hna : na = false := by cases na with | false => rfl | true => exact absurd rfl (hn.2 rfl)
    subst hna
    exact rText_zero x ca w ha
  · have hne : xs ≠ [] := by intro e; subst e; apply h0; cases na <;> simp [num, val]
    have hvp := nrm_val_pos (B := 65536) (by decide) ha.words hn.1 hne
    have hna : decide (num 65536 na xs < 0) = na := by cases na <;> simp [num] <;> omega
    refine (rText_any na x ca xs w ha hn.1 hne (by omega)).mono ?_
    rintro e w' ⟨es, h1, h2, h3, h4, rfl, h⟩
    have : es = ds := nrm_unique (B := 10) (by decide) h1 hd.1 h2 (hd.2.2.2.1 h0) (by rw [h4, hd.2.2.1]; exact val_abs (by decide) ha.words)
    subst this
    rw [hna]
    exact ⟨rfl, h⟩
theorem hor_rev (b : Int) (ds : List Int) : hor b ds.reverse = val b ds := by
  induction ds with
  | nil => rfl
  | cons d ds ih => rw [List.reverse_cons, hor_snoc, ih, val_cons, Int.mul_comm]; omega
theorem digit_of (d : Int) (h0 : 0 ≤ d) (h1 : d < 10) : digitI (((UInt8.ofNat (48 + d).toNat).toNat : Nat) : Int) = d := by
  obtain ⟨n, rfl⟩ := Int.eq_ofNat_of_zero_le h0
  have e : (UInt8.ofNat (48 + (n : Int)).toNat).toNat = 48 + n := by
    rw [UInt8.toNat_ofNat']
    omega
  rw [e]
  unfold digitI
  rw [if_pos (by omega)]
  omega
theorem txt_size (ds : List Int) : (txt false ds).size = ds.length := by simp [txt, ByteArray.size, u8s, asc]
theorem digs_txt {ds : List Int} (hw : Words 10 ds) : digs (txt false ds) = ds.reverse := by
  unfold digs txt u8s asc
  simp only [Bool.false_eq_true, if_false, List.map_reverse, List.map_map]
  congr 1
  conv => rhs; rw [← List.map_id ds]
  apply List.map_congr_left
  intro d hd
  have := hw d hd
  exact digit_of d this.1 this.2
theorem good_txt {ds : List Int} (hw : Words 10 ds) (hne : ds ≠ []) : goodT (txt false ds) 10 := by
  refine ⟨by rw [txt_size]; exact List.length_pos_iff.2 hne, by simp, fun k hk => ?_⟩
  have h1 := digs_txt hw
  have h2 : (digs (txt false ds))[k]? = some (digitI (((txt false ds)[k]'hk).toNat : Int)) := by
    unfold digs
    rw [List.getElem?_map]
    have : (txt false ds).data.toList[k]? = some ((txt false ds)[k]'hk) := by
      rw [List.getElem?_eq_getElem (by simpa using hk)]
      rfl
    rw [this]
    rfl
  rw [h1] at h2
  have h3 := List.mem_of_getElem? h2
  exact (hw _ (List.mem_reverse.1 h3)).2
theorem Parse_txt {w : World} {ds : List Int} (hw : Words 10 ds) (hne : ds ≠ []) (hl : ds.length ≤ 500) :
    Calls Try.prog 30 #[.string (txt false ds), .int .i64 10] w fun e w' => ∃ v, e = .returned (.tuple #[v, .bool true]) ∧ OutE w' v (val 10 ds) 501 ∧ Below w.heap.size w w' := by
  obtain ⟨h1, h2, h3⟩ := good_txt hw hne
  refine (Parse_ok (txt false ds) 10 w h2 h1 (by rw [txt_size]; omega) h3).mono ?_
  rintro e w' ⟨v, rfl, ⟨neg, a, cap, es, r1, r2, r3, r4, r5⟩, h⟩
  rw [digs_txt hw, hor_rev] at r4
  rw [txt_size] at r5
  exact ⟨v, rfl, ⟨_, neg, a, cap, es, r1, r2, r3, r4, by omega⟩, h⟩
/-- Both roads read a text as one number, or not. -/
theorem parse_pair (s : ByteArray) (b : Int) (hs : s.size ≤ 100) : ∃ (ok : Bool) (r : Int),
    (∀ w, Calls Try.prog 30 #[.string s, .int .i64 b] w fun e w' => ∃ t, e = .returned (.tuple #[t, .bool ok]) ∧ OutE w' t r 101 ∧ Below w.heap.size w w') ∧
    (∀ w, Calls Try.prog 31 #[.string s, .int .i64 b] w fun e w' => ∃ t, e = .returned (.tuple #[t, .bool ok]) ∧ Rint w' t r 100 ∧ Below w.heap.size w w') := by
  by_cases hg : goodT s b
  · obtain ⟨h1, h2, h3⟩ := hg
    refine ⟨true, hor b (digs s), fun w => ?_, fun w => ?_⟩
    · refine (Parse_ok s b w h2 h1 (by omega) h3).mono ?_
      rintro e w' ⟨v, rfl, ⟨neg, a, cap, es, r1, r2, r3, r4, r5⟩, h⟩
      exact ⟨v, rfl, ⟨_, neg, a, cap, es, r1, r2, r3, r4, by omega⟩, h⟩
    · refine (rParse_ok s b w h2 h1 (by omega) h3).mono ?_
      rintro e w' ⟨v, rfl, hr, h⟩
      exact ⟨v, rfl, hr.mono hs, h⟩
  · refine ⟨false, 0, fun w => ?_, fun w => ?_⟩
    · refine (Parse_no s b w (by omega) hg).mono ?_
      rintro e w' ⟨rfl, h⟩
      exact ⟨_, rfl, ⟨0, false, none, 0, [], rfl, Own.empty _ _ _ _ _, ⟨trivial, fun h => by cases h⟩, rfl, by simp⟩, h⟩
    · refine (rParse_no s b w (by omega) hg).mono ?_
      rintro e w' ⟨rfl, h⟩
      exact ⟨_, rfl, ⟨false, none, 0, [], rfl, Row.empty _ _ _, ⟨trivial, fun h => by cases h⟩, rfl, by simp⟩, h⟩
theorem decs_len {y : Int} {ds : List Int} (h : Decs y ds) {w : World} {u : Value} (hu : Num w u y 12) : ds.length ≤ 121 := by
  by_cases h0 : y = 0
  · rw [h.2.2.2.2 h0]; simp
  · obtain ⟨na, x, ca, xs, rfl, ha, rfl, hl⟩ := hu
    have h1 := nrm_pos (B := 10) (by decide) h.1 (h.2.2.2.1 h0) h.2.1
    rw [h.2.2.1, ← val_abs (by decide) ha.words] at h1
    have h2 := val_lt (B := 4294967296) (by decide) ha.words
    have h3 := ten_le h1 h2
    omega
end Go.Proofs.Ytdcjgepgiaaaoaa
