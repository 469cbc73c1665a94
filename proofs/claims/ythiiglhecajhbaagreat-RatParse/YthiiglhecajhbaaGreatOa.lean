/- ratio: a number's text by both roads, as lists of bytes. -/
import Derived.Test.YthiiglhecajhbaaGreatNem
namespace Go.Proofs.YthiiglhecajhbaaGreat
namespace Nn
def isLetterB (c : Int) : Bool := decide ((97 ≤ c ∧ c ≤ 122) ∨ (65 ≤ c ∧ c ≤ 90) ∨ c = 95)
def isDigitB (c : Int) : Bool := decide (48 ≤ c ∧ c ≤ 57)
def inNameB (c : Int) : Bool := isLetterB c || isDigitB c
def isOctalB (c : Int) : Bool := decide (48 ≤ c ∧ c ≤ 55)
def isBinaryB (c : Int) : Bool := decide (c = 48 ∨ c = 49)
def isHexB (c : Int) : Bool := isDigitB c || decide ((97 ≤ c ∧ c ≤ 102) ∨ (65 ≤ c ∧ c ≤ 70))
/-- How many bytes at the beginning are of a kind. -/
def spanL (p : Int → Bool) : List UInt8 → Nat
  | [] => 0
  | c :: l => if p (c.toNat : Int) then spanL p l + 1 else 0
theorem spanL_le (p : Int → Bool) (l : List UInt8) : spanL p l ≤ l.length := by
  induction l with
  | nil => exact Nat.le_refl _
  | cons c l ih =>
    unfold spanL
    split
    · simp; omega
    · simp
/-- The byte at a place, -1 behind the end. -/
def byteAt (l : List UInt8) (k : Nat) : Int := match l.drop k with
  | [] => -1
  | c :: _ => (c.toNat : Int)
def digitsM (p : Int → Bool) (l : List UInt8) : Nat × Nat × Bool := if byteAt l (spanL p l) = 46 then (spanL p l + 1 + spanL p (l.drop (spanL p l + 1)), spanL p l + spanL p (l.drop (spanL p l + 1)), true) else (spanL p l, spanL p l, false)
/-- An exponent's digits: not above 999. -/
def fitsGo (v : Nat) : List UInt8 → Bool
  | [] => true
  | c :: r => if 999 < 10 * v + (c.toNat + 208) % 256 then false else fitsGo (10 * v + (c.toNat + 208) % 256) r
/-- Where an exponent that begins at n ends, 0 if it is none. -/
def expAt (l : List UInt8) (n : Nat) : Nat := if byteAt l (n + 1) = 43 ∨ byteAt l (n + 1) = 45 then n + 1 + 1 else n + 1
def expM (l : List UInt8) (n : Nat) : Nat := if spanL isDigitB (l.drop (expAt l n)) = 0 ∨ fitsGo 0 ((l.take (expAt l n + spanL isDigitB (l.drop (expAt l n)))).drop (expAt l n)) = false then 0 else expAt l n + spanL isDigitB (l.drop (expAt l n))
def decimalM (l : List UInt8) : Int × Nat := if byteAt l (digitsM isDigitB l).1 = 101 ∨ byteAt l (digitsM isDigitB l).1 = 69 then (3, expM l (digitsM isDigitB l).1) else if (digitsM isDigitB l).2.2 = true then (3, (digitsM isDigitB l).1) else if 1 < (digitsM isDigitB l).2.1 ∧ byteAt l 0 = 48 then (2, 0) else (2, (digitsM isDigitB l).1)
def wholeM (p : Int → Bool) (l : List UInt8) : Nat := if spanL p (l.drop 2) = 0 then 0 else 2 + spanL p (l.drop 2)
def hexM (l : List UInt8) : Int × Nat := if (digitsM isHexB (l.drop 2)).2.1 = 0 then (2, 0) else if byteAt l ((digitsM isHexB (l.drop 2)).1 + 2) = 112 ∨ byteAt l ((digitsM isHexB (l.drop 2)).1 + 2) = 80 then (3, expM l ((digitsM isHexB (l.drop 2)).1 + 2)) else if (digitsM isHexB (l.drop 2)).2.2 = true then (3, 0) else (2, (digitsM isHexB (l.drop 2)).1 + 2)
def basedM (l : List UInt8) : Int × Nat := if byteAt l 0 ≠ 48 ∨ l.length < 2 then decimalM l else if byteAt l 1 = 120 ∨ byteAt l 1 = 88 then hexM l else if byteAt l 1 = 111 ∨ byteAt l 1 = 79 then (2, wholeM isOctalB l) else if byteAt l 1 = 98 ∨ byteAt l 1 = 66 then (2, wholeM isBinaryB l) else decimalM l
def numberM (l : List UInt8) : Int × Nat := if inNameB (byteAt l (basedM l).2) = true ∨ byteAt l (basedM l).2 = 46 then ((basedM l).1, 0) else basedM l
theorem inName_none : inNameB (-1) = false := by decide
theorem byteAt_get (l : List UInt8) (k : Nat) (h : k < l.length) : byteAt l k = ((l.getD k 0).toNat : Int) := by
  unfold byteAt
  rw [List.drop_eq_getElem_cons h]
  simp [List.getD, List.getElem?_eq_getElem h]
theorem byteAt_drop (l : List UInt8) (k j : Nat) : byteAt (l.drop k) j = byteAt l (k + j) := by
  unfold byteAt
  rw [List.drop_drop]
theorem byteAt_end (l : List UInt8) (k : Nat) (h : l.length ≤ k) : byteAt l k = -1 := by
  unfold byteAt
  rw [List.drop_eq_nil_of_le h]
theorem exp_gt (l : List UInt8) (m n : Nat) (h : expM l m = n) (h0 : 0 < n) : m + 1 < n ∧ n = expAt l m + spanL isDigitB (l.drop (expAt l m)) ∧ 0 < spanL isDigitB (l.drop (expAt l m)) ∧ m + 1 ≤ expAt l m := by
  have hE : m + 1 ≤ expAt l m := by unfold expAt; split <;> omega
  unfold expM at h
  split at h
  · omega
  · rename_i hc
    have : spanL isDigitB (l.drop (expAt l m)) ≠ 0 := fun h2 => hc (.inl h2)
    omega
theorem len_two (L : List UInt8) (h : byteAt L 1 ≠ -1) : ¬ L.length < 2 := by
  intro h2
  apply h
  unfold byteAt
  rw [List.drop_eq_nil_of_le (by omega)]
theorem based_hex (L : List UInt8) (h0 : byteAt L 0 = 48) (h1 : byteAt L 1 = 120 ∨ byteAt L 1 = 88) : basedM L = hexM L := by
  have := len_two L (by omega)
  unfold basedM
  rw [if_neg (fun h => h.elim (fun h => h h0) this), if_pos h1]
theorem based_oct (L : List UInt8) (h0 : byteAt L 0 = 48) (h1 : byteAt L 1 = 111 ∨ byteAt L 1 = 79) : basedM L = (2, wholeM isOctalB L) := by
  have := len_two L (by omega)
  unfold basedM
  rw [if_neg (fun h => h.elim (fun h => h h0) this), if_neg (by omega), if_pos h1]
theorem based_bin (L : List UInt8) (h0 : byteAt L 0 = 48) (h1 : byteAt L 1 = 98 ∨ byteAt L 1 = 66) : basedM L = (2, wholeM isBinaryB L) := by
  have := len_two L (by omega)
  unfold basedM
  rw [if_neg (fun h => h.elim (fun h => h h0) this), if_neg (by omega), if_neg (by omega), if_pos h1]
theorem based_dec (L : List UInt8) (h : byteAt L 0 ≠ 48 ∨ ¬ (byteAt L 1 = 120 ∨ byteAt L 1 = 88 ∨ byteAt L 1 = 111 ∨ byteAt L 1 = 79 ∨ byteAt L 1 = 98 ∨ byteAt L 1 = 66)) : basedM L = decimalM L := by
  unfold basedM
  rcases h with h | h
  · rw [if_pos (.inl h)]
  · split
    · rfl
    · rw [if_neg (by omega), if_neg (by omega), if_neg (by omega)]
theorem hex_dot (L : List UInt8) (n m M : Nat) (hn : spanL isHexB (L.drop 2) = n) (hd : byteAt (L.drop 2) n = 46) (hm : spanL isHexB ((L.drop 2).drop (n + 1)) = m) (hM : M = n + 1 + m + 2) : hexM L = if n + m = 0 then (2, 0) else if byteAt L M = 112 ∨ byteAt L M = 80 then (3, expM L M) else (3, 0) := by
  have hD : digitsM isHexB (L.drop 2) = (n + 1 + m, n + m, true) := by
    unfold digitsM
    rw [hn, if_pos hd, hm]
  unfold hexM
  rw [hD, hM]
  simp only [if_true]
theorem hex_nodot (L : List UInt8) (n M : Nat) (hn : spanL isHexB (L.drop 2) = n) (hd : byteAt (L.drop 2) n ≠ 46) (hM : M = n + 2) : hexM L = if n = 0 then (2, 0) else if byteAt L M = 112 ∨ byteAt L M = 80 then (3, expM L M) else (2, M) := by
  have hD : digitsM isHexB (L.drop 2) = (n, n, false) := by
    unfold digitsM
    rw [hn, if_neg hd]
  unfold hexM
  rw [hD, hM]
  simp only [Bool.false_eq_true, if_false]
theorem dec_dot (L : List UInt8) (n m M : Nat) (hn : spanL isDigitB L = n) (hd : byteAt L n = 46) (hm : spanL isDigitB (L.drop (n + 1)) = m) (hM : M = n + 1 + m) : decimalM L = if byteAt L M = 101 ∨ byteAt L M = 69 then (3, expM L M) else (3, M) := by
  have hD : digitsM isDigitB L = (n + 1 + m, n + m, true) := by
    unfold digitsM
    rw [hn, if_pos hd, hm]
  unfold decimalM
  rw [hD, hM]
  simp only [if_true]
theorem dec_nodot (L : List UInt8) (n : Nat) (hn : spanL isDigitB L = n) (hd : byteAt L n ≠ 46) : decimalM L = if byteAt L n = 101 ∨ byteAt L n = 69 then (3, expM L n) else if 1 < n ∧ byteAt L 0 = 48 then (2, 0) else (2, n) := by
  have hD : digitsM isDigitB L = (n, n, false) := by
    unfold digitsM
    rw [hn, if_neg hd]
  unfold decimalM
  rw [hD]
  simp only [Bool.false_eq_true, if_false]
theorem number_zero (L : List UInt8) (h : (basedM L).2 = 0) : (numberM L).2 = 0 := by
  unfold numberM
  split
  · rfl
  · exact h
theorem num_len (L : List UInt8) (h : L ≠ []) : ((numberM L).2 = L.length ↔ (basedM L).2 = L.length) ∧ ((basedM L).2 = L.length → numberM L = basedM L) := by
  have hp : 0 < L.length := List.length_pos_iff.2 h
  have h2 : (basedM L).2 = L.length → numberM L = basedM L := fun e => by
    unfold numberM
    rw [e, byteAt_end L _ (Nat.le_refl _), if_neg (by rw [inName_none]; simp)]
  refine ⟨⟨fun e => ?_, fun e => by rw [h2 e]; exact e⟩, h2⟩
  unfold numberM at e
  split at e
  · exact absurd e (by show ¬ 0 = _; omega)
  · exact e
/- Shapes. -/
def pB (B : Int) (c : Int) : Bool := decide (digitI c < B)
theorem span_congr {p q : Int → Bool} (h : ∀ c : Fin 256, p ((c.val : Nat) : Int) = q ((c.val : Nat) : Int)) (l : List UInt8) : spanL p l = spanL q l := by
  induction l with
  | nil => rfl
  | cons c l ih =>
    unfold spanL
    have := h ⟨c.toNat, c.toNat_lt⟩
    simp only at this
    rw [this, ih]
theorem span10 (l : List UInt8) : spanL isDigitB l = spanL (pB 10) l := span_congr (by decide +kernel) l
theorem span16 (l : List UInt8) : spanL isHexB l = spanL (pB 16) l := span_congr (by decide +kernel) l
theorem span8 (l : List UInt8) : spanL isOctalB l = spanL (pB 8) l := span_congr (by decide +kernel) l
theorem span2 (l : List UInt8) : spanL isBinaryB l = spanL (pB 2) l := span_congr (by decide +kernel) l
def allP (p : Int → Bool) (d : List UInt8) : Prop := ∀ c ∈ d, p (c.toNat : Int) = true
def stops (p : Int → Bool) (t : List UInt8) : Prop := ∀ c x, t = c :: x → p (c.toNat : Int) = false
theorem allP_nil (p : Int → Bool) : allP p [] := fun c h => absurd h (by simp)
theorem stops_nil (p : Int → Bool) : stops p [] := fun c x h => by cases h
theorem allP_app {p : Int → Bool} {a b : List UInt8} (ha : allP p a) (hb : allP p b) : allP p (a ++ b) := fun c h => (List.mem_append.1 h).elim (ha c) (hb c)
theorem span_app {p : Int → Bool} {d t : List UInt8} (hd : allP p d) (ht : stops p t) : spanL p (d ++ t) = d.length := by
  induction d with
  | nil =>
    cases t with
    | nil => rfl
    | cons c x =>
      show spanL p (c :: x) = 0
      unfold spanL
      rw [if_neg (by rw [ht c x rfl]; decide)]
  | cons c d ih =>
    show spanL p (c :: (d ++ t)) = _
    unfold spanL
    rw [if_pos (hd c (by simp)), ih (fun x hx => hd x (by simp [hx]))]
    rfl
theorem span_shape (p : Int → Bool) (l : List UInt8) : ∃ d t, l = d ++ t ∧ allP p d ∧ stops p t := by
  induction l with
  | nil => exact ⟨[], [], rfl, allP_nil p, stops_nil p⟩
  | cons c l ih =>
    obtain ⟨d, t, rfl, hd, ht⟩ := ih
    by_cases hp : p (c.toNat : Int) = true
    · exact ⟨c :: d, t, rfl, fun x hx => (List.mem_cons.1 hx).elim (fun e => by rw [e]; exact hp) (hd x), ht⟩
    · exact ⟨[], c :: (d ++ t), rfl, allP_nil p, fun y x h => by injection h with h1 h2; rw [← h1]; simpa using hp⟩
theorem drop_app (d t : List UInt8) (k : Nat) : (d ++ t).drop (d.length + k) = t.drop k := by
  rw [List.drop_append, List.drop_eq_nil_of_le (by omega), Nat.add_sub_cancel_left, List.nil_append]
theorem byteAt_app (d t : List UInt8) (k : Nat) : byteAt (d ++ t) (d.length + k) = byteAt t k := by
  unfold byteAt
  rw [drop_app]
theorem byteAt_app0 (d t : List UInt8) : byteAt (d ++ t) d.length = byteAt t 0 := byteAt_app d t 0
theorem byteAt_nil (k : Nat) : byteAt [] k = -1 := byteAt_end [] k (Nat.zero_le _)
theorem byteAt_cons0 (c : UInt8) (x : List UInt8) : byteAt (c :: x) 0 = (c.toNat : Int) := rfl
theorem byteAt_cons (c : UInt8) (x : List UInt8) (k : Nat) : byteAt (c :: x) (k + 1) = byteAt x k := rfl
def sgN (x : List UInt8) : Nat := if byteAt x 0 = 43 ∨ byteAt x 0 = 45 then 1 else 0
theorem sgN_le (x : List UInt8) : sgN x ≤ x.length := by
  unfold sgN
  split
  · rename_i h
    cases x with
    | nil => rw [byteAt_nil] at h; omega
    | cons c x => simp
  · exact Nat.zero_le _
/-- An exponent's text behind its letter. -/
def expL (x : List UInt8) : Prop := x.drop (sgN x) ≠ [] ∧ allP isDigitB (x.drop (sgN x)) ∧ fitsGo 0 (x.drop (sgN x)) = true
theorem exp_full (a : List UInt8) (c : UInt8) (x : List UInt8) : expM (a ++ c :: x) a.length = (a ++ c :: x).length ↔ expL x := by
  have hE : expAt (a ++ c :: x) a.length = a.length + (1 + sgN x) := by
    unfold expAt sgN
    rw [byteAt_app, byteAt_cons]
    split <;> omega
  have hD : (a ++ c :: x).drop (a.length + (1 + sgN x)) = x.drop (sgN x) := by
    rw [drop_app, Nat.add_comm 1]
    rfl
  have hsg := sgN_le x
  unfold expM expL
  rw [hE, hD, List.drop_take, hD, Nat.add_sub_cancel_left]
  have hlen : (a ++ c :: x).length = a.length + (1 + sgN x) + (x.drop (sgN x)).length := by
    rw [List.length_append, List.length_cons, List.length_drop]; omega
  rw [hlen]
  generalize x.drop (sgN x) = y
  obtain ⟨d, t, rfl, hd, ht⟩ := span_shape isDigitB y
  rw [span_app hd ht, List.take_left]
  constructor
  · intro h
    split at h
    · rename_i hc
      omega
    · rename_i hc
      have h1 : d.length ≠ 0 := fun e => hc (.inl e)
      have h2 : fitsGo 0 d = true := by
        cases hf : fitsGo 0 d with
        | true => rfl
        | false => exact absurd (.inr hf) hc
      rw [List.length_append] at h
      have ht0 : t = [] := List.length_eq_zero_iff.1 (by omega)
      subst ht0
      rw [List.append_nil]
      exact ⟨fun e => h1 (by rw [e]; rfl), hd, h2⟩
  · rintro ⟨h1, h2, h3⟩
    have ht0 : t = [] := by
      cases t with
      | nil => rfl
      | cons c x =>
        have e1 := ht c x rfl
        have e2 := h2 c (by simp)
        rw [e1] at e2
        cases e2
    subst ht0
    rw [List.append_nil] at h1 h3 ⊢
    have hl : d.length ≠ 0 := fun e => h1 (List.length_eq_zero_iff.1 e)
    rw [if_neg (by rw [h3]; simp; exact fun e => h1 e)]
/- Cuts. -/
def cutL (l : List UInt8) (I : Int) : List UInt8 × List UInt8 × Bool := if I < 0 then (l, [], false) else (l.take I.toNat, l.drop (I.toNat + 1), true)
def noneOf (chars d : List UInt8) : Prop := ∀ c ∈ d, chars.contains c = false
theorem any_app {chars d t : List UInt8} (hd : noneOf chars d) : Lib.indexAny (d ++ t) chars = if Lib.indexAny t chars = -1 then -1 else (d.length : Int) + Lib.indexAny t chars := by
  induction d with
  | nil =>
    show Lib.indexAny t chars = _
    split
    · assumption
    · simp
  | cons c d ih =>
    have hge := Lib.indexAny_ge chars t
    show Lib.indexAny (c :: (d ++ t)) chars = _
    rw [Lib.indexAny, if_neg (by rw [hd c (by simp)]; decide), ih (fun x hx => hd x (by simp [hx]))]
    by_cases h : Lib.indexAny t chars = -1
    · rw [if_pos h, if_pos h]; rfl
    · rw [if_neg h, if_neg h, if_neg (by rw [beq_iff_eq]; omega), List.length_cons]; omega
theorem cut_none {chars l : List UInt8} (h : noneOf chars l) : cutL l (Lib.indexAny l chars) = (l, [], false) := by
  have := any_app (t := []) h
  rw [List.append_nil] at this
  rw [this, if_pos (show Lib.indexAny [] chars = -1 from rfl)]
  rfl
theorem cut_at {chars d x : List UInt8} {c : UInt8} (hd : noneOf chars d) (hc : chars.contains c = true) : cutL (d ++ c :: x) (Lib.indexAny (d ++ c :: x) chars) = (d, x, true) := by
  have e : Lib.indexAny (c :: x) chars = 0 := by rw [Lib.indexAny, if_pos hc]
  rw [any_app hd, e, if_neg (by decide)]
  unfold cutL
  rw [if_neg (by omega), show ((d.length : Int) + 0).toNat = d.length by omega, List.take_left, drop_app]
  rfl
theorem cut_past {chars d x : List UInt8} {c : UInt8} (hd : noneOf chars d) (hc : chars.contains c = false) : ∃ x', (cutL (d ++ c :: x) (Lib.indexAny (d ++ c :: x) chars)).1 = d ++ c :: x' := by
  have hd' : noneOf chars (d ++ [c]) := fun y hy => (List.mem_append.1 hy).elim (hd y) (fun h => by rw [List.mem_singleton.1 h]; exact hc)
  have e : d ++ c :: x = (d ++ [c]) ++ x := by simp
  have hge := Lib.indexAny_ge chars x
  rw [e, any_app hd']
  unfold cutL
  split
  · rename_i h
    rw [if_pos (by omega)]
    exact ⟨x, by simp⟩
  · rename_i h
    rw [if_neg (by omega), show ((((d ++ [c]).length : Nat) : Int) + Lib.indexAny x chars).toNat = (d ++ [c]).length + (Lib.indexAny x chars).toNat by omega, List.take_append, List.take_of_length_le (by omega), Nat.add_sub_cancel_left]
    exact ⟨x.take (Lib.indexAny x chars).toNat, by simp⟩
def lts (B : Int) : List UInt8 := if B = 16 then [112, 80] else [101, 69]
def isB (B : Int) : Prop := B = 2 ∨ B = 8 ∨ B = 10 ∨ B = 16
theorem dig_no {B : Int} (hB : isB B) (c : UInt8) (h : pB B (c.toNat : Int) = true) : (lts B).contains c = false ∧ ([46] : List UInt8).contains c = false := by
  have key : ∀ c : Fin 256, (pB 2 ((c.val : Nat) : Int) = true → (lts 2).contains (UInt8.ofNat c.val) = false ∧ ([46] : List UInt8).contains (UInt8.ofNat c.val) = false) ∧ (pB 8 ((c.val : Nat) : Int) = true → (lts 8).contains (UInt8.ofNat c.val) = false ∧ ([46] : List UInt8).contains (UInt8.ofNat c.val) = false) ∧ (pB 10 ((c.val : Nat) : Int) = true → (lts 10).contains (UInt8.ofNat c.val) = false ∧ ([46] : List UInt8).contains (UInt8.ofNat c.val) = false) ∧ (pB 16 ((c.val : Nat) : Int) = true → (lts 16).contains (UInt8.ofNat c.val) = false ∧ ([46] : List UInt8).contains (UInt8.ofNat c.val) = false) := by decide +kernel
  have k := key ⟨c.toNat, c.toNat_lt⟩
  simp only [UInt8.ofNat_toNat] at k
  rcases hB with rfl | rfl | rfl | rfl
  · exact k.1 h
  · exact k.2.1 h
  · exact k.2.2.1 h
  · exact k.2.2.2 h
theorem all_lts {B : Int} (hB : isB B) {d : List UInt8} (h : allP (pB B) d) : noneOf (lts B) d := fun c hc => (dig_no hB c (h c hc)).1
theorem all_dot {B : Int} (hB : isB B) {d : List UInt8} (h : allP (pB B) d) : noneOf [46] d := fun c hc => (dig_no hB c (h c hc)).2
theorem dot_lts (B : Int) : (lts B).contains 46 = false := by unfold lts; split <;> rfl
theorem none_app {chars a b : List UInt8} (ha : noneOf chars a) (hb : noneOf chars b) : noneOf chars (a ++ b) := fun c h => (List.mem_append.1 h).elim (ha c) (hb c)
theorem none_cons {chars b : List UInt8} {c : UInt8} (ha : chars.contains c = false) (hb : noneOf chars b) : noneOf chars (c :: b) := fun x h => (List.mem_cons.1 h).elim (fun e => by rw [e]; exact ha) (hb x)
/-- The five cuts of the first road. -/
def eCut (B : Int) (r : List UInt8) : List UInt8 × List UInt8 × Bool := cutL r (Lib.indexAny r (lts B))
def pCut (m : List UInt8) : List UInt8 × List UInt8 × Bool := cutL m (Lib.indexAny m [46])
def goodL (l : List UInt8) (b : Int) : Prop := l ≠ [] ∧ isB b ∧ allP (pB b) l
def leadL (l : List UInt8) (b : Int) : Prop := b = 10 ∧ 1 < l.length ∧ byteAt l 0 = 48
def horL (b : Int) (l : List UInt8) : Int := hor b (l.map fun c => digitI (c.toNat : Int))
def expD (x : List UInt8) : List UInt8 := if Lib.hasPrefix x [45] = true then Lib.trimPrefix x [45] else Lib.trimPrefix x [43]
def expOK (x : List UInt8) : Prop := goodL (expD x) 10 ∧ horL 10 (expD x) ≤ 999
def acc1 (B : Int) (r : List UInt8) : Prop := if (pCut (eCut B r).1).2.2 = false ∧ (eCut B r).2.2 = false then goodL (pCut (eCut B r).1).1 B ∧ ¬ leadL (pCut (eCut B r).1).1 B else (B = 10 ∨ (B = 16 ∧ (eCut B r).2.2 = true)) ∧ goodL ((pCut (eCut B r).1).1 ++ (pCut (eCut B r).1).2.1) B ∧ ((eCut B r).2.2 = true → expOK (eCut B r).2.1)
theorem expD_eq (x : List UInt8) : expD x = x.drop (sgN x) := by
  unfold expD sgN Lib.trimPrefix Lib.hasPrefix
  cases x with
  | nil => simp [List.isPrefixOf, byteAt_nil]
  | cons c x =>
    rw [byteAt_cons0]
    by_cases h1 : c = 45
    · subst h1; simp [List.isPrefixOf]
    · by_cases h2 : c = 43
      · subst h2; simp [List.isPrefixOf]
      · have e1 : ¬ ((c.toNat : Int) = 43 ∨ (c.toNat : Int) = 45) := by
          rintro (h | h)
          · exact h2 (UInt8.toNat_inj.1 (by simpa using (by omega : c.toNat = 43)))
          · exact h1 (UInt8.toNat_inj.1 (by simpa using (by omega : c.toNat = 45)))
        rw [if_neg e1]
        have h1' : ¬ (45 = c) := fun h => h1 h.symm
        have h2' : ¬ (43 = c) := fun h => h2 h.symm
        simp [List.isPrefixOf, h1', h2']
theorem fits_fold (y : List UInt8) : ∀ v : Nat, allP isDigitB y → (fitsGo v y = true ↔ (y.map fun c => digitI (c.toNat : Int)).foldl (fun a d => a * 10 + d) (v : Int) ≤ 999 ∨ (y = [])) := by
  have mono : ∀ (l : List Int) (a : Int), 0 ≤ a → (∀ d ∈ l, 0 ≤ d) → a ≤ l.foldl (fun a d => a * 10 + d) a := by
    intro l
    induction l with
    | nil => intro a _ _; exact Int.le_refl _
    | cons d l ih =>
      intro a ha hd
      have h0 := hd d (by simp)
      have := ih (a * 10 + d) (by omega) (fun x hx => hd x (by simp [hx]))
      show a ≤ l.foldl _ (a * 10 + d)
      omega
  induction y with
  | nil => intro v _; simp [fitsGo]
  | cons c y ih =>
    intro v h
    have hc := h c (by simp)
    unfold isDigitB at hc
    have hc' := of_decide_eq_true hc
    have hd : digitI (c.toNat : Int) = (c.toNat : Int) - 48 := by unfold digitI; rw [if_pos hc']
    have hm : (c.toNat + 208) % 256 = c.toNat - 48 := by omega
    have ih' := ih (10 * v + (c.toNat - 48)) (fun x hx => h x (by simp [hx]))
    have hv : ((10 * v + (c.toNat - 48) : Nat) : Int) = (v : Int) * 10 + digitI (c.toNat : Int) := by rw [hd]; omega
    have hrest := mono (y.map fun c => digitI (c.toNat : Int)) ((v : Int) * 10 + digitI (c.toNat : Int)) (by rw [hd]; omega) (fun d hd => by
      obtain ⟨x, _, rfl⟩ := List.mem_map.1 hd
      exact (digitI_rng _).1)
    unfold fitsGo
    rw [hm, List.map_cons, List.foldl_cons]
    rw [hv] at ih'
    split
    · rename_i hgt
      constructor
      · intro h; cases h
      · rintro (h | h)
        · omega
        · cases h
    · rename_i hle
      rw [ih']
      constructor
      · rintro (h | rfl)
        · exact .inl h
        · left; simp; omega
      · rintro (h | h)
        · exact .inl h
        · cases h
theorem all10 {y : List UInt8} : allP isDigitB y ↔ allP (pB 10) y := by
  have key : ∀ c : Fin 256, isDigitB ((c.val : Nat) : Int) = pB 10 ((c.val : Nat) : Int) := by decide +kernel
  constructor
  · intro h c hc
    have := key ⟨c.toNat, c.toNat_lt⟩
    simp only at this
    rw [← this]; exact h c hc
  · intro h c hc
    have := key ⟨c.toNat, c.toNat_lt⟩
    simp only at this
    rw [this]; exact h c hc
theorem exp_same (x : List UInt8) : expL x ↔ expOK x := by
  unfold expL expOK goodL
  rw [expD_eq]
  generalize x.drop (sgN x) = y
  have hb : isB 10 := .inr (.inr (.inl rfl))
  constructor
  · rintro ⟨h1, h2, h3⟩
    refine ⟨⟨h1, hb, all10.1 h2⟩, ?_⟩
    rcases (fits_fold y 0 h2).1 h3 with h | h
    · exact h
    · exact absurd h h1
  · rintro ⟨⟨h1, _, h2⟩, h3⟩
    exact ⟨h1, all10.2 h2, (fits_fold y 0 (all10.2 h2)).2 (.inl h3)⟩
/- The shapes of a text behind its base. -/
inductive Shape (B : Int) (r : List UInt8) : Prop
  | whole (h : allP (pB B) r)
  | point (d e : List UInt8) (hd : allP (pB B) d) (he : allP (pB B) e) (hr : r = d ++ 46 :: e)
  | both (d e x : List UInt8) (c : UInt8) (hd : allP (pB B) d) (he : allP (pB B) e) (hc : (lts B).contains c = true) (hr : r = d ++ 46 :: (e ++ c :: x))
  | expo (d x : List UInt8) (c : UInt8) (hd : allP (pB B) d) (hc : (lts B).contains c = true) (hr : r = d ++ c :: x)
  | bad (d x : List UInt8) (c : UInt8) (hd : allP (pB B) d) (hc : (lts B).contains c = false) (h46 : ([46] : List UInt8).contains c = false) (hp : pB B (c.toNat : Int) = false) (hr : r = d ++ c :: x)
  | bad2 (d e x : List UInt8) (c : UInt8) (hd : allP (pB B) d) (he : allP (pB B) e) (hc : (lts B).contains c = false) (hp : pB B (c.toNat : Int) = false) (hr : r = d ++ 46 :: (e ++ c :: x))
theorem shape_of (B : Int) (r : List UInt8) : Shape B r := by
  obtain ⟨d, t, rfl, hd, ht⟩ := span_shape (pB B) r
  cases t with
  | nil => exact .whole (by rw [List.append_nil]; exact hd)
  | cons c x =>
    have hp := ht c x rfl
    cases h46 : ([46] : List UInt8).contains c with
    | false =>
      cases hc : (lts B).contains c with
      | true => exact .expo d x c hd hc rfl
      | false => exact .bad d x c hd hc h46 hp rfl
    | true =>
      obtain rfl : c = 46 := by simpa using h46
      obtain ⟨e, t2, rfl, he, ht2⟩ := span_shape (pB B) x
      cases t2 with
      | nil => exact .point d e hd he (by rw [List.append_nil])
      | cons c2 x2 =>
        cases hc : (lts B).contains c2 with
        | true => exact .both d e x2 c2 hd he hc rfl
        | false => exact .bad2 d e x2 c2 hd he hc (ht2 c2 x2 rfl) rfl
section
variable {B : Int} (hB : isB B)
include hB
theorem cuts_whole {r : List UInt8} (h : allP (pB B) r) : eCut B r = (r, [], false) ∧ pCut r = (r, [], false) := ⟨cut_none (all_lts hB h), cut_none (all_dot hB h)⟩
theorem cuts_point {d e : List UInt8} (hd : allP (pB B) d) (he : allP (pB B) e) : eCut B (d ++ 46 :: e) = (d ++ 46 :: e, [], false) ∧ pCut (d ++ 46 :: e) = (d, e, true) := ⟨cut_none (none_app (all_lts hB hd) (none_cons (dot_lts B) (all_lts hB he))), cut_at (all_dot hB hd) rfl⟩
theorem cuts_both {d e x : List UInt8} {c : UInt8} (hd : allP (pB B) d) (he : allP (pB B) e) (hc : (lts B).contains c = true) : eCut B (d ++ 46 :: (e ++ c :: x)) = (d ++ 46 :: e, x, true) ∧ pCut (d ++ 46 :: e) = (d, e, true) := by
  refine ⟨?_, cut_at (all_dot hB hd) rfl⟩
  have := cut_at (x := x) (none_app (all_lts hB hd) (none_cons (dot_lts B) (all_lts hB he))) hc
  unfold eCut
  rw [show d ++ 46 :: (e ++ c :: x) = (d ++ 46 :: e) ++ c :: x by simp]
  exact this
theorem cuts_expo {d x : List UInt8} {c : UInt8} (hd : allP (pB B) d) (hc : (lts B).contains c = true) : eCut B (d ++ c :: x) = (d, x, true) ∧ pCut d = (d, [], false) := ⟨cut_at (all_lts hB hd) hc, cut_none (all_dot hB hd)⟩
theorem cuts_bad {d x : List UInt8} {c : UInt8} (hd : allP (pB B) d) (hc : (lts B).contains c = false) (h46 : ([46] : List UInt8).contains c = false) (hp : pB B (c.toNat : Int) = false) : ¬ acc1 B (d ++ c :: x) := by
  obtain ⟨x1, h1⟩ := cut_past (x := x) (all_lts hB hd) hc
  obtain ⟨x2, h2⟩ := cut_past (x := x1) (all_dot hB hd) h46
  have e1 : (eCut B (d ++ c :: x)).1 = d ++ c :: x1 := h1
  have e2 : (pCut (eCut B (d ++ c :: x)).1).1 = d ++ c :: x2 := by rw [e1]; exact h2
  unfold acc1
  rw [e2]
  split
  · rintro ⟨⟨_, _, h⟩, _⟩
    have := h c (by simp)
    rw [hp] at this; cases this
  · rintro ⟨_, ⟨_, _, h⟩, _⟩
    have := h c (by simp)
    rw [hp] at this; cases this
theorem cuts_bad2 {d e x : List UInt8} {c : UInt8} (hd : allP (pB B) d) (he : allP (pB B) e) (hc : (lts B).contains c = false) (hp : pB B (c.toNat : Int) = false) : ¬ acc1 B (d ++ 46 :: (e ++ c :: x)) := by
  obtain ⟨x1, h1⟩ := cut_past (x := x) (none_app (all_lts hB hd) (none_cons (dot_lts B) (all_lts hB he))) hc
  have e1 : (eCut B (d ++ 46 :: (e ++ c :: x))).1 = d ++ 46 :: (e ++ c :: x1) := by
    unfold eCut
    rw [show d ++ 46 :: (e ++ c :: x) = (d ++ 46 :: e) ++ c :: x by simp, h1]
    simp
  have e2 : pCut (eCut B (d ++ 46 :: (e ++ c :: x))).1 = (d, e ++ c :: x1, true) := by rw [e1]; exact cut_at (all_dot hB hd) rfl
  unfold acc1
  rw [e2, if_neg (by simp)]
  rintro ⟨_, ⟨_, _, h⟩, _⟩
  have := h c (by simp)
  rw [hp] at this; cases this
end
/-- The second road's mantissa: its number, the digits behind the point, what is left. -/
def mantGo (B : Int) : Bool → List UInt8 → Int → Nat → Int × Nat × List UInt8
  | _, [], v, n => (v, n, [])
  | pt, c :: l, v, n => if c = 46 then mantGo B true l v n else if B ≤ digitI (c.toNat : Int) then (v, n, c :: l) else mantGo B pt l (v * B + digitI (c.toNat : Int)) (if pt = true then n + 1 else n)
theorem mant_digs {B : Int} (hB : isB B) (d t : List UInt8) (hd : allP (pB B) d) (pt : Bool) : ∀ (v : Int) (n : Nat), mantGo B pt (d ++ t) v n = mantGo B pt t ((d.map fun c => digitI (c.toNat : Int)).foldl (fun a d => a * B + d) v) (if pt = true then n + d.length else n) := by
  induction d with
  | nil => intro v n; simp
  | cons c d ih =>
    intro v n
    have hc := hd c (by simp)
    have h46 : c ≠ 46 := by
      have := (dig_no hB c hc).2
      intro e; subst e; simp at this
    unfold pB at hc
    have hc' := of_decide_eq_true hc
    show mantGo B pt (c :: (d ++ t)) v n = _
    rw [mantGo, if_neg h46, if_neg (by omega), ih (fun x hx => hd x (by simp [hx])), List.map_cons, List.foldl_cons]
    congr 1
    cases pt
    · rfl
    · simp; omega
theorem mant_stop (B : Int) (c : UInt8) (x : List UInt8) (pt : Bool) (v : Int) (n : Nat) (h46 : c ≠ 46) (hp : pB B (c.toNat : Int) = false) : mantGo B pt (c :: x) v n = (v, n, c :: x) := by
  unfold pB at hp
  have := of_decide_eq_false hp
  rw [mantGo, if_neg h46, if_pos (by omega)]
theorem lts_stop {B : Int} (h1 : B = 10 ∨ B = 16) {c : UInt8} (hc : (lts B).contains c = true) : c ≠ 46 ∧ pB B (c.toNat : Int) = false ∧ (byteAt [c] 0 = if B = 16 then 112 else 101) ∨ c ≠ 46 ∧ pB B (c.toNat : Int) = false ∧ (byteAt [c] 0 = if B = 16 then 80 else 69) := by
  rcases h1 with rfl | rfl
  · simp [lts] at hc
    rcases hc with rfl | rfl
    · left; exact ⟨by decide, by decide, rfl⟩
    · right; exact ⟨by decide, by decide, rfl⟩
  · simp [lts] at hc
    rcases hc with rfl | rfl
    · left; exact ⟨by decide, by decide, rfl⟩
    · right; exact ⟨by decide, by decide, rfl⟩
theorem horL_app (B : Int) (d e : List UInt8) : (e.map fun c => digitI (c.toNat : Int)).foldl (fun a d => a * B + d) ((d.map fun c => digitI (c.toNat : Int)).foldl (fun a d => a * B + d) 0) = horL B (d ++ e) := by
  unfold horL hor
  rw [List.map_append, List.foldl_append]
/-- The second road's exponent behind its letter. -/
def expV (x : List UInt8) : Int := x.foldl (fun e c => if isDigitB (c.toNat : Int) = true then 10 * e + ((c.toNat : Int) - 48) else e) 0
theorem expV_go (y : List UInt8) (h : allP isDigitB y) : ∀ v : Int, y.foldl (fun e c => if isDigitB (c.toNat : Int) = true then 10 * e + ((c.toNat : Int) - 48) else e) v = (y.map fun c => digitI (c.toNat : Int)).foldl (fun a d => a * 10 + d) v := by
  induction y with
  | nil => intro v; rfl
  | cons c y ih =>
    intro v
    have hc := h c (by simp)
    have hd : digitI (c.toNat : Int) = (c.toNat : Int) - 48 := by
      unfold isDigitB at hc
      unfold digitI; rw [if_pos (of_decide_eq_true hc)]
    rw [List.foldl_cons, if_pos hc, List.map_cons, List.foldl_cons, ih (fun x hx => h x (by simp [hx])), hd, Int.mul_comm]
theorem expV_eq (x : List UInt8) (h : expL x) : expV x = horL 10 (expD x) := by
  rw [expD_eq]
  unfold expV horL hor
  obtain ⟨_, h2, _⟩ := h
  have key : x.foldl (fun e c => if isDigitB (c.toNat : Int) = true then 10 * e + ((c.toNat : Int) - 48) else e) 0 = (x.drop (sgN x)).foldl (fun e c => if isDigitB (c.toNat : Int) = true then 10 * e + ((c.toNat : Int) - 48) else e) 0 := by
    cases x with
    | nil => rfl
    | cons c x =>
      unfold sgN
      rw [byteAt_cons0]
      by_cases hs : (c.toNat : Int) = 43 ∨ (c.toNat : Int) = 45
      · rw [if_pos hs, List.foldl_cons]
        have : isDigitB (c.toNat : Int) = false := by unfold isDigitB; rw [decide_eq_false_iff_not]; omega
        rw [if_neg (by rw [this]; decide)]
        rfl
      · rw [if_neg hs]; rfl
  rw [key, expV_go _ h2]
def firstL (L : List UInt8) : Prop := isDigitB (byteAt L 0) = true ∨ (byteAt L 0 = 46 ∧ isDigitB (byteAt L 1) = true)
def acc2 (L : List UInt8) : Prop := L ≠ [] ∧ firstL L ∧ (numberM L).2 = L.length
theorem acc2_iff (L : List UInt8) : acc2 L ↔ L ≠ [] ∧ firstL L ∧ (basedM L).2 = L.length := by
  unfold acc2
  constructor
  · rintro ⟨h, hf, h2⟩; exact ⟨h, hf, (num_len L h).1.1 h2⟩
  · rintro ⟨h, hf, h2⟩; exact ⟨h, hf, (num_len L h).1.2 h2⟩
/-- What both roads tell of a text: the same, and the same number. -/
def Same2 (B : Int) (L r : List UInt8) : Prop :=
  (acc1 B r ↔ acc2 L) ∧ (acc1 B r →
    ((pCut (eCut B r).1).2.2 = false ∧ (eCut B r).2.2 = false ∧ (pCut (eCut B r).1).1 = r ∧ (numberM L).1 = 2) ∨
    (¬ ((pCut (eCut B r).1).2.2 = false ∧ (eCut B r).2.2 = false) ∧ (numberM L).1 = 3 ∧ ∃ tl, mantGo B false r 0 0 = (horL B ((pCut (eCut B r).1).1 ++ (pCut (eCut B r).1).2.1), (pCut (eCut B r).1).2.1.length, tl) ∧ (((eCut B r).2.2 = false ∧ tl = []) ∨ ((eCut B r).2.2 = true ∧ ∃ c, tl = c :: (eCut B r).2.1 ∧ expL (eCut B r).2.1))))
theorem dig_first {c : UInt8} (h : pB 10 (c.toNat : Int) = true) : isDigitB (c.toNat : Int) = true := by
  have := (all10 (y := [c])).2 (fun x hx => by rw [List.mem_singleton.1 hx]; exact h)
  exact this c (by simp)
theorem not_dig {c : UInt8} (h : pB 10 (c.toNat : Int) = false) : isDigitB (c.toNat : Int) = false := by
  cases hd : isDigitB (c.toNat : Int) with
  | false => rfl
  | true =>
    have := (all10 (y := [c])).1 (fun x hx => by rw [List.mem_singleton.1 hx]; exact hd)
    have := this c (by simp)
    rw [h] at this; cases this
theorem first_app {d t : List UInt8} (hd : allP (pB 10) d) (hne : d ≠ []) : firstL (d ++ t) := by
  cases d with
  | nil => exact absurd rfl hne
  | cons c d => exact .inl (dig_first (hd c (by simp)))
theorem first_dot {e t : List UInt8} (he : allP (pB 10) e) (hne : e ≠ []) : firstL (46 :: (e ++ t)) := by
  cases e with
  | nil => exact absurd rfl hne
  | cons c d => exact .inr ⟨rfl, dig_first (he c (by simp))⟩
theorem mant_point {B : Int} (hB : isB B) {d e t : List UInt8} (hd : allP (pB B) d) (he : allP (pB B) e) (ht : mantGo B true t (horL B (d ++ e)) e.length = (horL B (d ++ e), e.length, t)) : mantGo B false (d ++ 46 :: (e ++ t)) 0 0 = (horL B (d ++ e), e.length, t) := by
  rw [mant_digs hB d _ hd, mantGo, if_pos rfl, mant_digs hB e _ he, horL_app]
  simpa using ht
theorem mant_expo {B : Int} (hB : isB B) {d t : List UInt8} (hd : allP (pB B) d) (ht : mantGo B false t (horL B (d ++ [])) 0 = (horL B (d ++ []), 0, t)) : mantGo B false (d ++ t) 0 0 = (horL B (d ++ []), 0, t) := by
  rw [mant_digs hB d _ hd]
  have := horL_app B d []
  simp only [List.map_nil, List.foldl_nil] at this
  rw [this]
  simpa using ht
theorem let10 {c : UInt8} (hc : (lts 10).contains c = true) (x : List UInt8) : c ≠ 46 ∧ pB 10 (c.toNat : Int) = false ∧ (byteAt (c :: x) 0 = 101 ∨ byteAt (c :: x) 0 = 69) := by
  simp [lts] at hc
  rcases hc with rfl | rfl
  · exact ⟨by decide, by decide, .inl rfl⟩
  · exact ⟨by decide, by decide, .inr rfl⟩
theorem let16 {c : UInt8} (hc : (lts 16).contains c = true) (x : List UInt8) : c ≠ 46 ∧ pB 16 (c.toNat : Int) = false ∧ (byteAt (c :: x) 0 = 112 ∨ byteAt (c :: x) 0 = 80) := by
  simp [lts] at hc
  rcases hc with rfl | rfl
  · exact ⟨by decide, by decide, .inl rfl⟩
  · exact ⟨by decide, by decide, .inr rfl⟩
theorem nolet {B : Int} {c : UInt8} (hc : (lts B).contains c = false) (x : List UInt8) : (B = 16 → ¬ (byteAt (c :: x) 0 = 112 ∨ byteAt (c :: x) 0 = 80)) ∧ (B ≠ 16 → ¬ (byteAt (c :: x) 0 = 101 ∨ byteAt (c :: x) 0 = 69)) := by
  rw [byteAt_cons0]
  constructor
  · rintro rfl h
    have hk : ∀ c : Fin 256, ((c.val : Int) = 112 ∨ (c.val : Int) = 80) → (lts 16).contains (UInt8.ofNat c.val) = true := by decide +kernel
    have := hk ⟨c.toNat, c.toNat_lt⟩ h
    simp only [UInt8.ofNat_toNat] at this
    rw [this] at hc; cases hc
  · intro hB h
    have hk : ∀ c : Fin 256, ((c.val : Int) = 101 ∨ (c.val : Int) = 69) → ([101, 69] : List UInt8).contains (UInt8.ofNat c.val) = true := by decide +kernel
    have := hk ⟨c.toNat, c.toNat_lt⟩ h
    simp only [UInt8.ofNat_toNat] at this
    unfold lts at hc
    rw [if_neg hB] at hc
    rw [this] at hc; cases hc
theorem stops_cons {p : Int → Bool} {c : UInt8} {x : List UInt8} (h : p (c.toNat : Int) = false) : stops p (c :: x) := fun y z e => by injection e with e1 e2; rw [← e1]; exact h
theorem stops46 {B : Int} (hB : isB B) (x : List UInt8) : stops (pB B) (46 :: x) := stops_cons (by
  rcases hB with rfl | rfl | rfl | rfl <;> decide)
theorem byte46 {c : UInt8} (h : ([46] : List UInt8).contains c = false) (x : List UInt8) : byteAt (c :: x) 0 ≠ 46 := by
  rw [byteAt_cons0]
  intro e
  have : c = 46 := UInt8.toNat_inj.1 (by simpa using (by omega : c.toNat = 46))
  subst this; simp at h
theorem roads10 (L : List UInt8) (hb : basedM L = decimalM L) : Same2 10 L L := by
  have hB : isB 10 := .inr (.inr (.inl rfl))
  have hlen0 : ∀ {l : List UInt8}, l.length = 0 ↔ l = [] := fun {l} => List.length_eq_zero_iff
  unfold Same2
  rw [acc2_iff]
  rcases shape_of 10 L with h | ⟨d, e, hd, he, rfl⟩ | ⟨d, e, x, c, hd, he, hc, rfl⟩ | ⟨d, x, c, hd, hc, rfl⟩ | ⟨d, x, c, hd, hc, h46, hp, rfl⟩ | ⟨d, e, x, c, hd, he, hc, hp, rfl⟩
  · obtain ⟨e1, e2⟩ := cuts_whole hB h
    have hn : spanL isDigitB L = L.length := by rw [span10]; simpa using span_app (t := []) h (stops_nil _)
    have hD := dec_nodot L L.length hn (by rw [byteAt_end L _ (Nat.le_refl _)]; decide)
    rw [byteAt_end L _ (Nat.le_refl _), if_neg (by decide)] at hD
    have hA : acc1 10 L ↔ (L ≠ [] ∧ ¬ (1 < L.length ∧ byteAt L 0 = 48)) := by
      unfold acc1
      rw [e1, e2, if_pos ⟨rfl, rfl⟩]
      unfold goodL leadL
      constructor
      · rintro ⟨⟨h1, _⟩, h2⟩; exact ⟨h1, fun h3 => h2 ⟨rfl, h3⟩⟩
      · rintro ⟨h1, h2⟩; exact ⟨⟨h1, hB, h⟩, fun h3 => h2 h3.2⟩
    refine ⟨?_, ?_⟩
    · rw [hA, hb, hD]
      constructor
      · rintro ⟨h1, h2⟩
        rw [if_neg h2]
        have := first_app (t := []) h h1
        rw [List.append_nil] at this
        exact ⟨h1, this, rfl⟩
      · rintro ⟨h1, _, h3⟩
        refine ⟨h1, fun h4 => ?_⟩
        rw [if_pos h4] at h3
        exact h1 (hlen0.1 h3.symm)
    · intro ha
      obtain ⟨h1, h2⟩ := hA.1 ha
      rw [if_neg h2] at hD
      left
      rw [e1, e2]
      refine ⟨rfl, rfl, rfl, ?_⟩
      rw [(num_len L h1).2 (by rw [hb, hD]), hb, hD]
  · obtain ⟨e1, e2⟩ := cuts_point hB hd he
    have hn : spanL isDigitB (d ++ 46 :: e) = d.length := by rw [span10]; exact span_app hd (stops46 hB e)
    have hm : spanL isDigitB ((d ++ 46 :: e).drop (d.length + 1)) = e.length := by rw [drop_app, span10]; simpa using span_app (t := []) he (stops_nil _)
    have hlen : (d ++ 46 :: e).length = d.length + 1 + e.length := by rw [List.length_append, List.length_cons]; omega
    have hD := dec_dot (d ++ 46 :: e) d.length e.length _ hn (by rw [byteAt_app0]; rfl) hm hlen
    rw [byteAt_end _ _ (Nat.le_refl _), if_neg (by decide)] at hD
    have hne : d ++ 46 :: e ≠ [] := by simp
    have hA : acc1 10 (d ++ 46 :: e) ↔ d ++ e ≠ [] := by
      unfold acc1
      rw [e1, e2, if_neg (by simp)]
      unfold goodL
      constructor
      · rintro ⟨_, ⟨h1, _⟩, _⟩; exact h1
      · intro h1; exact ⟨.inl rfl, ⟨h1, hB, allP_app hd he⟩, fun h => by cases h⟩
    refine ⟨?_, ?_⟩
    · rw [hA, hb, hD]
      constructor
      · intro h1
        refine ⟨hne, ?_, rfl⟩
        by_cases h2 : d = []
        · subst h2
          have := first_dot (t := []) he (by simpa using h1)
          rw [List.append_nil] at this
          exact this
        · exact first_app hd h2
      · rintro ⟨_, h2, _⟩ h3
        obtain ⟨rfl, rfl⟩ := List.append_eq_nil_iff.1 h3
        rcases h2 with h2 | ⟨_, h2⟩
        · exact absurd h2 (by decide)
        · exact absurd h2 (by decide)
    · intro ha
      right
      rw [e1, e2]
      refine ⟨by simp, ?_, [], ?_, .inl ⟨rfl, rfl⟩⟩
      · rw [(num_len _ hne).2 (by rw [hb, hD]), hb, hD]
      · have := mant_point hB (t := []) hd he rfl
        rw [List.append_nil] at this
        exact this
  · obtain ⟨e1, e2⟩ := cuts_both hB (x := x) hd he hc
    obtain ⟨hc46, hcp, hcb⟩ := let10 hc x
    have hn : spanL isDigitB (d ++ 46 :: (e ++ c :: x)) = d.length := by rw [span10]; exact span_app hd (stops46 hB _)
    have hm : spanL isDigitB ((d ++ 46 :: (e ++ c :: x)).drop (d.length + 1)) = e.length := by rw [drop_app, span10]; exact span_app he (stops_cons hcp)
    have hsp : d ++ 46 :: (e ++ c :: x) = (d ++ 46 :: e) ++ c :: x := by simp
    have hlen : (d ++ 46 :: e).length = d.length + 1 + e.length := by rw [List.length_append, List.length_cons]; omega
    have hD := dec_dot _ d.length e.length _ hn (by rw [byteAt_app0]; rfl) hm hlen
    rw [if_pos (by rw [hsp, byteAt_app0]; exact hcb)] at hD
    have hne : d ++ 46 :: (e ++ c :: x) ≠ [] := by simp
    have hX : expM (d ++ 46 :: (e ++ c :: x)) (d ++ 46 :: e).length = (d ++ 46 :: (e ++ c :: x)).length ↔ expL x := by rw [hsp]; exact exp_full _ c x
    have hA : acc1 10 (d ++ 46 :: (e ++ c :: x)) ↔ (d ++ e ≠ [] ∧ expL x) := by
      unfold acc1
      rw [e1, e2, if_neg (by simp), exp_same]
      unfold goodL
      constructor
      · rintro ⟨_, ⟨h1, _⟩, h2⟩; exact ⟨h1, h2 rfl⟩
      · rintro ⟨h1, h2⟩; exact ⟨.inl rfl, ⟨h1, hB, allP_app hd he⟩, fun _ => h2⟩
    refine ⟨?_, ?_⟩
    · rw [hA, hb, hD]
      show _ ↔ _ ∧ _ ∧ expM _ _ = _
      rw [hX]
      constructor
      · rintro ⟨h1, h3⟩
        refine ⟨hne, ?_, h3⟩
        by_cases h2 : d = []
        · subst h2
          exact first_dot he (by simpa using h1)
        · exact first_app hd h2
      · rintro ⟨_, h2, h4⟩
        refine ⟨fun h3 => ?_, h4⟩
        obtain ⟨rfl, rfl⟩ := List.append_eq_nil_iff.1 h3
        rcases h2 with h2 | ⟨_, h2⟩
        · exact absurd h2 (show ¬ isDigitB 46 = true by decide)
        · have : byteAt ([] ++ 46 :: ([] ++ c :: x)) 1 = (c.toNat : Int) := rfl
          rw [this, not_dig hcp] at h2
          cases h2
    · intro ha
      obtain ⟨h1, h2⟩ := hA.1 ha
      right
      rw [e1, e2]
      refine ⟨by simp, ?_, c :: x, mant_point hB hd he (mant_stop 10 c x true _ _ hc46 hcp), .inr ⟨rfl, c, rfl, h2⟩⟩
      rw [(num_len _ hne).2 (by rw [hb, hD]; exact hX.2 h2), hb, hD]
  · obtain ⟨e1, e2⟩ := cuts_expo hB (x := x) hd hc
    obtain ⟨hc46, hcp, hcb⟩ := let10 hc x
    have hn : spanL isDigitB (d ++ c :: x) = d.length := by rw [span10]; exact span_app hd (stops_cons hcp)
    have hD := dec_nodot _ d.length hn (by rw [byteAt_app0]; omega)
    rw [if_pos (by rw [byteAt_app0]; exact hcb)] at hD
    have hne : d ++ c :: x ≠ [] := by simp
    have hX := exp_full d c x
    have hA : acc1 10 (d ++ c :: x) ↔ (d ≠ [] ∧ expL x) := by
      unfold acc1
      rw [e1, e2, if_neg (by simp), exp_same]
      unfold goodL
      simp only [List.append_nil]
      constructor
      · rintro ⟨_, ⟨h1, _⟩, h2⟩; exact ⟨h1, h2 trivial⟩
      · rintro ⟨h1, h2⟩; exact ⟨.inl trivial, ⟨h1, hB, hd⟩, fun _ => h2⟩
    refine ⟨?_, ?_⟩
    · rw [hA, hb, hD]
      show _ ↔ _ ∧ _ ∧ expM _ _ = _
      rw [hX]
      constructor
      · rintro ⟨h1, h3⟩
        exact ⟨hne, first_app hd h1, h3⟩
      · rintro ⟨_, h2, h4⟩
        refine ⟨fun h3 => ?_, h4⟩
        subst h3
        rcases h2 with h2 | ⟨h2, _⟩
        · have : byteAt ([] ++ c :: x) 0 = (c.toNat : Int) := rfl
          rw [this, not_dig hcp] at h2
          cases h2
        · have : byteAt ([] ++ c :: x) 0 = byteAt (c :: x) 0 := rfl
          omega
    · intro ha
      obtain ⟨h1, h2⟩ := hA.1 ha
      right
      rw [e1, e2]
      refine ⟨by simp, ?_, c :: x, mant_expo hB hd (mant_stop 10 c x false _ _ hc46 hcp), .inr ⟨rfl, c, rfl, h2⟩⟩
      rw [(num_len _ hne).2 (by rw [hb, hD]; exact hX.2 h2), hb, hD]
  · have hno := cuts_bad hB (x := x) hd hc h46 hp
    have hn : spanL isDigitB (d ++ c :: x) = d.length := by rw [span10]; exact span_app hd (stops_cons hp)
    have hD := dec_nodot _ d.length hn (by rw [byteAt_app0]; exact byte46 h46 x)
    rw [if_neg (by rw [byteAt_app0]; exact (nolet hc x).2 (by decide))] at hD
    refine ⟨⟨fun h => absurd h hno, ?_⟩, fun h => absurd h hno⟩
    rintro ⟨_, _, h⟩
    rw [hb, hD] at h
    rw [List.length_append, List.length_cons] at h
    split at h
    · exact absurd h (by show ¬ 0 = _; omega)
    · exact absurd h (by show ¬ d.length = _; omega)
  · have hno := cuts_bad2 hB (x := x) hd he hc hp
    have hn : spanL isDigitB (d ++ 46 :: (e ++ c :: x)) = d.length := by rw [span10]; exact span_app hd (stops46 hB _)
    have hm : spanL isDigitB ((d ++ 46 :: (e ++ c :: x)).drop (d.length + 1)) = e.length := by rw [drop_app, span10]; exact span_app he (stops_cons hp)
    have hsp : d ++ 46 :: (e ++ c :: x) = (d ++ 46 :: e) ++ c :: x := by simp
    have hlen : (d ++ 46 :: e).length = d.length + 1 + e.length := by rw [List.length_append, List.length_cons]; omega
    have hD := dec_dot _ d.length e.length _ hn (by rw [byteAt_app0]; rfl) hm hlen
    rw [if_neg (by rw [hsp, byteAt_app0]; exact (nolet hc x).2 (by decide))] at hD
    refine ⟨⟨fun h => absurd h hno, ?_⟩, fun h => absurd h hno⟩
    rintro ⟨_, _, h⟩
    rw [hb, hD] at h
    have h' : (d ++ 46 :: e).length = (d ++ 46 :: (e ++ c :: x)).length := h
    rw [List.length_append, List.length_append, List.length_cons, List.length_cons, List.length_append, List.length_cons] at h'
    omega
theorem first48 (c : UInt8) (r : List UInt8) : firstL (48 :: c :: r) := .inl (show isDigitB 48 = true by decide)
theorem roads16 (c0 : UInt8) (r : List UInt8) (hb : basedM (48 :: c0 :: r) = hexM (48 :: c0 :: r)) : Same2 16 (48 :: c0 :: r) r := by
  have hB : isB 16 := .inr (.inr (.inr rfl))
  have hlen0 : ∀ {l : List UInt8}, l.length = 0 ↔ l = [] := fun {l} => List.length_eq_zero_iff
  have hne : 48 :: c0 :: r ≠ [] := by simp
  have hd2 : (48 :: c0 :: r).drop 2 = r := rfl
  have hat : ∀ k, byteAt (48 :: c0 :: r) (k + 2) = byteAt r k := fun k => rfl
  have hlen2 : (48 :: c0 :: r).length = r.length + 2 := rfl
  unfold Same2
  rw [acc2_iff]
  have hf := first48 c0 r
  rcases shape_of 16 r with h | ⟨d, e, hd, he, rfl⟩ | ⟨d, e, x, c, hd, he, hc, rfl⟩ | ⟨d, x, c, hd, hc, rfl⟩ | ⟨d, x, c, hd, hc, h46, hp, rfl⟩ | ⟨d, e, x, c, hd, he, hc, hp, rfl⟩
  · obtain ⟨e1, e2⟩ := cuts_whole hB h
    have hn : spanL isHexB r = r.length := by rw [span16]; simpa using span_app (t := []) h (stops_nil _)
    have hD := hex_nodot (48 :: c0 :: r) r.length _ hn (by rw [hd2, byteAt_end r _ (Nat.le_refl _)]; decide) rfl
    rw [hat, byteAt_end r _ (Nat.le_refl _), if_neg (show ¬ ((-1 : Int) = 112 ∨ (-1 : Int) = 80) by decide)] at hD
    have hA : acc1 16 r ↔ r ≠ [] := by
      unfold acc1
      rw [e1, e2, if_pos ⟨rfl, rfl⟩]
      unfold goodL leadL
      constructor
      · rintro ⟨⟨h1, _⟩, h2⟩; exact h1
      · intro h1; exact ⟨⟨h1, hB, h⟩, fun h3 => absurd h3.1 (by decide)⟩
    refine ⟨?_, ?_⟩
    · rw [hA, hb, hD]
      constructor
      · intro h1
        rw [if_neg (fun h => h1 (hlen0.1 h))]
        exact ⟨hne, hf, rfl⟩
      · rintro ⟨_, _, h3⟩ h4
        rw [if_pos (hlen0.2 h4)] at h3
        exact absurd h3 (by show ¬ 0 = _ ; rw [hlen2]; omega)
    · intro ha
      have h1 := hA.1 ha
      rw [if_neg (fun h => h1 (hlen0.1 h))] at hD
      left
      rw [e1, e2]
      refine ⟨rfl, rfl, rfl, ?_⟩
      rw [(num_len _ hne).2 (by rw [hb, hD]; rfl), hb, hD]
  · obtain ⟨e1, e2⟩ := cuts_point hB hd he
    have hn : spanL isHexB (d ++ 46 :: e) = d.length := by rw [span16]; exact span_app hd (stops46 hB e)
    have hm : spanL isHexB ((d ++ 46 :: e).drop (d.length + 1)) = e.length := by rw [drop_app, span16]; simpa using span_app (t := []) he (stops_nil _)
    have hlen : (d ++ 46 :: e).length = d.length + 1 + e.length := by rw [List.length_append, List.length_cons]; omega
    have hD := hex_dot (48 :: c0 :: (d ++ 46 :: e)) d.length e.length _ hn (by rw [hd2, byteAt_app0]; rfl) hm rfl
    rw [← hlen, hat, byteAt_end _ _ (Nat.le_refl _), if_neg (show ¬ ((-1 : Int) = 112 ∨ (-1 : Int) = 80) by decide)] at hD
    have hno : ¬ acc1 16 (d ++ 46 :: e) := by
      unfold acc1
      rw [e1, e2, if_neg (by simp)]
      rintro ⟨h | h, _⟩
      · exact absurd h (by decide)
      · exact absurd h.2 (by simp)
    refine ⟨⟨fun h => absurd h hno, ?_⟩, fun h => absurd h hno⟩
    rintro ⟨_, _, h⟩
    rw [hb, hD, hlen2] at h
    split at h
    · exact absurd h (by show ¬ 0 = _; omega)
    · exact absurd h (by show ¬ 0 = _; omega)
  · obtain ⟨e1, e2⟩ := cuts_both hB (x := x) hd he hc
    obtain ⟨hc46, hcp, hcb⟩ := let16 hc x
    have hn : spanL isHexB (d ++ 46 :: (e ++ c :: x)) = d.length := by rw [span16]; exact span_app hd (stops46 hB _)
    have hm : spanL isHexB ((d ++ 46 :: (e ++ c :: x)).drop (d.length + 1)) = e.length := by rw [drop_app, span16]; exact span_app he (stops_cons hcp)
    have hsp : d ++ 46 :: (e ++ c :: x) = (d ++ 46 :: e) ++ c :: x := by simp
    have hlen : (d ++ 46 :: e).length = d.length + 1 + e.length := by rw [List.length_append, List.length_cons]; omega
    have hD := hex_dot (48 :: c0 :: (d ++ 46 :: (e ++ c :: x))) d.length e.length _ hn (by rw [hd2, byteAt_app0]; rfl) hm rfl
    rw [← hlen, hat, if_pos (show byteAt (d ++ 46 :: (e ++ c :: x)) (d ++ 46 :: e).length = 112 ∨ byteAt (d ++ 46 :: (e ++ c :: x)) (d ++ 46 :: e).length = 80 by rw [hsp, byteAt_app0]; exact hcb)] at hD
    have hX : expM (48 :: c0 :: (d ++ 46 :: (e ++ c :: x))) ((d ++ 46 :: e).length + 2) = (48 :: c0 :: (d ++ 46 :: (e ++ c :: x))).length ↔ expL x := by
      have := exp_full (48 :: c0 :: (d ++ 46 :: e)) c x
      rw [hsp]; exact this
    have hA : acc1 16 (d ++ 46 :: (e ++ c :: x)) ↔ (d ++ e ≠ [] ∧ expL x) := by
      unfold acc1
      rw [e1, e2, if_neg (by simp), exp_same]
      unfold goodL
      constructor
      · rintro ⟨_, ⟨h1, _⟩, h2⟩; exact ⟨h1, h2 rfl⟩
      · rintro ⟨h1, h2⟩; exact ⟨.inr ⟨rfl, rfl⟩, ⟨h1, hB, allP_app hd he⟩, fun _ => h2⟩
    have hz : d.length + e.length = 0 ↔ d ++ e = [] := by rw [← List.length_append]; exact hlen0
    refine ⟨?_, ?_⟩
    · rw [hA, hb, hD]
      constructor
      · rintro ⟨h1, h3⟩
        rw [if_neg (fun h => h1 (hz.1 h))]
        exact ⟨hne, hf, hX.2 h3⟩
      · rintro ⟨_, _, h4⟩
        by_cases h1 : d ++ e = []
        · rw [if_pos (hz.2 h1)] at h4
          exact absurd h4 (by show ¬ 0 = _; rw [hlen2]; omega)
        · rw [if_neg (fun h => h1 (hz.1 h))] at h4
          exact ⟨h1, hX.1 h4⟩
    · intro ha
      obtain ⟨h1, h2⟩ := hA.1 ha
      rw [if_neg (fun h => h1 (hz.1 h))] at hD
      right
      rw [e1, e2]
      refine ⟨by simp, ?_, c :: x, mant_point hB hd he (mant_stop 16 c x true _ _ hc46 hcp), .inr ⟨rfl, c, rfl, h2⟩⟩
      rw [(num_len _ hne).2 (by rw [hb, hD]; exact hX.2 h2), hb, hD]
  · obtain ⟨e1, e2⟩ := cuts_expo hB (x := x) hd hc
    obtain ⟨hc46, hcp, hcb⟩ := let16 hc x
    have hn : spanL isHexB (d ++ c :: x) = d.length := by rw [span16]; exact span_app hd (stops_cons hcp)
    have hD := hex_nodot (48 :: c0 :: (d ++ c :: x)) d.length _ hn (by rw [hd2, byteAt_app0]; omega) rfl
    rw [hat, if_pos (show byteAt (d ++ c :: x) d.length = 112 ∨ byteAt (d ++ c :: x) d.length = 80 by rw [byteAt_app0]; exact hcb)] at hD
    have hX : expM (48 :: c0 :: (d ++ c :: x)) (d.length + 2) = (48 :: c0 :: (d ++ c :: x)).length ↔ expL x := exp_full (48 :: c0 :: d) c x
    have hA : acc1 16 (d ++ c :: x) ↔ (d ≠ [] ∧ expL x) := by
      unfold acc1
      rw [e1, e2, if_neg (by simp), exp_same]
      unfold goodL
      simp only [List.append_nil]
      constructor
      · rintro ⟨_, ⟨h1, _⟩, h2⟩; exact ⟨h1, h2 trivial⟩
      · rintro ⟨h1, h2⟩; exact ⟨.inr ⟨trivial, trivial⟩, ⟨h1, hB, hd⟩, fun _ => h2⟩
    refine ⟨?_, ?_⟩
    · rw [hA, hb, hD]
      constructor
      · rintro ⟨h1, h3⟩
        rw [if_neg (fun h => h1 (hlen0.1 h))]
        exact ⟨hne, hf, hX.2 h3⟩
      · rintro ⟨_, _, h4⟩
        by_cases h1 : d = []
        · rw [if_pos (hlen0.2 h1)] at h4
          exact absurd h4 (by show ¬ 0 = _; rw [hlen2]; omega)
        · rw [if_neg (fun h => h1 (hlen0.1 h))] at h4
          exact ⟨h1, hX.1 h4⟩
    · intro ha
      obtain ⟨h1, h2⟩ := hA.1 ha
      rw [if_neg (fun h => h1 (hlen0.1 h))] at hD
      right
      rw [e1, e2]
      refine ⟨by simp, ?_, c :: x, mant_expo hB hd (mant_stop 16 c x false _ _ hc46 hcp), .inr ⟨rfl, c, rfl, h2⟩⟩
      rw [(num_len _ hne).2 (by rw [hb, hD]; exact hX.2 h2), hb, hD]
  · have hno := cuts_bad hB (x := x) hd hc h46 hp
    have hn : spanL isHexB (d ++ c :: x) = d.length := by rw [span16]; exact span_app hd (stops_cons hp)
    have hD := hex_nodot (48 :: c0 :: (d ++ c :: x)) d.length _ hn (by rw [hd2, byteAt_app0]; exact byte46 h46 x) rfl
    rw [hat, if_neg (show ¬ (byteAt (d ++ c :: x) d.length = 112 ∨ byteAt (d ++ c :: x) d.length = 80) by rw [byteAt_app0]; exact (nolet hc x).1 rfl)] at hD
    refine ⟨⟨fun h => absurd h hno, ?_⟩, fun h => absurd h hno⟩
    rintro ⟨_, _, h⟩
    rw [hb, hD, hlen2, List.length_append, List.length_cons] at h
    split at h
    · exact absurd h (by show ¬ 0 = _; omega)
    · exact absurd h (by show ¬ d.length + 2 = _; omega)
  · have hno := cuts_bad2 hB (x := x) hd he hc hp
    have hn : spanL isHexB (d ++ 46 :: (e ++ c :: x)) = d.length := by rw [span16]; exact span_app hd (stops46 hB _)
    have hm : spanL isHexB ((d ++ 46 :: (e ++ c :: x)).drop (d.length + 1)) = e.length := by rw [drop_app, span16]; exact span_app he (stops_cons hp)
    have hsp : d ++ 46 :: (e ++ c :: x) = (d ++ 46 :: e) ++ c :: x := by simp
    have hlen : (d ++ 46 :: e).length = d.length + 1 + e.length := by rw [List.length_append, List.length_cons]; omega
    have hD := hex_dot (48 :: c0 :: (d ++ 46 :: (e ++ c :: x))) d.length e.length _ hn (by rw [hd2, byteAt_app0]; rfl) hm rfl
    rw [← hlen, hat, if_neg (show ¬ (byteAt (d ++ 46 :: (e ++ c :: x)) (d ++ 46 :: e).length = 112 ∨ byteAt (d ++ 46 :: (e ++ c :: x)) (d ++ 46 :: e).length = 80) by rw [hsp, byteAt_app0]; exact (nolet hc x).1 rfl)] at hD
    refine ⟨⟨fun h => absurd h hno, ?_⟩, fun h => absurd h hno⟩
    rintro ⟨_, _, h⟩
    rw [hb, hD, hlen2] at h
    split at h
    · exact absurd h (by show ¬ 0 = _; omega)
    · exact absurd h (by show ¬ 0 = _; omega)
theorem roadsW (B : Int) (hB : isB B) (h10 : B ≠ 10) (h16 : B ≠ 16) (p : Int → Bool) (hp : ∀ l, spanL p l = spanL (pB B) l) (c0 : UInt8) (r : List UInt8) (hb : basedM (48 :: c0 :: r) = (2, wholeM p (48 :: c0 :: r))) : Same2 B (48 :: c0 :: r) r := by
  have hlen0 : ∀ {l : List UInt8}, l.length = 0 ↔ l = [] := fun {l} => List.length_eq_zero_iff
  have hne : 48 :: c0 :: r ≠ [] := by simp
  have hlen2 : (48 :: c0 :: r).length = r.length + 2 := rfl
  have hf := first48 c0 r
  have hW : wholeM p (48 :: c0 :: r) = if spanL (pB B) r = 0 then 0 else 2 + spanL (pB B) r := by
    unfold wholeM
    rw [hp]; rfl
  have hnoF : ¬ (B = 10 ∨ (B = 16 ∧ (eCut B r).2.2 = true)) := by
    rintro (h | h)
    · exact h10 h
    · exact h16 h.1
  have hrej : ∀ d c x, r = d ++ c :: x → allP (pB B) d → pB B (c.toNat : Int) = false → (basedM (48 :: c0 :: r)).2 ≠ (48 :: c0 :: r).length := by
    rintro d c x rfl hd hc
    rw [hb, hlen2, List.length_append, List.length_cons]
    show wholeM p _ ≠ _
    rw [hW, span_app hd (stops_cons hc)]
    split <;> omega
  have hlt : ∀ c, (lts B).contains c = true → pB B (c.toNat : Int) = false := by
    intro c hc
    cases h : pB B (c.toNat : Int) with
    | false => rfl
    | true => rw [(dig_no hB c h).1] at hc; cases hc
  unfold Same2
  rw [acc2_iff]
  rcases shape_of B r with h | ⟨d, e, hd, he, hr⟩ | ⟨d, e, x, c, hd, he, hc, hr⟩ | ⟨d, x, c, hd, hc, hr⟩ | ⟨d, x, c, hd, hc, h46, hcp, hr⟩ | ⟨d, e, x, c, hd, he, hc, hcp, hr⟩
  · obtain ⟨e1, e2⟩ := cuts_whole hB h
    have hn : spanL (pB B) r = r.length := by simpa using span_app (t := []) h (stops_nil _)
    rw [hn] at hW
    have hA : acc1 B r ↔ r ≠ [] := by
      unfold acc1
      rw [e1, e2, if_pos ⟨rfl, rfl⟩]
      unfold goodL leadL
      constructor
      · rintro ⟨⟨h1, _⟩, h2⟩; exact h1
      · intro h1; exact ⟨⟨h1, hB, h⟩, fun h3 => h10 h3.1⟩
    refine ⟨?_, ?_⟩
    · rw [hA, hb, hW]
      constructor
      · intro h1
        rw [if_neg (fun h => h1 (hlen0.1 h))]
        exact ⟨hne, hf, by show 2 + _ = _; rw [hlen2]; omega⟩
      · rintro ⟨_, _, h3⟩ h4
        rw [if_pos (hlen0.2 h4)] at h3
        exact absurd h3 (by show ¬ 0 = _ ; rw [hlen2]; omega)
    · intro ha
      have h1 := hA.1 ha
      rw [if_neg (fun h => h1 (hlen0.1 h))] at hW
      left
      rw [e1, e2]
      refine ⟨rfl, rfl, rfl, ?_⟩
      rw [(num_len _ hne).2 (by rw [hb, hW, hlen2]; show 2 + _ = _; omega), hb]
  · have hno : ¬ acc1 B r := by
      obtain ⟨e1, e2⟩ := cuts_point hB hd he
      unfold acc1
      rw [if_neg (by rw [hr, e1, e2]; simp)]
      exact fun h => hnoF h.1
    exact ⟨⟨fun h => absurd h hno, fun h => absurd h.2.2 (hrej d 46 e hr hd (stops46 hB e 46 e rfl))⟩, fun h => absurd h hno⟩
  · have hno : ¬ acc1 B r := by
      obtain ⟨e1, e2⟩ := cuts_both hB (x := x) hd he hc
      unfold acc1
      rw [if_neg (by rw [hr, e1, e2]; simp)]
      exact fun h => hnoF h.1
    exact ⟨⟨fun h => absurd h hno, fun h => absurd h.2.2 (hrej d 46 _ hr hd (stops46 hB e 46 e rfl))⟩, fun h => absurd h hno⟩
  · have hno : ¬ acc1 B r := by
      obtain ⟨e1, e2⟩ := cuts_expo hB (x := x) hd hc
      unfold acc1
      rw [if_neg (by rw [hr, e1, e2]; simp)]
      exact fun h => hnoF h.1
    exact ⟨⟨fun h => absurd h hno, fun h => absurd h.2.2 (hrej d c x hr hd (hlt c hc))⟩, fun h => absurd h hno⟩
  · have hno := cuts_bad hB (x := x) hd hc h46 hcp
    rw [← hr] at hno
    exact ⟨⟨fun h => absurd h hno, fun h => absurd h.2.2 (hrej d c x hr hd hcp)⟩, fun h => absurd h hno⟩
  · have hno := cuts_bad2 hB (x := x) hd he hc hcp
    rw [← hr] at hno
    exact ⟨⟨fun h => absurd h hno, fun h => absurd h.2.2 (hrej d 46 _ hr hd (stops46 hB e 46 e rfl))⟩, fun h => absurd h hno⟩
theorem byteAt_in (L : List UInt8) (n : Nat) (h : 0 ≤ byteAt L n) : n < L.length := by
  by_cases hc : n < L.length
  · exact hc
  · rw [byteAt_end L n (by omega)] at h
    omega
theorem spanL_drop (p : Int → Bool) (L : List UInt8) (k : Nat) (h : k ≤ L.length) : k + spanL p (L.drop k) ≤ L.length := by
  have := spanL_le p (L.drop k)
  rw [List.length_drop] at this
  omega
theorem digitsM_le (p : Int → Bool) (L : List UInt8) : (digitsM p L).1 ≤ L.length := by
  unfold digitsM
  have h1 := spanL_le p L
  split
  · rename_i h
    have h2 := byteAt_in L _ (by rw [h]; decide)
    exact spanL_drop p L (spanL p L + 1) (by omega)
  · exact h1
theorem expM_le (L : List UInt8) (n : Nat) (hn : n < L.length) : expM L n ≤ L.length := by
  unfold expM
  have h1 : expAt L n ≤ L.length := by
    unfold expAt
    split
    · rename_i h
      have := byteAt_in L (n + 1) (by omega)
      omega
    · omega
  have h2 := spanL_drop isDigitB L (expAt L n) h1
  split
  · exact Nat.zero_le _
  · exact h2
theorem decimalM_le (L : List UInt8) : (decimalM L).2 ≤ L.length := by
  have h1 := digitsM_le isDigitB L
  unfold decimalM
  split
  · rename_i h
    exact expM_le L _ (byteAt_in L _ (by omega))
  · split
    · exact h1
    · split
      · exact Nat.zero_le _
      · exact h1
theorem hexM_le (L : List UInt8) (h0 : 2 ≤ L.length) : (hexM L).2 ≤ L.length := by
  have h1 := digitsM_le isHexB (L.drop 2)
  rw [List.length_drop] at h1
  unfold hexM
  split
  · exact Nat.zero_le _
  · split
    · rename_i h
      exact expM_le L _ (byteAt_in L _ (by omega))
    · split
      · exact Nat.zero_le _
      · show _ + 2 ≤ _
        omega
theorem wholeM_le (p : Int → Bool) (L : List UInt8) (h0 : 2 ≤ L.length) : wholeM p L ≤ L.length := by
  have := spanL_drop p L 2 h0
  unfold wholeM
  split
  · exact Nat.zero_le _
  · exact this
theorem basedM_le (L : List UInt8) : (basedM L).2 ≤ L.length := by
  unfold basedM
  split
  · exact decimalM_le L
  · split
    · exact hexM_le L (by omega)
    · split
      · exact wholeM_le _ L (by omega)
      · split
        · exact wholeM_le _ L (by omega)
        · exact decimalM_le L
end Nn
end Go.Proofs.YthiiglhecajhbaaGreat
