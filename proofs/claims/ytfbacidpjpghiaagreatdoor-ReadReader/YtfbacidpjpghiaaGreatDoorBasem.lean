/- Plain mathematics of numbers written as rows of digits to a base B, the lowest first: their values, and when two rows are one. Nothing of any program is here. -/
import Derived.WalkKit
import Derived.Below
import Derived.Deep.OwnRows
namespace Go.Proofs.YtfbacidpjpghiaaGreatDoor

def val (B : Int) : List Int → Int
  | [] => 0
  | d :: ds => d + B * val B ds
def Words (B : Int) (zs : List Int) : Prop := ∀ d, d ∈ zs → 0 ≤ d ∧ d < B

theorem val_nil (B : Int) : val B [] = 0 := rfl
theorem val_cons (B d : Int) (ds : List Int) : val B (d :: ds) = d + B * val B ds := rfl

theorem Words.nil (B : Int) : Words B [] := by intro d hd; cases hd
theorem Words.tail {B d : Int} {ds : List Int} (h : Words B (d :: ds)) : Words B ds := fun e he => h e (List.mem_cons_of_mem _ he)
theorem Words.head {B d : Int} {ds : List Int} (h : Words B (d :: ds)) : 0 ≤ d ∧ d < B := h d (by simp)
theorem Words.cons {B d : Int} {ds : List Int} (h : 0 ≤ d ∧ d < B) (k : Words B ds) : Words B (d :: ds) := by
  intro e he
  rcases List.mem_cons.1 he with rfl | he
  · exact h
  · exact k e he
theorem Words.at {B : Int} {zs : List Int} (h : Words B zs) (hB : 0 < B) (i : Nat) : 0 ≤ zs[i]?.getD 0 ∧ zs[i]?.getD 0 < B := by
  by_cases hi : i < zs.length
  · rw [List.getElem?_eq_getElem hi]; exact h _ (List.getElem_mem hi)
  · rw [List.getElem?_eq_none (by omega)]; simp; omega
theorem Words.get {B : Int} {zs : List Int} (h : Words B zs) (hB : 0 < B) (i : Nat) : ∃ p, zs[i]?.getD 0 = p ∧ 0 ≤ p ∧ p < B := ⟨_, rfl, h.at hB i⟩
theorem Words.take {B : Int} {zs : List Int} (h : Words B zs) (n : Nat) : Words B (zs.take n) := fun d hd => h d (List.mem_of_mem_take hd)
theorem Words.drop {B : Int} {zs : List Int} (h : Words B zs) (n : Nat) : Words B (zs.drop n) := fun d hd => h d (List.mem_of_mem_drop hd)
theorem Words.set {B : Int} {zs : List Int} (h : Words B zs) (i : Nat) {x : Int} (hx : 0 ≤ x ∧ x < B) : Words B (zs.set i x) := by
  intro d hd
  rcases List.mem_or_eq_of_mem_set hd with hd | rfl
  · exact h d hd
  · exact hx
theorem Words.append {B : Int} {xs ys : List Int} (h : Words B xs) (k : Words B ys) : Words B (xs ++ ys) := by
  intro d hd
  rcases List.mem_append.1 hd with hd | hd
  · exact h d hd
  · exact k d hd
theorem Words.zeros {B : Int} (hB : 0 < B) (n : Nat) : Words B (List.replicate n 0) := by
  intro d hd
  obtain ⟨_, rfl⟩ := List.mem_replicate.1 hd
  omega
theorem Words.one {B d : Int} (h : 0 ≤ d ∧ d < B) : Words B [d] := Words.cons h (Words.nil B)

theorem val_append (B : Int) (xs ys : List Int) : val B (xs ++ ys) = val B xs + B ^ xs.length * val B ys := by
  induction xs with
  | nil => simp [val]
  | cons d ds ih => simp only [List.cons_append, val_cons, ih, List.length_cons, Int.mul_add, Int.pow_succ]; rw [Int.mul_comm (B ^ ds.length) B, Int.mul_assoc]; omega
theorem val_zeros (B : Int) (n : Nat) : val B (List.replicate n 0) = 0 := by
  induction n with
  | zero => rfl
  | succ n ih => simp [List.replicate_succ, val_cons, ih]
theorem val_take_succ (B : Int) (zs : List Int) (k : Nat) : val B (zs.take (k + 1)) = val B (zs.take k) + zs[k]?.getD 0 * B ^ k := by
  by_cases h : k < zs.length
  case neg => rw [List.take_of_length_le (by omega), List.take_of_length_le (by omega), List.getElem?_eq_none (by omega)]; simp
  rw [List.take_succ_eq_append_getElem h, val_append, List.getElem?_eq_getElem h]
  simp [val, List.length_take, Nat.min_eq_left (Nat.le_of_lt h), Int.mul_comm]
theorem val_drop (B : Int) (zs : List Int) (k : Nat) : val B (zs.drop k) = zs[k]?.getD 0 + B * val B (zs.drop (k + 1)) := by
  by_cases h : k < zs.length
  case neg => rw [List.drop_eq_nil_of_le (by omega), List.drop_eq_nil_of_le (by omega), List.getElem?_eq_none (by omega)]; simp [val]
  rw [List.drop_eq_getElem_cons h, val_cons, List.getElem?_eq_getElem h]; rfl
theorem val_set_take (B : Int) (zs : List Int) (k : Nat) (x : Int) (h : k < zs.length) : val B ((zs.set k x).take (k + 1)) = val B (zs.take k) + x * B ^ k := by
  rw [val_take_succ B _ _, List.take_set_of_le (Nat.le_refl _)]
  simp [h]
theorem val_set_drop (B : Int) (zs : List Int) (k : Nat) (x : Int) (h : k < zs.length) : val B ((zs.set k x).drop k) = x + B * val B (zs.drop (k + 1)) := by
  rw [val_drop B _ _, List.drop_set_of_lt (Nat.lt_succ_self _)]
  simp [h]
theorem val_nonneg {B : Int} (hB : 0 < B) {zs : List Int} (h : Words B zs) : 0 ≤ val B zs := by
  induction zs with
  | nil => simp [val]
  | cons d ds ih => have := h.head; have := Int.mul_nonneg (Int.le_of_lt hB) (ih h.tail); simp only [val_cons]; omega
theorem val_lt {B : Int} (hB : 0 < B) {zs : List Int} (h : Words B zs) : val B zs < B ^ zs.length := by
  induction zs with
  | nil => simp [val]
  | cons d ds ih =>
    have h1 := h.head
    have h2 := ih h.tail
    have h3 : B * (val B ds + 1) ≤ B * B ^ ds.length := Int.mul_le_mul_of_nonneg_left (by omega) (by omega)
    simp only [val_cons, List.length_cons, Int.pow_succ]
    rw [Int.mul_comm (B ^ ds.length) B]
    rw [Int.mul_add] at h3
    omega
theorem pow_pos' {B : Int} (hB : 0 < B) (n : Nat) : 0 < B ^ n := Int.pow_pos hB
theorem pow_mono {B : Int} (hB : 1 < B) {m n : Nat} (h : m ≤ n) : B ^ m ≤ B ^ n := by
  obtain ⟨k, rfl⟩ := Nat.exists_eq_add_of_le h
  rw [Int.pow_add]
  have h1 := pow_pos' (B := B) (by omega) m
  have h2 := pow_pos' (B := B) (by omega) k
  have h3 : B ^ m * 1 ≤ B ^ m * B ^ k := Int.mul_le_mul_of_nonneg_left (by omega) (by omega)
  omega

/-- No nought at the end. -/
def nrm : List Int → Prop
  | [] => True
  | d :: ds => (ds = [] → d ≠ 0) ∧ nrm ds
theorem nrm_tail {d : Int} {ds : List Int} (h : nrm (d :: ds)) : nrm ds := h.2
theorem nrm_pos {B : Int} (hB : 1 < B) {zs : List Int} (h : Words B zs) (hn : nrm zs) (hne : zs ≠ []) : B ^ (zs.length - 1) ≤ val B zs := by
  induction zs with
  | nil => exact absurd rfl hne
  | cons d ds ih =>
    have hd := h.head
    by_cases he : ds = []
    · subst he
      have := hn.1 rfl
      simp [val]; omega
    · have h2 := ih h.tail hn.2 he
      have hl : 0 < ds.length := by cases ds with | nil => exact absurd rfl he | cons _ _ => simp
      have h3 : B * B ^ (ds.length - 1) ≤ B * val B ds := Int.mul_le_mul_of_nonneg_left h2 (by omega)
      have h4 : B ^ ds.length = B * B ^ (ds.length - 1) := by
        conv => lhs; rw [show ds.length = (ds.length - 1) + 1 from by omega]
        rw [Int.pow_succ, Int.mul_comm]
      simp only [val_cons, List.length_cons, Nat.add_sub_cancel]
      omega
theorem nrm_val_pos {B : Int} (hB : 1 < B) {zs : List Int} (h : Words B zs) (hn : nrm zs) (hne : zs ≠ []) : 0 < val B zs := by
  have h1 := nrm_pos hB h hn hne
  have := pow_pos' (B := B) (by omega) (zs.length - 1)
  omega
theorem split_unique {B d e u v : Int} (hB : 0 < B) (hd : 0 ≤ d ∧ d < B) (he : 0 ≤ e ∧ e < B) (h : d + B * u = e + B * v) : d = e ∧ u = v := by
  have h1 : (d + B * u) % B = d := by rw [Int.add_mul_emod_self_left]; exact Int.emod_eq_of_lt hd.1 hd.2
  have h2 : (e + B * v) % B = e := by rw [Int.add_mul_emod_self_left]; exact Int.emod_eq_of_lt he.1 he.2
  have h3 : d = e := by rw [← h1, ← h2, h]
  refine ⟨h3, ?_⟩
  have h4 : B * u = B * v := by omega
  exact Int.eq_of_mul_eq_mul_left (by omega) h4
theorem nrm_unique {B : Int} (hB : 1 < B) {xs ys : List Int} (hx : Words B xs) (hy : Words B ys) (nx : nrm xs) (ny : nrm ys) (h : val B xs = val B ys) : xs = ys := by
  induction xs generalizing ys with
  | nil =>
    by_cases he : ys = []
    · exact he.symm
    · have := nrm_val_pos hB hy ny he
      simp [val] at h; omega
  | cons d ds ih =>
    cases ys with
    | nil => have := nrm_val_pos hB hx nx (by simp); simp [val] at h; simp [val] at this; omega
    | cons e es =>
      obtain ⟨h1, h2⟩ := split_unique (by omega) hx.head hy.head (by simpa [val] using h)
      rw [h1, ih hx.tail hy.tail nx.2 ny.2 h2]
theorem nrm_len {B : Int} (hB : 1 < B) {zs : List Int} {n : Nat} (h : Words B zs) (hn : nrm zs) (hv : val B zs < B ^ n) : zs.length ≤ n := by
  by_cases he : zs = []
  · subst he; simp
  · have h1 := nrm_pos hB h hn he
    by_cases hc : zs.length ≤ n
    · exact hc
    · have := pow_mono hB (m := n) (n := zs.length - 1) (by omega)
      omega
/-- Where a row ends if the noughts at its end are left away. -/
def trimN (zs : List Int) : Nat → Nat
  | 0 => 0
  | n + 1 => if zs[n]?.getD 0 = 0 then trimN zs n else n + 1
theorem trimN_le (zs : List Int) (n : Nat) : trimN zs n ≤ n := by
  induction n with
  | zero => simp [trimN]
  | succ n ih => simp only [trimN]; split <;> omega
theorem nrm_snoc (xs : List Int) (d : Int) (h : d ≠ 0) : nrm (xs ++ [d]) := by
  induction xs with
  | nil => exact ⟨fun _ => h, trivial⟩
  | cons e es ih => exact ⟨fun he => by simp at he, ih⟩
theorem trimN_nrm (zs : List Int) (n : Nat) (hn : n ≤ zs.length) : nrm (zs.take (trimN zs n)) := by
  induction n with
  | zero => simp [trimN, nrm]
  | succ n ih =>
    simp only [trimN]
    split
    · exact ih (by omega)
    · rename_i h
      rw [List.take_succ_eq_append_getElem (by omega)]
      refine nrm_snoc _ _ ?_
      rw [List.getElem?_eq_getElem (by omega)] at h
      simpa using h
theorem trimN_val (B : Int) (zs : List Int) (n : Nat) (hn : n ≤ zs.length) : val B (zs.take (trimN zs n)) = val B (zs.take n) := by
  induction n with
  | zero => simp [trimN]
  | succ n ih =>
    simp only [trimN]
    split
    · rename_i h
      rw [ih (by omega), val_take_succ B zs n, h]; simp
    · rfl
/-- A row without the noughts at its end. -/
def trimmed (zs : List Int) : List Int := zs.take (trimN zs zs.length)
theorem trimmed_nrm (zs : List Int) : nrm (trimmed zs) := trimN_nrm zs _ (Nat.le_refl _)
theorem trimmed_val (B : Int) (zs : List Int) : val B (trimmed zs) = val B zs := by
  unfold trimmed; rw [trimN_val B zs _ (Nat.le_refl _), List.take_length]
theorem trimmed_len (zs : List Int) : (trimmed zs).length = trimN zs zs.length := by
  unfold trimmed; rw [List.length_take]; have := trimN_le zs zs.length; omega
theorem trimmed_le (zs : List Int) : (trimmed zs).length ≤ zs.length := by rw [trimmed_len]; exact trimN_le _ _
theorem Words.trimmed {B : Int} {zs : List Int} (h : Words B zs) : Words B (trimmed zs) := h.take _
theorem trimmed_at (zs : List Int) (i : Nat) (h : i < (trimmed zs).length) : (trimmed zs)[i]?.getD 0 = zs[i]?.getD 0 := by
  rw [trimmed_len] at h
  unfold YtfbacidpjpghiaaGreatDoor.trimmed
  rw [List.getElem?_take_of_lt h]
theorem trimmed_of_nrm (zs : List Int) (h : nrm zs) : trimmed zs = zs := by
  have key : ∀ zs : List Int, nrm zs → trimN zs zs.length = zs.length := by
    intro zs h
    rcases List.eq_nil_or_concat zs with rfl | ⟨ys, d, rfl⟩
    · rfl
    · have hd : d ≠ 0 := by
        have hh : nrm (ys ++ [d]) := by simpa using h
        clear h
        induction ys with
        | nil => exact hh.1 rfl
        | cons e es ih => exact ih hh.2
      simp [trimN, hd]
  unfold trimmed; rw [key zs h, List.take_length]
/-- One step of a sum. -/
theorem add_step {B : Int} (_hB : 0 < B) {xs ys ss : List Int} {k : Nat} {c p q : Int} (hs : k < ss.length) (hx : xs[k]?.getD 0 = p) (hy : ys[k]?.getD 0 = q)
    (h : val B (ss.take k) + c * B ^ k = val B (xs.take k) + val B (ys.take k)) :
    val B ((ss.set k ((p + q + c) % B)).take (k + 1)) + ((p + q + c) / B) * B ^ (k + 1) = val B (xs.take (k + 1)) + val B (ys.take (k + 1)) := by
  rw [val_set_take B ss k _ hs, val_take_succ B xs, val_take_succ B ys, hx, hy, Int.pow_succ]
  have h1 := Int.emod_add_mul_ediv (p + q + c) B
  have h2 : ((p + q + c) % B + B * ((p + q + c) / B)) * B ^ k = (p + q + c) * B ^ k := by rw [h1]
  have h3 : (p + q + c) / B * (B ^ k * B) = B * ((p + q + c) / B) * B ^ k := by rw [Int.mul_comm B, Int.mul_assoc, Int.mul_comm B]
  simp only [Int.add_mul] at h2
  omega
/-- One step of a difference. -/
theorem sub_step {B : Int} {xs ys ss : List Int} {k : Nat} {c p q d c' : Int} (hs : k < ss.length) (hx : xs[k]?.getD 0 = p) (hy : ys[k]?.getD 0 = q) (hd : d = p - q - c + B * c')
    (h : val B (ss.take k) - c * B ^ k = val B (xs.take k) - val B (ys.take k)) :
    val B ((ss.set k d).take (k + 1)) - c' * B ^ (k + 1) = val B (xs.take (k + 1)) - val B (ys.take (k + 1)) := by
  rw [val_set_take B ss k _ hs, val_take_succ B xs, val_take_succ B ys, hx, hy, Int.pow_succ, hd]
  have h3 : c' * (B ^ k * B) = B * c' * B ^ k := by rw [Int.mul_comm B, Int.mul_assoc, Int.mul_comm B]
  simp only [Int.add_mul, Int.sub_mul]
  omega
/-- One step of a row times a digit, added to another row from place o on. -/
theorem scale_step {B : Int} {ys zs ss : List Int} {o k : Nat} {s c p q : Int} (hs : o + k < ss.length) (hy : ys[k]?.getD 0 = p) (hz : zs[o + k]?.getD 0 = q)
    (h : val B (ss.take (o + k)) + c * B ^ (o + k) = val B (zs.take (o + k)) + s * val B (ys.take k) * B ^ o) :
    val B ((ss.set (o + k) ((p * s + q + c) % B)).take (o + (k + 1))) + ((p * s + q + c) / B) * B ^ (o + (k + 1)) = val B (zs.take (o + (k + 1))) + s * val B (ys.take (k + 1)) * B ^ o := by
  rw [← Nat.add_assoc, val_set_take B ss _ _ hs, val_take_succ B zs, val_take_succ B ys, hy, hz, Int.pow_succ]
  have h1 := Int.emod_add_mul_ediv (p * s + q + c) B
  have h2 : ((p * s + q + c) % B + B * ((p * s + q + c) / B)) * B ^ (o + k) = (p * s + q + c) * B ^ (o + k) := by rw [h1]
  have h3 : (p * s + q + c) / B * (B ^ (o + k) * B) = B * ((p * s + q + c) / B) * B ^ (o + k) := by rw [Int.mul_comm B, Int.mul_assoc, Int.mul_comm B]
  have h4 : s * (val B (ys.take k) + p * B ^ k) * B ^ o = s * val B (ys.take k) * B ^ o + p * s * B ^ (o + k) := by
    rw [Int.pow_add, Int.mul_add, Int.add_mul, Int.mul_comm p s, Int.mul_comm (B ^ o), Int.mul_assoc s p, Int.mul_assoc s (p * B ^ k), Int.mul_assoc p]
  simp only [Int.add_mul] at h2
  rw [h4]
  omega
theorem mul_step {B : Int} {xs ps : List Int} {i n : Nat} {x c v z : Int} (hs : i + n < ps.length) (hx : xs[i]?.getD 0 = x) (hz : z = val B (xs.take i) * v)
    (h : val B (ps.take (i + n)) + c * B ^ (i + n) = z + x * v * B ^ i) :
    val B ((ps.set (i + n) c).take (i + 1 + n)) = val B (xs.take (i + 1)) * v := by
  rw [show i + 1 + n = (i + n) + 1 from by omega, val_set_take B ps _ _ hs, val_take_succ B xs, hx, h, hz, Int.add_mul, Int.mul_assoc x (B ^ i), Int.mul_comm (B ^ i) v, Int.mul_assoc]
theorem val_split (B : Int) (zs : List Int) (n : Nat) (h : n ≤ zs.length) : val B zs = val B (zs.take n) + B ^ n * val B (zs.drop n) := by
  conv => lhs; rw [← List.take_append_drop n zs, val_append, List.length_take, Nat.min_eq_left h]
theorem cmp_top {B : Int} (hB : 0 < B) {xs ys : List Int} {i : Nat} (hx : Words B xs) (hy : Words B ys) (hl : xs.length = ys.length) (hi : i < xs.length) (hd : val B (xs.drop (i + 1)) = val B (ys.drop (i + 1))) (h : xs[i]?.getD 0 < ys[i]?.getD 0) : val B xs < val B ys := by
  rw [val_split B xs (i + 1) (by omega), val_split B ys (i + 1) (by omega), hd, val_take_succ, val_take_succ]
  have h1 := val_lt hB (hx.take i)
  have h2 := val_nonneg hB (hy.take i)
  rw [List.length_take, Nat.min_eq_left (by omega)] at h1
  have h3 := Int.mul_le_mul_of_nonneg_right (a := xs[i]?.getD 0 + 1) (b := ys[i]?.getD 0) (c := B ^ i) (by omega) (Int.le_of_lt (Int.pow_pos hB))
  rw [Int.add_mul] at h3
  omega
/-- The order of two numbers, as Go's Compare answers it. -/
def cmpI (a b : Int) : Int := if a < b then -1 else if a = b then 0 else 1
theorem cmpI_lt {a b : Int} (h : a < b) : cmpI a b = -1 := by simp [cmpI, h]
theorem cmpI_gt {a b : Int} (h : b < a) : cmpI a b = 1 := by simp [cmpI]; omega
theorem cmpI_eq {a b : Int} (h : a = b) : cmpI a b = 0 := by subst h; simp [cmpI]
theorem cmp_len {B : Int} (hB : 1 < B) {xs ys : List Int} (hx : Words B xs) (hy : Words B ys) (ny : nrm ys) (hl : xs.length < ys.length) : val B xs < val B ys := by
  have h1 := val_lt (by omega) hx
  have h2 := nrm_pos hB hy ny (by intro h; subst h; simp at hl)
  have h3 := pow_mono hB (m := xs.length) (n := ys.length - 1) (by omega)
  omega
theorem take_all {zs : List Int} {n : Nat} (h : zs.length ≤ n) : zs.take n = zs := List.take_of_length_le h
/-- The number of a sign and a magnitude. -/
def num (B : Int) (neg : Bool) (zs : List Int) : Int := if neg = true then - val B zs else val B zs
/-- Normal form: no nought at the end, zero not below zero. -/
def Norm (neg : Bool) (zs : List Int) : Prop := nrm zs ∧ (neg = true → zs ≠ [])
theorem norm_unique {B : Int} (hB : 1 < B) {m n : Bool} {xs ys : List Int} (hx : Words B xs) (hy : Words B ys) (nx : Norm m xs) (ny : Norm n ys) (h : num B m xs = num B n ys) : m = n ∧ xs = ys := by
  have vx := val_nonneg (B := B) (by omega) hx
  have vy := val_nonneg (B := B) (by omega) hy
  have px := fun hne => nrm_val_pos hB hx nx.1 hne
  have py := fun hne => nrm_val_pos hB hy ny.1 hne
  cases m <;> cases n <;> simp [num] at h
  · exact ⟨rfl, nrm_unique hB hx hy nx.1 ny.1 h⟩
  · have := py (ny.2 rfl); omega
  · have := px (nx.2 rfl); omega
  · exact ⟨rfl, nrm_unique hB hx hy nx.1 ny.1 (by omega)⟩
end Go.Proofs.YtfbacidpjpghiaaGreatDoor
namespace Go.Proofs.YtfbacidpjpghiaaGreatDoor
open Go.RowKit

/-- The cells of a row of numbers. -/
def cellsOf (k : IntKind) (zs : List Int) : Array Value := (zs.map (Value.int k)).toArray
def zeros (n : Nat) : List Int := List.replicate n 0
theorem zeros_len (n : Nat) : (zeros n).length = n := by simp [zeros]
theorem zeros_val (B : Int) (n : Nat) : val B (zeros n) = 0 := val_zeros B n
theorem zeros_words {B : Int} (hB : 0 < B) (n : Nat) : Words B (zeros n) := Words.zeros hB n
theorem zeros_at (n i : Nat) : (zeros n)[i]?.getD 0 = 0 := by
  unfold zeros; rw [List.getElem?_replicate]; split <;> rfl
theorem cellsOf_size (k : IntKind) (zs : List Int) : (cellsOf k zs).size = zs.length := by simp [cellsOf]

/-- Block g, of cap cells, begins with the row of numbers zs, and may be written. -/
def Blk (w : World) (g : Nat) (k : IntKind) (T : TypeId) (cap : Nat) (zs : List Int) : Prop :=
  ∃ cur : Array Value, w.heap[g]? = some (.cells cur T (0, 0)) ∧ cur.size = cap ∧ zs.length ≤ cap ∧ cap ≤ maxLen ∧ ∀ i, i < zs.length → cur[i]? = some (.int k (zs[i]?.getD 0))
section
variable {w w' : World} {g : Nat} {k : IntKind} {T : TypeId} {cap : Nat} {zs : List Int}
theorem Blk.lt (h : Blk w g k T cap zs) : g < w.heap.size := by
  obtain ⟨cur, h, _⟩ := h
  by_cases hg : g < w.heap.size
  · exact hg
  · rw [Array.getElem?_eq_none (by omega)] at h; cases h
theorem Blk.le (h : Blk w g k T cap zs) : zs.length ≤ cap := by obtain ⟨_, _, _, h, _⟩ := h; exact h
theorem Blk.max (h : Blk w g k T cap zs) : cap ≤ maxLen := by obtain ⟨_, _, _, _, h, _⟩ := h; exact h
theorem Blk.cell (h : Blk w g k T cap zs) (i : Nat) (hi : i < zs.length) : w.cell? ⟨g, i, none⟩ = some (.int k (zs[i]?.getD 0)) := by
  obtain ⟨cur, h, _, _, _, hc⟩ := h
  simp [World.cell?, h, hc i hi]
theorem Blk.frozen (h : Blk w g k T cap zs) (i : Nat) : w.frozen? ⟨g, i, none⟩ = false := by
  obtain ⟨cur, h, _⟩ := h
  simp [World.frozen?, h]
theorem Blk.same (h : Blk w g k T cap zs) (hb : w'.heap[g]? = w.heap[g]?) : Blk w' g k T cap zs := by
  obtain ⟨cur, h, r⟩ := h
  exact ⟨cur, hb.trans h, r⟩
theorem Blk.below {B : Nat} (h : Blk w g k T cap zs) (hb : Below B w w') (hg : g < B) : Blk w' g k T cap zs := h.same (hb.block g hg)
theorem Blk.next (h : Blk w g k T cap zs) (hb : Below w.heap.size w w') : Blk w' g k T cap zs := h.below hb h.lt
theorem Blk.drew (h : Blk w g k T cap zs) : Blk w.drew g k T cap zs := h
theorem Blk.alloc (h : Blk w g k T cap zs) (o : Obj) : Blk (w.alloc o) g k T cap zs := h.same (Below.heap_alloc _ _ _ h.lt)
theorem Blk.new (w : World) (k : IntKind) (T : TypeId) (zs : List Int) (hm : zs.length ≤ maxLen) : Blk (w.alloc (.cells (cellsOf k zs) T)) w.heap.size k T zs.length zs := by
  refine ⟨cellsOf k zs, ?_, cellsOf_size k zs, Nat.le_refl _, hm, fun i hi => ?_⟩
  · show (w.heap.push _)[w.heap.size]? = _
    simp
  · simp [cellsOf, hi]
theorem Blk.set (h : Blk w g k T cap zs) (i : Nat) (x : Int) : Blk (w.setCell ⟨g, i, none⟩ (.int k x)) g k T cap (zs.set i x) := by
  obtain ⟨cur, h, hs, hl, hm, hc⟩ := h
  refine ⟨cur.setIfInBounds i (.int k x), ?_, by simpa using hs, by simpa using hl, hm, fun j hj => ?_⟩
  · simp [World.setCell, Array.getElem?_modify, h]
  · simp at hj
    have hjc : j < cur.size := by omega
    by_cases e : i = j
    · subst e; simp [hj, hjc]
    · rw [Array.getElem?_setIfInBounds_ne e, List.getElem?_set_ne e]; exact hc j hj
theorem Blk.other (h : Blk w g k T cap zs) (p : Addr) (u : Value) (hp : p.block ≠ g) : Blk (w.setCell p u) g k T cap zs := h.same (Below.heap_setCell _ _ _ _ (Ne.symm hp))
theorem Blk.take (h : Blk w g k T cap zs) (n : Nat) : Blk w g k T cap (zs.take n) := by
  obtain ⟨cur, h, hs, hl, hm, hc⟩ := h
  refine ⟨cur, h, hs, by rw [List.length_take]; omega, hm, fun i hi => ?_⟩
  rw [List.length_take] at hi
  rw [hc i (by omega), List.getElem?_take_of_lt (by omega)]
theorem Blk.owns (h : Blk w g k T cap zs) (base : Nat) (hb : base ≤ g) : w.ownsRow base T 1 (.slice (some ⟨g, 0, none⟩) zs.length cap) zs.length (zs.map (Value.int k)) := by
  obtain ⟨cur, h, hs, hl, hm, hc⟩ := h
  refine ⟨by simp, .inr ⟨g, cap, cur, rfl, hb, h, hl, hm, by simpa using hs, ?_⟩⟩
  apply List.ext_getElem?
  intro i
  rw [Nat.mul_one]
  by_cases hi : i < zs.length
  · rw [List.getElem?_take_of_lt hi, Array.getElem?_toList, hc i hi]; simp [hi]
  · rw [List.getElem?_eq_none (by rw [List.length_take]; omega), List.getElem?_eq_none (by simp; omega)]
theorem Blk.of_owns {base n : Nat} (h : w.ownsRow base T 1 (.slice (some ⟨g, 0, none⟩) n cap) n (zs.map (Value.int k))) : Blk w g k T cap zs := by
  obtain ⟨hl, h⟩ := h
  simp at hl
  rcases h with ⟨h, _⟩ | ⟨g', cap', cur, hv, hb, hh, hn, hm, hs, ht⟩
  · cases h
  · cases hv
    refine ⟨cur, hh, by simpa using hs, by omega, hm, fun i hi => ?_⟩
    have e := congrArg (·[i]?) ht
    simp only [Nat.mul_one] at e
    rw [List.getElem?_take_of_lt (by omega), Array.getElem?_toList] at e
    rw [e]; simp [hi]
end

theorem addr_add (g o i : Nat) : (⟨g, o, none⟩ : Addr).add i = ⟨g, o + i, none⟩ := by
  unfold Addr.add
  split
  · rename_i h; subst h; rfl
  · rfl
/-- The slice '.slice a zs.length cap' reads as the numbers zs, digits below B. -/
structure Row (w : World) (k : IntKind) (B : Int) (a : Option Addr) (cap : Nat) (zs : List Int) : Prop where
  le : zs.length ≤ cap
  max : cap ≤ maxLen
  nil : a = none → cap = 0
  cell : ∀ x, a = some x → ∀ i, i < zs.length → w.cell? (x.add i) = some (.int k (zs[i]?.getD 0))
  words : Words B zs
theorem cell_lt {w : World} {p : Addr} {v : Value} (h : w.cell? p = some v) : p.block < w.heap.size := by
  by_cases hp : p.block < w.heap.size
  · exact hp
  · simp [World.cell?, Array.getElem?_eq_none (Nat.le_of_not_lt hp)] at h
theorem Row.next {w w' : World} {k : IntKind} {B : Int} {a : Option Addr} {cap : Nat} {zs : List Int} (h : Row w k B a cap zs) (hb : Below w.heap.size w w') : Row w' k B a cap zs :=
  ⟨h.le, h.max, h.nil, fun x hx i hi => (hb.cell (cell_lt (h.cell x hx i hi))).trans (h.cell x hx i hi), h.words⟩
theorem Row.empty (w : World) (k : IntKind) (B : Int) : Row w k B none 0 [] := ⟨Nat.le_refl _, by decide, fun _ => rfl, fun x hx => (by cases hx), Words.nil B⟩
theorem Row.take {w : World} {k : IntKind} {B : Int} {a : Option Addr} {cap : Nat} {zs : List Int} (h : Row w k B a cap zs) (n : Nat) (hn : n ≤ zs.length) : Row w k B a cap (zs.take n) := by
  have hl : (zs.take n).length = n := by rw [List.length_take]; omega
  refine ⟨by have := h.le; omega, h.max, h.nil, fun x hx i hi => ?_, h.words.take n⟩
  rw [h.cell x hx i (by omega), List.getElem?_take_of_lt (by omega)]
theorem Row.nil_of {w : World} {k : IntKind} {B : Int} {cap : Nat} {zs : List Int} (h : Row w k B none cap zs) : cap = 0 ∧ zs = [] := by
  have h1 := h.nil rfl
  have h2 := h.le
  subst h1
  exact ⟨rfl, List.eq_nil_of_length_eq_zero (by omega)⟩
/-- Out of a block of one's own. -/
theorem Blk.row {w : World} {g : Nat} {k : IntKind} {T : TypeId} {cap : Nat} {zs : List Int} {B : Int} (h : Blk w g k T cap zs) (hB : Words B zs) : Row w k B (some ⟨g, 0, none⟩) cap zs := by
  refine ⟨h.le, h.max, fun h => (by cases h), fun x hx i hi => ?_, hB⟩
  cases hx
  rw [addr_add, Nat.zero_add]; exact h.cell i hi
/-- A slice of the call's own: nil, or at the head of a block from number base on, which it may write. -/
def Own (w : World) (base : Nat) (k : IntKind) (T : TypeId) (B : Int) (a : Option Addr) (cap : Nat) (zs : List Int) : Prop :=
  Words B zs ∧ ((a = none ∧ cap = 0 ∧ zs = []) ∨ ∃ g, a = some ⟨g, 0, none⟩ ∧ base ≤ g ∧ Blk w g k T cap zs)
section
variable {w w' : World} {base : Nat} {k : IntKind} {T : TypeId} {B : Int} {a : Option Addr} {cap : Nat} {zs : List Int}
theorem Own.words (h : Own w base k T B a cap zs) : Words B zs := h.1
theorem Own.row (h : Own w base k T B a cap zs) : Row w k B a cap zs := by
  obtain ⟨hw, ⟨rfl, rfl, rfl⟩ | ⟨g, rfl, _, hb⟩⟩ := h
  · exact Row.empty _ _ _
  · exact hb.row hw
theorem Own.next (h : Own w base k T B a cap zs) (hb : Below w.heap.size w w') : Own w' base k T B a cap zs := by
  obtain ⟨hw, h | ⟨g, ha, hg, hbl⟩⟩ := h
  · exact ⟨hw, .inl h⟩
  · exact ⟨hw, .inr ⟨g, ha, hg, hbl.next hb⟩⟩
theorem Own.set (h : Own w base k T B a cap zs) {p : Addr} (hp : p.block < base) (u : Value) : Own (w.setCell p u) base k T B a cap zs := by
  obtain ⟨hw, h | ⟨g, ha, hg, hbl⟩⟩ := h
  · exact ⟨hw, .inl h⟩
  · exact ⟨hw, .inr ⟨g, ha, hg, hbl.other p u (by omega)⟩⟩
theorem Own.mono {base' : Nat} (h : Own w base k T B a cap zs) (hb : base' ≤ base) : Own w base' k T B a cap zs := by
  obtain ⟨hw, h | ⟨g, ha, hg, hbl⟩⟩ := h
  · exact ⟨hw, .inl h⟩
  · exact ⟨hw, .inr ⟨g, ha, by omega, hbl⟩⟩
theorem Own.take (h : Own w base k T B a cap zs) (n : Nat) : Own w base k T B a cap (zs.take n) := by
  obtain ⟨hw, ⟨rfl, rfl, rfl⟩ | ⟨g, ha, hg, hbl⟩⟩ := h
  · exact ⟨hw.take n, .inl ⟨rfl, rfl, by simp⟩⟩
  · exact ⟨hw.take n, .inr ⟨g, ha, hg, hbl.take n⟩⟩
theorem Own.empty (w : World) (base : Nat) (k : IntKind) (T : TypeId) (B : Int) : Own w base k T B none 0 [] := ⟨Words.nil B, .inl ⟨rfl, rfl, rfl⟩⟩
theorem Blk.own {g : Nat} (h : Blk w g k T cap zs) (hw : Words B zs) (hg : base ≤ g) : Own w base k T B (some ⟨g, 0, none⟩) cap zs := ⟨hw, .inr ⟨g, rfl, hg, h⟩⟩
end
/-- What was there before stays: cells, marks. -/
theorem keep_cell {wk w' : World} {p : Addr} {v : Value} (hb : Below wk.heap.size wk w') (h : wk.cell? p = some v) : w'.cell? p = some v := (hb.cell (cell_lt h)).trans h
theorem keep_frozen {wk w' : World} {p : Addr} {v : Value} (hb : Below wk.heap.size wk w') (h : wk.cell? p = some v) (hf : wk.frozen? p = false) : w'.frozen? p = false := (hb.frozen (cell_lt h)).trans hf
theorem keep_set {w2 : World} {p q : Addr} {u v : Value} (h : w2.cell? p = some v) (hq : q.block ≠ p.block) : (w2.setCell q u).cell? p = some v := (World.cell?_of_block (Below.heap_setCell _ _ _ _ (Ne.symm hq))).trans h
theorem bthen {w wk w' : World} (h : Below w.heap.size w wk) (hb : Below wk.heap.size wk w') : Below w.heap.size w w' := h.trans (hb.mono h.size)
theorem zeros_made (k : IntKind) (n : Nat) : madeCells #[Value.int k 0] n = cellsOf k (zeros n) := by
  unfold madeCells cellsOf zeros
  apply Array.ext
  · simp
  · intro i h1 h2
    simp [Nat.mod_one]
theorem run_zeros {P : Program} (t e : TypeId) (k : IntKind) (bytes : Nat) (ht : P.underlying t = some (.slice e)) (hinfo : (P.info? e).map (fun i => (i.zero, i.size, i.bytes)) = some (some (.int k 0), 1, bytes)) (m : Int) (h0 : 0 ≤ m) (hb : bytes * m.toNat ≤ 281474976710656) (h63 : m ≤ 9223372036854775807) (w : World) :
    (Instr.makeSlice t (.int .i64 m) (.int .i64 m)).run P w = .ok (.slice (some ⟨w.heap.size, 0, none⟩) m.toNat m.toNat) (w.alloc (.cells (cellsOf k (zeros m.toNat)) e)) := by
  obtain ⟨n, rfl⟩ := Int.eq_ofNat_of_zero_le h0
  rw [run_make_row' t e (.int k 0) bytes ht hinfo rfl .i64 .i64 n (by simpa using hb) (by omega) w, zeros_made]
  simp
end Go.Proofs.YtfbacidpjpghiaaGreatDoor
