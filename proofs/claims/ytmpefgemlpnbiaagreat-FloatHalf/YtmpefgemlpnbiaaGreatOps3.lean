/- Contracts of Cmp, Bits, Cut. -/
import Derived.Test.YtmpefgemlpnbiaaGreatOps2
namespace Go.Proofs.YtmpefgemlpnbiaaGreat
open Go.RowKit
attribute [local go_sem ↓] Go.wp_at_zero Go.wp_at_succ
theorem box2b (w : World) (v0 v1 v2 v3 : Value) (T : TypeId) : ∃ W, W = (w.alloc (.cells #[v0, v1] T)).alloc (.cells #[v2, v3] T) ∧ Below w.heap.size w W ∧
    W.cell? ⟨w.heap.size, 0, none⟩ = some v0 ∧ W.cell? ⟨w.heap.size, 1, none⟩ = some v1 ∧ W.cell? ⟨w.heap.size + 1, 0, none⟩ = some v2 ∧ W.cell? ⟨w.heap.size + 1, 1, none⟩ = some v3 := by
  obtain ⟨W, h1, h2, _, h3, h4, h5, h6, _⟩ := boxes2 w v0 v1 v2 v3 T
  exact ⟨W, h1, h2, h3, h4, h5, h6⟩
theorem cmpI_rng (a b : Int) : -1 ≤ cmpI a b ∧ cmpI a b ≤ 1 := by unfold cmpI; split <;> (try split) <;> omega
theorem cmpI_cases (a b : Int) : a < b ∧ cmpI a b = -1 ∨ a = b ∧ cmpI a b = 0 ∨ b < a ∧ cmpI a b = 1 := by unfold cmpI; split <;> (try split) <;> omega
theorem Cmp_diff {a b : Int} (h : cmpI (cmpI a 0) (cmpI b 0) ≠ 0) : cmpI (cmpI a 0) (cmpI b 0) = cmpI a b := by
  have h1 := cmpI_cases a 0
  have h2 := cmpI_cases b 0
  have h3 := cmpI_cases (cmpI a 0) (cmpI b 0)
  have h4 := cmpI_cases a b
  omega
theorem mul_unit {a b : Int} (ha : -1 ≤ a ∧ a ≤ 1) (hb : -1 ≤ b ∧ b ≤ 1) : -1 ≤ a * b ∧ a * b ≤ 1 := by
  rcases (by omega : a = -1 ∨ a = 0 ∨ a = 1) with rfl | rfl | rfl <;> omega
theorem wrap_unit {z : Int} (h : -1 ≤ z ∧ z ≤ 1) : IntKind.i64.wrap z = z := by
  rcases (by omega : z = -1 ∨ z = 0 ∨ z = 1) with rfl | rfl | rfl <;> decide
theorem Cmp_aux (m n : Bool) (u v : Int) (hu : 0 ≤ u) (hv : 0 ≤ v) (h : cmpI (cmpI (if m = true then -u else u) 0) (cmpI (if n = true then -v else v) 0) = 0) : cmpI (if m = true then -u else u) 0 * cmpI u v = cmpI (if m = true then -u else u) (if n = true then -v else v) := by
  cases m <;> cases n <;> simp only [if_true, if_false, Bool.false_eq_true] at h ⊢
  · have h1 := cmpI_cases u 0; have h2 := cmpI_cases v 0; have h3 := cmpI_cases (cmpI u 0) (cmpI v 0); have h4 := cmpI_cases u v
    rcases h1 with ⟨h1, e⟩ | ⟨h1, e⟩ | ⟨h1, e⟩ <;> rw [e] at h h3 ⊢ <;> omega
  · have h1 := cmpI_cases u 0; have h2 := cmpI_cases (-v) 0; have h3 := cmpI_cases (cmpI u 0) (cmpI (-v) 0); have h4 := cmpI_cases u v; have h5 := cmpI_cases u (-v)
    rcases h1 with ⟨h1, e⟩ | ⟨h1, e⟩ | ⟨h1, e⟩ <;> rw [e] at h h3 ⊢ <;> omega
  · have h1 := cmpI_cases (-u) 0; have h2 := cmpI_cases v 0; have h3 := cmpI_cases (cmpI (-u) 0) (cmpI v 0); have h4 := cmpI_cases u v; have h5 := cmpI_cases (-u) v
    rcases h1 with ⟨h1, e⟩ | ⟨h1, e⟩ | ⟨h1, e⟩ <;> rw [e] at h h3 ⊢ <;> omega
  · have h1 := cmpI_cases (-u) 0; have h2 := cmpI_cases (-v) 0; have h3 := cmpI_cases (cmpI (-u) 0) (cmpI (-v) 0); have h4 := cmpI_cases u v; have h5 := cmpI_cases (-u) (-v)
    rcases h1 with ⟨h1, e⟩ | ⟨h1, e⟩ | ⟨h1, e⟩ <;> rw [e] at h h3 ⊢ <;> omega
theorem Cmp_same {B : Int} (m n : Bool) (xs ys : List Int) (hB : 0 < B) (hx : Words B xs) (hy : Words B ys) (h : cmpI (cmpI (num B m xs) 0) (cmpI (num B n ys) 0) = 0) : cmpI (num B m xs) 0 * cmpI (val B xs) (val B ys) = cmpI (num B m xs) (num B n ys) :=
  Cmp_aux m n _ _ (val_nonneg hB hx) (val_nonneg hB hy) h
set_option maxHeartbeats 4000000 in
theorem Cmp_any (na nb : Bool) (x y : Option Addr) (ca cb : Nat) (xs ys : List Int) (w : World) (ha : Row w .u32 4294967296 x ca xs) (hb : Row w .u32 4294967296 y cb ys) (hl : xs.length ≤ 1000000) (hlb : ys.length ≤ 1000000) :
    Calls Tryz.prog 127 #[.agg #[.bool na, .slice x xs.length ca], .agg #[.bool nb, .slice y ys.length cb]] w fun e w' => e = .returned (.int .i64 (cmpI (num 4294967296 na xs) (num 4294967296 nb ys))) ∧ Below w.heap.size w w' := by
  have tx := trimmed_le xs
  have ty := trimmed_le ys
  have HSame : Hid _ := Cmp_same na nb xs ys (B := 4294967296) (by decide) ha.words hb.words
  have HD : Hid _ := @Cmp_diff (num 4294967296 na xs) (num 4294967296 nb ys)
  have HT : Hid (cmpI (val 4294967296 (trimmed xs)) (val 4294967296 (trimmed ys)) = cmpI (val 4294967296 xs) (val 4294967296 ys)) := by show cmpI _ _ = _; rw [trimmed_val, trimmed_val]
  have hm := mul_unit (cmpI_rng (num 4294967296 na xs) 0) (cmpI_rng (val 4294967296 (trimmed xs)) (val 4294967296 (trimmed ys)))
  by_cases hz : cmpI (cmpI (num 4294967296 na xs) 0) (cmpI (num 4294967296 nb ys) 0) = 0
  case neg =>
    have hne : (cmpI (cmpI (num 4294967296 na xs) 0) (cmpI (num 4294967296 nb ys) 0) != 0) = true := by rw [bne_iff_ne]; exact hz
    replace hz : Hid _ := hz
    go_enter Tryz.func127, Tryz.ntmps127
    go_wp2
    obtain ⟨W, hW, hbW, c0, c1, c2, c3⟩ := box2b w (.bool na) (.slice x xs.length ca) (.bool nb) (.slice y ys.length cb) 24
    rw [← hW]
    clear hW
    have haW := ha.next hbW
    have hbW' := hb.next hbW
    have hD0 : Below W.heap.size W W.drew := (Below.refl _ _).drew
    go_region_held3 (fun w' => w'.cell? ⟨w.heap.size, 0, none⟩ = some (.bool na) ∧ w'.cell? ⟨w.heap.size, 1, none⟩ = some (.slice x xs.length ca) ∧ w'.cell? ⟨w.heap.size + 1, 0, none⟩ = some (.bool nb) ∧ w'.cell? ⟨w.heap.size + 1, 1, none⟩ = some (.slice y ys.length cb)) (refine ⟨?_, ?_, ?_, ?_⟩ <;> first | assumption | exact c0 | exact c1 | exact c2 | exact c3 | (refine keep_cell (wk := W) ?_ ?_ <;> assumption))
      (first
        | (go_at_call_of 147 (Value.agg #[Value.bool na, Value.slice x xs.length ca]); refine (sign_any na x ca xs _ (haW.next (by assumption)) hl).mono ?_; rintro e w1 ⟨rfl, hb1⟩; have hB1 := bthen (by assumption) hb1)
        | (go_at_call_of 147 (Value.agg #[Value.bool nb, Value.slice y ys.length cb]); refine (sign_any nb y cb ys _ (hbW'.next (by assumption)) hlb).mono ?_; rintro e w1 ⟨rfl, hb1⟩; have hB1 := bthen (by assumption) hb1)
        | (go_at_call 146; refine (cmp49 _ _ _).mono ?_; rintro e w1 ⟨rfl, rfl⟩))
    go_wp2
    go_ret
    exact ⟨ret_int (HD.out hz.out), bthen hbW hB1⟩
  case pos =>
    have hne : (cmpI (cmpI (num 4294967296 na xs) 0) (cmpI (num 4294967296 nb ys) 0) != 0) = false := by simp [hz]
    replace hz : Hid _ := hz
    go_enter Tryz.func127, Tryz.ntmps127
    go_wp2
    obtain ⟨W, hW, hbW, c0, c1, c2, c3⟩ := box2b w (.bool na) (.slice x xs.length ca) (.bool nb) (.slice y ys.length cb) 24
    rw [← hW]
    clear hW
    have haW := ha.next hbW
    have hbW' := hb.next hbW
    have hD0 : Below W.heap.size W W.drew := (Below.refl _ _).drew
    go_region_held3 (fun w' => w'.cell? ⟨w.heap.size, 0, none⟩ = some (.bool na) ∧ w'.cell? ⟨w.heap.size, 1, none⟩ = some (.slice x xs.length ca) ∧ w'.cell? ⟨w.heap.size + 1, 0, none⟩ = some (.bool nb) ∧ w'.cell? ⟨w.heap.size + 1, 1, none⟩ = some (.slice y ys.length cb)) (refine ⟨?_, ?_, ?_, ?_⟩ <;> first | assumption | exact c0 | exact c1 | exact c2 | exact c3 | (refine keep_cell (wk := W) ?_ ?_ <;> assumption))
      (first
        | (go_at_call_of 147 (Value.agg #[Value.bool na, Value.slice x xs.length ca]); refine (sign_any na x ca xs _ (haW.next (by assumption)) hl).mono ?_; rintro e w1 ⟨rfl, hb1⟩; have hB1 := bthen (by assumption) hb1)
        | (go_at_call_of 147 (Value.agg #[Value.bool nb, Value.slice y ys.length cb]); refine (sign_any nb y cb ys _ (hbW'.next (by assumption)) hlb).mono ?_; rintro e w1 ⟨rfl, hb1⟩; have hB1 := bthen (by assumption) hb1)
        | (go_at_call 146; refine (cmp49 _ _ _).mono ?_; rintro e w1 ⟨rfl, rfl⟩))
    go_wp2
    have hD1 : Below W.heap.size W w1.drew := hB1.drew
    clear hD0 hb1
    go_region_held3 (fun w' => w'.cell? ⟨w.heap.size, 0, none⟩ = some (.bool na) ∧ w'.cell? ⟨w.heap.size, 1, none⟩ = some (.slice x xs.length ca) ∧ w'.cell? ⟨w.heap.size + 1, 0, none⟩ = some (.bool nb) ∧ w'.cell? ⟨w.heap.size + 1, 1, none⟩ = some (.slice y ys.length cb)) (refine ⟨?_, ?_, ?_, ?_⟩ <;> first | assumption | (refine keep_cell (wk := W) ?_ ?_ <;> assumption))
      (first
        | (go_at_call 147; refine (sign_any na x ca xs _ (haW.next (by assumption)) hl).mono ?_; rintro e w2 ⟨rfl, hb2⟩; have hB2 := bthen (by assumption) hb2)
        | (go_at_call_of 78 (Value.slice x xs.length ca); refine (trim_any x ca xs _ (haW.next (by assumption))).mono ?_; rintro e w3 ⟨rfl, rfl⟩)
        | (go_at_call_of 78 (Value.slice y ys.length cb); refine (trim_any y cb ys _ (hbW'.next (by assumption))).mono ?_; rintro e w3 ⟨rfl, rfl⟩)
        | (go_at_call 148; refine (compare_any x y ca cb (trimmed xs) (trimmed ys) _ (haW.next (by assumption)).trim (hbW'.next (by assumption)).trim (by omega) (by omega) (trimmed_nrm xs) (trimmed_nrm ys)).mono ?_; rintro e w4 ⟨rfl, hb4⟩; have hB4 := bthen (by assumption) hb4))
    go_wp2
    go_ret
    refine ⟨ret_int ?_, bthen hbW hB4⟩
    rw [HT.out] at hm
    rw [HT.out, wrap_unit hm]
    exact HSame.out hz.out
set_option maxHeartbeats 400000 in
theorem Bits_any (n : Bool) (x : Option Addr) (ca : Nat) (xs : List Int) (w : World) (ha : Row w .u32 4294967296 x ca xs) (hl : xs.length ≤ 1000000) :
    Calls Tryz.prog 45 #[.agg #[.bool n, .slice x xs.length ca]] w fun e w' => e = .returned (.int .i64 (if (trimmed xs).length = 0 then 0 else 32 * ((trimmed xs).length - 1 : Int) + Lib.bitLen ((trimmed xs)[(trimmed xs).length - 1]?.getD 0).toNat)) ∧ Below w.heap.size w w' := by
  have hbel : Below w.heap.size w (w.alloc (.cells #[.bool n, .slice x xs.length ca] 24)) := (Below.refl _ _).alloc (Nat.le_refl _) _
  have hlen := trimmed_le xs
  by_cases h0 : trimmed xs = []
  · have hz : (trimmed xs).length = 0 := by simp [h0]
    rw [if_pos hz]
    clear h0
    go_enter Tryz.func45, Tryz.ntmps45
    go_wp2_with (go_at_call 78; refine (trim_any _ _ _ _ (ha.next hbel)).mono ?_; rintro e w' ⟨rfl, rfl⟩)
    go_ret
    exact ⟨rfl, hbel⟩
  · have hpos := List.length_pos_iff.2 h0
    have hz : (((trimmed xs).length : Int) == 0) = false := by simp; omega
    rw [if_neg (by omega)]
    obtain ⟨x, rfl⟩ := (ha.trim).some_of hpos
    obtain ⟨p, hp, hp0, hp1⟩ := ha.trim.words.get (by decide) ((trimmed xs).length - 1)
    have hca := (ha.trim.next hbel).cell x rfl ((trimmed xs).length - 1) (by omega)
    rw [hp] at hca ⊢
    have hbl := Lib.bitLen_le p.toNat 32 (by omega) (by omega)
    clear h0 hp
    go_enter Tryz.func45, Tryz.ntmps45
    go_wp2_with (go_at_call 78; refine (trim_any _ _ _ _ (ha.next hbel)).mono ?_; rintro e w' ⟨rfl, rfl⟩)
    refine (len32 p _ hp0 (by omega)).mono ?_
    rintro e w' ⟨rfl, rfl⟩
    go_wp2
    go_ret
    exact ⟨ret_int (by omega), hbel⟩
/-- Cut: the first n words. -/
theorem Cut_any (n : Bool) (x : Option Addr) (ca m : Nat) (xs : List Int) (w : World) (ha : Row w .u32 4294967296 x ca xs) (hm : m ≤ 1000) :
    Calls Tryz.prog 49 #[.agg #[.bool n, .slice x xs.length ca], .int .i64 m] w fun e w' => e = .returned (.agg #[.bool n, .slice x (xs.take m).length ca]) ∧ Below w.heap.size w w' := by
  have hle := ha.le
  have hmx := ha.max
  unfold maxLen at hmx
  rw [List.length_take]
  by_cases h : m < xs.length
  · rw [Nat.min_eq_left (by omega)]
    obtain ⟨x, rfl⟩ := ha.some_of (i := m) h
    go_enter Tryz.func49, Tryz.ntmps49
    go_wp2
    exact bodyPost_ret (v := .agg #[.bool n, .slice (some x) m ca]) (by simp [results, Tryz.results49, go_sem]) rfl ⟨rfl, ((Below.refl _ _).alloc (Nat.le_refl _) _).alloc (by simp) _⟩
  · rw [Nat.min_eq_right (by omega)]
    go_enter Tryz.func49, Tryz.ntmps49
    go_wp2
    exact bodyPost_ret (v := .agg #[.bool n, .slice x xs.length ca]) (by simp [results, Tryz.results49, go_sem]) rfl ⟨rfl, ((Below.refl _ _).alloc (Nat.le_refl _) _).alloc (by simp) _⟩
end Go.Proofs.YtmpefgemlpnbiaaGreat
