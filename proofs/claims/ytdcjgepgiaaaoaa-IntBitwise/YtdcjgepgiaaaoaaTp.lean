/- The second road's powers of two: Power2, low. -/
import Derived.Test.YtdcjgepgiaaaoaaRw
import Derived.Test.YtdcjgepgiaaaoaaRv
import Derived.Test.YtdcjgepgiaaaoaaBm
import Derived.Test.YtdcjgepgiaaaoaaSums
namespace Go.Proofs.Ytdcjgepgiaaaoaa
open Go.RowKit
attribute [local go_sem ↓] Go.wp_at_zero Go.wp_at_succ
theorem Rint.sign {w : World} {m : Bool} {a : Option Addr} {l c : Nat} {z : Int} {n : Nat} (h : Rint w (.agg #[.bool m, .slice a l c]) z n) : m = decide (z < 0) := by
  obtain ⟨neg, a', cap, ds, hv, hr, hn, hz, _⟩ := h
  simp at hv
  obtain ⟨rfl, rfl, rfl, rfl⟩ := hv
  have h0 := val_nonneg (B := 65536) (by decide) hr.words
  cases m with
  | false => simp [num] at hz; simp; omega
  | true => have := nrm_val_pos (B := 65536) (by decide) hr.words hn.1 (hn.2 rfl); simp [num] at hz; simp; omega
/-- Block b holds a number's two cells: no digits lie there. -/
def PBox (w : World) (b : Nat) : Prop := ∃ m a l c T fr, w.heap[b]? = some (.cells #[.bool m, .slice a l c] T fr)
theorem PBox.apart {w : World} {b : Nat} (h : PBox w b) {k : IntKind} {B : Int} {x : Addr} {cap : Nat} {ds : List Int} (hr : Row w k B (some x) cap ds) (hne : ds ≠ []) : x.block ≠ b := by
  obtain ⟨m, a, l, c, T, fr, h⟩ := h
  intro e
  have hc := hr.cell x rfl 0 (List.length_pos_iff.2 hne)
  unfold World.cell? at hc
  rw [add_block, e, h] at hc
  simp only at hc
  split at hc
  · cases hc
  · rcases ho : (x.add 0).off with _ | _ | n <;> rw [ho] at hc <;> simp at hc
theorem PBox.next {w w' : World} {b : Nat} (h : PBox w b) (hb : Below w.heap.size w w') : PBox w' b := by
  obtain ⟨m, a, l, c, T, fr, h⟩ := h
  have hlt : b < w.heap.size := by
    by_cases hg : b < w.heap.size
    · exact hg
    · rw [Array.getElem?_eq_none (by omega)] at h; cases h
  exact ⟨m, a, l, c, T, fr, (hb.block b hlt).trans h⟩
theorem PBox.set0 {w : World} {b : Nat} (h : PBox w b) (m' : Bool) : PBox (w.setCell ⟨b, 0, none⟩ (.bool m')) b := by
  obtain ⟨m, a, l, c, T, fr, h⟩ := h
  exact ⟨m', a, l, c, T, fr, by simp [World.setCell, Array.getElem?_modify, h]⟩
theorem PBox.set1 {w : World} {b : Nat} (h : PBox w b) (a' : Option Addr) (l' c' : Nat) : PBox (w.setCell ⟨b, 1, none⟩ (.slice a' l' c')) b := by
  obtain ⟨m, a, l, c, T, fr, h⟩ := h
  exact ⟨m, a', l', c', T, fr, by simp [World.setCell, Array.getElem?_modify, h]⟩
theorem PBox.other {w : World} {b : Nat} (h : PBox w b) {p : Addr} {u : Value} (hp : p.block ≠ b) : PBox (w.setCell p u) b := by
  obtain ⟨m, a, l, c, T, fr, h⟩ := h
  exact ⟨m, a, l, c, T, fr, (Below.heap_setCell _ _ _ _ (Ne.symm hp)).trans h⟩
theorem PBox.new (w : World) (m : Bool) (a : Option Addr) (l c : Nat) (T : TypeId) : PBox (w.alloc (.cells #[.bool m, .slice a l c] T)) w.heap.size :=
  ⟨m, a, l, c, T, (0, 0), by show (w.heap.push _)[w.heap.size]? = _; simp⟩
theorem PBox.new2 (w : World) (o : Obj) (m : Bool) (a : Option Addr) (l c : Nat) (T : TypeId) : PBox ((w.alloc o).alloc (.cells #[.bool m, .slice a l c] T)) (w.heap.size + 1) := by
  have h := PBox.new (w.alloc o) m a l c T
  rwa [show (w.alloc o).heap.size = w.heap.size + 1 from by simp] at h
theorem PBox.alloc {w : World} {b : Nat} (h : PBox w b) (o : Obj) : PBox (w.alloc o) b := h.next ((Below.refl _ _).alloc (Nat.le_refl _) _)
theorem Row.box {w : World} {k : IntKind} {B : Int} {a : Option Addr} {cap : Nat} {ds : List Int} (h : Row w k B a cap ds) {b : Nat} (hb : PBox w b) (i : Nat) (u : Value) : Row (w.setCell ⟨b, i, none⟩ u) k B a cap ds := by
  refine ⟨h.le, h.max, h.nil, fun x hx i hi => keep_set (h.cell x hx i hi) ?_, h.words⟩
  rw [add_block]
  subst hx
  exact Ne.symm (hb.apart h (by intro e; subst e; simp at hi))
theorem Rint.box {w : World} {v : Value} {z : Int} {n : Nat} (h : Rint w v z n) {b : Nat} (hb : PBox w b) (i : Nat) (u : Value) : Rint (w.setCell ⟨b, i, none⟩ u) v z n := by
  obtain ⟨neg, a, cap, ds, hv, hr, r⟩ := h
  exact ⟨neg, a, cap, ds, hv, hr.box hb i u, r⟩
theorem Rint.alloc {w : World} {v : Value} {z : Int} {n : Nat} (h : Rint w v z n) (o : Obj) : Rint (w.alloc o) v z n := h.next ((Below.refl _ _).alloc (Nat.le_refl _) _)
/-- A number put into a number's box. -/
theorem Rint.put {w : World} {v : Value} {z : Int} {n : Nat} (h : Rint w v z n) {b : Nat} (hb : PBox w b) (m : Bool) (a : Option Addr) (l c : Nat) : Rint ((w.setCell ⟨b, 0, none⟩ (.bool m)).setCell ⟨b, 1, none⟩ (.slice a l c)) v z n :=
  (h.box hb 0 _).box (hb.set0 m) 1 _
theorem tmod_pos {y p : Int} (hp : 0 < p) (h : 0 ≤ y.tmod p) : y.tmod p = y % p := by
  have h1 := Int.mul_tdiv_add_tmod y p
  have h2 : y.tmod p < p := Int.tmod_lt_of_pos y hp
  have h3 : y % p = (y.tmod p + p * y.tdiv p) % p := by rw [Int.add_comm, h1]
  rw [h3, Int.add_mul_emod_self_left, Int.emod_eq_of_lt h h2]
theorem tmod_neg {y p : Int} (hp : 0 < p) (h : y.tmod p < 0) : y.tmod p + p = y % p := by
  have h1 := Int.mul_tdiv_add_tmod y p
  have h2 : -p < y.tmod p := Int.lt_tmod_of_pos y hp
  have h3 : y % p = ((y.tmod p + p) + p * (y.tdiv p - 1)) % p := by
    congr 1
    rw [Int.mul_sub, Int.mul_one]
    omega
  rw [h3, Int.add_mul_emod_self_left, Int.emod_eq_of_lt (by omega) (by omega)]
theorem pow2_digit (q r : Nat) : (2 : Int) ^ (16 * q + r) = 65536 ^ q * 2 ^ r := by
  rw [Int.pow_add, Int.pow_mul]; rfl
theorem zeros_set_val (B : Int) (q : Nat) (d : Int) : val B ((zeros (q + 1)).set q d) = d * B ^ q := by
  have h := val_set_take B (zeros (q + 1)) q d (by rw [zeros_len]; omega)
  rw [take_all (by rw [List.length_set, zeros_len]; omega)] at h
  rw [h]
  have e : (zeros (q + 1)).take q = zeros q := by simp [zeros]
  rw [e, zeros_val]
  omega
theorem zeros_set_nrm (q : Nat) (d : Int) (h : d ≠ 0) : nrm ((zeros (q + 1)).set q d) := by
  have e : (zeros (q + 1)).set q d = zeros q ++ [d] := by
    apply List.ext_getElem?
    intro i
    simp only [zeros, List.getElem?_set, List.getElem?_append, List.length_replicate, List.getElem?_replicate]
    by_cases h1 : q = i
    · subst h1; simp
    · by_cases h2 : i < q
      · simp [h1, h2]; omega
      · simp [h1, h2]
        have : ¬ i < q + 1 := by omega
        rw [if_neg this]
        have : i - q ≠ 0 := by omega
        cases hh : i - q with
        | zero => omega
        | succ m => rfl
  rw [e]
  exact nrm_snoc _ _ h
set_option maxHeartbeats 1000000 in
set_option maxRecDepth 20000 in
theorem Power2_any (n : Nat) (w : World) (hn : n ≤ 1000000) :
    Calls Try.prog 58 #[.int .i64 n] w fun e w' => ∃ v, e = .returned v ∧ Rout w' w.heap.size v (2 ^ n) (n / 16 + 1) ∧ Below w.heap.size w w' := by
  obtain ⟨W, hW, hbW, hlt, c4, c5, f4, f5⟩ := box1r w (.bool false) (.slice none 0 0) 30
  obtain ⟨q, hq⟩ : ∃ q, q = n / 16 := ⟨_, rfl⟩
  obtain ⟨r, hr⟩ : ∃ r, r = n % 16 := ⟨_, rfl⟩
  have hmk := mk28 ((q : Int) + 1) (by omega) (by omega) W
  rw [show ((q : Int) + 1).toNat = q + 1 from by omega] at hmk
  have e1 : (n : Int).tdiv 16 = (q : Int) := by rw [Int.tdiv_eq_ediv_of_nonneg (by omega)]; omega
  have e2 : (n : Int).tmod 16 = (r : Int) := by rw [Int.tmod_eq_emod_of_nonneg (by omega)]; omega
  have e3 : (n : Int) / 16 = (q : Int) := by omega
  have e4 : (n : Int) % 16 = (r : Int) := by omega
  have hr1 : r < 16 := by omega
  rw [← hq]
  replace hq : Hid _ := hq
  replace hr : Hid _ := hr
  have hpw := pow_mono (B := 2) (by decide) (m := r) (n := 15) (by omega)
  have hp0 := pow_pos' (B := 2) (by decide) r
  have hp15 : (2 : Int) ^ 15 = 32768 := by decide
  have hwr := wrap_i64 (2 ^ r) (by omega) (by omega)
  go_enter Try.func58, Try.ntmps58
  go_wp2
  rw [← hW, hmk]
  clear hW hmk
  have hz : (zeros (q + 1)).length ≤ maxLen := by rw [zeros_len]; unfold maxLen; omega
  have hblk := Blk.new W .i64 3 (zeros (q + 1)) hz
  rw [zeros_len] at hblk
  have hbA : Below W.heap.size W (W.alloc (.cells (cellsOf .i64 (zeros (q + 1))) 3)) := (Below.refl _ _).alloc (Nat.le_refl _) _
  generalize W.alloc (.cells (cellsOf .i64 (zeros (q + 1))) 3) = W2 at *
  have k4 := keep_cell hbA c4
  have k5 := keep_cell hbA c5
  have g4 := keep_frozen hbA c4 f4
  have g5 := keep_frozen hbA c5 f5
  have hc := hblk.cell q (by rw [zeros_len]; omega)
  have hf := hblk.frozen q
  have hB := bthen hbW hbA
  have hne : w.heap.size ≠ W.heap.size := by omega
  go_wp2
  have hx : Words 65536 ((zeros (q + 1)).set q (2 ^ r)) := (zeros_words (by decide) _).set q (by omega)
  have hl2 : ((zeros (q + 1)).set q (2 ^ r)).length = q + 1 := by rw [List.length_set, zeros_len]
  have hrow := ((((hblk.set q (2 ^ r)).other ⟨w.heap.size, 0, none⟩ (.bool false) hne).other ⟨w.heap.size, 1, none⟩ (.slice (some ⟨W.heap.size, 0, none⟩) (q + 1) (q + 1)) hne).row hx)
  refine bodyPost_ret (v := .agg #[.bool false, .slice (some ⟨W.heap.size, 0, none⟩) (q + 1) (q + 1)]) (by simp [results, Try.results58, go_sem, k4, k5]) rfl ⟨_, rfl, ⟨false, _, _, (zeros (q + 1)).set q (2 ^ r), by rw [hl2], ⟨hrow, fun x hx => by cases hx; exact hbW.size⟩, ⟨zeros_set_nrm q _ (by omega), fun h => by cases h⟩, ?_, by rw [hl2]; exact Nat.le_refl _⟩, ((hB.setCell (by exact hbW.size) _).setCell (by simp) _).setCell (by simp) _⟩
  have hnn : n = 16 * q + r := by have := hq.out; have := hr.out; omega
  show val 65536 _ = _
  rw [zeros_set_val, hnn, pow2_digit, Int.mul_comm]
set_option maxRecDepth 20000 in
set_option maxHeartbeats 2000000 in
theorem low_num {w : World} {u : Value} {y : Int} {m : Nat} (n : Nat) (hu : Rint w u y m) (hm : m ≤ 200) (hn : n ≤ 4000) :
    Calls Try.prog 57 #[u, .int .i64 n] w fun e w' => ∃ v, e = .returned v ∧ Rint w' v (y % 2 ^ n) (m + n / 16 + 3) ∧ Below w.heap.size w w' := by
  obtain ⟨nu, au, lu, cu, rfl⟩ := hu.form
  obtain ⟨W, hW, hbW, hlt, c0, c1, c4, c5, f4, f5⟩ := boxes2t w (.bool nu) (.slice au lu cu) (.bool false) (.slice none 0 0) 30 30
  have hU := hu.next hbW
  have hbox : PBox W (w.heap.size + 1) := by rw [hW]; exact PBox.new2 _ _ _ _ _ _ _
  have kp := Power2_any n W (by omega)
  replace kp : Hid _ := kp
  go_enter Try.func57, Try.ntmps57
  go_wp2_with fail
  rw [← hW]
  clear hW
  refine Calls.mono kp.out ?_
  rintro e w1 ⟨v, rfl, hP, hb1⟩
  clear kp
  obtain ⟨np, ap, lp, cp, rfl⟩ := hP.rint.form
  obtain ⟨W1, hW1, hbW1, hl1, p0, p1, _, _⟩ := box1r w1 (.bool np) (.slice ap lp cp) 30
  have hbx := bthen hb1 hbW1
  have d0 := keep_cell hb1 c0
  have d1 := keep_cell hb1 c1
  have lw : w.heap.size < w1.heap.size := cell_lt d0
  have hU1 := hU.next hbx
  have hP1 := hP.rint.next hbW1
  have kq := rQuo_num hU1 hP1 (by omega) (by omega) (by have := two_pow_pos n; omega)
  replace kq : Hid _ := kq
  go_wp2_with fail
  rw [← hW1]
  clear hW1 d0 d1
  refine Calls.mono kq.out ?_
  rintro e w2 ⟨t, t', rfl, hQ, hR, hb2⟩
  clear kq
  obtain ⟨nq, aq, lq, cq, rfl⟩ := hQ.form
  obtain ⟨nr, ar, lr, cr, rfl⟩ := hR.form
  obtain ⟨W2, hW2, hbW2, hl2, ⟨x0, x1, x2, x3⟩, xf0, xf1⟩ := two_boxes w2 (.bool nq) (.slice aq lq cq) (.bool nr) (.slice ar lr cr) 30
  have hby := bthen hb2 hbW2
  have hB := bthen (bthen hbW hbx) hby
  have hR2 := hR.next hbW2
  have hP2 := hP1.next hby
  have hbz := bthen hbx hb2
  have q0 := keep_cell hb2 p0
  have q1 := keep_cell hb2 p1
  have k4 := keep_cell hbz c4
  have k5 := keep_cell hbz c5
  have g4 := keep_frozen hbz c4 f4
  have g5 := keep_frozen hbz c5 f5
  have hsg : Hid _ := hR2.sign
  have m1 : w.heap.size + 1 < w2.heap.size := cell_lt k4
  have m1' : w.heap.size + 1 < w2.heap.size + 1 := by omega
  have m2 : w1.heap.size < w2.heap.size := cell_lt q0
  have m2' : w1.heap.size < w2.heap.size + 1 := by omega
  have hne : w.heap.size + 1 ≠ w2.heap.size + 1 := by omega
  have hp := two_pow_pos n
  have K4 := keep_cell hbW2 k4
  have K5 := keep_cell hbW2 k5
  have G4 := keep_frozen hbW2 k4 g4
  have G5 := keep_frozen hbW2 k5 g5
  have hbx5 := hbox.next hbz
  have hbX5 := hbx5.next hbW2
  have hbX7 : PBox W2 (w2.heap.size + 1) := by rw [hW2]; exact PBox.new2 _ _ _ _ _ _ _
  have hB3 := bthen (bthen hbW hbx) hb2
  have hR3 := hR
  clear hU hU1 hP hP1 hQ hR hb1 hbW1 hbx hbW2 hby hbz x0 x1 c0 c1 c4 c5 f4 f5 p0 p1 hbW xf0 hb2
  cases nr with
  | false =>
    have hv : y.tmod (2 ^ n) = y % 2 ^ n := tmod_pos hp (by have := hsg.out; simpa using this)
    rw [hv] at hR3
    replace hv : Hid _ := hv
    go_wp2
    refine bodyPost_ret (v := .agg #[.bool false, .slice ar lr cr]) (by simp [results, Try.results57, go_sem, k4, k5, m1, m1']) rfl ⟨_, rfl, ?_, ?_⟩
    · exact (((hR3.put hbx5 _ _ _ _).alloc _).alloc _).mono (by omega)
    · exact ((((hB3.setCell (by simp) _).setCell (by simp) _).alloc (by simp [World.setCell]; omega) _).alloc (by simp [World.setCell]; omega) _)
  | true =>
    have hv : y.tmod (2 ^ n) + 2 ^ n = y % 2 ^ n := tmod_neg hp (by have := hsg.out; simpa using this)
    have ka := rAdd_num hR2 hP2 (by omega) (by omega)
    rw [hv] at ka
    replace hv : Hid _ := hv
    replace ka : Hid _ := ka
    go_wp2_with fail
    rw [← hW2]
    refine Calls.mono ka.out ?_
    rintro e w3 ⟨t, rfl, hS, hb3⟩
    obtain ⟨ns, as', ls, cs, rfl⟩ := hS.form
    clear ka hW2
    have x2' := keep_cell hb3 x2
    have x3' := keep_cell hb3 x3
    have y2 := keep_frozen hb3 x2 (xf1 0)
    have y3 := keep_frozen hb3 x3 (xf1 1)
    have k4' := keep_cell hb3 K4
    have k5' := keep_cell hb3 K5
    have g4' := keep_frozen hb3 K4 G4
    have g5' := keep_frozen hb3 K5 G5
    have b5 := hbX5.next hb3
    have b7 := hbX7.next hb3
    have hB4 := bthen hB hb3
    clear x2 x3 k4 k5 g4 g5 q0 q1
    go_wp2
    refine bodyPost_ret (v := .agg #[.bool ns, .slice as' ls cs]) (by simp [results, Try.results57, go_sem, k4', k5']) rfl ⟨_, rfl, ?_, ?_⟩
    · exact ((hS.put b7 _ _ _ _).put ((b5.other (Ne.symm hne)).other (Ne.symm hne)) _ _ _ _).mono (by omega)
    · exact ((((hB4.setCell (by simp; omega) _).setCell (by simp; omega) _).setCell (by simp) _).setCell (by simp) _)
end Go.Proofs.Ytdcjgepgiaaaoaa
