/- The second road's numbers: Neg, Add, Sub, Mul, Cmp. -/
import Derived.Test.YtclokcoimdjaeaaGreatDoorRemm
import Derived.Test.YtclokcoimdjaeaaGreatDoorNum
import Derived.Test.YtclokcoimdjaeaaGreatDoorStpm
namespace Go.Proofs.YtclokcoimdjaeaaGreatDoor
open Go.RowKit
attribute [local go_sem ↓] Go.wp_at_zero Go.wp_at_succ
theorem num_neg_pick (n : Bool) (zs : List Int) : num 65536 (!n && decide (0 < zs.length)) zs = - num 65536 n zs := by
  cases n with
  | true => simp [num]
  | false =>
    by_cases h : 0 < zs.length
    · simp [num, h]
    · have : zs = [] := List.eq_nil_of_length_eq_zero (by omega)
      subst this
      simp [num, val]
set_option maxHeartbeats 1000000 in
theorem rNeg_any (na : Bool) (x : Option Addr) (ca : Nat) (n : Nat) (w : World) :
    Calls Tryz.prog 172 #[.agg #[.bool na, .slice x n ca]] w fun e w' => e = .returned (.agg #[.bool (!na && decide (0 < n)), .slice x n ca]) ∧ Below w.heap.size w w' := by
  obtain ⟨W, hW, hbW, hlt, c0, c1, c4, c5, f4, f5⟩ := boxes2t w (.bool na) (.slice x n ca) (.bool false) (.slice none 0 0) 38 38
  cases na with
  | true =>
    go_enter Tryz.func172, Tryz.ntmps172
    go_wp2
    refine bodyPost_ret (v := .agg #[.bool false, .slice x n ca]) (by simp [results, Tryz.results172, go_sem]) rfl ⟨rfl, ?_⟩
    exact ((Below.refl _ _).alloc (Nat.le_refl _) _).alloc (by simp) _
  | false =>
    by_cases hn : 0 < n
    · have hn' : (n : Int) > 0 := by omega
      go_enter Tryz.func172, Tryz.ntmps172
      go_wp2
      refine bodyPost_ret (v := .agg #[.bool true, .slice x n ca]) (by simp [results, Tryz.results172, go_sem]) rfl ⟨by simp [hn], ?_⟩
      exact ((Below.refl _ _).alloc (Nat.le_refl _) _).alloc (by simp) _
    · have hn' : ¬ (n : Int) > 0 := by omega
      go_enter Tryz.func172, Tryz.ntmps172
      go_wp2
      refine bodyPost_ret (v := .agg #[.bool false, .slice x n ca]) (by simp [results, Tryz.results172, go_sem]) rfl ⟨by simp, ?_⟩
      exact ((Below.refl _ _).alloc (Nat.le_refl _) _).alloc (by simp) _
end Go.Proofs.YtclokcoimdjaeaaGreatDoor
namespace Go.Proofs.YtclokcoimdjaeaaGreatDoor
open Go.RowKit
attribute [local go_sem ↓] Go.wp_at_zero Go.wp_at_succ
theorem num_mul_pick (na nb : Bool) (xs ys ds : List Int) (h : val 65536 ds = val 65536 xs * val 65536 ys) : num 65536 ((na != nb) && decide (0 < ds.length)) ds = num 65536 na xs * num 65536 nb ys := by
  by_cases hd : 0 < ds.length
  · cases na <;> cases nb <;> simp [num, h, hd, Int.neg_mul, Int.mul_neg]
  · have e : ds = [] := List.eq_nil_of_length_eq_zero (by omega)
    subst e
    simp only [val_nil] at h
    cases na <;> cases nb <;> simp [num, val, Int.neg_mul, Int.mul_neg, ← h]
set_option maxHeartbeats 2000000 in
theorem rMul_any (na nb : Bool) (x y : Option Addr) (ca cb : Nat) (xs ys : List Int) (w : World) (ha : Row w .i64 65536 x ca xs) (hb : Row w .i64 65536 y cb ys) (hl : xs.length ≤ 900000) (hlb : ys.length ≤ 900000) :
    Calls Tryz.prog 108 #[.agg #[.bool na, .slice x xs.length ca], .agg #[.bool nb, .slice y ys.length cb]] w fun e w' => ∃ v, e = .returned v ∧ Rout w' w.heap.size v (num 65536 na xs * num 65536 nb ys) (xs.length + ys.length + 1) ∧ Below w.heap.size w w' := by
  obtain ⟨W, hW, hbW, hlt, c0, c1, c2, c3, c4, c5, f4, f5⟩ := boxes3 w (.bool na) (.slice x xs.length ca) (.bool nb) (.slice y ys.length cb) (.bool false) (.slice none 0 0) 38
  have haW := ha.next hbW
  have hbW' := hb.next hbW
  go_enter Tryz.func108, Tryz.ntmps108
  go_wp2_with fail
  rw [← hW]
  clear hW
  refine (rmul_any x y ca cb xs ys _ haW hbW' (by omega) (by omega)).mono ?_
  rintro e w2 ⟨a', cap', ds, rfl, hro, hnd, hvd, hld, hB2⟩
  have hnn := num_mul_pick na nb xs ys ds hvd
  have hnm := norm_pick (na != nb) ds hnd
  have hl2 : w.heap.size + 1 + 1 < W.heap.size := hlt
  have hbs := hbW.size
  have hO : ∀ w', Rown w' W.heap.size a' cap' ds → Rout w' w.heap.size (.agg #[.bool ((na != nb) && decide (0 < ds.length)), .slice a' ds.length cap']) (num 65536 na xs * num 65536 nb ys) (xs.length + ys.length + 1) :=
    fun w' ho => ⟨_, _, _, _, rfl, ho.mono hbs, hnm, hnn, hld⟩
  have k0 := keep_cell hB2 c0
  have k2 := keep_cell hB2 c2
  have k4 := keep_cell hB2 c4
  have k5 := keep_cell hB2 c5
  have g4 := keep_frozen hB2 c4 f4
  have g5 := keep_frozen hB2 c5 f5
  clear hnn hnm hvd hnd hld
  have hBB := ((bthen hbW hB2).setCell (p := ⟨w.heap.size + 1 + 1, 0, none⟩) (by simp; omega) (.bool ((na != nb) && decide (0 < ds.length)))).setCell (p := ⟨w.heap.size + 1 + 1, 1, none⟩) (by simp; omega) (.slice a' ds.length cap')
  have hOO := hO _ ((hro.set (p := ⟨w.heap.size + 1 + 1, 0, none⟩) (by exact hl2) (.bool ((na != nb) && decide (0 < ds.length)))).set (p := ⟨w.heap.size + 1 + 1, 1, none⟩) (by exact hl2) (.slice a' ds.length cap'))
  by_cases hnn : na = nb
  · have hne : (na != nb) = false := by simp [hnn]
    rw [hne] at hBB hOO
    go_wp2
    exact bodyPost_ret (v := .agg #[.bool false, .slice a' ds.length cap']) (by simp [results, Tryz.results108, go_sem, k4, k5]) rfl ⟨_, rfl, hOO, hBB⟩
  · have hne : (na != nb) = true := by simp [hnn]
    have hne2 : (!na == nb) = true := by cases na <;> cases nb <;> simp at hnn ⊢
    rw [hne] at hBB hOO
    by_cases hd : 0 < ds.length
    · have hd' : (ds.length : Int) > 0 := by omega
      rw [decide_eq_true hd] at hBB hOO
      go_wp2
      exact bodyPost_ret (v := .agg #[.bool true, .slice a' ds.length cap']) (by simp [results, Tryz.results108, go_sem, k4, k5]) rfl ⟨_, rfl, by simpa [hd, hne2] using hOO, by simpa [hd, hne2] using hBB⟩
    · have hd' : ¬ (ds.length : Int) > 0 := by omega
      rw [decide_eq_false hd] at hBB hOO
      go_wp2
      exact bodyPost_ret (v := .agg #[.bool false, .slice a' ds.length cap']) (by simp [results, Tryz.results108, go_sem, k4, k5]) rfl ⟨_, rfl, by simpa [hd, hne2] using hOO, by simpa [hd, hne2] using hBB⟩
end Go.Proofs.YtclokcoimdjaeaaGreatDoor
namespace Go.Proofs.YtclokcoimdjaeaaGreatDoor
open Go.RowKit
theorem From_num {w : World} {u : Value} {y : Int} {m : Nat} (hu : Num w u y m) (hm : m ≤ 1000) :
    Calls Tryz.prog 155 #[u] w fun e w' => ∃ t, e = .returned t ∧ Rout w' w.heap.size t y (2 * m) ∧ Below w.heap.size w w' := by
  obtain ⟨na, x, ca, xs, rfl, ha, rfl, hl⟩ := hu
  refine (From_any na x ca xs w ha (by omega)).mono ?_
  rintro e w' ⟨t, rfl, ⟨neg, a, cap, ds, r1, r2, r3, r4, r5⟩, h⟩
  exact ⟨t, rfl, ⟨neg, a, cap, ds, r1, r2, r3, r4, by omega⟩, h⟩
theorem Is_num {w : World} {u v : Value} {y z : Int} {m n : Nat} (hu : OutE w u y m) (hv : Rint w v z n) (hm : m ≤ 1000) (hn : n ≤ 1000) :
    Calls Tryz.prog 154 #[u, v] w fun e w' => e = .returned (.bool (decide (y = z))) ∧ Below w.heap.size w w' := by
  obtain ⟨b, na, x, ca, xs, rfl, ha, hna, rfl, hl⟩ := hu
  obtain ⟨nb, x', cb, ys, rfl, hb, hnb, rfl, hl'⟩ := hv
  exact Is_any na nb x x' ca cb xs ys w ha.row hna hb hnb (by omega) (by omega)
theorem rMul_num {w : World} {u v : Value} {y z : Int} {m n : Nat} (hu : Rint w u y m) (hv : Rint w v z n) (hm : m ≤ 1000) (hn : n ≤ 1000) :
    Calls Tryz.prog 108 #[u, v] w fun e w' => ∃ t, e = .returned t ∧ Rint w' t (y * z) (m + n + 1) ∧ Below w.heap.size w w' := by
  obtain ⟨na, x, ca, xs, rfl, ha, hna, rfl, hl⟩ := hu
  obtain ⟨nb, x', cb, ys, rfl, hb, hnb, rfl, hl'⟩ := hv
  refine (rMul_any na nb x x' ca cb xs ys w ha hb (by omega) (by omega)).mono ?_
  rintro e w' ⟨t, rfl, ho, h⟩
  exact ⟨t, rfl, ho.rint.mono (by omega), h⟩
theorem rNeg_num {w : World} {u : Value} {y : Int} {m : Nat} (hu : Rint w u y m) :
    Calls Tryz.prog 172 #[u] w fun e w' => ∃ t, e = .returned t ∧ Rint w' t (-y) m ∧ Below w.heap.size w w' := by
  obtain ⟨na, x, ca, xs, rfl, ha, hna, rfl, hl⟩ := hu
  refine (rNeg_any na x ca xs.length w).mono ?_
  rintro e w' ⟨rfl, h⟩
  exact ⟨_, rfl, ⟨_, _, _, _, rfl, ha.next h, norm_pick _ _ hna.1, num_neg_pick na xs, hl⟩, h⟩
theorem ld30 {w : World} {p : Nat} {v0 v1 : Value} (h0 : w.cell? ⟨p, 0, none⟩ = some v0) (h1 : w.cell? ⟨p, 1, none⟩ = some v1) {o : Oper} {b : Act} {K : Act → World → Prop} {Q : Exit → Act → World → Prop} (t : Nat) (ho : o.op = .load 38 (.tmp t)) (hb : b.tmps.getD t undef = .pointer (some ⟨p, 0, none⟩)) (h : K (b.put o.dst (.agg #[v0, v1])) w) : o.wp Tryz.prog b w K Q := by
  obtain ⟨dst, op, type, pos, after, guard⟩ := o
  dsimp only at ho
  subst ho
  unfold Oper.wp
  have e : b.eval (.tmp t) = .pointer (some ⟨p, 0, none⟩) := hb
  go_simp
  exact h
end Go.Proofs.YtclokcoimdjaeaaGreatDoor
namespace Go.Proofs.YtclokcoimdjaeaaGreatDoor
open Go.RowKit
attribute [local go_sem ↓] Go.wp_at_zero Go.wp_at_succ
theorem rquo_any (x y : Option Addr) (ca cb : Nat) (xs ys : List Int) (w : World) (ha : Row w .i64 65536 x ca xs) (hb : Row w .i64 65536 y cb ys) (hl : xs.length ≤ 900000) (hlb : ys.length ≤ 900000) (nx : nrm xs) (ny : nrm ys) (hy : ys ≠ []) :
    Calls Tryz.prog 173 #[.slice x xs.length ca, .slice y ys.length cb] w fun e w' => RquoOut w w' e x xs ys ∧ Below w.heap.size w w' := by
  have hp := List.length_pos_iff.2 hy
  by_cases h1 : ys.length = 1
  · exact rquo_one x y ca cb xs ys w ha hb hl ny h1
  · by_cases hv : val 65536 xs < val 65536 ys
    · exact rquo_less x y ca cb xs ys w ha hb hl hlb nx ny h1 hv
    · obtain ⟨m, hm⟩ : ∃ m, ys.length = m + 1 := ⟨ys.length - 1, by omega⟩
      exact rquo_long x y ca cb m xs ys w ha hb hl nx ny hm (by omega) (by omega)
theorem Row.keepset {w : World} {k : IntKind} {B : Int} {a : Option Addr} {cap : Nat} {zs : List Int} (h : Row w k B a cap zs) {p : Addr} {u : Value} (hn : ∀ x, a = some x → zs ≠ [] → x.block ≠ p.block) : Row (w.setCell p u) k B a cap zs :=
  ⟨h.le, h.max, h.nil, fun x hx i hi => keep_set (h.cell x hx i hi) (by rw [add_block]; exact Ne.symm (hn x hx (by intro e; subst e; simp at hi))), h.words⟩
theorem num_pick (B : Int) (b : Bool) (zs : List Int) : num B (b && decide (0 < zs.length)) zs = num B b zs := by
  by_cases h : 0 < zs.length
  · simp [h]
  · have e : zs = [] := List.eq_nil_of_length_eq_zero (by omega)
    subst e
    cases b <;> simp [num, val]
set_option maxHeartbeats 4000000 in
set_option maxRecDepth 20000 in
theorem rQuo_any (na nb : Bool) (x y : Option Addr) (ca cb : Nat) (xs ys : List Int) (w : World) (ha : Row w .i64 65536 x ca xs) (hna : Norm na xs) (hb : Row w .i64 65536 y cb ys) (hnb : Norm nb ys) (hl : xs.length ≤ 900000) (hlb : ys.length ≤ 900000) (hy : ys ≠ []) :
    Calls Tryz.prog 106 #[.agg #[.bool na, .slice x xs.length ca], .agg #[.bool nb, .slice y ys.length cb]] w fun e w' => ∃ u v, e = .returned (.tuple #[u, v]) ∧ Rint w' u ((num 65536 na xs).tdiv (num 65536 nb ys)) (xs.length + 1) ∧ Rint w' v ((num 65536 na xs).tmod (num 65536 nb ys)) (xs.length + 1) ∧ Below w.heap.size w w' := by
  obtain ⟨W, hW, hbW, hlt, c0, c1, c2, c3, c4, c5, c6, c7, f4, f5, f6, f7⟩ := boxes4 w (.bool na) (.slice x xs.length ca) (.bool nb) (.slice y ys.length cb) (.bool false) (.slice none 0 0) 38
  have kq := rquo_any x y ca cb xs ys W (ha.next hbW) (hb.next hbW) hl hlb hna.1 hnb.1 hy
  replace kq : Hid _ := kq
  go_enter Tryz.func106, Tryz.ntmps106
  go_wp2_with fail
  rw [← hW]
  clear hW
  refine Calls.mono kq.out ?_
  rintro e w2 ⟨⟨qa, qc, qs, ra, rc, rs, rfl, hqo, hqn, hrr, hrn, hrd, hval, hr0, hr1, hql, hrl⟩, hB2⟩
  clear kq
  have htd := tdiv_num na nb hval (val_nonneg (by decide) hqo.1.words) hr0 hr1
  have hbne : (!na == nb) = (na != nb) := by cases na <;> cases nb <;> rfl
  rw [hbne] at htd
  have hne : ∀ z, ra = some z → rs ≠ [] → z.block < w.heap.size ∨ W.heap.size ≤ z.block := by
    intro z hz hrs
    rcases hrd with ⟨h1, h2⟩ | h1
    · left
      have := cell_lt (ha.cell z (by rw [← h1]; exact hz) 0 (by rw [← h2]; exact List.length_pos_iff.2 hrs))
      rwa [add_block] at this
    · exact .inr (h1 z hz)
  have hfin : ∀ (b1 b2 : Bool), Rint ((((w2.setCell ⟨w.heap.size + 1 + 1, 0, none⟩ (.bool b1)).setCell ⟨w.heap.size + 1 + 1, 1, none⟩ (.slice qa qs.length qc)).setCell ⟨w.heap.size + 1 + 1 + 1, 0, none⟩ (.bool b2)).setCell ⟨w.heap.size + 1 + 1 + 1, 1, none⟩ (.slice ra rs.length rc)) (.agg #[.bool ((na != nb) && decide (0 < qs.length)), .slice qa qs.length qc]) ((num 65536 na xs).tdiv (num 65536 nb ys)) (xs.length + 1) ∧
      Rint ((((w2.setCell ⟨w.heap.size + 1 + 1, 0, none⟩ (.bool b1)).setCell ⟨w.heap.size + 1 + 1, 1, none⟩ (.slice qa qs.length qc)).setCell ⟨w.heap.size + 1 + 1 + 1, 0, none⟩ (.bool b2)).setCell ⟨w.heap.size + 1 + 1 + 1, 1, none⟩ (.slice ra rs.length rc)) (.agg #[.bool (na && decide (0 < rs.length)), .slice ra rs.length rc]) ((num 65536 na xs).tmod (num 65536 nb ys)) (xs.length + 1) := by
    intro b1 b2
    refine ⟨⟨_, _, _, _, rfl, ((((hqo.set (by simp; omega) _).set (by simp; omega) _).set (by simp; omega) _).set (by simp; omega) _).1, norm_pick _ _ hqn, by rw [num_pick]; exact htd.1, hql⟩, ⟨_, _, _, _, rfl, ?_, norm_pick _ _ hrn, by rw [num_pick]; exact htd.2, hrl⟩⟩
    exact (((hrr.keepset (fun z hz hs => by have := hne z hz hs; simp; omega)).keepset (fun z hz hs => by have := hne z hz hs; simp; omega)).keepset (fun z hz hs => by have := hne z hz hs; simp; omega)).keepset (fun z hz hs => by have := hne z hz hs; simp; omega)
  have hBB := bthen hbW hB2
  have k0 := keep_cell hB2 c0
  have k2 := keep_cell hB2 c2
  have k4 := keep_cell hB2 c4
  have k5 := keep_cell hB2 c5
  have k6 := keep_cell hB2 c6
  have k7 := keep_cell hB2 c7
  have g4 := keep_frozen hB2 c4 f4
  have g5 := keep_frozen hB2 c5 f5
  have g6 := keep_frozen hB2 c6 f6
  have g7 := keep_frozen hB2 c7 f7
  clear htd hne hval hr0 hr1 hrd hqo hrr hqn hrn hbne hql hrl
  replace hfin : Hid _ := hfin
  generalize qs.length = ql at *
  generalize rs.length = rl at *
  have hq : (0 < ql ∧ (ql : Int) > 0) ∨ (¬ 0 < ql ∧ ¬ (ql : Int) > 0) := by omega
  have hr : (0 < rl ∧ (rl : Int) > 0) ∨ (¬ 0 < rl ∧ ¬ (rl : Int) > 0) := by omega
  have fin : ∀ (b1 b2 : Bool), b1 = ((na != nb) && decide (0 < ql)) → b2 = (na && decide (0 < rl)) → ∃ u v, Ending.returned (.tuple #[.agg #[.bool b1, .slice qa ql qc], .agg #[.bool b2, .slice ra rl rc]]) = .returned (.tuple #[u, v]) ∧ Rint ((((w2.setCell ⟨w.heap.size + 1 + 1, 0, none⟩ (.bool b1)).setCell ⟨w.heap.size + 1 + 1, 1, none⟩ (.slice qa ql qc)).setCell ⟨w.heap.size + 1 + 1 + 1, 0, none⟩ (.bool b2)).setCell ⟨w.heap.size + 1 + 1 + 1, 1, none⟩ (.slice ra rl rc)) u ((num 65536 na xs).tdiv (num 65536 nb ys)) (xs.length + 1) ∧ Rint ((((w2.setCell ⟨w.heap.size + 1 + 1, 0, none⟩ (.bool b1)).setCell ⟨w.heap.size + 1 + 1, 1, none⟩ (.slice qa ql qc)).setCell ⟨w.heap.size + 1 + 1 + 1, 0, none⟩ (.bool b2)).setCell ⟨w.heap.size + 1 + 1 + 1, 1, none⟩ (.slice ra rl rc)) v ((num 65536 na xs).tmod (num 65536 nb ys)) (xs.length + 1) ∧ Below w.heap.size w ((((w2.setCell ⟨w.heap.size + 1 + 1, 0, none⟩ (.bool b1)).setCell ⟨w.heap.size + 1 + 1, 1, none⟩ (.slice qa ql qc)).setCell ⟨w.heap.size + 1 + 1 + 1, 0, none⟩ (.bool b2)).setCell ⟨w.heap.size + 1 + 1 + 1, 1, none⟩ (.slice ra rl rc)) := by
    intro b1 b2 h1 h2
    have hh := hfin.out b1 b2
    rw [← h1, ← h2] at hh
    exact ⟨_, _, rfl, hh.1, hh.2, (((hBB.setCell (by simp; omega) _).setCell (by simp; omega) _).setCell (by simp; omega) _).setCell (by simp; omega) _⟩
  clear hfin hBB hB2
  replace fin : Hid _ := fin
  have n1 : w.heap.size + 1 + 1 ≠ w.heap.size + 1 + 1 + 1 := by omega
  rcases hq with ⟨hq, hq'⟩ | ⟨hq, hq'⟩ <;> rcases hr with ⟨hr, hr'⟩ | ⟨hr, hr'⟩ <;> cases na <;> cases nb
  all_goals
    go_wp2
    refine bodyPost_ret ?_ rfl (fin.out _ _ ?_ ?_)
    · simp [results, Tryz.results106, go_sem, k4, k5, k6, k7, cell_set_ne]
    · simp [hq]
    · simp [hr]
end Go.Proofs.YtclokcoimdjaeaaGreatDoor
namespace Go.Proofs.YtclokcoimdjaeaaGreatDoor
open Go.RowKit
theorem rQuo_num {w : World} {u v : Value} {y z : Int} {m n : Nat} (hu : Rint w u y m) (hv : Rint w v z n) (hm : m ≤ 1000) (hn : n ≤ 1000) (hz : z ≠ 0) :
    Calls Tryz.prog 106 #[u, v] w fun e w' => ∃ t t', e = .returned (.tuple #[t, t']) ∧ Rint w' t (y.tdiv z) (m + 1) ∧ Rint w' t' (y.tmod z) (m + 1) ∧ Below w.heap.size w w' := by
  obtain ⟨na, x, ca, xs, rfl, ha, hna, rfl, hl⟩ := hu
  obtain ⟨nb, x', cb, ys, rfl, hb, hnb, rfl, hl'⟩ := hv
  refine (rQuo_any na nb x x' ca cb xs ys w ha hna hb hnb (by omega) (by omega) (fun e => hz (by subst e; cases nb <;> simp [num, val]))).mono ?_
  rintro e w' ⟨t, t', rfl, h1, h2, h⟩
  exact ⟨t, t', rfl, h1.mono (by omega), h2.mono (by omega), h⟩
/-- A number of the second road is zero just if it has no digits. -/
theorem Rint.digits {w : World} {m : Bool} {a : Option Addr} {l c : Nat} {z : Int} {n : Nat} (h : Rint w (.agg #[.bool m, .slice a l c]) z n) : l = 0 ↔ z = 0 := by
  obtain ⟨neg, a', cap, ds, hv, hr, hn, hz, _⟩ := h
  simp at hv
  obtain ⟨rfl, rfl, rfl, rfl⟩ := hv
  constructor
  · intro h0
    have e : ds = [] := List.eq_nil_of_length_eq_zero h0
    subst e
    cases m <;> simp [num, val] at hz <;> omega
  · intro h0
    by_cases e : ds = []
    · simp [e]
    · have := nrm_val_pos (B := 65536) (by decide) hr.words hn.1 e
      cases m <;> simp [num] at hz <;> omega
end Go.Proofs.YtclokcoimdjaeaaGreatDoor
