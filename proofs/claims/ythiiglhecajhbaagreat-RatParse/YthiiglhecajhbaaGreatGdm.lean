/- The second road's fractions: one, greatest common divisors. -/
import Derived.Test.YthiiglhecajhbaaGreatRvm
import Derived.Test.YthiiglhecajhbaaGreatFbm
namespace Go.Proofs.YthiiglhecajhbaaGreat
open Go.RowKit
attribute [local go_sem ↓] Go.wp_at_zero Go.wp_at_succ
theorem Rint.chg {w w' : World} {b : Nat} {v : Value} {z : Int} {n : Nat} (h : Rint w v z n) (hc : Chg b w w') (hb : NoInt w b) : Rint w' v z n := by
  obtain ⟨neg, a, cap, ds, hv, hr, r⟩ := h
  exact ⟨neg, a, cap, ds, hv, hr.chg hc hb, r⟩
theorem box1r (w : World) (v0 v1 : Value) (T : TypeId) : ∃ W, W = w.alloc (.cells #[v0, v1] T) ∧ Below w.heap.size w W ∧ w.heap.size < W.heap.size ∧ W.cell? ⟨w.heap.size, 0, none⟩ = some v0 ∧ W.cell? ⟨w.heap.size, 1, none⟩ = some v1 ∧ W.frozen? ⟨w.heap.size, 0, none⟩ = false ∧ W.frozen? ⟨w.heap.size, 1, none⟩ = false := by
  refine ⟨_, rfl, (Below.refl _ _).alloc (Nat.le_refl _) _, by simp, ?_, ?_, ?_, ?_⟩ <;> simp [go_sem]
set_option maxHeartbeats 1000000 in
theorem rOf_one (w : World) : Calls Tryz.prog 37 #[.int .i64 1] w fun e w' => ∃ v, e = .returned v ∧ Rout w' w.heap.size v 1 1 ∧ Below w.heap.size w w' := by
  obtain ⟨i0, hi, hz0, hz1, hz2⟩ := info_parts Tryz.info3
  obtain ⟨W, hW, hbW, hlt, c4, c5, f4, f5⟩ := box1r w (.bool false) (.slice none 0 0) 32
  obtain ⟨a2, cap2, w2, hr, hown2, hb2⟩ := run_append_row (P := Tryz.prog) (W.alloc (.cells #[.int .i64 1] 3)) 30 30 3 W.heap.size .i64 8 65536 i0 Tryz.underlying30 hi hz0 hz1 hz2 none 0 0 [] (Own.empty _ _ _ _ _) rfl ⟨W.heap.size, 0, none⟩ 1 1 [1] (Row.alloc1 W .i64 3 65536 1 (by decide)) rfl (by omega) (by omega) (by omega) (by simp)
  replace hr : Hid _ := hr
  have hbb : Below W.heap.size W w2 := ((Below.refl _ W).alloc (Nat.le_refl _) _).trans hb2
  have k4 := keep_cell hbb c4
  have k5 := keep_cell hbb c5
  have g4 := keep_frozen hbb c4 f4
  have g5 := keep_frozen hbb c5 f5
  have hBB := bthen hbW hbb
  have hbs := hbW.size
  have hO : ∀ w', Own w' W.heap.size .i64 3 65536 a2 cap2 ([] ++ [1]) → Rout w' w.heap.size (.agg #[.bool false, .slice a2 1 cap2]) 1 1 := by
    intro w' h
    exact ⟨false, a2, cap2, [1], rfl, ⟨h.row, fun x hx => Nat.le_trans hbs (own_block h hx)⟩, ⟨⟨fun _ => by decide, trivial⟩, fun h => by cases h⟩, by simp [num, val], by simp⟩
  go_enter Tryz.func37, Tryz.ntmps37
  go_wp2
  rw [← hW]
  clear hW
  refine wp_loop_rounds 2 ?_
  rw [rounds_succ]
  go_wp2_with (at_builtin; refine wpList_append_run (by rfl) (.tmp 16) (.tmp 18) 30 30 (by rfl) (.slice none 0 0) (.slice (some ⟨W.heap.size, 0, none⟩) 1 1) (by rfl) (by rfl) _ _ hr.out ?_)
  rw [rounds_succ]
  go_wp2
  refine bodyPost_ret (v := .agg #[.bool false, .slice a2 1 cap2]) (by simp [results, Tryz.results37, go_sem, k4, k5]) rfl ⟨_, rfl, hO _ ((hown2.set (by exact hlt) _).set (by exact hlt) _), (hBB.setCell (by simp) _).setCell (by simp) _⟩
set_option maxRecDepth 20000 in
set_option maxHeartbeats 4000000 in
theorem rgcd_any (x y : Option Addr) (cx cy : Nat) (xs ys : List Int) (w : World) (hx : Row w .i64 65536 x cx xs) (hy : Row w .i64 65536 y cy ys) (nx : nrm xs) (ny : nrm ys) (hl : xs.length ≤ 1000) (hl' : ys.length ≤ 1000) :
    Calls Tryz.prog 56 #[.slice x xs.length cx, .slice y ys.length cy] w fun e w' => ∃ a cap ds, e = .returned (.slice a ds.length cap) ∧ Row w' .i64 65536 a cap ds ∧ nrm ds ∧ val 65536 ds = (Nat.gcd (val 65536 xs).toNat (val 65536 ys).toNat : Nat) ∧ ds.length ≤ 1000 ∧ Below w.heap.size w w' := by
  go_enter Tryz.func56, Tryz.ntmps56
  go_wp2
  go_loopg [0, 1, 5, 6] ((val 65536 ys).toNat) (fun k va vb _ _ wr => ∃ (a : Option Addr) (ca : Nat) (us : List Int) (b : Option Addr) (cb : Nat) (bs : List Int), va = .slice a (us.length) ca ∧ vb = .slice b (bs.length) cb ∧ Row wr .i64 65536 a ca us ∧ Row wr .i64 65536 b cb bs ∧ Hid (nrm us) ∧ Hid (nrm bs) ∧ us.length ≤ 1000 ∧ bs.length ≤ 1000 ∧ Hid ((val 65536 bs).toNat = k) ∧ Hid (Nat.gcd (val 65536 us).toNat (val 65536 bs).toNat = Nat.gcd (val 65536 xs).toNat (val 65536 ys).toNat) ∧ Below w.heap.size w wr)
  case atStart => exact ⟨x, cx, xs, y, cy, ys, rfl, rfl, hx, hy, nx, ny, hl, hl', rfl, rfl, Below.refl _ _⟩
  case round =>
    obtain ⟨a, ca, us, b, cb, bs, rfl, rfl, ha, hb, na, nb, la, lb, hk, hg, hB⟩ := hrel
    have va := val_nonneg (B := 65536) (by decide) ha.words
    have vb := val_nonneg (B := 65536) (by decide) hb.words
    by_cases hb0 : bs = []
    · subst hb0
      have hgA : val 65536 us = (Nat.gcd (val 65536 xs).toNat (val 65536 ys).toNat : Nat) := by
        rw [← hg.out]
        simp [val]
        omega
      replace hgA : Hid _ := hgA
      clear hg hk va vb
      go_wp2
      go_ret
      exact ⟨a, ca, us, rfl, ha, na.out, hgA.out, la, hB⟩
    · have hp : 0 < bs.length := List.length_pos_iff.2 hb0
      have hp' : (0 : Int) < (bs.length : Int) := by omega
      have kq := rquo_any a b ca cb us bs wr ha hb (by omega) (by omega) na.out nb.out hb0
      replace kq : Hid _ := kq
      go_wp2_with fail
      refine Calls.mono kq.out ?_
      rintro e w3 ⟨⟨qa, qc, qs, ra, rc, rs, rfl, _, _, hr, nr, _, he, hr0, hrl, _, _⟩, hb3⟩
      have hrlen : rs.length ≤ bs.length := nrm_len (B := 65536) (by decide) hr.words nr (by have := val_lt (B := 65536) (by decide) hb.words; omega)
      have hg2 : Nat.gcd (val 65536 bs).toNat (val 65536 rs).toNat = Nat.gcd (val 65536 xs).toNat (val 65536 ys).toNat := by
        rw [← hg.out]
        have e1 : (val 65536 rs).toNat = (val 65536 us).toNat % (val 65536 bs).toNat := by
          have : val 65536 rs = val 65536 us % val 65536 bs := by
            rw [he, Int.add_comm, Int.add_mul_emod_self_left]
            exact (Int.emod_eq_of_lt hr0 hrl).symm
          rw [this]
          rw [Int.toNat_emod va vb]
        rw [e1, Nat.gcd_comm (val 65536 us).toNat, Nat.gcd_rec (val 65536 bs).toNat (val 65536 us).toNat, Nat.gcd_comm (val 65536 bs).toNat]
      replace hg2 : Hid _ := hg2
      have hbn := hb.next hb3
      have hlt : (val 65536 rs).toNat < gk := by rw [← hk.out]; omega
      replace nr : Hid _ := nr
      have hB3 := bthen hB hb3
      clear kq hg hk he hr0 hrl va vb
      go_wp2
      go_roundg ((val 65536 rs).toNat)
      case measure => exact hlt
      case rel => exact ⟨b, cb, bs, ra, rc, rs, rfl, rfl, hbn, hr, nb.out, nr.out, lb, by omega, rfl, hg2.out, hB3⟩
end Go.Proofs.YthiiglhecajhbaaGreat
namespace Go.Proofs.YthiiglhecajhbaaGreat
open Go.RowKit
attribute [local go_sem ↓] Go.wp_at_zero Go.wp_at_succ
theorem Boxed.rint {base : Nat} {w w' : World} (h : Boxed base w w') {v : Value} {z : Int} {n : Nat} (hb : Rint w v z n) : Rint w' v z n := by
  induction h with
  | refl => exact hb
  | set h g o u hn _ hu ih => exact ih.chg (Chg.set _ _ _ _) (h.noint hn)
  | alloc h o ih => exact ih.next ((Below.refl _ _).alloc (Nat.le_refl _) _)
  | drew h ih => exact ih.next ((Below.refl _ _).drew)
/-- A fraction of the second road. -/
def RatR (w : World) (v : Value) (p q : Int) (m : Nat) : Prop :=
  ∃ n1 a1 l1 c1 n2 a2 l2 c2, v = .agg #[.bool n1, .slice a1 l1 c1, .bool n2, .slice a2 l2 c2] ∧ Rint w (.agg #[.bool n1, .slice a1 l1 c1]) p m ∧ Rint w (.agg #[.bool n2, .slice a2 l2 c2]) q m
theorem RatR.next {w w' : World} {v : Value} {p q : Int} {m : Nat} (h : RatR w v p q m) (hb : Below w.heap.size w w') : RatR w' v p q m := by
  obtain ⟨n1, a1, l1, c1, n2, a2, l2, c2, hv, h1, h2⟩ := h
  exact ⟨n1, a1, l1, c1, n2, a2, l2, c2, hv, h1.next hb, h2.next hb⟩
theorem boxes_ratio (w : World) (m1 : Bool) (a1 : Option Addr) (l1 c1 : Nat) (m2 : Bool) (a2 : Option Addr) (l2 c2 : Nat) : ∃ W, W = ((w.alloc (.cells #[.bool m1, .slice a1 l1 c1] 32)).alloc (.cells #[.bool m2, .slice a2 l2 c2] 32)).alloc (.cells #[.bool false, .slice none 0 0, .bool false, .slice none 0 0] 34) ∧ Below w.heap.size w W ∧
    (W.cell? ⟨w.heap.size, 0, none⟩ = some (.bool m1) ∧ W.cell? ⟨w.heap.size, 1, none⟩ = some (.slice a1 l1 c1) ∧ W.cell? ⟨w.heap.size + 1, 0, none⟩ = some (.bool m2) ∧ W.cell? ⟨w.heap.size + 1, 1, none⟩ = some (.slice a2 l2 c2)) ∧ Box2 W w.heap.size ∧ Box2 W (w.heap.size + 1) ∧ Box4 W (w.heap.size + 1 + 1) := by
  have s1 : (w.alloc (.cells #[.bool m1, .slice a1 l1 c1] 32)).heap.size = w.heap.size + 1 := by simp
  have s2 : ((w.alloc (.cells #[.bool m1, .slice a1 l1 c1] 32)).alloc (.cells #[.bool m2, .slice a2 l2 c2] 32)).heap.size = w.heap.size + 1 + 1 := by simp
  refine ⟨_, rfl, (((Below.refl _ _).alloc (Nat.le_refl _) _).alloc (by simp) _).alloc (by simp; omega) _, ⟨?_, ?_, ?_, ?_⟩, ?b0, ?b1, ?b2⟩
  case b0 => exact (Box2.new w m1 a1 l1 c1 32 (by decide)).next (((Below.refl _ _).alloc (Nat.le_refl _) _).alloc (by simp) _)
  case b1 =>
    have h := Box2.new (w.alloc (.cells #[.bool m1, .slice a1 l1 c1] 32)) m2 a2 l2 c2 32 (by decide)
    rw [s1] at h
    exact h.next ((Below.refl _ _).alloc (Nat.le_refl _) _)
  case b2 =>
    have h := Box4.new ((w.alloc (.cells #[.bool m1, .slice a1 l1 c1] 32)).alloc (.cells #[.bool m2, .slice a2 l2 c2] 32)) false none 0 0 false none 0 0 34 (by decide)
    rw [s2] at h
    exact h
  all_goals simp [go_sem, World.cell?_alloc_past]
def RatioAt (w wc : World) (y z : Int) (m : Nat) : Prop :=
  (∃ n1 a1 l1 c1, wc.cell? ⟨w.heap.size, 0, none⟩ = some (.bool n1) ∧ wc.cell? ⟨w.heap.size, 1, none⟩ = some (.slice a1 l1 c1) ∧ Rint wc (.agg #[.bool n1, .slice a1 l1 c1]) y m) ∧
  (∃ n2 a2 l2 c2, wc.cell? ⟨w.heap.size + 1, 0, none⟩ = some (.bool n2) ∧ wc.cell? ⟨w.heap.size + 1, 1, none⟩ = some (.slice a2 l2 c2) ∧ Rint wc (.agg #[.bool n2, .slice a2 l2 c2]) z m) ∧ Box4 wc (w.heap.size + 1 + 1) ∧ Below w.heap.size w wc
theorem Rint.sign {w : World} {m : Bool} {a : Option Addr} {l c : Nat} {z : Int} {n : Nat} (h : Rint w (.agg #[.bool m, .slice a l c]) z n) : m = decide (z < 0) := by
  obtain ⟨neg, a', cap, ds, hv, hr, hn, hz, _⟩ := h
  simp at hv
  obtain ⟨rfl, rfl, rfl, rfl⟩ := hv
  have hv0 := val_nonneg (B := 65536) (by decide) hr.words
  cases m with
  | false => simp [Go.Proofs.YthiiglhecajhbaaGreat.num] at hz; symm; simp; omega
  | true =>
    have hne := hn.2 rfl
    have : val 65536 ds ≠ 0 := fun e => hne (nrm_unique (B := 65536) (by decide) hr.words (by intro z hz; cases hz) hn.1 trivial (by rw [e]; rfl))
    simp [Go.Proofs.YthiiglhecajhbaaGreat.num] at hz
    symm; simp; omega
theorem put2r {w : World} {g : Nat} (hb : Box2 w g) (m1 : Bool) (a1 : Option Addr) (l1 c1 : Nat) :
    ∃ W, W = (w.setCell ⟨g, 0, none⟩ (.bool m1)).setCell ⟨g, 1, none⟩ (.slice a1 l1 c1) ∧ W.cell? ⟨g, 0, none⟩ = some (.bool m1) ∧ W.cell? ⟨g, 1, none⟩ = some (.slice a1 l1 c1) ∧ (∀ p : Addr, p.block ≠ g → W.cell? p = w.cell? p) ∧ (∀ b, b ≠ g → Box2 w b → Box2 W b) ∧ (∀ b, b ≠ g → Box4 w b → Box4 W b) ∧ (∀ v z n, Rint w v z n → Rint W v z n) ∧ (∀ B w0, Below B w0 w → B ≤ g → Below B w0 W) := by
  obtain ⟨_, _, _, _, p0, p1, _⟩ := hb.cells
  have hB := put2_boxed (base := 0) hb.noint (Nat.zero_le _) m1 a1 l1 c1
  have same : ∀ b, b ≠ g → ((w.setCell ⟨g, 0, none⟩ (.bool m1)).setCell ⟨g, 1, none⟩ (.slice a1 l1 c1)).heap[b]? = w.heap[b]? := fun b hne => by
    rw [Below.heap_setCell _ _ _ _ (fun e => hne e), Below.heap_setCell _ _ _ _ (fun e => hne e)]
  refine ⟨_, rfl, by simp [go_sem, p0], by simp [go_sem, p1], fun p hp => ?_, fun b hne h => h.same (same b hne), fun b hne h => h.same (same b hne), fun v z n h => hB.rint h, fun B w0 h hle => (h.setCell (by simpa using hle) _).setCell (by simpa using hle) _⟩
  rw [World.cell?_setCell_other (h := fun e => hp (by rw [← e])), World.cell?_setCell_other (h := fun e => hp (by rw [← e]))]
theorem Rint.val {w : World} {m : Bool} {a : Option Addr} {l c : Nat} {z : Int} {n : Nat} (h : Rint w (.agg #[.bool m, .slice a l c]) z n) : ∃ ds : List Int, l = ds.length ∧ Row w .i64 65536 a c ds ∧ nrm ds ∧ (Go.Proofs.YthiiglhecajhbaaGreat.val 65536 ds).toNat = z.natAbs ∧ ds.length ≤ n := by
  obtain ⟨neg, a', cap, ds, hv, hr, hn, hz, hl⟩ := h
  simp at hv
  obtain ⟨rfl, rfl, rfl, rfl⟩ := hv
  have hv0 := val_nonneg (B := 65536) (by decide) hr.words
  refine ⟨ds, rfl, hr, hn.1, ?_, hl⟩
  cases m <;> simp [Go.Proofs.YthiiglhecajhbaaGreat.num] at hz <;> omega
set_option maxRecDepth 20000 in
set_option maxHeartbeats 4000000 in
theorem rRatio_num {w : World} {u v : Value} {y z : Int} {m : Nat} (hu : Rint w u y m) (hv : Rint w v z m) (hz : z ≠ 0) (hm : m ≤ 900) :
    Calls Tryz.prog 31 #[u, v] w fun e w' => ∃ t p q, e = .returned t ∧ RatR w' t p q (m + 2) ∧ Low (pN y z) (pD z) p q ∧ Below w.heap.size w w' := by
  obtain ⟨n1, a1, l1, c1, rfl⟩ := hu.form
  obtain ⟨n2, a2, l2, c2, rfl⟩ := hv.form
  obtain ⟨W, hW, hbW, ⟨e0, e1, e2, e3⟩, x0, x1, x2⟩ := boxes_ratio w n1 a1 l1 c1 n2 a2 l2 c2
  have hU := hu.next hbW
  have hV := hv.next hbW
  have hs : Hid (n2 = decide (z < 0)) := hV.sign
  go_enter Tryz.func31, Tryz.ntmps31
  go_upto_region 1 with fail
  rw [← hW]
  clear hW
  go_upto_if 11 with fail
  go_cut [] from 10 (fun wc => RatioAt w wc (pN y z) (pD z) m)
  case first =>
    by_cases hneg : z < 0
    · have hn2 : n2 = true := by rw [hs.out]; simpa using hneg
      subst hn2
      go_wp2_with fail
      refine Calls.mono (rNeg_num hU) ?_
      rintro e w2 ⟨t, rfl, hO, b2⟩
      obtain ⟨n3, a3, l3, c3, rfl⟩ := hO.form
      obtain ⟨W2, hW2, g0, g1, go', gb2, gb4, gx, gB⟩ := put2r (x0.next b2) n3 a3 l3 c3
      obtain ⟨_, _, _, _, q0, q1, qf⟩ := (x0.next b2).cells
      have f0 := qf 0
      have f1 := qf 1
      have hO2 := gx _ _ _ hO
      have hV2 := gx _ _ _ (hV.next b2)
      have r2 : W2.cell? ⟨w.heap.size + 1, 0, none⟩ = some (.bool true) := (go' ⟨w.heap.size + 1, 0, none⟩ (by simp)).trans (keep_cell b2 e2)
      have r3 : W2.cell? ⟨w.heap.size + 1, 1, none⟩ = some (.slice a2 l2 c2) := (go' ⟨w.heap.size + 1, 1, none⟩ (by simp)).trans (keep_cell b2 e3)
      have y1 := gb2 (w.heap.size + 1) (by omega) (x1.next b2)
      have y2 := gb4 (w.heap.size + 1 + 1) (by omega) (x2.next b2)
      have k2 := gB _ _ (bthen hbW b2) (Nat.le_refl _)
      clear qf go' gb2 gb4 gx gB
      go_upto_region 3 with fail
      rw [← hW2]
      clear hW2
      go_wp2_with fail
      refine Calls.mono (rNeg_num hV2) ?_
      rintro e w3 ⟨t, rfl, hP, b3⟩
      obtain ⟨n4, a4, l4, c4, rfl⟩ := hP.form
      obtain ⟨W3, hW3, j0, j1, jo, jb2, jb4, jx, jB⟩ := put2r (y1.next b3) n4 a4 l4 c4
      obtain ⟨_, _, _, _, s0, s1, sf⟩ := (y1.next b3).cells
      have h0 := sf 0
      have h1 := sf 1
      have z0 := (jo ⟨w.heap.size, 0, none⟩ (by simp)).trans (keep_cell b3 g0)
      have z1 := (jo ⟨w.heap.size, 1, none⟩ (by simp)).trans (keep_cell b3 g1)
      have hA : RatioAt w W3 (pN y z) (pD z) m := by
        have eN : pN y z = -y := by unfold pN; rw [if_pos hneg]
        have eD : pD z = -z := by unfold pD; rw [if_neg hz, if_pos hneg]
        rw [eN, eD]
        exact ⟨⟨_, _, _, _, z0, z1, jx _ _ _ (hO2.next b3)⟩, ⟨_, _, _, _, j0, j1, jx _ _ _ hP⟩, jb4 _ (by omega) (y2.next b3), jB _ _ (bthen k2 b3) (by omega)⟩
      clear sf
      go_wp2
      rw [← hW3]
      go_meet
      case rel => exact hA
    · have hn2 : n2 = false := by rw [hs.out]; simpa using hneg
      subst hn2
      have hA : RatioAt w W (pN y z) (pD z) m := by
        have eN : pN y z = y := by unfold pN; rw [if_neg hneg]
        have eD : pD z = z := by unfold pD; rw [if_neg hz, if_neg hneg]
        rw [eN, eD]
        exact ⟨⟨_, _, _, _, e0, e1, hU⟩, ⟨_, _, _, _, e2, e3, hV⟩, x2, hbW⟩
      go_wp2
      go_meet
      case rel => exact hA
  case rest =>
    clear hs hU hV x0 x1 x2 e0 e1 e2 e3 hbW
    obtain ⟨⟨n3, a3, l3, c3, p0, p1, hY⟩, ⟨n4, a4, l4, c4, p2, p3, hZ⟩, y2, hB⟩ := hcut
    have hD := pD_pos z
    obtain ⟨ds, hl3, hr, hn, hv1, hl1⟩ := hY.val
    obtain ⟨es, hl4, hr', hn', hv2, hl2⟩ := hZ.val
    have hlt := y2.noint.lt
    replace hv1 : Hid _ := hv1
    replace hv2 : Hid _ := hv2
    replace hl3 : Hid _ := hl3
    replace hl4 : Hid _ := hl4
    by_cases h0 : pN y z = 0
    · have hd0 : l3 = 0 := hY.digits.2 h0
      subst hd0
      go_wp2_with fail
      refine Calls.mono (rOf_one wc) ?_
      rintro e w5 ⟨t, rfl, hO, b5⟩
      obtain ⟨n5, a5, l5, c5, rfl⟩ := hO.rint.form
      have y4 := y2.next b5
      obtain ⟨_, _, _, _, _, _, _, _, j0, j1, j2, j3, f⟩ := y4.cells
      have f0 := f 0
      have f1 := f 1
      have f2 := f 2
      have f3 := f 3
      clear f
      have hbx : Hid _ := put4_boxed (base := w.heap.size) y4.noint (by omega) false none 0 0 n5 a5 l5 c5
      have hBf := bthen hB b5
      have hz0 : Hid (∀ W', Rint W' (.agg #[.bool false, .slice none 0 0]) 0 (m + 2)) := fun W' => ⟨false, none, 0, [], rfl, Row.empty _ _ _, ⟨trivial, fun h => by cases h⟩, rfl, Nat.zero_le _⟩
      have hOf : Hid _ := (hbx.out.rint hO.rint).mono (m := m + 2) (by omega)
      go_wp2
      exact bodyPost_ret (v := .agg #[.bool false, .slice none 0 0, .bool n5, .slice a5 l5 c5]) (by simp [results, Tryz.results31, go_sem, j0, j1, j2, j3]) rfl ⟨_, 0, 1, rfl, ⟨_, _, _, _, _, _, _, _, rfl, hz0.out _, hOf.out⟩, ⟨by decide, by decide, by rw [h0]; simp⟩, hbx.out.keep hBf (Nat.le_refl _) hBf.size⟩
    · have hd0 : l3 ≠ 0 := fun e => h0 (hY.digits.1 e)
      have hd1 : ¬ ((l3 : Int) = 0) := by omega
      have kg := rgcd_any a3 a4 c3 c4 ds es wc hr hr' hn hn' (by omega) (by omega)
      rw [hv1.out, hv2.out, ← hl3.out, ← hl4.out] at kg
      replace kg : Hid _ := kg
      go_wp2_with fail
      refine Calls.mono kg.out ?_
      rintro e w5 ⟨ga, gc, gs, rfl, hgr, hgn, hgv, hgl, b5⟩
      clear kg
      obtain ⟨g, hg⟩ : ∃ g : Nat, g = Nat.gcd (pN y z).natAbs (pD z).natAbs := ⟨_, rfl⟩
      have hlow := low_of (n := pN y z) hD
      rw [← hg] at hgv hlow
      have hG : Rint w5 (.agg #[.bool false, .slice ga gs.length gc]) (g : Int) 1000 := ⟨false, ga, gc, gs, rfl, hgr, ⟨hgn, fun h => by cases h⟩, by simp [Go.Proofs.YthiiglhecajhbaaGreat.num]; exact hgv, hgl⟩
      obtain ⟨hlow, hg0⟩ := hlow
      replace hlow : Hid _ := hlow
      obtain ⟨lg, hlg⟩ : ∃ lg, lg = gs.length := ⟨_, rfl⟩
      rw [← hlg] at hG ⊢
      clear hgr hgn hgv hgl hlg hg hr hr' hn hn' hv1 hv2 hl1 hl2 hl3 hl4
      obtain ⟨W5, hW5⟩ : ∃ W5, W5 = w5.alloc (.cells #[.bool false, .slice ga lg gc] 32) := ⟨_, rfl⟩
      have b6 : Below w5.heap.size w5 W5 := by rw [hW5]; exact (Below.refl _ _).alloc (Nat.le_refl _) _
      have s0 : W5.cell? ⟨w5.heap.size, 0, none⟩ = some (.bool false) := by rw [hW5]; simp [go_sem]
      have s1 : W5.cell? ⟨w5.heap.size, 1, none⟩ = some (.slice ga lg gc) := by rw [hW5]; simp [go_sem]
      have b56 := bthen b5 b6
      replace p0 := keep_cell b56 p0
      replace p1 := keep_cell b56 p1
      replace p2 := keep_cell b56 p2
      replace p3 := keep_cell b56 p3
      replace hY := hY.next b56
      replace hZ := hZ.next b56
      replace hG := hG.next b6
      replace y2 := y2.next b56
      replace hB := bthen hB b56
      go_upto_region 7 with fail
      rw [← hW5]
      clear hW5 b5 b6 b56 hlt
      generalize w5.heap.size = bg at *
      go_wp2_with fail
      refine Calls.mono (rQuo_num hY hG (by omega) (by decide) (by omega)) ?_
      rintro e w6 ⟨t, t', rfl, hQ, hR, b7⟩
      obtain ⟨n5, a5, l5, c5, rfl⟩ := hQ.form
      obtain ⟨n6, a6, l6, c6, rfl⟩ := hR.form
      obtain ⟨W6, hW6⟩ : ∃ W6, W6 = (w6.alloc (.cells #[.bool n5, .slice a5 l5 c5] 32)).alloc (.cells #[.bool n6, .slice a6 l6 c6] 32) := ⟨_, rfl⟩
      have b8 : Below w6.heap.size w6 W6 := by rw [hW6]; exact ((Below.refl _ _).alloc (Nat.le_refl _) _).alloc (by simp) _
      have t0 : W6.cell? ⟨w6.heap.size, 0, none⟩ = some (.bool n5) := by rw [hW6]; simp [go_sem, World.cell?_alloc_past]
      have t1 : W6.cell? ⟨w6.heap.size, 1, none⟩ = some (.slice a5 l5 c5) := by rw [hW6]; simp [go_sem, World.cell?_alloc_past]
      have b78 := bthen b7 b8
      replace p2 := keep_cell b78 p2
      replace p3 := keep_cell b78 p3
      replace s0 := keep_cell b78 s0
      replace s1 := keep_cell b78 s1
      replace hZ := hZ.next b78
      replace hG := hG.next b78
      replace hQ := hQ.next b8
      replace y2 := y2.next b78
      replace hB := bthen hB b78
      go_upto_region 8 with fail
      rw [← hW6]
      clear hW6 b7 b8 b78 hR hY p0 p1
      generalize w6.heap.size = bq at *
      go_wp2_with fail
      refine Calls.mono (rQuo_num hZ hG (by omega) (by decide) (by omega)) ?_
      rintro e w7 ⟨t, t', rfl, hS, hR, b9⟩
      obtain ⟨n7, a7, l7, c7, rfl⟩ := hS.form
      obtain ⟨n8, a8, l8, c8, rfl⟩ := hR.form
      obtain ⟨W7, hW7⟩ : ∃ W7, W7 = (w7.alloc (.cells #[.bool n7, .slice a7 l7 c7] 32)).alloc (.cells #[.bool n8, .slice a8 l8 c8] 32) := ⟨_, rfl⟩
      have b10 : Below w7.heap.size w7 W7 := by rw [hW7]; exact ((Below.refl _ _).alloc (Nat.le_refl _) _).alloc (by simp) _
      have v0 : W7.cell? ⟨w7.heap.size, 0, none⟩ = some (.bool n7) := by rw [hW7]; simp [go_sem, World.cell?_alloc_past]
      have v1 : W7.cell? ⟨w7.heap.size, 1, none⟩ = some (.slice a7 l7 c7) := by rw [hW7]; simp [go_sem, World.cell?_alloc_past]
      have b90 := bthen b9 b10
      replace t0 := keep_cell b90 t0
      replace t1 := keep_cell b90 t1
      replace hQ := hQ.next b90
      replace hS := hS.next b10
      have y4 := y2.next b90
      replace hB := bthen hB b90
      go_upto_region 9 with fail
      rw [← hW7]
      clear hW7 b9 b10 b90 hR hZ hG p2 p3 s0 s1 y2
      generalize w7.heap.size = bs at *
      obtain ⟨_, _, _, _, _, _, _, _, j0, j1, j2, j3, f⟩ := y4.cells
      have f0 := f 0
      have f1 := f 1
      have f2 := f 2
      have f3 := f 3
      clear f
      have hbx : Hid _ := put4_boxed (base := w.heap.size) y4.noint (by omega) n5 a5 l5 c5 n7 a7 l7 c7
      have hQf : Hid _ := (hbx.out.rint hQ).mono (m := m + 2) (by omega)
      have hSf : Hid _ := (hbx.out.rint hS).mono (m := m + 2) (by omega)
      go_wp2
      exact bodyPost_ret (v := .agg #[.bool n5, .slice a5 l5 c5, .bool n7, .slice a7 l7 c7]) (by simp [results, Tryz.results31, go_sem, j0, j1, j2, j3]) rfl ⟨_, _, _, rfl, ⟨_, _, _, _, _, _, _, _, rfl, hQf.out, hSf.out⟩, hlow.out, hbx.out.keep hB (Nat.le_refl _) hB.size⟩
end Go.Proofs.YthiiglhecajhbaaGreat
namespace Go.Proofs.YthiiglhecajhbaaGreat
open Go.RowKit
attribute [local go_sem ↓] Go.wp_at_zero Go.wp_at_succ
theorem boxes_whole32 (w : World) (n1 : Bool) (a1 : Option Addr) (l1 c1 : Nat) : ∃ W, W = (w.alloc (.cells #[.bool n1, .slice a1 l1 c1] 32)).alloc (.cells #[.bool false, .slice none 0 0, .bool false, .slice none 0 0] 34) ∧ Below w.heap.size w W ∧
    (W.cell? ⟨w.heap.size, 0, none⟩ = some (.bool n1) ∧ W.cell? ⟨w.heap.size, 1, none⟩ = some (.slice a1 l1 c1)) ∧ Box4 W (w.heap.size + 1) := by
  refine ⟨_, rfl, ((Below.refl _ _).alloc (Nat.le_refl _) _).alloc (by simp) _, ⟨?_, ?_⟩, ?n0⟩
  case n0 =>
    have h := Box4.new (w.alloc (.cells #[.bool n1, .slice a1 l1 c1] 32)) false none 0 0 false none 0 0 34 (by decide)
    rw [show (w.alloc (.cells #[.bool n1, .slice a1 l1 c1] 32)).heap.size = w.heap.size + 1 from by simp] at h
    exact h
  all_goals simp [go_sem, World.cell?_alloc_past]
set_option maxRecDepth 20000 in
set_option maxHeartbeats 4000000 in
theorem rWhole_num {w : World} {u : Value} {n : Int} {m : Nat} (hu : Rint w u n m) :
    Calls Tryz.prog 11 #[u] w fun e w' => ∃ t, e = .returned t ∧ RatR w' t n 1 (m + 1) ∧ Below w.heap.size w w' := by
  obtain ⟨n1, a1, l1, c1, rfl⟩ := hu.form
  obtain ⟨W, hW, hbW, ⟨e0, e1⟩, x0⟩ := boxes_whole32 w n1 a1 l1 c1
  have hU := hu.next hbW
  have hD0 : Below W.heap.size W W.drew := (Below.refl _ _).drew
  go_enter Tryz.func11, Tryz.ntmps11
  go_wp2
  rw [← hW]
  clear hW
  go_region_with (go_at_call 37; refine (rOf_one _).mono ?_; rintro e w2 ⟨t, rfl, hO, hb2⟩; obtain ⟨n3, a3, l3, c3, rfl⟩ := hO.rint.form; have hB2 : Below W.heap.size W w2 := bthen hD0 hb2; have p0 := keep_cell hB2 e0; have p1 := keep_cell hB2 e1; have y0 := x0.next hB2; obtain ⟨_, _, _, _, _, _, _, _, j0, j1, j2, j3, f⟩ := y0.cells; have f0 := f 0; have f1 := f 1; have f2 := f 2; have f3 := f 3; clear f)
  all_goals
    have hbx : Hid _ := put4_boxed (base := w.heap.size) y0.noint (by omega) n1 a1 l1 c1 n3 a3 l3 c3
    have hBf := bthen hbW hB2
    have hUf : Hid _ := (hbx.out.rint (hU.next hB2)).mono (m := m + 1) (by omega)
    have hOf : Hid _ := (hbx.out.rint hO.rint).mono (m := m + 1) (by omega)
    clear hO hU hb2 hB2
    go_wp2
    exact bodyPost_ret (v := .agg #[.bool n1, .slice a1 l1 c1, .bool n3, .slice a3 l3 c3]) (by simp [results, Tryz.results11, go_sem, j0, j1, j2, j3]) rfl ⟨_, rfl, ⟨_, _, _, _, _, _, _, _, rfl, hUf.out, hOf.out⟩, hbx.out.keep hBf (Nat.le_refl _) hBf.size⟩
set_option maxRecDepth 20000 in
set_option maxHeartbeats 4000000 in
theorem rIsRat_same {w : World} {u v : Value} {p q : Int} {m k : Nat} (hu : FracE w u p q m) (hv : RatR w v p q k) (hm : m ≤ 1000) (hk : k ≤ 1000) :
    Calls Tryz.prog 10 #[u, v] w fun e w' => e = .returned (.bool true) ∧ Below w.heap.size w w' := by
  obtain ⟨n1, a1, l1, c1, n2, a2, l2, c2, rfl, u1, u2⟩ := hu
  obtain ⟨n3, a3, l3, c3, n4, a4, l4, c4, rfl, v1, v2⟩ := hv
  obtain ⟨W, hW⟩ : ∃ W, W = (w.alloc (.cells #[.bool n1, .slice a1 l1 c1, .bool n2, .slice a2 l2 c2] 26)).alloc (.cells #[.bool n3, .slice a3 l3 c3, .bool n4, .slice a4 l4 c4] 34) := ⟨_, rfl⟩
  have hbW : Below w.heap.size w W := by rw [hW]; exact ((Below.refl _ _).alloc (Nat.le_refl _) _).alloc (by simp) _
  have g0 : W.cell? ⟨w.heap.size, 0, none⟩ = some (.bool n1) := by rw [hW]; simp [go_sem, World.cell?_alloc_past]
  have g1 : W.cell? ⟨w.heap.size, 1, none⟩ = some (.slice a1 l1 c1) := by rw [hW]; simp [go_sem, World.cell?_alloc_past]
  have g2 : W.cell? ⟨w.heap.size, 2, none⟩ = some (.bool n2) := by rw [hW]; simp [go_sem, World.cell?_alloc_past]
  have g3 : W.cell? ⟨w.heap.size, 3, none⟩ = some (.slice a2 l2 c2) := by rw [hW]; simp [go_sem, World.cell?_alloc_past]
  have g4 : W.cell? ⟨w.heap.size + 1, 0, none⟩ = some (.bool n3) := by rw [hW]; simp [go_sem]
  have g5 : W.cell? ⟨w.heap.size + 1, 1, none⟩ = some (.slice a3 l3 c3) := by rw [hW]; simp [go_sem]
  have g6 : W.cell? ⟨w.heap.size + 1, 2, none⟩ = some (.bool n4) := by rw [hW]; simp [go_sem]
  have g7 : W.cell? ⟨w.heap.size + 1, 3, none⟩ = some (.slice a4 l4 c4) := by rw [hW]; simp [go_sem]
  replace u1 := u1.next hbW
  replace u2 := u2.next hbW
  replace v1 := v1.next hbW
  replace v2 := v2.next hbW
  have k1 := Is_num u1 v1 hm hk
  rw [decide_eq_true rfl] at k1
  replace k1 : Hid _ := k1
  go_enter Tryz.func10, Tryz.ntmps10
  go_upto_region 1 with fail
  rw [← hW]
  clear hW
  go_wp2_with fail
  refine Calls.mono k1.out ?_
  rintro e w2 ⟨rfl, b2⟩
  have k2 := Is_num (u2.next b2) (v2.next b2) hm hk
  rw [decide_eq_true rfl] at k2
  replace k2 : Hid _ := k2
  replace g2 := keep_cell b2 g2
  replace g3 := keep_cell b2 g3
  replace g6 := keep_cell b2 g6
  replace g7 := keep_cell b2 g7
  clear k1 g0 g1 g4 g5
  go_wp2_with fail
  refine Calls.mono k2.out ?_
  rintro e w3 ⟨rfl, b3⟩
  clear k2 g2 g3 g6 g7
  go_wp2
  go_ret
  exact ⟨rfl, bthen hbW (bthen b2 b3)⟩
end Go.Proofs.YthiiglhecajhbaaGreat
namespace Go.Proofs.YthiiglhecajhbaaGreat
set_option linter.unusedVariables false
open Go.RowKit
attribute [local go_sem ↓] Go.wp_at_zero Go.wp_at_succ
theorem ld32 {w : World} {p : Nat} {v0 v1 : Value} (h0 : w.cell? ⟨p, 0, none⟩ = some v0) (h1 : w.cell? ⟨p, 1, none⟩ = some v1) {o : Oper} {b : Act} {K : Act → World → Prop} {Q : Exit → Act → World → Prop} (t : Nat) (ho : o.op = .load 32 (.tmp t)) (hb : b.tmps.getD t undef = .pointer (some ⟨p, 0, none⟩)) (h : K (b.put o.dst (.agg #[v0, v1])) w) : o.wp Tryz.prog b w K Q := ld30 h0 h1 t ho hb h
theorem low_same {n d p q p' q' : Int} (hd : 0 < d) (h : Low n d p q) (h' : Low n d p' q') : p = p' ∧ q = q' := by
  refine low_uniq h.1 h'.1 h.2.1 h'.2.1 ?_
  have e1 := h.2.2
  have e2 := h'.2.2
  have : p * q' * d = p' * q * d := by
    have a1 : p * q' * d = p * d * q' := by grind
    have a2 : p' * q * d = p' * d * q := by grind
    rw [a1, a2, e1, e2]
    grind
  exact Int.eq_of_mul_eq_mul_right (by omega) this
theorem Cut_below (n : Bool) (x : Option Addr) (ca m : Nat) (xs : List Int) (w : World) (ha : Row w .u32 4294967296 x ca xs) (hm : m ≤ 1000) :
    Calls Tryz.prog 28 #[.agg #[.bool n, .slice x xs.length ca], .int .i64 m] w fun e w' => e = .returned (.agg #[.bool n, .slice x (xs.take m).length ca]) ∧ Below w.heap.size w w' := by
  refine (Cut_exact n x ca m xs w ha hm).mono ?_
  rintro e w' ⟨rfl, o1, o2, rfl⟩
  exact ⟨rfl, ((Below.refl _ _).alloc (Nat.le_refl _) _).alloc (by simp) _⟩
def RatOfAt (w wc : World) (na nb : Bool) (x y : Option Addr) (ca cb k l : Nat) (Y Z : Int) : Prop :=
  (wc.cell? ⟨w.heap.size, 0, none⟩ = some (.bool na) ∧ wc.cell? ⟨w.heap.size, 1, none⟩ = some (.slice x k ca) ∧ Num wc (.agg #[.bool na, .slice x k ca]) Y 6) ∧
  (wc.cell? ⟨w.heap.size + 1, 0, none⟩ = some (.bool nb) ∧ wc.cell? ⟨w.heap.size + 1, 1, none⟩ = some (.slice y l cb) ∧ Num wc (.agg #[.bool nb, .slice y l cb]) Z 6) ∧ Below w.heap.size w wc
theorem ratof_put {w w3 : World} {na nb : Bool} {x y : Option Addr} {ca cb k l : Nat} {Y Z : Int} (y0 : Box2 w3 w.heap.size) (y1 : Box2 w3 (w.heap.size + 1)) (hNa : Num w3 (.agg #[.bool na, .slice x k ca]) Y 6) (hNb : Num w3 (.agg #[.bool nb, .slice y l cb]) Z 6) (hB : Below w.heap.size w w3) :
    ∃ V, V = (((w3.setCell ⟨w.heap.size, 0, none⟩ (.bool na)).setCell ⟨w.heap.size, 1, none⟩ (.slice x k ca)).setCell ⟨w.heap.size + 1, 0, none⟩ (.bool nb)).setCell ⟨w.heap.size + 1, 1, none⟩ (.slice y l cb) ∧ RatOfAt w V na nb x y ca cb k l Y Z := by
  obtain ⟨V1, hV1, c0, c1, co, c2, _, _, cB⟩ := put2r y0 na x k ca
  obtain ⟨V2, hV2, d0, d1, dO, _, _, _, dB⟩ := put2r (c2 _ (by omega) y1) nb y l cb
  have hBx := put2_boxed (base := 0) y0.noint (Nat.zero_le _) na x k ca
  rw [← hV1] at hBx
  have hBy := put2_boxed (base := 0) (hBx.noint y1.noint) (Nat.zero_le _) nb y l cb
  rw [← hV2] at hBy
  refine ⟨V2, by rw [hV2, hV1], ⟨(dO _ (by simp)).trans c0, (dO _ (by simp)).trans c1, hBy.num (hBx.num hNa)⟩, ⟨d0, d1, hBy.num (hBx.num hNb)⟩, dB _ _ (cB _ _ hB (Nat.le_refl _)) (by omega)⟩
def VO6 (R N D : Value) (b2 b6 b8 : Nat) (Y Z : Int) (t : Nat) (v : Value) (w : World) : Prop := match t with
  | 4 => v = .bool true
  | 5 => v = .bool true
  | 6 => v = .pointer (some ⟨b6, 0, none⟩)
  | 7 => v = .bool false
  | 26 => v = .bool true
  | 27 => v = .bool true
  | 28 => v = .bool false
  | 29 => v = .bool true
  | 30 => v = .bool true
  | 31 => v = .bool true
  | 32 => v = R
  | 33 => v = .agg #[.bool false, .slice none 0 0]
  | 34 => RatR w v 0 1 13
  | 35 => v = .bool true
  | 36 => v = .bool true
  | _ => True
theorem VO6_next (R N D : Value) (b2 b6 b8 : Nat) (Y Z : Int) (t : Nat) (v : Value) (w w' : World) (hb : Below w.heap.size w w') (h : VO6 R N D b2 b6 b8 Y Z t v w) : VO6 R N D b2 b6 b8 Y Z t v w' := by
  unfold VO6 at h ⊢
  split at h <;> first | exact h | exact RatR.next h hb
def VO7 (R N D : Value) (b2 b6 b8 : Nat) (Y Z : Int) (t : Nat) (v : Value) (w : World) : Prop := match t with
  | 2 => v = .pointer (some ⟨b2, 0, none⟩)
  | 4 => v = .bool true
  | 5 => v = .bool true
  | 6 => v = .pointer (some ⟨b6, 0, none⟩)
  | 7 => v = .bool true
  | 8 => v = .pointer (some ⟨b8, 0, none⟩)
  | 37 => v = .bool true
  | 38 => v = .bool true
  | 39 => v = .bool true
  | 40 => v = .bool true
  | 41 => v = .bool true
  | 42 => v = R
  | 43 => v = N
  | 44 => Rint w v Y 12
  | 45 => v = D
  | 46 => ∃ p q, RatR w v p q 14 ∧ Low (pN Y Z) (pD Z) p q
  | 47 => v = .bool true
  | 48 => v = .bool true
  | 49 => v = .bool true
  | 50 => v = N
  | 51 => LowE w v Y 1 10
  | 52 => v = N
  | 53 => Rint w v Y 12
  | 54 => RatR w v Y 1 13
  | 55 => v = .bool true
  | 56 => v = .bool true
  | _ => True
theorem VO7_next (R N D : Value) (b2 b6 b8 : Nat) (Y Z : Int) (t : Nat) (v : Value) (w w' : World) (hb : Below w.heap.size w w') (h : VO7 R N D b2 b6 b8 Y Z t v w) : VO7 R N D b2 b6 b8 Y Z t v w' := by
  unfold VO7 at h ⊢
  split at h <;> first | exact h | exact RatR.next h hb | exact Rint.next h hb | exact LowE.next h hb | (obtain ⟨p, q, h1, h2⟩ := h; exact ⟨p, q, h1.next hb, h2⟩)
set_option maxRecDepth 20000 in
set_option maxHeartbeats 8000000 in
theorem ratOf_any (na nb : Bool) (x y : Option Addr) (ca cb : Nat) (xs ys : List Int) (w : World) (ha : Row w .u32 4294967296 x ca xs) (hb : Row w .u32 4294967296 y cb ys) :
    Calls Tryz.prog 4 #[.agg #[.bool na, .slice x xs.length ca], .agg #[.bool nb, .slice y ys.length cb]] w fun e w' => e = .returned (.bool true) ∧ Below w.heap.size w w' := by
  obtain ⟨W, hW⟩ : ∃ W, W = (w.alloc (.cells #[.bool na, .slice x xs.length ca] 24)).alloc (.cells #[.bool nb, .slice y ys.length cb] 24) := ⟨_, rfl⟩
  have hbW : Below w.heap.size w W := by rw [hW]; exact ((Below.refl _ _).alloc (Nat.le_refl _) _).alloc (by simp) _
  have x0 : Box2 W w.heap.size := by rw [hW]; exact (Box2.new w na x xs.length ca 24 (by decide)).next ((Below.refl _ _).alloc (Nat.le_refl _) _)
  have x1 : Box2 W (w.heap.size + 1) := by
    rw [hW]
    have h := Box2.new (w.alloc (.cells #[.bool na, .slice x xs.length ca] 24)) nb y ys.length cb 24 (by decide)
    rw [show (w.alloc (.cells #[.bool na, .slice x xs.length ca] 24)).heap.size = w.heap.size + 1 from by simp] at h
    exact h
  have e0 : W.cell? ⟨w.heap.size, 0, none⟩ = some (.bool na) := by rw [hW]; simp [go_sem, World.cell?_alloc_past]
  have e1 : W.cell? ⟨w.heap.size, 1, none⟩ = some (.slice x xs.length ca) := by rw [hW]; simp [go_sem, World.cell?_alloc_past]
  have e2 : W.cell? ⟨w.heap.size + 1, 0, none⟩ = some (.bool nb) := by rw [hW]; simp [go_sem]
  have e3 : W.cell? ⟨w.heap.size + 1, 1, none⟩ = some (.slice y ys.length cb) := by rw [hW]; simp [go_sem]
  have kB := begun_said W
  replace kB : Hid _ := kB
  go_enter Tryz.func4, Tryz.ntmps4
  go_upto_region 1 with fail
  rw [← hW]
  clear hW
  go_wp2_with fail
  refine Calls.mono kB.out ?_
  rintro e w1 ⟨rfl, b1⟩
  clear kB
  replace x0 := x0.next b1
  replace x1 := x1.next b1
  replace e0 := keep_cell b1 e0
  replace e1 := keep_cell b1 e1
  replace e2 := keep_cell b1 e2
  replace e3 := keep_cell b1 e3
  have hB1 := bthen hbW b1
  have ha1 := ha.next hB1
  have hb1 := hb.next hB1
  clear hbW b1 ha hb
  have hD0 : Below w1.heap.size w1 w1.drew := (Below.refl _ _).drew
  go_upto_region 2 with fail
  go_cut [] from 9 (fun wc => RatOfAt w wc na nb x y ca cb (xs.take 6).length (ys.take 6).length (num 4294967296 na (xs.take 6)) (num 4294967296 nb (ys.take 6)))
  case first =>
    go_region_with (first
      | (go_at_call_of 28 (Value.slice x xs.length ca); refine (Cut_below na x ca 6 xs _ (ha1.next hD0) (by decide)).mono ?_; rintro e w2 ⟨rfl, b2⟩; have hB2 : Below w1.heap.size w1 w2 := bthen hD0 b2; have p2 := keep_cell hB2 e2; have p3 := keep_cell hB2 e3)
      | (go_at_call_of 28 (Value.slice y ys.length cb); refine (Cut_below nb y cb 6 ys _ (hb1.next hB2) (by decide)).mono ?_; rintro e w3 ⟨rfl, b3⟩; have hB3 : Below w1.heap.size w1 w3 := bthen hB2 b3; have y0 := x0.next hB3; have y1 := x1.next hB3; have q0 := keep_cell hB3 e0; have q1 := keep_cell hB3 e1; have q2 := keep_cell hB3 e2; have q3 := keep_cell hB3 e3; obtain ⟨_, _, _, _, _, _, f⟩ := y0.cells; obtain ⟨_, _, _, _, _, _, f'⟩ := y1.cells; have f0 := f 0; have f1 := f 1; have f2 := f' 0; have f3 := f' 1; clear f f'))
    all_goals
      have hNa : Num w3 (.agg #[.bool na, .slice x (xs.take 6).length ca]) (num 4294967296 na (xs.take 6)) 6 := ⟨na, x, ca, xs.take 6, rfl, (ha1.next hB3).take' 6, rfl, by rw [List.length_take]; omega⟩
      have hNb : Num w3 (.agg #[.bool nb, .slice y (ys.take 6).length cb]) (num 4294967296 nb (ys.take 6)) 6 := ⟨nb, y, cb, ys.take 6, rfl, (hb1.next hB3).take' 6, rfl, by rw [List.length_take]; omega⟩
      obtain ⟨V, hV, hA⟩ := ratof_put y0 y1 hNa hNb (bthen hB1 hB3)
      replace hA : Hid _ := hA
      clear hNa hNb y0 y1 x0 x1 ha1 hb1 hB1 hB2 hB3 hD0 e0 e1 e2 e3
      go_wp2_with fail
      simp only [List.length_take] at hV
      rw [← hV]
      go_meet
      case rel => exact hA.out
  case rest =>
    clear x0 x1 e0 e1 e2 e3 hB1 ha1 hb1 hD0
    obtain ⟨⟨a0, a1, hN⟩, ⟨g0, g1, hD⟩, hB⟩ := hcut
    generalize num 4294967296 na (xs.take 6) = Y at *
    generalize num 4294967296 nb (ys.take 6) = Z at *
    generalize (xs.take 6).length = k at *
    generalize (ys.take 6).length = l at *
    go_wp2_with fail
    refine Calls.mono (Of26_num hN hD (by decide)) ?_
    rintro e w3 ⟨t, rfl, ⟨R, rfl, hR0, hR1⟩, b3⟩
    obtain ⟨bk, hbk⟩ : ∃ bk, bk = decide (Z ≠ 0) := ⟨_, rfl⟩
    rw [← hbk]
    replace hbk : Hid _ := hbk
    have hf : ∃ n1 x1 l1 c1 n2 x2 l2 c2, R = .agg #[.bool n1, .slice x1 l1 c1, .bool n2, .slice x2 l2 c2] := by
      by_cases hz : Z = 0
      · exact (hR0 hz).form
      · exact (hR1 hz).form
    obtain ⟨n1, x1, l1, c1, n2, x2, l2, c2, rfl⟩ := hf
    obtain ⟨W3, hW3⟩ : ∃ W3, W3 = w3.alloc (.cells #[.bool n1, .slice x1 l1 c1, .bool n2, .slice x2 l2 c2] 26) := ⟨_, rfl⟩
    have b4 : Below w3.heap.size w3 W3 := by rw [hW3]; exact (Below.refl _ _).alloc (Nat.le_refl _) _
    have r0 : W3.cell? ⟨w3.heap.size, 0, none⟩ = some (.bool n1) := by rw [hW3]; simp [go_sem]
    have r1 : W3.cell? ⟨w3.heap.size, 1, none⟩ = some (.slice x1 l1 c1) := by rw [hW3]; simp [go_sem]
    have r2 : W3.cell? ⟨w3.heap.size, 2, none⟩ = some (.bool n2) := by rw [hW3]; simp [go_sem]
    have r3 : W3.cell? ⟨w3.heap.size, 3, none⟩ = some (.slice x2 l2 c2) := by rw [hW3]; simp [go_sem]
    have b34 := bthen b3 b4
    replace a0 := keep_cell b34 a0
    replace a1 := keep_cell b34 a1
    replace g0 := keep_cell b34 g0
    replace g1 := keep_cell b34 g1
    replace hN := hN.next b34
    replace hD := hD.next b34
    replace hB := bthen hB b34
    have hR0 := fun h => (hR0 h).next b4
    have hR1 := fun h => (hR1 h).next b4
    replace hR0 := (show Hid _ from hR0)
    replace hR1 := (show Hid _ from hR1)
    go_upto_region 4 with fail
    rw [← hW3]
    clear hW3 b3 b4 b34
    generalize w3.heap.size = p6 at *
    go_wp2_with fail
    refine Calls.mono (From_num hD (by decide)) ?_
    rintro e w4 ⟨t, rfl, hF, b5⟩
    replace hF := hF.rint
    obtain ⟨n3, x3, l3, c3, rfl⟩ := hF.form
    obtain ⟨W4, hW4⟩ : ∃ W4, W4 = w4.alloc (.cells #[.bool n3, .slice x3 l3 c3] 32) := ⟨_, rfl⟩
    have b6 : Below w4.heap.size w4 W4 := by rw [hW4]; exact (Below.refl _ _).alloc (Nat.le_refl _) _
    have d0 : W4.cell? ⟨w4.heap.size, 0, none⟩ = some (.bool n3) := by rw [hW4]; simp [go_sem]
    have d1 : W4.cell? ⟨w4.heap.size, 1, none⟩ = some (.slice x3 l3 c3) := by rw [hW4]; simp [go_sem]
    have b56 := bthen b5 b6
    replace a0 := keep_cell b56 a0
    replace a1 := keep_cell b56 a1
    replace r0 := keep_cell b56 r0
    replace r1 := keep_cell b56 r1
    replace r2 := keep_cell b56 r2
    replace r3 := keep_cell b56 r3
    replace hN := hN.next b56
    replace hF := hF.next b6
    replace hB := bthen hB b56
    have hR0 := fun h => (hR0.out h).next b56
    have hR1 := fun h => (hR1.out h).next b56
    replace hR0 := (show Hid _ from hR0)
    replace hR1 := (show Hid _ from hR1)
    clear hD g0 g1
    go_upto_region 5 with fail
    rw [← hW4]
    clear hW4 b5 b6 b56
    generalize w4.heap.size = p8 at *
    have hdig := hF.digits
    replace hdig : Hid _ := hdig
    by_cases hz : Z = 0
    · have hl0 : l3 = 0 := hdig.out.2 hz
      have hR := hR0.out hz
      have hok : bk = false := by rw [hbk.out]; simp [hz]
      subst hl0
      clear hR0 hR1 hdig hbk
      subst hok
      go_wp2_with fail
      refine wp_region_typed (VO6 (.agg #[.bool n1, .slice x1 l1 c1, .bool n2, .slice x2 l2 c2]) (.agg #[.bool na, .slice x k ca]) (.agg #[.bool n3, .slice x3 0 c3]) w.heap.size p6 p8 Y Z) [5, 6, 7] 57 (by kernel_rfl) (by kernel_rfl) rfl (VO6_next _ _ _ _ _ _ _ _) ?hstart ?hstep ?hend
      case hstart =>
       intro t ht
       simp only [List.mem_cons, List.not_mem_nil, or_false] at ht
       rcases ht with rfl | rfl | rfl <;> rfl
      case hstep =>
       refine steps_cons ?s0 (steps_cons ?s1 (steps_cons ?s2 (steps_cons ?s3 (steps_cons ?s4 (steps_cons ?s5 (steps_cons ?s6 (steps_cons ?s7 (steps_cons ?s8 (steps_cons ?s9 (steps_cons ?s10 (steps_cons ?s11 (steps_nil))))))))))))
       case s0 => exact step_move 5 26 rfl rfl (guard_none rfl) (by kernel_rfl) (fun v w h => h)
       case s1 => exact step_move 26 27 rfl rfl (guard_none rfl) (by kernel_rfl) (fun v w h => h)
       case s2 => exact step_move 7 28 rfl rfl (guard_true 1 27 rfl (by kernel_rfl) (by kernel_rfl) (fun v w h => h)) (by kernel_rfl) (fun v w h => h)
       case s3 =>
        refine StepOk.of (guard_true 1 27 rfl (by kernel_rfl) (by kernel_rfl) (fun v w h => h)) fun b w' hsz hW hl K hK => ?_
        clear hsz
        unfold Oper.wp
        have e28 : b.tmps[28]?.getD undef = .bool false := getD' (look hl 28 (by kernel_rfl))
        go_simp
        exact hK _ _ (Below.refl _ _) (dst_eq rfl rfl)
       case s4 => exact step_pick 27 29 30 (.const (.bool false)) rfl rfl (guard_none rfl) (by kernel_rfl) (by kernel_rfl) (fun v w h => h) (fun v w h => h)
       case s5 => exact step_move 30 31 rfl rfl (guard_none rfl) (by kernel_rfl) (fun v w h => h)
       case s6 => exact StepOk.of (guard_true 5 31 rfl (by kernel_rfl) (by kernel_rfl) (fun v w h => h)) fun b w' hsz hW hl K hK => ld26 (keep_cell hW r0) (keep_cell hW r1) (keep_cell hW r2) (keep_cell hW r3) 6 rfl (look hl 6 (by kernel_rfl)) (hK _ _ (Below.refl _ _) (dst_eq rfl rfl))
       case s7 =>
        refine StepOk.of (guard_true 5 31 rfl (by kernel_rfl) (by kernel_rfl) (fun v w h => h)) fun b w' hsz hW hl K hK => ?_
        clear hsz
        unfold Oper.wp
        go_simp
        exact hK _ _ (Below.refl _ _) (dst_eq rfl rfl)
       case s8 => exact step_call1 11 33 34 _ (by kernel_rfl) rfl rfl (guard_true 5 31 rfl (by kernel_rfl) (by kernel_rfl) (fun v w h => h)) (by kernel_rfl) (fun v w' hB' hv => by have hv : v = .agg #[.bool false, .slice none 0 0] := hv; subst hv; exact (rWhole_num (m := 12) (⟨false, none, 0, [], rfl, Row.empty _ _ _, ⟨trivial, fun h => by cases h⟩, rfl, by decide⟩ : Rint w' _ 0 12)).mono fun e w'' ⟨t, h1, h2, h3⟩ => ⟨_, h1, h2, h3⟩)
       case s9 => exact step_call2 10 32 34 35 _ (by kernel_rfl) rfl rfl (guard_true 5 31 rfl (by kernel_rfl) (by kernel_rfl) (fun v w h => h)) (by kernel_rfl) (by kernel_rfl) (fun u v w' hB' hu hv => by have hu : u = .agg #[.bool n1, .slice x1 l1 c1, .bool n2, .slice x2 l2 c2] := hu; subst hu; exact (rIsRat_same (hR.next hB') (show RatR w' v 0 1 13 from hv) (by decide) (by decide)).mono fun e w'' h => ⟨_, h.1, rfl, h.2⟩)
       case s10 => exact step_pick 31 35 36 (.const (.bool false)) rfl rfl (guard_none rfl) (by kernel_rfl) (by kernel_rfl) (fun v w h => h) (fun v w h => h)
       case s11 => exact step_assign 36 4 rfl rfl (guard_none rfl) (by kernel_rfl) (fun v w h => h)
      case hend =>
       intro b w' hs hd hW hv
       have h0 : b.tmps.getD 4 undef = .bool true := hv 4 (.inr ⟨11, _, rfl, rfl⟩)
       rw [Array.getD_eq_getD_getElem?] at h0
       go_wp2
       exact bodyPost_ret (v := .bool true) (by simp [results, Tryz.results4, go_sem, h0]) hd ⟨rfl, bthen hB hW⟩
    · have hl0 : ¬ ((l3 : Int) = 0) := fun e => hz (hdig.out.1 (by omega))
      have hR := hR1.out hz
      have hok : bk = true := by rw [hbk.out]; simp [hz]
      have hD := hF
      clear hR0 hR1 hdig hbk
      subst hok
      go_wp2_with fail
      refine wp_region_typed (VO7 (.agg #[.bool n1, .slice x1 l1 c1, .bool n2, .slice x2 l2 c2]) (.agg #[.bool na, .slice x k ca]) (.agg #[.bool n3, .slice x3 l3 c3]) w.heap.size p6 p8 Y Z) [2, 5, 6, 7, 8] 57 (by kernel_rfl) (by kernel_rfl) rfl (VO7_next _ _ _ _ _ _ _ _) ?hstart ?hstep ?hend
      case hstart =>
       intro t ht
       simp only [List.mem_cons, List.not_mem_nil, or_false] at ht
       rcases ht with rfl | rfl | rfl | rfl | rfl <;> rfl
      case hstep =>
       refine steps_cons ?s0 (steps_cons ?s1 (steps_cons ?s2 (steps_cons ?s3 (steps_cons ?s4 (steps_cons ?s5 (steps_cons ?s6 (steps_cons ?s7 (steps_cons ?s8 (steps_cons ?s9 (steps_cons ?s10 (steps_cons ?s11 (steps_cons ?s12 (steps_cons ?s13 (steps_cons ?s14 (steps_cons ?s15 (steps_cons ?s16 (steps_cons ?s17 (steps_cons ?s18 (steps_cons ?s19 (steps_cons ?s20 (steps_nil)))))))))))))))))))))
       case s0 => exact step_move 5 37 rfl rfl (guard_none rfl) (by kernel_rfl) (fun v w h => h)
       case s1 => exact step_move 37 38 rfl rfl (guard_none rfl) (by kernel_rfl) (fun v w h => h)
       case s2 => exact step_move 7 39 rfl rfl (guard_true 1 38 rfl (by kernel_rfl) (by kernel_rfl) (fun v w h => h)) (by kernel_rfl) (fun v w h => h)
       case s3 => exact step_pick 38 39 40 (.const (.bool false)) rfl rfl (guard_none rfl) (by kernel_rfl) (by kernel_rfl) (fun v w h => h) (fun v w h => h)
       case s4 => exact step_move 40 41 rfl rfl (guard_none rfl) (by kernel_rfl) (fun v w h => h)
       case s5 => exact StepOk.of (guard_true 4 41 rfl (by kernel_rfl) (by kernel_rfl) (fun v w h => h)) fun b w' hsz hW hl K hK => ld26 (keep_cell hW r0) (keep_cell hW r1) (keep_cell hW r2) (keep_cell hW r3) 6 rfl (look hl 6 (by kernel_rfl)) (hK _ _ (Below.refl _ _) (dst_eq rfl rfl))
       case s6 => exact StepOk.of (guard_true 4 41 rfl (by kernel_rfl) (by kernel_rfl) (fun v w h => h)) fun b w' hsz hW hl K hK => ld24 (keep_cell hW a0) (keep_cell hW a1) 2 rfl (look hl 2 (by kernel_rfl)) (hK _ _ (Below.refl _ _) (dst_eq rfl rfl))
       case s7 => exact step_call1 30 43 44 _ (by kernel_rfl) rfl rfl (guard_true 4 41 rfl (by kernel_rfl) (by kernel_rfl) (fun v w h => h)) (by kernel_rfl) (fun v w' hB' hv => by have hv : v = .agg #[.bool na, .slice x k ca] := hv; subst hv; exact (From_num (hN.next hB') (by decide)).mono fun e w'' ⟨t, h1, h2, h3⟩ => ⟨_, h1, h2.rint, h3⟩)
       case s8 => exact StepOk.of (guard_true 4 41 rfl (by kernel_rfl) (by kernel_rfl) (fun v w h => h)) fun b w' hsz hW hl K hK => ld32 (keep_cell hW d0) (keep_cell hW d1) 8 rfl (look hl 8 (by kernel_rfl)) (hK _ _ (Below.refl _ _) (dst_eq rfl rfl))
       case s9 => exact step_call2 31 44 45 46 _ (by kernel_rfl) rfl rfl (guard_true 4 41 rfl (by kernel_rfl) (by kernel_rfl) (fun v w h => h)) (by kernel_rfl) (by kernel_rfl) (fun u v w' hB' hu hv => by have hv : v = .agg #[.bool n3, .slice x3 l3 c3] := hv; subst hv; exact (rRatio_num (show Rint w' u Y 12 from hu) (hD.next hB') hz (by decide)).mono fun e w'' ⟨t, p, q, h1, h2, h3, h4⟩ => ⟨_, h1, ⟨p, q, h2, h3⟩, h4⟩)
       case s10 => exact step_call2 10 42 46 47 _ (by kernel_rfl) rfl rfl (guard_true 4 41 rfl (by kernel_rfl) (by kernel_rfl) (fun v w h => h)) (by kernel_rfl) (by kernel_rfl) (fun u v w' hB' hu hv => by have hu : u = .agg #[.bool n1, .slice x1 l1 c1, .bool n2, .slice x2 l2 c2] := hu; subst hu; obtain ⟨p, q, h1, h2⟩ := (show ∃ p q, RatR w' v p q 14 ∧ Low (pN Y Z) (pD Z) p q from hv); obtain ⟨p', q', h3, h4⟩ := hR.next hB'; obtain ⟨rfl, rfl⟩ := low_same (pD_pos Z) h2 h4; exact (rIsRat_same h3 h1 (by decide) (by decide)).mono fun e w'' h => ⟨_, h.1, rfl, h.2⟩)
       case s11 => exact step_pick 41 47 48 (.const (.bool false)) rfl rfl (guard_none rfl) (by kernel_rfl) (by kernel_rfl) (fun v w h => h) (fun v w h => h)
       case s12 => exact step_move 48 49 rfl rfl (guard_none rfl) (by kernel_rfl) (fun v w h => h)
       case s13 => exact StepOk.of (guard_true 12 49 rfl (by kernel_rfl) (by kernel_rfl) (fun v w h => h)) fun b w' hsz hW hl K hK => ld24 (keep_cell hW a0) (keep_cell hW a1) 2 rfl (look hl 2 (by kernel_rfl)) (hK _ _ (Below.refl _ _) (dst_eq rfl rfl))
       case s14 => exact step_call1 32 50 51 _ (by kernel_rfl) rfl rfl (guard_true 12 49 rfl (by kernel_rfl) (by kernel_rfl) (fun v w h => h)) (by kernel_rfl) (fun v w' hB' hv => by have hv : v = .agg #[.bool na, .slice x k ca] := hv; subst hv; exact (Whole_num (hN.next hB') (by decide)).mono fun e w'' ⟨t, h1, h2, h3⟩ => ⟨_, h1, h2, h3⟩)
       case s15 => exact StepOk.of (guard_true 12 49 rfl (by kernel_rfl) (by kernel_rfl) (fun v w h => h)) fun b w' hsz hW hl K hK => ld24 (keep_cell hW a0) (keep_cell hW a1) 2 rfl (look hl 2 (by kernel_rfl)) (hK _ _ (Below.refl _ _) (dst_eq rfl rfl))
       case s16 => exact step_call1 30 52 53 _ (by kernel_rfl) rfl rfl (guard_true 12 49 rfl (by kernel_rfl) (by kernel_rfl) (fun v w h => h)) (by kernel_rfl) (fun v w' hB' hv => by have hv : v = .agg #[.bool na, .slice x k ca] := hv; subst hv; exact (From_num (hN.next hB') (by decide)).mono fun e w'' ⟨t, h1, h2, h3⟩ => ⟨_, h1, h2.rint, h3⟩)
       case s17 => exact step_call1 11 53 54 _ (by kernel_rfl) rfl rfl (guard_true 12 49 rfl (by kernel_rfl) (by kernel_rfl) (fun v w h => h)) (by kernel_rfl) (fun v w' hB' hv => (rWhole_num (show Rint w' v Y 12 from hv)).mono fun e w'' ⟨t, h1, h2, h3⟩ => ⟨_, h1, h2, h3⟩)
       case s18 => exact step_call2 10 51 54 55 _ (by kernel_rfl) rfl rfl (guard_true 12 49 rfl (by kernel_rfl) (by kernel_rfl) (fun v w h => h)) (by kernel_rfl) (by kernel_rfl) (fun u v w' hB' hu hv => by obtain ⟨p, q, h1, h2⟩ := (show LowE w' u Y 1 10 from hu); obtain ⟨rfl, rfl⟩ := low_same (by decide) h2 (⟨by decide, by simp, by omega⟩ : Low Y 1 Y 1); exact (rIsRat_same h1 (show RatR w' v _ 1 13 from hv) (by decide) (by decide)).mono fun e w'' h => ⟨_, h.1, rfl, h.2⟩)
       case s19 => exact step_pick 49 55 56 (.const (.bool false)) rfl rfl (guard_none rfl) (by kernel_rfl) (by kernel_rfl) (fun v w h => h) (fun v w h => h)
       case s20 => exact step_assign 56 4 rfl rfl (guard_none rfl) (by kernel_rfl) (fun v w h => h)
      case hend =>
       intro b w' hs hd hW hv
       have h0 : b.tmps.getD 4 undef = .bool true := hv 4 (.inr ⟨20, _, rfl, rfl⟩)
       rw [Array.getD_eq_getD_getElem?] at h0
       go_wp2
       exact bodyPost_ret (v := .bool true) (by simp [results, Tryz.results4, go_sem, h0]) hd ⟨rfl, bthen hB hW⟩
end Go.Proofs.YthiiglhecajhbaaGreat
