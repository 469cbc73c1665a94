/- The second road's fractions: one, greatest common divisors. -/
import Derived.Test.YtclokcoimdjaeaaGreatDoorRvmm
import Derived.Test.YtclokcoimdjaeaaGreatDoorNemm
namespace Go.Proofs.YtclokcoimdjaeaaGreatDoor
open Go.RowKit
attribute [local go_sem ↓] Go.wp_at_zero Go.wp_at_succ
theorem Rint.chg {w w' : World} {b : Nat} {v : Value} {z : Int} {n : Nat} (h : Rint w v z n) (hc : Chg b w w') (hb : NoInt w b) : Rint w' v z n := by
  obtain ⟨neg, a, cap, ds, hv, hr, r⟩ := h
  exact ⟨neg, a, cap, ds, hv, hr.chg hc hb, r⟩
theorem box1r (w : World) (v0 v1 : Value) (T : TypeId) : ∃ W, W = w.alloc (.cells #[v0, v1] T) ∧ Below w.heap.size w W ∧ w.heap.size < W.heap.size ∧ W.cell? ⟨w.heap.size, 0, none⟩ = some v0 ∧ W.cell? ⟨w.heap.size, 1, none⟩ = some v1 ∧ W.frozen? ⟨w.heap.size, 0, none⟩ = false ∧ W.frozen? ⟨w.heap.size, 1, none⟩ = false := by
  refine ⟨_, rfl, (Below.refl _ _).alloc (Nat.le_refl _) _, by simp, ?_, ?_, ?_, ?_⟩ <;> simp [go_sem]
set_option maxHeartbeats 1000000 in
theorem rOf_one (w : World) : Calls Tryz.prog 68 #[.int .i64 1] w fun e w' => ∃ v, e = .returned v ∧ Rout w' w.heap.size v 1 1 ∧ Below w.heap.size w w' := by
  obtain ⟨i0, hi, hz0, hz1, hz2⟩ := info_parts Tryz.info3
  obtain ⟨W, hW, hbW, hlt, c4, c5, f4, f5⟩ := box1r w (.bool false) (.slice none 0 0) 38
  obtain ⟨a2, cap2, w2, hr, hown2, hb2⟩ := run_append_row (P := Tryz.prog) (W.alloc (.cells #[.int .i64 1] 3)) 36 36 3 W.heap.size .i64 8 65536 i0 Tryz.underlying36 hi hz0 hz1 hz2 none 0 0 [] (Own.empty _ _ _ _ _) rfl ⟨W.heap.size, 0, none⟩ 1 1 [1] (Row.alloc1 W .i64 3 65536 1 (by decide)) rfl (by omega) (by omega) (by omega) (by simp)
  replace hr : Hid _ := hr
  have hbb : Below W.heap.size W w2 := ((Below.refl _ W).alloc (Nat.le_refl _) _).trans hb2
  have k4 := keep_cell hbb c4
  have k5 := keep_cell hbb c5
  have g4 := keep_frozen hbb c4 f4
  have g5 := keep_frozen hbb c5 f5
  have hBB := bthen hbW hbb
  have hbs := hbW.size
  have hO : ∀ w', Own w' W.heap.size .i64 3 65536 a2 cap2 ([] ++ [1]) → Rout w' w.heap.size (.agg #[.bool false, .slice a2 1 cap2]) 1 1 := by
    intro w' h
    exact ⟨false, a2, cap2, [1], rfl, ⟨h.row, fun x hx => Nat.le_trans hbs (own_block h hx)⟩, ⟨⟨fun _ => by decide, trivial⟩, fun h => by cases h⟩, by simp [num, val], by simp⟩
  go_enter Tryz.func68, Tryz.ntmps68
  go_wp2
  rw [← hW]
  clear hW
  refine wp_loop_rounds 2 ?_
  rw [rounds_succ]
  go_wp2_with (at_builtin; refine wpList_append_run (by rfl) (.tmp 16) (.tmp 18) 36 36 (by rfl) (.slice none 0 0) (.slice (some ⟨W.heap.size, 0, none⟩) 1 1) (by rfl) (by rfl) _ _ hr.out ?_)
  rw [rounds_succ]
  go_wp2
  refine bodyPost_ret (v := .agg #[.bool false, .slice a2 1 cap2]) (by simp [results, Tryz.results68, go_sem, k4, k5]) rfl ⟨_, rfl, hO _ ((hown2.set (by exact hlt) _).set (by exact hlt) _), (hBB.setCell (by simp) _).setCell (by simp) _⟩
set_option maxRecDepth 20000 in
set_option maxHeartbeats 4000000 in
theorem rgcd_any (x y : Option Addr) (cx cy : Nat) (xs ys : List Int) (w : World) (hx : Row w .i64 65536 x cx xs) (hy : Row w .i64 65536 y cy ys) (nx : nrm xs) (ny : nrm ys) (hl : xs.length ≤ 1000) (hl' : ys.length ≤ 1000) :
    Calls Tryz.prog 218 #[.slice x xs.length cx, .slice y ys.length cy] w fun e w' => ∃ a cap ds, e = .returned (.slice a ds.length cap) ∧ Row w' .i64 65536 a cap ds ∧ nrm ds ∧ val 65536 ds = (Nat.gcd (val 65536 xs).toNat (val 65536 ys).toNat : Nat) ∧ ds.length ≤ 1000 ∧ Below w.heap.size w w' := by
  go_enter Tryz.func218, Tryz.ntmps218
  go_wp2
  go_loopg [0, 1, 5, 6] ((val 65536 ys).toNat) (fun k va vb _ _ wr => ∃ (a : Option Addr) (ca : Nat) (us : List Int) (b : Option Addr) (cb : Nat) (bs : List Int), va = .slice a (us.length) ca ∧ vb = .slice b (bs.length) cb ∧ Row wr .i64 65536 a ca us ∧ Row wr .i64 65536 b cb bs ∧ Hid (nrm us) ∧ Hid (nrm bs) ∧ us.length ≤ 1000 ∧ bs.length ≤ 1000 ∧ Hid ((val 65536 bs).toNat = k) ∧ Hid (Nat.gcd (val 65536 us).toNat (val 65536 bs).toNat = Nat.gcd (val 65536 xs).toNat (val 65536 ys).toNat) ∧ Below w.heap.size w wr)
  case atStart => exact ⟨x, cx, xs, y, cy, ys, rfl, rfl, hx, hy, nx, ny, hl, hl', rfl, rfl, Below.refl _ _⟩
  case round =>
    obtain ⟨a, ca, us, b, cb, bs, rfl, rfl, ha, hb, na, nb, la, lb, hk, hg, hB⟩ := hrel
    have va := val_nonneg (B := 65536) (by decide) ha.words
    have vb := val_nonneg (B := 65536) (by decide) hb.words
    by_cases hb0 : bs = []
    · subst hb0
      have hgA : val 65536 us = (Nat.gcd (val 65536 xs).toNat (val 65536 ys).toNat : Nat) := by
        rw [← hg.out]
        simp [val]
        omega
      replace hgA : Hid _ := hgA
      clear hg hk va vb
      go_wp2
      go_ret
      exact ⟨a, ca, us, rfl, ha, na.out, hgA.out, la, hB⟩
    · have hp : 0 < bs.length := List.length_pos_iff.2 hb0
      have hp' : (0 : Int) < (bs.length : Int) := by omega
      have kq := rquo_any a b ca cb us bs wr ha hb (by omega) (by omega) na.out nb.out hb0
      replace kq : Hid _ := kq
      go_wp2_with fail
      refine Calls.mono kq.out ?_
      rintro e w3 ⟨⟨qa, qc, qs, ra, rc, rs, rfl, _, _, hr, nr, _, he, hr0, hrl, _, _⟩, hb3⟩
      have hrlen : rs.length ≤ bs.length := nrm_len (B := 65536) (by decide) hr.words nr (by have := val_lt (B := 65536) (by decide) hb.words; omega)
      have hg2 : Nat.gcd (val 65536 bs).toNat (val 65536 rs).toNat = Nat.gcd (val 65536 xs).toNat (val 65536 ys).toNat := by
        rw [← hg.out]
        have e1 : (val 65536 rs).toNat = (val 65536 us).toNat % (val 65536 bs).toNat := by
          have : val 65536 rs = val 65536 us % val 65536 bs := by
            rw [he, Int.add_comm, Int.add_mul_emod_self_left]
            exact (Int.emod_eq_of_lt hr0 hrl).symm
          rw [this]
          rw [Int.toNat_emod va vb]
        rw [e1, Nat.gcd_comm (val 65536 us).toNat, Nat.gcd_rec (val 65536 bs).toNat (val 65536 us).toNat, Nat.gcd_comm (val 65536 bs).toNat]
      replace hg2 : Hid _ := hg2
      have hbn := hb.next hb3
      have hlt : (val 65536 rs).toNat < gk := by rw [← hk.out]; omega
      replace nr : Hid _ := nr
      have hB3 := bthen hB hb3
      clear kq hg hk he hr0 hrl va vb
      go_wp2
      go_roundg ((val 65536 rs).toNat)
      case measure => exact hlt
      case rel => exact ⟨b, cb, bs, ra, rc, rs, rfl, rfl, hbn, hr, nb.out, nr.out, lb, by omega, rfl, hg2.out, hB3⟩
end Go.Proofs.YtclokcoimdjaeaaGreatDoor
namespace Go.Proofs.YtclokcoimdjaeaaGreatDoor
open Go.RowKit
attribute [local go_sem ↓] Go.wp_at_zero Go.wp_at_succ
theorem Boxed.rint {base : Nat} {w w' : World} (h : Boxed base w w') {v : Value} {z : Int} {n : Nat} (hb : Rint w v z n) : Rint w' v z n := by
  induction h with
  | refl => exact hb
  | set h g o u hn _ hu ih => exact ih.chg (Chg.set _ _ _ _) (h.noint hn)
  | alloc h o ih => exact ih.next ((Below.refl _ _).alloc (Nat.le_refl _) _)
  | drew h ih => exact ih.next ((Below.refl _ _).drew)
/-- A fraction of the second road. -/
def RatR (w : World) (v : Value) (p q : Int) (m : Nat) : Prop :=
  ∃ n1 a1 l1 c1 n2 a2 l2 c2, v = .agg #[.bool n1, .slice a1 l1 c1, .bool n2, .slice a2 l2 c2] ∧ Rint w (.agg #[.bool n1, .slice a1 l1 c1]) p m ∧ Rint w (.agg #[.bool n2, .slice a2 l2 c2]) q m
theorem RatR.next {w w' : World} {v : Value} {p q : Int} {m : Nat} (h : RatR w v p q m) (hb : Below w.heap.size w w') : RatR w' v p q m := by
  obtain ⟨n1, a1, l1, c1, n2, a2, l2, c2, hv, h1, h2⟩ := h
  exact ⟨n1, a1, l1, c1, n2, a2, l2, c2, hv, h1.next hb, h2.next hb⟩
theorem boxes_ratio (w : World) (m1 : Bool) (a1 : Option Addr) (l1 c1 : Nat) (m2 : Bool) (a2 : Option Addr) (l2 c2 : Nat) : ∃ W, W = ((w.alloc (.cells #[.bool m1, .slice a1 l1 c1] 38)).alloc (.cells #[.bool m2, .slice a2 l2 c2] 38)).alloc (.cells #[.bool false, .slice none 0 0, .bool false, .slice none 0 0] 40) ∧ Below w.heap.size w W ∧
    (W.cell? ⟨w.heap.size, 0, none⟩ = some (.bool m1) ∧ W.cell? ⟨w.heap.size, 1, none⟩ = some (.slice a1 l1 c1) ∧ W.cell? ⟨w.heap.size + 1, 0, none⟩ = some (.bool m2) ∧ W.cell? ⟨w.heap.size + 1, 1, none⟩ = some (.slice a2 l2 c2)) ∧ Box2 W w.heap.size ∧ Box2 W (w.heap.size + 1) ∧ Box4 W (w.heap.size + 1 + 1) := by
  have s1 : (w.alloc (.cells #[.bool m1, .slice a1 l1 c1] 38)).heap.size = w.heap.size + 1 := by simp
  have s2 : ((w.alloc (.cells #[.bool m1, .slice a1 l1 c1] 38)).alloc (.cells #[.bool m2, .slice a2 l2 c2] 38)).heap.size = w.heap.size + 1 + 1 := by simp
  refine ⟨_, rfl, (((Below.refl _ _).alloc (Nat.le_refl _) _).alloc (by simp) _).alloc (by simp; omega) _, ⟨?_, ?_, ?_, ?_⟩, ?b0, ?b1, ?b2⟩
  case b0 => exact (Box2.new w m1 a1 l1 c1 38 (by decide)).next (((Below.refl _ _).alloc (Nat.le_refl _) _).alloc (by simp) _)
  case b1 =>
    have h := Box2.new (w.alloc (.cells #[.bool m1, .slice a1 l1 c1] 38)) m2 a2 l2 c2 38 (by decide)
    rw [s1] at h
    exact h.next ((Below.refl _ _).alloc (Nat.le_refl _) _)
  case b2 =>
    have h := Box4.new ((w.alloc (.cells #[.bool m1, .slice a1 l1 c1] 38)).alloc (.cells #[.bool m2, .slice a2 l2 c2] 38)) false none 0 0 false none 0 0 40 (by decide)
    rw [s2] at h
    exact h
  all_goals simp [go_sem, World.cell?_alloc_past]
def RatioAt (w wc : World) (y z : Int) (m : Nat) : Prop :=
  (∃ n1 a1 l1 c1, wc.cell? ⟨w.heap.size, 0, none⟩ = some (.bool n1) ∧ wc.cell? ⟨w.heap.size, 1, none⟩ = some (.slice a1 l1 c1) ∧ Rint wc (.agg #[.bool n1, .slice a1 l1 c1]) y m) ∧
  (∃ n2 a2 l2 c2, wc.cell? ⟨w.heap.size + 1, 0, none⟩ = some (.bool n2) ∧ wc.cell? ⟨w.heap.size + 1, 1, none⟩ = some (.slice a2 l2 c2) ∧ Rint wc (.agg #[.bool n2, .slice a2 l2 c2]) z m) ∧ Box4 wc (w.heap.size + 1 + 1) ∧ Below w.heap.size w wc
theorem Rint.sign {w : World} {m : Bool} {a : Option Addr} {l c : Nat} {z : Int} {n : Nat} (h : Rint w (.agg #[.bool m, .slice a l c]) z n) : m = decide (z < 0) := by
  obtain ⟨neg, a', cap, ds, hv, hr, hn, hz, _⟩ := h
  simp at hv
  obtain ⟨rfl, rfl, rfl, rfl⟩ := hv
  have hv0 := val_nonneg (B := 65536) (by decide) hr.words
  cases m with
  | false => simp [Go.Proofs.YtclokcoimdjaeaaGreatDoor.num] at hz; symm; simp; omega
  | true =>
    have hne := hn.2 rfl
    have : val 65536 ds ≠ 0 := fun e => hne (nrm_unique (B := 65536) (by decide) hr.words (by intro z hz; cases hz) hn.1 trivial (by rw [e]; rfl))
    simp [Go.Proofs.YtclokcoimdjaeaaGreatDoor.num] at hz
    symm; simp; omega
theorem put2r {w : World} {g : Nat} (hb : Box2 w g) (m1 : Bool) (a1 : Option Addr) (l1 c1 : Nat) :
    ∃ W, W = (w.setCell ⟨g, 0, none⟩ (.bool m1)).setCell ⟨g, 1, none⟩ (.slice a1 l1 c1) ∧ W.cell? ⟨g, 0, none⟩ = some (.bool m1) ∧ W.cell? ⟨g, 1, none⟩ = some (.slice a1 l1 c1) ∧ (∀ p : Addr, p.block ≠ g → W.cell? p = w.cell? p) ∧ (∀ b, b ≠ g → Box2 w b → Box2 W b) ∧ (∀ b, b ≠ g → Box4 w b → Box4 W b) ∧ (∀ v z n, Rint w v z n → Rint W v z n) ∧ (∀ B w0, Below B w0 w → B ≤ g → Below B w0 W) := by
  obtain ⟨_, _, _, _, p0, p1, _⟩ := hb.cells
  have hB := put2_boxed (base := 0) hb.noint (Nat.zero_le _) m1 a1 l1 c1
  have same : ∀ b, b ≠ g → ((w.setCell ⟨g, 0, none⟩ (.bool m1)).setCell ⟨g, 1, none⟩ (.slice a1 l1 c1)).heap[b]? = w.heap[b]? := fun b hne => by
    rw [Below.heap_setCell _ _ _ _ (fun e => hne e), Below.heap_setCell _ _ _ _ (fun e => hne e)]
  refine ⟨_, rfl, by simp [go_sem, p0], by simp [go_sem, p1], fun p hp => ?_, fun b hne h => h.same (same b hne), fun b hne h => h.same (same b hne), fun v z n h => hB.rint h, fun B w0 h hle => (h.setCell (by simpa using hle) _).setCell (by simpa using hle) _⟩
  rw [World.cell?_setCell_other (h := fun e => hp (by rw [← e])), World.cell?_setCell_other (h := fun e => hp (by rw [← e]))]
theorem Rint.val {w : World} {m : Bool} {a : Option Addr} {l c : Nat} {z : Int} {n : Nat} (h : Rint w (.agg #[.bool m, .slice a l c]) z n) : ∃ ds : List Int, l = ds.length ∧ Row w .i64 65536 a c ds ∧ nrm ds ∧ (Go.Proofs.YtclokcoimdjaeaaGreatDoor.val 65536 ds).toNat = z.natAbs ∧ ds.length ≤ n := by
  obtain ⟨neg, a', cap, ds, hv, hr, hn, hz, hl⟩ := h
  simp at hv
  obtain ⟨rfl, rfl, rfl, rfl⟩ := hv
  have hv0 := val_nonneg (B := 65536) (by decide) hr.words
  refine ⟨ds, rfl, hr, hn.1, ?_, hl⟩
  cases m <;> simp [Go.Proofs.YtclokcoimdjaeaaGreatDoor.num] at hz <;> omega
set_option maxRecDepth 20000 in
set_option maxHeartbeats 4000000 in
theorem rRatio_num {w : World} {u v : Value} {y z : Int} {m : Nat} (hu : Rint w u y m) (hv : Rint w v z m) (hz : z ≠ 0) (hm : m ≤ 900) :
    Calls Tryz.prog 146 #[u, v] w fun e w' => ∃ t p q, e = .returned t ∧ RatR w' t p q (m + 2) ∧ Low (pN y z) (pD z) p q ∧ Below w.heap.size w w' := by
  obtain ⟨n1, a1, l1, c1, rfl⟩ := hu.form
  obtain ⟨n2, a2, l2, c2, rfl⟩ := hv.form
  obtain ⟨W, hW, hbW, ⟨e0, e1, e2, e3⟩, x0, x1, x2⟩ := boxes_ratio w n1 a1 l1 c1 n2 a2 l2 c2
  have hU := hu.next hbW
  have hV := hv.next hbW
  have hs : Hid (n2 = decide (z < 0)) := hV.sign
  go_enter Tryz.func146, Tryz.ntmps146
  go_upto_region 1 with fail
  rw [← hW]
  clear hW
  go_upto_if 11 with fail
  go_cut [] from 10 (fun wc => RatioAt w wc (pN y z) (pD z) m)
  case first =>
    by_cases hneg : z < 0
    · have hn2 : n2 = true := by rw [hs.out]; simpa using hneg
      subst hn2
      go_wp2_with fail
      refine Calls.mono (rNeg_num hU) ?_
      rintro e w2 ⟨t, rfl, hO, b2⟩
      obtain ⟨n3, a3, l3, c3, rfl⟩ := hO.form
      obtain ⟨W2, hW2, g0, g1, go', gb2, gb4, gx, gB⟩ := put2r (x0.next b2) n3 a3 l3 c3
      obtain ⟨_, _, _, _, q0, q1, qf⟩ := (x0.next b2).cells
      have f0 := qf 0
      have f1 := qf 1
      have hO2 := gx _ _ _ hO
      have hV2 := gx _ _ _ (hV.next b2)
      have r2 : W2.cell? ⟨w.heap.size + 1, 0, none⟩ = some (.bool true) := (go' ⟨w.heap.size + 1, 0, none⟩ (by simp)).trans (keep_cell b2 e2)
      have r3 : W2.cell? ⟨w.heap.size + 1, 1, none⟩ = some (.slice a2 l2 c2) := (go' ⟨w.heap.size + 1, 1, none⟩ (by simp)).trans (keep_cell b2 e3)
      have y1 := gb2 (w.heap.size + 1) (by omega) (x1.next b2)
      have y2 := gb4 (w.heap.size + 1 + 1) (by omega) (x2.next b2)
      have k2 := gB _ _ (bthen hbW b2) (Nat.le_refl _)
      clear qf go' gb2 gb4 gx gB
      go_upto_region 3 with fail
      rw [← hW2]
      clear hW2
      go_wp2_with fail
      refine Calls.mono (rNeg_num hV2) ?_
      rintro e w3 ⟨t, rfl, hP, b3⟩
      obtain ⟨n4, a4, l4, c4, rfl⟩ := hP.form
      obtain ⟨W3, hW3, j0, j1, jo, jb2, jb4, jx, jB⟩ := put2r (y1.next b3) n4 a4 l4 c4
      obtain ⟨_, _, _, _, s0, s1, sf⟩ := (y1.next b3).cells
      have h0 := sf 0
      have h1 := sf 1
      have z0 := (jo ⟨w.heap.size, 0, none⟩ (by simp)).trans (keep_cell b3 g0)
      have z1 := (jo ⟨w.heap.size, 1, none⟩ (by simp)).trans (keep_cell b3 g1)
      have hA : RatioAt w W3 (pN y z) (pD z) m := by
        have eN : pN y z = -y := by unfold pN; rw [if_pos hneg]
        have eD : pD z = -z := by unfold pD; rw [if_neg hz, if_pos hneg]
        rw [eN, eD]
        exact ⟨⟨_, _, _, _, z0, z1, jx _ _ _ (hO2.next b3)⟩, ⟨_, _, _, _, j0, j1, jx _ _ _ hP⟩, jb4 _ (by omega) (y2.next b3), jB _ _ (bthen k2 b3) (by omega)⟩
      clear sf
      go_wp2
      rw [← hW3]
      go_meet
      case rel => exact hA
    · have hn2 : n2 = false := by rw [hs.out]; simpa using hneg
      subst hn2
      have hA : RatioAt w W (pN y z) (pD z) m := by
        have eN : pN y z = y := by unfold pN; rw [if_neg hneg]
        have eD : pD z = z := by unfold pD; rw [if_neg hz, if_neg hneg]
        rw [eN, eD]
        exact ⟨⟨_, _, _, _, e0, e1, hU⟩, ⟨_, _, _, _, e2, e3, hV⟩, x2, hbW⟩
      go_wp2
      go_meet
      case rel => exact hA
  case rest =>
    clear hs hU hV x0 x1 x2 e0 e1 e2 e3 hbW
    obtain ⟨⟨n3, a3, l3, c3, p0, p1, hY⟩, ⟨n4, a4, l4, c4, p2, p3, hZ⟩, y2, hB⟩ := hcut
    have hD := pD_pos z
    obtain ⟨ds, hl3, hr, hn, hv1, hl1⟩ := hY.val
    obtain ⟨es, hl4, hr', hn', hv2, hl2⟩ := hZ.val
    have hlt := y2.noint.lt
    replace hv1 : Hid _ := hv1
    replace hv2 : Hid _ := hv2
    replace hl3 : Hid _ := hl3
    replace hl4 : Hid _ := hl4
    by_cases h0 : pN y z = 0
    · have hd0 : l3 = 0 := hY.digits.2 h0
      subst hd0
      go_wp2_with fail
      refine Calls.mono (rOf_one wc) ?_
      rintro e w5 ⟨t, rfl, hO, b5⟩
      obtain ⟨n5, a5, l5, c5, rfl⟩ := hO.rint.form
      have y4 := y2.next b5
      obtain ⟨_, _, _, _, _, _, _, _, j0, j1, j2, j3, f⟩ := y4.cells
      have f0 := f 0
      have f1 := f 1
      have f2 := f 2
      have f3 := f 3
      clear f
      have hbx : Hid _ := put4_boxed (base := w.heap.size) y4.noint (by omega) false none 0 0 n5 a5 l5 c5
      have hBf := bthen hB b5
      have hz0 : Hid (∀ W', Rint W' (.agg #[.bool false, .slice none 0 0]) 0 (m + 2)) := fun W' => ⟨false, none, 0, [], rfl, Row.empty _ _ _, ⟨trivial, fun h => by cases h⟩, rfl, Nat.zero_le _⟩
      have hOf : Hid _ := (hbx.out.rint hO.rint).mono (m := m + 2) (by omega)
      go_wp2
      exact bodyPost_ret (v := .agg #[.bool false, .slice none 0 0, .bool n5, .slice a5 l5 c5]) (by simp [results, Tryz.results146, go_sem, j0, j1, j2, j3]) rfl ⟨_, 0, 1, rfl, ⟨_, _, _, _, _, _, _, _, rfl, hz0.out _, hOf.out⟩, ⟨by decide, by decide, by rw [h0]; simp⟩, hbx.out.keep hBf (Nat.le_refl _) hBf.size⟩
    · have hd0 : l3 ≠ 0 := fun e => h0 (hY.digits.1 e)
      have hd1 : ¬ ((l3 : Int) = 0) := by omega
      have kg := rgcd_any a3 a4 c3 c4 ds es wc hr hr' hn hn' (by omega) (by omega)
      rw [hv1.out, hv2.out, ← hl3.out, ← hl4.out] at kg
      replace kg : Hid _ := kg
      go_wp2_with fail
      refine Calls.mono kg.out ?_
      rintro e w5 ⟨ga, gc, gs, rfl, hgr, hgn, hgv, hgl, b5⟩
      clear kg
      obtain ⟨g, hg⟩ : ∃ g : Nat, g = Nat.gcd (pN y z).natAbs (pD z).natAbs := ⟨_, rfl⟩
      have hlow := low_of (n := pN y z) hD
      rw [← hg] at hgv hlow
      have hG : Rint w5 (.agg #[.bool false, .slice ga gs.length gc]) (g : Int) 1000 := ⟨false, ga, gc, gs, rfl, hgr, ⟨hgn, fun h => by cases h⟩, by simp [Go.Proofs.YtclokcoimdjaeaaGreatDoor.num]; exact hgv, hgl⟩
      obtain ⟨hlow, hg0⟩ := hlow
      replace hlow : Hid _ := hlow
      obtain ⟨lg, hlg⟩ : ∃ lg, lg = gs.length := ⟨_, rfl⟩
      rw [← hlg] at hG ⊢
      clear hgr hgn hgv hgl hlg hg hr hr' hn hn' hv1 hv2 hl1 hl2 hl3 hl4
      obtain ⟨W5, hW5⟩ : ∃ W5, W5 = w5.alloc (.cells #[.bool false, .slice ga lg gc] 38) := ⟨_, rfl⟩
      have b6 : Below w5.heap.size w5 W5 := by rw [hW5]; exact (Below.refl _ _).alloc (Nat.le_refl _) _
      have s0 : W5.cell? ⟨w5.heap.size, 0, none⟩ = some (.bool false) := by rw [hW5]; simp [go_sem]
      have s1 : W5.cell? ⟨w5.heap.size, 1, none⟩ = some (.slice ga lg gc) := by rw [hW5]; simp [go_sem]
      have b56 := bthen b5 b6
      replace p0 := keep_cell b56 p0
      replace p1 := keep_cell b56 p1
      replace p2 := keep_cell b56 p2
      replace p3 := keep_cell b56 p3
      replace hY := hY.next b56
      replace hZ := hZ.next b56
      replace hG := hG.next b6
      replace y2 := y2.next b56
      replace hB := bthen hB b56
      go_upto_region 7 with fail
      rw [← hW5]
      clear hW5 b5 b6 b56 hlt
      generalize w5.heap.size = bg at *
      go_wp2_with fail
      refine Calls.mono (rQuo_num hY hG (by omega) (by decide) (by omega)) ?_
      rintro e w6 ⟨t, t', rfl, hQ, hR, b7⟩
      obtain ⟨n5, a5, l5, c5, rfl⟩ := hQ.form
      obtain ⟨n6, a6, l6, c6, rfl⟩ := hR.form
      obtain ⟨W6, hW6⟩ : ∃ W6, W6 = (w6.alloc (.cells #[.bool n5, .slice a5 l5 c5] 38)).alloc (.cells #[.bool n6, .slice a6 l6 c6] 38) := ⟨_, rfl⟩
      have b8 : Below w6.heap.size w6 W6 := by rw [hW6]; exact ((Below.refl _ _).alloc (Nat.le_refl _) _).alloc (by simp) _
      have t0 : W6.cell? ⟨w6.heap.size, 0, none⟩ = some (.bool n5) := by rw [hW6]; simp [go_sem, World.cell?_alloc_past]
      have t1 : W6.cell? ⟨w6.heap.size, 1, none⟩ = some (.slice a5 l5 c5) := by rw [hW6]; simp [go_sem, World.cell?_alloc_past]
      have b78 := bthen b7 b8
      replace p2 := keep_cell b78 p2
      replace p3 := keep_cell b78 p3
      replace s0 := keep_cell b78 s0
      replace s1 := keep_cell b78 s1
      replace hZ := hZ.next b78
      replace hG := hG.next b78
      replace hQ := hQ.next b8
      replace y2 := y2.next b78
      replace hB := bthen hB b78
      go_upto_region 8 with fail
      rw [← hW6]
      clear hW6 b7 b8 b78 hR hY p0 p1
      generalize w6.heap.size = bq at *
      go_wp2_with fail
      refine Calls.mono (rQuo_num hZ hG (by omega) (by decide) (by omega)) ?_
      rintro e w7 ⟨t, t', rfl, hS, hR, b9⟩
      obtain ⟨n7, a7, l7, c7, rfl⟩ := hS.form
      obtain ⟨n8, a8, l8, c8, rfl⟩ := hR.form
      obtain ⟨W7, hW7⟩ : ∃ W7, W7 = (w7.alloc (.cells #[.bool n7, .slice a7 l7 c7] 38)).alloc (.cells #[.bool n8, .slice a8 l8 c8] 38) := ⟨_, rfl⟩
      have b10 : Below w7.heap.size w7 W7 := by rw [hW7]; exact ((Below.refl _ _).alloc (Nat.le_refl _) _).alloc (by simp) _
      have v0 : W7.cell? ⟨w7.heap.size, 0, none⟩ = some (.bool n7) := by rw [hW7]; simp [go_sem, World.cell?_alloc_past]
      have v1 : W7.cell? ⟨w7.heap.size, 1, none⟩ = some (.slice a7 l7 c7) := by rw [hW7]; simp [go_sem, World.cell?_alloc_past]
      have b90 := bthen b9 b10
      replace t0 := keep_cell b90 t0
      replace t1 := keep_cell b90 t1
      replace hQ := hQ.next b90
      replace hS := hS.next b10
      have y4 := y2.next b90
      replace hB := bthen hB b90
      go_upto_region 9 with fail
      rw [← hW7]
      clear hW7 b9 b10 b90 hR hZ hG p2 p3 s0 s1 y2
      generalize w7.heap.size = bs at *
      obtain ⟨_, _, _, _, _, _, _, _, j0, j1, j2, j3, f⟩ := y4.cells
      have f0 := f 0
      have f1 := f 1
      have f2 := f 2
      have f3 := f 3
      clear f
      have hbx : Hid _ := put4_boxed (base := w.heap.size) y4.noint (by omega) n5 a5 l5 c5 n7 a7 l7 c7
      have hQf : Hid _ := (hbx.out.rint hQ).mono (m := m + 2) (by omega)
      have hSf : Hid _ := (hbx.out.rint hS).mono (m := m + 2) (by omega)
      go_wp2
      exact bodyPost_ret (v := .agg #[.bool n5, .slice a5 l5 c5, .bool n7, .slice a7 l7 c7]) (by simp [results, Tryz.results146, go_sem, j0, j1, j2, j3]) rfl ⟨_, _, _, rfl, ⟨_, _, _, _, _, _, _, _, rfl, hQf.out, hSf.out⟩, hlow.out, hbx.out.keep hB (Nat.le_refl _) hB.size⟩
end Go.Proofs.YtclokcoimdjaeaaGreatDoor
namespace Go.Proofs.YtclokcoimdjaeaaGreatDoor
open Go.RowKit
attribute [local go_sem ↓] Go.wp_at_zero Go.wp_at_succ
set_option maxRecDepth 20000 in
set_option maxHeartbeats 4000000 in
theorem rIsRat_same {w : World} {u v : Value} {p q : Int} {m k : Nat} (hu : FracE w u p q m) (hv : RatR w v p q k) (hm : m ≤ 1000) (hk : k ≤ 1000) :
    Calls Tryz.prog 84 #[u, v] w fun e w' => e = .returned (.bool true) ∧ Below w.heap.size w w' := by
  obtain ⟨n1, a1, l1, c1, n2, a2, l2, c2, rfl, u1, u2⟩ := hu
  obtain ⟨n3, a3, l3, c3, n4, a4, l4, c4, rfl, v1, v2⟩ := hv
  obtain ⟨W, hW⟩ : ∃ W, W = (w.alloc (.cells #[.bool n1, .slice a1 l1 c1, .bool n2, .slice a2 l2 c2] 30)).alloc (.cells #[.bool n3, .slice a3 l3 c3, .bool n4, .slice a4 l4 c4] 40) := ⟨_, rfl⟩
  have hbW : Below w.heap.size w W := by rw [hW]; exact ((Below.refl _ _).alloc (Nat.le_refl _) _).alloc (by simp) _
  have g0 : W.cell? ⟨w.heap.size, 0, none⟩ = some (.bool n1) := by rw [hW]; simp [go_sem, World.cell?_alloc_past]
  have g1 : W.cell? ⟨w.heap.size, 1, none⟩ = some (.slice a1 l1 c1) := by rw [hW]; simp [go_sem, World.cell?_alloc_past]
  have g2 : W.cell? ⟨w.heap.size, 2, none⟩ = some (.bool n2) := by rw [hW]; simp [go_sem, World.cell?_alloc_past]
  have g3 : W.cell? ⟨w.heap.size, 3, none⟩ = some (.slice a2 l2 c2) := by rw [hW]; simp [go_sem, World.cell?_alloc_past]
  have g4 : W.cell? ⟨w.heap.size + 1, 0, none⟩ = some (.bool n3) := by rw [hW]; simp [go_sem]
  have g5 : W.cell? ⟨w.heap.size + 1, 1, none⟩ = some (.slice a3 l3 c3) := by rw [hW]; simp [go_sem]
  have g6 : W.cell? ⟨w.heap.size + 1, 2, none⟩ = some (.bool n4) := by rw [hW]; simp [go_sem]
  have g7 : W.cell? ⟨w.heap.size + 1, 3, none⟩ = some (.slice a4 l4 c4) := by rw [hW]; simp [go_sem]
  replace u1 := u1.next hbW
  replace u2 := u2.next hbW
  replace v1 := v1.next hbW
  replace v2 := v2.next hbW
  have k1 := Is_num u1 v1 hm hk
  rw [decide_eq_true rfl] at k1
  replace k1 : Hid _ := k1
  go_enter Tryz.func84, Tryz.ntmps84
  go_upto_region 1 with fail
  rw [← hW]
  clear hW
  go_wp2_with fail
  refine Calls.mono k1.out ?_
  rintro e w2 ⟨rfl, b2⟩
  have k2 := Is_num (u2.next b2) (v2.next b2) hm hk
  rw [decide_eq_true rfl] at k2
  replace k2 : Hid _ := k2
  replace g2 := keep_cell b2 g2
  replace g3 := keep_cell b2 g3
  replace g6 := keep_cell b2 g6
  replace g7 := keep_cell b2 g7
  clear k1 g0 g1 g4 g5
  go_wp2_with fail
  refine Calls.mono k2.out ?_
  rintro e w3 ⟨rfl, b3⟩
  clear k2 g2 g3 g6 g7
  go_wp2
  go_ret
  exact ⟨rfl, bthen hbW (bthen b2 b3)⟩
end Go.Proofs.YtclokcoimdjaeaaGreatDoor
namespace Go.Proofs.YtclokcoimdjaeaaGreatDoor
set_option linter.unusedVariables false
open Go.RowKit
attribute [local go_sem ↓] Go.wp_at_zero Go.wp_at_succ
theorem ld32 {w : World} {p : Nat} {v0 v1 : Value} (h0 : w.cell? ⟨p, 0, none⟩ = some v0) (h1 : w.cell? ⟨p, 1, none⟩ = some v1) {o : Oper} {b : Act} {K : Act → World → Prop} {Q : Exit → Act → World → Prop} (t : Nat) (ho : o.op = .load 38 (.tmp t)) (hb : b.tmps.getD t undef = .pointer (some ⟨p, 0, none⟩)) (h : K (b.put o.dst (.agg #[v0, v1])) w) : o.wp Tryz.prog b w K Q := ld30 h0 h1 t ho hb h
end Go.Proofs.YtclokcoimdjaeaaGreatDoor
namespace Go.Proofs.YtclokcoimdjaeaaGreatDoor
set_option linter.unusedVariables false
open Go.RowKit
attribute [local go_sem ↓] Go.wp_at_zero Go.wp_at_succ
/-- A fraction of the second road, lowest terms of n over d. -/
def LowR (w : World) (v : Value) (n d : Int) (m : Nat) : Prop := ∃ p q, RatR w v p q m ∧ Low n d p q
section
variable {w w' : World} {b : Nat} {v : Value} {p q n d : Int} {m k : Nat}
theorem RatR.chg (h : RatR w v p q m) (hc : Chg b w w') (hb : NoInt w b) : RatR w' v p q m := by
  obtain ⟨n1, a1, l1, c1, n2, a2, l2, c2, hv, h1, h2⟩ := h
  exact ⟨n1, a1, l1, c1, n2, a2, l2, c2, hv, h1.chg hc hb, h2.chg hc hb⟩
theorem RatR.form (h : RatR w v p q m) : ∃ n1 a1 l1 c1 n2 a2 l2 c2, v = .agg #[.bool n1, .slice a1 l1 c1, .bool n2, .slice a2 l2 c2] := by
  obtain ⟨n1, a1, l1, c1, n2, a2, l2, c2, hv, _⟩ := h
  exact ⟨n1, a1, l1, c1, n2, a2, l2, c2, hv⟩
theorem RatR.more (h : RatR w v p q m) (hk : m ≤ k) : RatR w v p q k := by
  obtain ⟨n1, a1, l1, c1, n2, a2, l2, c2, hv, h1, h2⟩ := h
  exact ⟨n1, a1, l1, c1, n2, a2, l2, c2, hv, h1.mono hk, h2.mono hk⟩
theorem RatR.parts {n1 n2 : Bool} {a1 a2 : Option Addr} {l1 c1 l2 c2 : Nat} (h : RatR w (.agg #[.bool n1, .slice a1 l1 c1, .bool n2, .slice a2 l2 c2]) p q m) : Rint w (.agg #[.bool n1, .slice a1 l1 c1]) p m ∧ Rint w (.agg #[.bool n2, .slice a2 l2 c2]) q m := by
  obtain ⟨m1, x1, k1, d1, m2, x2, k2, d2, hv, h1, h2⟩ := h
  simp at hv
  obtain ⟨rfl, ⟨rfl, rfl, rfl⟩, rfl, rfl, rfl, rfl⟩ := hv
  exact ⟨h1, h2⟩
theorem LowR.next (h : LowR w v n d m) (hb : Below w.heap.size w w') : LowR w' v n d m := by
  obtain ⟨p, q, h1, h2⟩ := h
  exact ⟨p, q, h1.next hb, h2⟩
theorem LowR.chg (h : LowR w v n d m) (hc : Chg b w w') (hb : NoInt w b) : LowR w' v n d m := by
  obtain ⟨p, q, h1, h2⟩ := h
  exact ⟨p, q, h1.chg hc hb, h2⟩
theorem LowR.form (h : LowR w v n d m) : ∃ n1 a1 l1 c1 n2 a2 l2 c2, v = .agg #[.bool n1, .slice a1 l1 c1, .bool n2, .slice a2 l2 c2] := by
  obtain ⟨p, q, h1, h2⟩ := h
  exact h1.form
theorem LowR.more (h : LowR w v n d m) (hk : m ≤ k) : LowR w v n d k := by
  obtain ⟨p, q, h1, h2⟩ := h
  exact ⟨p, q, h1.more hk, h2⟩
theorem Rint.but {S : List Nat} (h : Rint w v p m) (hW : BelowBut S w w') (hS : ∀ k, k ∈ S → NoInt w k) : Rint w' v p m := by
  obtain ⟨neg, a, cap, ds, hv, hr, r⟩ := h
  refine ⟨neg, a, cap, ds, hv, ⟨hr.le, hr.max, hr.nil, fun x hx i hi => ?_, hr.words⟩, r⟩
  refine hW.cell (hr.cell x hx i hi) ?_
  rw [add_block]
  intro hs
  subst hx
  exact (hS _ hs).apart hr (by intro e; subst e; simp at hi) rfl
theorem RatR.but {S : List Nat} (h : RatR w v p q m) (hW : BelowBut S w w') (hS : ∀ k, k ∈ S → NoInt w k) : RatR w' v p q m := by
  obtain ⟨n1, a1, l1, c1, n2, a2, l2, c2, hv, h1, h2⟩ := h
  exact ⟨n1, a1, l1, c1, n2, a2, l2, c2, hv, h1.but hW hS, h2.but hW hS⟩
end
section
variable {ops : Array Oper} {Q : Exit → Act → World → Prop} {V : Nat → Value → World → Prop} {C : Nat → Nat → World → Prop} {S : List Nat} {N : Nat} {w : World}
theorem fa34_0 {p : Nat} {o : Oper} {b : Act} {K : Act → World → Prop} (t : Nat) (ho : o.op = .fieldAddr 40 (.tmp t) 0) (hb : b.tmps.getD t undef = .pointer (some ⟨p, 0, none⟩)) (h : K (b.put o.dst (.pointer (some ⟨p, 0, none⟩))) w) : o.wp Tryz.prog b w K Q := by
  obtain ⟨dst, op, type, pos, after, guard⟩ := o
  dsimp only at ho
  subst ho
  unfold Oper.wp
  have e : b.eval (.tmp t) = .pointer (some ⟨p, 0, none⟩) := hb
  go_simp
  exact h
theorem fa34_1 {p : Nat} {o : Oper} {b : Act} {K : Act → World → Prop} (t : Nat) (ho : o.op = .fieldAddr 40 (.tmp t) 1) (hb : b.tmps.getD t undef = .pointer (some ⟨p, 0, none⟩)) (h : K (b.put o.dst (.pointer (some ⟨p, 2, none⟩))) w) : o.wp Tryz.prog b w K Q := by
  obtain ⟨dst, op, type, pos, after, guard⟩ := o
  dsimp only at ho
  subst ho
  unfold Oper.wp
  have e : b.eval (.tmp t) = .pointer (some ⟨p, 0, none⟩) := hb
  go_simp
  exact h
theorem ld32b {p : Nat} {v0 v1 : Value} (h0 : w.cell? ⟨p, 2, none⟩ = some v0) (h1 : w.cell? ⟨p, 3, none⟩ = some v1) {o : Oper} {b : Act} {K : Act → World → Prop} {Q : Exit → Act → World → Prop} (t : Nat) (ho : o.op = .load 38 (.tmp t)) (hb : b.tmps.getD t undef = .pointer (some ⟨p, 2, none⟩)) (h : K (b.put o.dst (.agg #[v0, v1])) w) : o.wp Tryz.prog b w K Q := by
  obtain ⟨dst, op, type, pos, after, guard⟩ := o
  dsimp only at ho
  subst ho
  unfold Oper.wp
  have e : b.eval (.tmp t) = .pointer (some ⟨p, 2, none⟩) := hb
  go_simp
  exact h
theorem st34 {g : Nat} {m1 m2 m3 m4 : Bool} {a1 a2 a3 a4 : Option Addr} {l1 l2 l3 l4 c1 c2 c3 c4 : Nat} (k0 : w.cell? ⟨g, 0, none⟩ = some (.bool m1)) (k1 : w.cell? ⟨g, 1, none⟩ = some (.slice a1 l1 c1)) (k2 : w.cell? ⟨g, 2, none⟩ = some (.bool m2)) (k3 : w.cell? ⟨g, 3, none⟩ = some (.slice a2 l2 c2)) (f : ∀ o, w.frozen? ⟨g, o, none⟩ = false) {o : Oper} {b : Act} {K : Act → World → Prop} (s t : Nat) (ho : o.op = .store 40 (.tmp s) (.tmp t)) (hd : o.dst = none) (hs : b.tmps.getD s undef = .pointer (some ⟨g, 0, none⟩)) (ht : b.tmps.getD t undef = .agg #[.bool m3, .slice a3 l3 c3, .bool m4, .slice a4 l4 c4])
    (h : K b ((((w.setCell ⟨g, 0, none⟩ (.bool m3)).setCell ⟨g, 1, none⟩ (.slice a3 l3 c3)).setCell ⟨g, 2, none⟩ (.bool m4)).setCell ⟨g, 3, none⟩ (.slice a4 l4 c4))) : o.wp Tryz.prog b w K Q := by
  obtain ⟨dst, op, type, pos, after, guard⟩ := o
  dsimp only at ho hd
  subst ho
  subst hd
  unfold Oper.wp
  have e : b.eval (.tmp s) = .pointer (some ⟨g, 0, none⟩) := hs
  have e' : b.eval (.tmp t) = .agg #[.bool m3, .slice a3 l3 c3, .bool m4, .slice a4 l4 c4] := ht
  have f0 := f 0
  have f1 := f 1
  have f2 := f 2
  have f3 := f 3
  go_simp
  exact h
theorem step_put34 {o : Oper} (j s t : Nat) (ho : o.op = .store 40 (.tmp s) (.tmp t)) (hd : o.dst = none) (hg : o.guard = none) (hl : (o.looksAt ops).contains t = true) (_hl' : (o.looksAt ops).contains s = true)
    (hf : (∀ v w, V t v w → ∃ m a l c m' a' l' c', v = .agg #[.bool m, .slice a l c, .bool m', .slice a' l' c']) ∧ ∀ g w' w'' m a l c m' a' l' c', V t (.agg #[.bool m, .slice a l c, .bool m', .slice a' l' c']) w' → Chg g w' w'' → Box4 w' g → w''.cell? ⟨g, 0, none⟩ = some (.bool m) → w''.cell? ⟨g, 1, none⟩ = some (.slice a l c) → w''.cell? ⟨g, 2, none⟩ = some (.bool m') → w''.cell? ⟨g, 3, none⟩ = some (.slice a' l' c') → C j g w'') : PutStep Tryz.prog ops Q V Box4 C S N w j s o := by
  intro b w' hs hB hlk g hgp hbx K hK
  have hw : Region.wanted o (yielded ops b.tmps) = true := by simp [Region.wanted, hg]
  rw [if_pos hw]
  have hvt := look hlk t hl
  obtain ⟨m, a, l, c, m', a', l', c', hv⟩ := hf.1 _ _ hvt
  rw [hv] at hvt
  obtain ⟨_, _, _, _, _, _, _, _, k0, k1, k2, k3, f⟩ := hbx.cells
  obtain ⟨X, hX⟩ : ∃ X, X = (((w'.setCell ⟨g, 0, none⟩ (.bool m)).setCell ⟨g, 1, none⟩ (.slice a l c)).setCell ⟨g, 2, none⟩ (.bool m')).setCell ⟨g, 3, none⟩ (.slice a' l' c') := ⟨_, rfl⟩
  have hch : Chg g w' X := by rw [hX]; exact (((Chg.set _ _ _ _).trans (Chg.set _ _ _ _)).trans (Chg.set _ _ _ _)).trans (Chg.set _ _ _ _)
  have r0 : X.cell? ⟨g, 0, none⟩ = some (.bool m) := by rw [hX]; simp [go_sem, k0]
  have r1 : X.cell? ⟨g, 1, none⟩ = some (.slice a l c) := by rw [hX]; simp [go_sem, k1]
  have r2 : X.cell? ⟨g, 2, none⟩ = some (.bool m') := by rw [hX]; simp [go_sem, k2]
  have r3 : X.cell? ⟨g, 3, none⟩ = some (.slice a' l' c') := by rw [hX]; simp [go_sem, k3]
  have hbp : Box4 X g := by rw [hX]; exact hbx.put m a l c m' a' l' c'
  have key := hK undef _ hch hbp (hf.2 g _ _ m a l c m' a' l' c' hvt hch hbx r0 r1 r2 r3)
  have e : b.put o.dst undef = b := by rw [hd]; rfl
  rw [e, hX] at key
  exact st34 k0 k1 k2 k3 f s t ho hd hgp hv key
end
theorem boxes_op34 (w : World) (n1 : Bool) (a1 : Option Addr) (l1 c1 : Nat) (n2 : Bool) (a2 : Option Addr) (l2 c2 : Nat) (n3 : Bool) (a3 : Option Addr) (l3 c3 : Nat) (n4 : Bool) (a4 : Option Addr) (l4 c4 : Nat) : ∃ W, W = ((w.alloc (.cells #[.bool n1, .slice a1 l1 c1, .bool n2, .slice a2 l2 c2] 40)).alloc (.cells #[.bool n3, .slice a3 l3 c3, .bool n4, .slice a4 l4 c4] 40)).alloc (.cells #[.bool false, .slice none 0 0, .bool false, .slice none 0 0] 40) ∧ Below w.heap.size w W ∧
    (W.cell? ⟨w.heap.size, 0, none⟩ = some (.bool n1) ∧ W.cell? ⟨w.heap.size, 1, none⟩ = some (.slice a1 l1 c1) ∧ W.cell? ⟨w.heap.size, 2, none⟩ = some (.bool n2) ∧ W.cell? ⟨w.heap.size, 3, none⟩ = some (.slice a2 l2 c2)) ∧
    (W.cell? ⟨w.heap.size + 1, 0, none⟩ = some (.bool n3) ∧ W.cell? ⟨w.heap.size + 1, 1, none⟩ = some (.slice a3 l3 c3) ∧ W.cell? ⟨w.heap.size + 1, 2, none⟩ = some (.bool n4) ∧ W.cell? ⟨w.heap.size + 1, 3, none⟩ = some (.slice a4 l4 c4)) ∧ Box4 W (w.heap.size + 1 + 1) := by
  refine ⟨_, rfl, (((Below.refl _ _).alloc (Nat.le_refl _) _).alloc (by simp) _).alloc (by simp; omega) _, ⟨?_, ?_, ?_, ?_⟩, ⟨?_, ?_, ?_, ?_⟩, ?n0⟩
  case n0 =>
    have h := Box4.new ((w.alloc (.cells #[.bool n1, .slice a1 l1 c1, .bool n2, .slice a2 l2 c2] 40)).alloc (.cells #[.bool n3, .slice a3 l3 c3, .bool n4, .slice a4 l4 c4] 40)) false none 0 0 false none 0 0 40 (by decide)
    rw [show ((w.alloc (.cells #[.bool n1, .slice a1 l1 c1, .bool n2, .slice a2 l2 c2] 40)).alloc (.cells #[.bool n3, .slice a3 l3 c3, .bool n4, .slice a4 l4 c4] 40)).heap.size = w.heap.size + 1 + 1 from by simp] at h
    exact h
  all_goals simp [go_sem, World.cell?_alloc_past]
theorem boxes_one34 (w : World) (n1 : Bool) (a1 : Option Addr) (l1 c1 : Nat) (n2 : Bool) (a2 : Option Addr) (l2 c2 : Nat) (T : TypeId) : ∃ W, W = (w.alloc (.cells #[.bool n1, .slice a1 l1 c1, .bool n2, .slice a2 l2 c2] T)).alloc (.cells #[.bool false, .slice none 0 0, .bool false, .slice none 0 0] 40) ∧ Below w.heap.size w W ∧
    (W.cell? ⟨w.heap.size, 0, none⟩ = some (.bool n1) ∧ W.cell? ⟨w.heap.size, 1, none⟩ = some (.slice a1 l1 c1) ∧ W.cell? ⟨w.heap.size, 2, none⟩ = some (.bool n2) ∧ W.cell? ⟨w.heap.size, 3, none⟩ = some (.slice a2 l2 c2)) ∧ Box4 W (w.heap.size + 1) := by
  refine ⟨_, rfl, ((Below.refl _ _).alloc (Nat.le_refl _) _).alloc (by simp) _, ⟨?_, ?_, ?_, ?_⟩, ?n0⟩
  case n0 =>
    have h := Box4.new (w.alloc (.cells #[.bool n1, .slice a1 l1 c1, .bool n2, .slice a2 l2 c2] T)) false none 0 0 false none 0 0 40 (by decide)
    rw [show (w.alloc (.cells #[.bool n1, .slice a1 l1 c1, .bool n2, .slice a2 l2 c2] T)).heap.size = w.heap.size + 1 from by simp] at h
    exact h
  all_goals simp [go_sem, World.cell?_alloc_past]
end Go.Proofs.YtclokcoimdjaeaaGreatDoor
namespace Go.Proofs.YtclokcoimdjaeaaGreatDoor
set_option linter.unusedVariables false
open Go.RowKit
attribute [local go_sem ↓] Go.wp_at_zero Go.wp_at_succ
def mulRV (b0 K : Nat) (AN AD BN BD : Value) (p q p2 q2 : Int) (t : Nat) (v : Value) (w : World) : Prop := match t with
  | 2 => v = .pointer (some ⟨b0, 0, none⟩)
  | 3 => v = .pointer (some ⟨b0 + 1, 0, none⟩)
  | 4 => v = .pointer (some ⟨b0 + 1 + 1, 0, none⟩) ∧ Box4 w (b0 + 1 + 1)
  | 5 => v = .pointer (some ⟨b0, 0, none⟩)
  | 6 => v = AN
  | 7 => v = .pointer (some ⟨b0 + 1, 0, none⟩)
  | 8 => v = BN
  | 9 => Rint w v (p * p2) K
  | 10 => v = .pointer (some ⟨b0, 2, none⟩)
  | 11 => v = AD
  | 12 => v = .pointer (some ⟨b0 + 1, 2, none⟩)
  | 13 => v = BD
  | 14 => Rint w v (q * q2) K
  | 15 => LowR w v (pN (p * p2) (q * q2)) (pD (q * q2)) (K + 3)
  | _ => True
theorem mulRV_next {b0 K : Nat} {AN AD BN BD : Value} {p q p2 q2 : Int} (t : Nat) (v : Value) (w w' : World) (hb : Below w.heap.size w w') (h : mulRV b0 K AN AD BN BD p q p2 q2 t v w) : mulRV b0 K AN AD BN BD p q p2 q2 t v w' := by
  unfold mulRV at h ⊢
  split at h <;> first | exact h | exact Rint.next h hb | exact LowR.next h hb | exact ⟨h.1, h.2.next hb⟩
theorem mulRV_chg {b0 K : Nat} {AN AD BN BD : Value} {p q p2 q2 : Int} (t : Nat) (v : Value) (w w' : World) (b : Nat) (hc : Chg b w w') (hb : Box4 w b) (hb' : Box4 w' b) (h : mulRV b0 K AN AD BN BD p q p2 q2 t v w) : mulRV b0 K AN AD BN BD p q p2 q2 t v w' := by
  unfold mulRV at h ⊢
  split at h <;> first | exact h | exact Rint.chg h hc hb.noint | exact LowR.chg h hc hb.noint | exact ⟨h.1, h.2.chg hc hb'⟩
def mulRC (b0 K : Nat) (AN AD BN BD : Value) (p q p2 q2 : Int) (j b : Nat) (w : World) : Prop := match j with
  | 11 => Holds4 w b (fun v => LowR w v (pN (p * p2) (q * q2)) (pD (q * q2)) (K + 3))
  | _ => True
theorem mulRC_next {b0 K : Nat} {AN AD BN BD : Value} {p q p2 q2 : Int} (j b : Nat) (w w' : World) (hb : Below w.heap.size w w') (_ : b < w.heap.size) (h : mulRC b0 K AN AD BN BD p q p2 q2 j b w) : mulRC b0 K AN AD BN BD p q p2 q2 j b w' := by
  unfold mulRC at h ⊢
  split at h <;> first | exact h | exact Holds4.next h hb (fun v k => k.next hb)
theorem mulRC_chg {b0 K : Nat} {AN AD BN BD : Value} {p q p2 q2 : Int} (j b b' : Nat) (w w' : World) (hc : Chg b' w w') (hb : Box4 w b') (_ : Box4 w' b') (hne : b ≠ b') (h : mulRC b0 K AN AD BN BD p q p2 q2 j b w) : mulRC b0 K AN AD BN BD p q p2 q2 j b w' := by
  unfold mulRC at h ⊢
  split at h <;> first | exact h | exact Holds4.chg h hc hne (fun v k => k.chg hc hb.noint)
set_option maxRecDepth 20000 in
set_option maxHeartbeats 4000000 in
theorem MulRat_num {w : World} {u v : Value} {p q p2 q2 : Int} {m : Nat} (hu : RatR w u p q m) (hv : RatR w v p2 q2 m) (hm : m ≤ 440) (hz : (q * q2) ≠ 0) :
    Calls Tryz.prog 104 #[u, v] w fun e w' => ∃ t, e = .returned t ∧ LowR w' t (pN (p * p2) (q * q2)) (pD (q * q2)) (2 * m + 4) ∧ Below w.heap.size w w' := by
  obtain ⟨n1, a1, l1, c1, n2, a2, l2, c2, rfl⟩ := hu.form
  obtain ⟨n3, a3, l3, c3, n4, a4, l4, c4, rfl⟩ := hv.form
  obtain ⟨W, hW, hbW, ⟨e0, e1, e2, e3⟩, ⟨g0, g1, g2, g3⟩, x0⟩ := boxes_op34 w n1 a1 l1 c1 n2 a2 l2 c2 n3 a3 l3 c3 n4 a4 l4 c4
  obtain ⟨hAN, hAD⟩ := (hu.next hbW).parts
  obtain ⟨hBN, hBD⟩ := (hv.next hbW).parts
  have hx0 := x0.noint.lt
  go_enter Tryz.func104, Tryz.ntmps104
  go_upto_region 1 with fail
  rw [← hW]
  clear hW
  have hS : ∀ k, k ∈ [w.heap.size + 1 + 1] → NoInt W k := by
    intro k hk
    simp only [List.mem_cons, List.not_mem_nil, or_false] at hk
    subst hk
    exact x0.noint
  have hB_int : ∀ {w' : World} {v : Value} {z : Int} {n : Nat}, BelowBut [w.heap.size + 1 + 1] W w' → Rint W v z n → Rint w' v z n := fun hW h => h.but hW hS
  refine wp_region_boxes (mulRV w.heap.size (2 * m + 1) (.agg #[.bool n1, .slice a1 l1 c1]) (.agg #[.bool n2, .slice a2 l2 c2]) (.agg #[.bool n3, .slice a3 l3 c3]) (.agg #[.bool n4, .slice a4 l4 c4]) p q p2 q2) Box4 (mulRC w.heap.size (2 * m + 1) (.agg #[.bool n1, .slice a1 l1 c1]) (.agg #[.bool n2, .slice a2 l2 c2]) (.agg #[.bool n3, .slice a3 l3 c3]) (.agg #[.bool n4, .slice a4 l4 c4]) p q p2 q2) [2, 3, 4] [4] [w.heap.size + 1 + 1] [(11, 4)] 16 (by kernel_rfl) (by kernel_rfl) rfl mulRV_next mulRV_chg ?hA mulRC_next mulRC_chg ?hstart ?hdis (StepsFrom.all ?hstep) ?hend
  case hA =>
    intro s v w' hs hv
    have hs' : s = 4 := by simpa using hs
    subst hs'
    exact ⟨_, hv.1, hv.2, .inr (by simp), hv.2.noint.lt⟩
  case hstart =>
    intro t ht
    have hD0 : Below W.heap.size W W.drew := (Below.refl _ _).drew
    simp only [List.mem_cons, List.not_mem_nil, or_false] at ht
    rcases ht with rfl | rfl | rfl
    · rfl
    · rfl
    · exact ⟨rfl, x0.next hD0⟩
  case hdis =>
    intro s t hs ht hne _ _
    have hs' : s = 4 := by simpa using hs
    have ht' : t = 4 := by simpa using ht
    exact absurd (hs'.trans ht'.symm) hne
  case hstep =>
    refine ⟨?s0, ?s1, ?s2, ?s3, ?s4, ?s5, ?s6, ?s7, ?s8, ?s9, ?s10, ?s11, trivial⟩
    case s0 => exact plain_at (plain_of (guard_none rfl) fun b w' _ hW hl K hK => fa34_0 2 rfl (look hl 2 (by kernel_rfl)) (hK _ _ (Below.refl _ _) (dst_eq rfl rfl))) (dst_eq rfl rfl) rfl
    case s1 => exact plain_at (plain_of (guard_none rfl) fun b w' _ hW hl K hK => ld32 (hW.cell e0 (by simp; try omega)) (hW.cell e1 (by simp; try omega)) 5 rfl (look hl 5 (by kernel_rfl)) (hK _ _ (Below.refl _ _) (dst_eq rfl rfl))) (dst_eq rfl rfl) rfl
    case s2 => exact plain_at (plain_of (guard_none rfl) fun b w' _ hW hl K hK => fa34_0 3 rfl (look hl 3 (by kernel_rfl)) (hK _ _ (Below.refl _ _) (dst_eq rfl rfl))) (dst_eq rfl rfl) rfl
    case s3 => exact plain_at (plain_of (guard_none rfl) fun b w' _ hW hl K hK => ld32 (hW.cell g0 (by simp; try omega)) (hW.cell g1 (by simp; try omega)) 7 rfl (look hl 7 (by kernel_rfl)) (hK _ _ (Below.refl _ _) (dst_eq rfl rfl))) (dst_eq rfl rfl) rfl
    case s4 => exact plain_at (pl_call2 108 6 8 9 _ (by kernel_rfl) rfl rfl (guard_none rfl) (by kernel_rfl) (by kernel_rfl) (fun u v w' hW hu hv => by subst hu; subst hv; exact (rMul_num (hB_int hW hAN) (hB_int hW hBN) (by omega) (by omega)).mono fun e w'' h => by obtain ⟨t, h1, h2, h3⟩ := h; exact ⟨t, h1, h2.mono (by omega), h3⟩)) (dst_eq rfl rfl) rfl
    case s5 => exact plain_at (plain_of (guard_none rfl) fun b w' _ hW hl K hK => fa34_1 2 rfl (look hl 2 (by kernel_rfl)) (hK _ _ (Below.refl _ _) (dst_eq rfl rfl))) (dst_eq rfl rfl) rfl
    case s6 => exact plain_at (plain_of (guard_none rfl) fun b w' _ hW hl K hK => ld32b (hW.cell e2 (by simp; try omega)) (hW.cell e3 (by simp; try omega)) 10 rfl (look hl 10 (by kernel_rfl)) (hK _ _ (Below.refl _ _) (dst_eq rfl rfl))) (dst_eq rfl rfl) rfl
    case s7 => exact plain_at (plain_of (guard_none rfl) fun b w' _ hW hl K hK => fa34_1 3 rfl (look hl 3 (by kernel_rfl)) (hK _ _ (Below.refl _ _) (dst_eq rfl rfl))) (dst_eq rfl rfl) rfl
    case s8 => exact plain_at (plain_of (guard_none rfl) fun b w' _ hW hl K hK => ld32b (hW.cell g2 (by simp; try omega)) (hW.cell g3 (by simp; try omega)) 12 rfl (look hl 12 (by kernel_rfl)) (hK _ _ (Below.refl _ _) (dst_eq rfl rfl))) (dst_eq rfl rfl) rfl
    case s9 => exact plain_at (pl_call2 108 11 13 14 _ (by kernel_rfl) rfl rfl (guard_none rfl) (by kernel_rfl) (by kernel_rfl) (fun u v w' hW hu hv => by subst hu; subst hv; exact (rMul_num (hB_int hW hAD) (hB_int hW hBD) (by omega) (by omega)).mono fun e w'' h => by obtain ⟨t, h1, h2, h3⟩ := h; exact ⟨t, h1, h2.mono (by omega), h3⟩)) (dst_eq rfl rfl) rfl
    case s10 => exact plain_at (pl_call2 146 9 14 15 _ (by kernel_rfl) rfl rfl (guard_none rfl) (by kernel_rfl) (by kernel_rfl) (fun u v w' hW hu hv => by exact (rRatio_num (Rint.mono (m := 2 * m + 2) hu (by omega)) (Rint.mono (m := 2 * m + 2) hv (by omega)) hz (by omega)).mono fun e w'' h => by obtain ⟨t, x, y, h1, h2, h3, h4⟩ := h; exact ⟨t, h1, ⟨x, y, h2, h3⟩, h4⟩)) (dst_eq rfl rfl) rfl
    case s11 => exact put_at (step_put34 11 4 15 rfl rfl rfl (by kernel_rfl) (by kernel_rfl) ⟨fun v w h => LowR.form h, fun g w' w'' m a l c m' a' l' c' hv hc hb r0 r1 r2 r3 => ⟨m, a, l, c, m', a', l', c', r0, r1, r2, r3, LowR.chg hv hc hb.noint⟩⟩) rfl rfl (by kernel_rfl)
  case hend =>
    intro b w' hs hd hW hv hdis hC hfr
    obtain ⟨h4, _⟩ := hv 4 (.inl rfl)
    obtain ⟨q1, b1, i1, o1, q2, b2, i2, o2, m0, m1, m2, m3, hR'⟩ := hC 11 4 (by simp) (by decide) _ h4
    have hBf : Below w.heap.size w w' := hbW.trans (hW.below hbW.size (by intro k hk; simp only [List.mem_cons, List.not_mem_nil, or_false] at hk; omega))
    rw [Array.getD_eq_getD_getElem?] at h4
    clear hv hdis hC hfr hW
    go_wp2
    exact bodyPost_ret (v := .agg #[.bool q1, .slice b1 i1 o1, .bool q2, .slice b2 i2 o2]) (by simp [results, Tryz.results104, go_sem, h4, m0, m1, m2, m3]) hd ⟨_, rfl, hR', hBf⟩
end Go.Proofs.YtclokcoimdjaeaaGreatDoor
namespace Go.Proofs.YtclokcoimdjaeaaGreatDoor
set_option linter.unusedVariables false
open Go.RowKit
attribute [local go_sem ↓] Go.wp_at_zero Go.wp_at_succ
end Go.Proofs.YtclokcoimdjaeaaGreatDoor
namespace Go.Proofs.YtclokcoimdjaeaaGreatDoor
set_option linter.unusedVariables false
open Go.RowKit
attribute [local go_sem ↓] Go.wp_at_zero Go.wp_at_succ
end Go.Proofs.YtclokcoimdjaeaaGreatDoor
namespace Go.Proofs.YtclokcoimdjaeaaGreatDoor
set_option linter.unusedVariables false
open Go.RowKit
attribute [local go_sem ↓] Go.wp_at_zero Go.wp_at_succ
set_option maxRecDepth 20000 in
set_option maxHeartbeats 4000000 in
theorem IsInt_num {w : World} {u : Value} {p q : Int} {m : Nat} (hu : RatR w u p q m) (hq : 0 < q) (hm : m ≤ 440) :
    Calls Tryz.prog 65 #[u] w fun e w' => e = .returned (.bool (decide (q = 1))) ∧ Below w.heap.size w w' := by
  obtain ⟨n1, a1, l1, c1, n2, a2, l2, c2, rfl⟩ := hu.form
  obtain ⟨W, hW⟩ : ∃ W, W = w.alloc (.cells #[.bool n1, .slice a1 l1 c1, .bool n2, .slice a2 l2 c2] 40) := ⟨_, rfl⟩
  have hbW : Below w.heap.size w W := by rw [hW]; exact (Below.refl _ _).alloc (Nat.le_refl _) _
  have e2 : W.cell? ⟨w.heap.size, 2, none⟩ = some (.bool n2) := by rw [hW]; simp [go_sem]
  have e3 : W.cell? ⟨w.heap.size, 3, none⟩ = some (.slice a2 l2 c2) := by rw [hW]; simp [go_sem]
  obtain ⟨_, hAD⟩ := (hu.next hbW).parts
  obtain ⟨ds, rfl, hr, hn, hv, hl⟩ := hAD.val
  have h0 := val_nonneg (B := 65536) (by decide) hr.words
  have hvq : val 65536 ds = q := by omega
  clear hAD hv hu
  go_enter Tryz.func65, Tryz.ntmps65
  go_upto_region 1 with fail
  rw [← hW]
  clear hW
  by_cases h1 : ds.length = 1
  · obtain ⟨x, rfl⟩ : ∃ x, ds = [x] := List.length_eq_one_iff.1 h1
    have hx := hr.words x (by simp)
    obtain ⟨ad, rfl⟩ := hr.some_of (i := 0) (by simp)
    have hc := hr.cell ad rfl 0 (by simp)
    have hca : ad.add 0 = ad := by cases ad; simp [Addr.add]
    rw [hca] at hc
    simp only [List.getElem?_cons_zero, Option.getD_some] at hc
    clear hca
    have hvx : val 65536 [x] = x := by simp [val]
    have hqx : Hid (q = x) := by show _ = _; rw [← hvq, hvx]
    simp only [List.length_singleton] at e3
    clear hvq hvx h1 h0 hn hl hq
    go_wp2
    go_ret
    exact ⟨by rw [hqx.out]; rfl, hbW⟩
  · have hq1 : Hid (decide (q = 1) = false) := by
      show _ = _
      rw [decide_eq_false_iff_not]
      intro e
      apply h1
      have := nrm_unique (B := 65536) (by decide) hr.words (Words.one (by decide) : Words 65536 [1]) hn ⟨fun _ => by decide, trivial⟩ (by rw [hvq, e]; simp [val])
      rw [this]; rfl
    have h2 : ((ds.length : Int) == 1) = false := by simp; omega
    have h3 : ¬ ((ds.length : Int) = 1) := by omega
    clear hvq hn h0 h1 hq
    go_wp2
    go_ret
    exact ⟨by rw [hq1.out]; rfl, hbW⟩
end Go.Proofs.YtclokcoimdjaeaaGreatDoor
namespace Go.Proofs.YtclokcoimdjaeaaGreatDoor
set_option linter.unusedVariables false
open Go.RowKit
attribute [local go_sem ↓] Go.wp_at_zero Go.wp_at_succ
def FromAt (w wc : World) (g : Nat) (n1 : Bool) (a1 : Option Addr) (l1 c1 : Nat) (n d : Int) (m : Nat) : Prop :=
  (wc.cell? ⟨w.heap.size, 0, none⟩ = some (.bool n1) ∧ wc.cell? ⟨w.heap.size, 1, none⟩ = some (.slice a1 l1 c1) ∧ Num wc (.agg #[.bool n1, .slice a1 l1 c1]) n m) ∧
  (∃ n3 a3 l3 c3, wc.cell? ⟨g, 0, none⟩ = some (.bool n3) ∧ wc.cell? ⟨g, 1, none⟩ = some (.slice a3 l3 c3) ∧ Rint wc (.agg #[.bool n3, .slice a3 l3 c3]) d (2 * m + 1)) ∧ Box4 wc (w.heap.size + 1) ∧ Below w.heap.size w wc
set_option maxRecDepth 20000 in
set_option maxHeartbeats 4000000 in
theorem FromRat_num {w : World} {u : Value} {n d : Int} {m : Nat} (hu : Frac w u n d m) (hm : m ≤ 210) :
    Calls Tryz.prog 86 #[u] w fun e w' => ∃ t, e = .returned t ∧ LowR w' t (pN n d) (pD d) (2 * m + 3) ∧ Below w.heap.size w w' := by
  obtain ⟨n1, a1, l1, c1, n2, a2, l2, c2, rfl, h1, h2⟩ := hu
  obtain ⟨W, hW, hbW, ⟨e0, e1, e2, e3⟩, x0⟩ := boxes_one34 w n1 a1 l1 c1 n2 a2 l2 c2 30
  replace h1 := h1.next hbW
  replace h2 := h2.next hbW
  have k1 := From_num h2 (by omega)
  replace k1 : Hid _ := k1
  go_enter Tryz.func86, Tryz.ntmps86
  go_upto_region 1 with fail
  rw [← hW]
  clear hW
  go_wp2_with fail
  refine Calls.mono k1.out ?_
  rintro e w1 ⟨t, rfl, hO, b1⟩
  clear k1
  replace hO := hO.rint
  obtain ⟨n3, a3, l3, c3, rfl⟩ := hO.form
  obtain ⟨W1, hW1⟩ : ∃ W1, W1 = w1.alloc (.cells #[.bool n3, .slice a3 l3 c3] 38) := ⟨_, rfl⟩
  have b2 : Below w1.heap.size w1 W1 := by rw [hW1]; exact (Below.refl _ _).alloc (Nat.le_refl _) _
  have g0 : W1.cell? ⟨w1.heap.size, 0, none⟩ = some (.bool n3) := by rw [hW1]; simp [go_sem]
  have g1 : W1.cell? ⟨w1.heap.size, 1, none⟩ = some (.slice a3 l3 c3) := by rw [hW1]; simp [go_sem]
  have x1 : Box2 W1 w1.heap.size := by rw [hW1]; exact Box2.new w1 n3 a3 l3 c3 38 (by decide)
  have b12 := bthen b1 b2
  have hs1 := b1.size
  have hx0 := x0.noint.lt
  replace e0 := keep_cell b12 e0
  replace e1 := keep_cell b12 e1
  replace x0 := x0.next b12
  replace h1 := h1.next b12
  replace hO := hO.next b2
  have hB := bthen hbW b12
  go_upto_region 2 with fail
  rw [← hW1]
  clear hW1 b1 b2 b12 h2 hbW e2 e3
  obtain ⟨g, hg⟩ : ∃ g, g = w1.heap.size := ⟨_, rfl⟩
  have hgl : w.heap.size + 1 < g := by omega
  rw [← hg] at g0 g1 x1 ⊢
  clear hg
  have hdig := hO.digits
  replace hdig : Hid _ := hdig
  go_upto_if 10 with fail
  go_cut [] from 4 (fun wc => FromAt w wc g n1 a1 l1 c1 n (if d = 0 then 1 else d) m)
  case first =>
    by_cases hd : d = 0
    · have hl : l3 = 0 := hdig.out.2 hd
      subst hl
      clear hdig
      go_wp2_with fail
      refine Calls.mono (rOf_one W1) ?_
      rintro e w5 ⟨t, rfl, hP, b5⟩
      obtain ⟨n5, a5, l5, c5, rfl⟩ := hP.rint.form
      obtain ⟨W2, hW2, j0, j1, jo, jb2, jb4, jx, jB⟩ := put2r (x1.next b5) n5 a5 l5 c5
      obtain ⟨_, _, _, _, q0, q1, qf⟩ := (x1.next b5).cells
      have f0 := qf 0
      have f1 := qf 1
      have hBx := put2_boxed (base := 0) (x1.next b5).noint (Nat.zero_le _) n5 a5 l5 c5
      rw [← hW2] at hBx
      have hA : FromAt w W2 g n1 a1 l1 c1 n (if d = 0 then 1 else d) m := by
        rw [if_pos hd]
        exact ⟨⟨(jo _ (by simp; omega)).trans (keep_cell b5 e0), (jo _ (by simp; omega)).trans (keep_cell b5 e1), hBx.num (h1.next b5)⟩, ⟨_, _, _, _, j0, j1, (jx _ _ _ hP.rint).mono (by omega)⟩, jb4 _ (by omega) (x0.next b5), jB _ _ (bthen hB b5) (by omega)⟩
      clear qf jo jb2 jb4 jx jB hBx
      go_wp2
      rw [← hW2]
      go_meet
      case rel => exact hA
    · have hl : ¬ ((l3 : Int) = 0) := fun e => hd (hdig.out.1 (by omega))
      have hA : FromAt w W1 g n1 a1 l1 c1 n (if d = 0 then 1 else d) m := by
        rw [if_neg hd]
        exact ⟨⟨e0, e1, h1⟩, ⟨_, _, _, _, g0, g1, hO.mono (by omega)⟩, x0, hB⟩
      clear hdig
      go_wp2
      go_meet
      case rel => exact hA
  case rest =>
    clear hdig hO e0 e1 x0 x1 h1 hB g0 g1 hs1 hx0
    obtain ⟨⟨e0, e1, h1⟩, ⟨n3, a3, l3, c3, g0, g1, hO⟩, x0, hB⟩ := hcut
    have hD0 : Below wc.heap.size wc wc.drew := (Below.refl _ _).drew
    have hz : (if d = 0 then 1 else d) ≠ 0 := by split <;> omega
    have hpd : pD (if d = 0 then 1 else d) = pD d := by unfold pD; split <;> simp_all
    have hpn : pN n (if d = 0 then 1 else d) = pN n d := by unfold pN; split <;> simp_all
    generalize (if d = 0 then 1 else d) = D at *
    replace hpd : Hid _ := hpd
    replace hpn : Hid _ := hpn
    replace hz : Hid _ := hz
    go_upto_region 4 with fail
    go_region_with (first
      | (go_at_call 155; refine Calls.mono (From_num (h1.next hD0) (by omega)) ?_; rintro e w2 ⟨t, rfl, hP, hb2⟩; replace hP := hP.rint; obtain ⟨n5, a5, l5, c5, rfl⟩ := hP.form; have hB2 : Below wc.heap.size wc w2 := bthen hD0 hb2; have p0 := keep_cell hB2 g0; have p1 := keep_cell hB2 g1)
      | (go_at_call 146; refine Calls.mono (rRatio_num (hP.mono (m := 2 * m + 1) (by omega)) (hO.next hB2) hz.out (by omega)) ?_; rintro e w3 ⟨t, P, Q, rfl, hR, hl, hb3⟩; obtain ⟨n7, a7, l7, c7, n8, a8, l8, c8, rfl⟩ := hR.form; have hB3 : Below wc.heap.size wc w3 := bthen hB2 hb3; have y0 := x0.next hB3; obtain ⟨_, _, _, _, _, _, _, _, j0, j1, j2, j3, f⟩ := y0.cells; have f0 := f 0; have f1 := f 1; have f2 := f 2; have f3 := f 3; clear f))
    all_goals
      have hbx : Hid _ := put4_boxed (base := w.heap.size) y0.noint (by omega) n7 a7 l7 c7 n8 a8 l8 c8
      have hBf := bthen hB hB3
      obtain ⟨r1, r2⟩ := hR.parts
      have hUf : Hid _ := hbx.out.rint r1
      have hOf : Hid _ := hbx.out.rint r2
      rw [hpn.out, hpd.out] at hl
      replace hl : Hid _ := hl
      clear hO hR hP h1 hb2 hB2 r1 r2 hb3 hB3
      go_wp2
      exact bodyPost_ret (v := .agg #[.bool n7, .slice a7 l7 c7, .bool n8, .slice a8 l8 c8]) (by simp [results, Tryz.results86, go_sem, j0, j1, j2, j3]) rfl ⟨_, rfl, ⟨P, Q, ⟨_, _, _, _, _, _, _, _, rfl, hUf.out, hOf.out⟩, hl.out⟩, hbx.out.keep hBf (Nat.le_refl _) hBf.size⟩
end Go.Proofs.YtclokcoimdjaeaaGreatDoor
