/- The walk of IntSums. -/
import Derived.Test.YtdcjgepgiaaaoaaRing2
import Derived.Test.YtdcjgepgiaaaoaaRn
namespace Go.Proofs.Ytdcjgepgiaaaoaa
open Go.RowKit
attribute [local go_sem ↓] Go.wp_at_zero Go.wp_at_succ
theorem two_boxes (w : World) (v0 v1 v2 v3 : Value) (T : TypeId) : ∃ W, W = (w.alloc (.cells #[v0, v1] T)).alloc (.cells #[v2, v3] T) ∧ Below w.heap.size w W ∧ w.heap.size + 1 < W.heap.size ∧
    (W.cell? ⟨w.heap.size, 0, none⟩ = some v0 ∧ W.cell? ⟨w.heap.size, 1, none⟩ = some v1 ∧ W.cell? ⟨w.heap.size + 1, 0, none⟩ = some v2 ∧ W.cell? ⟨w.heap.size + 1, 1, none⟩ = some v3) ∧
    (∀ o, W.frozen? ⟨w.heap.size, o, none⟩ = false) ∧ (∀ o, W.frozen? ⟨w.heap.size + 1, o, none⟩ = false) := by
  refine ⟨_, rfl, ((Below.refl _ _).alloc (Nat.le_refl _) _).alloc (by simp) _, by simp, ⟨?_, ?_, ?_, ?_⟩, ?_, ?_⟩ <;> (try intro o) <;> simp [go_sem, World.cell?_alloc_past, World.frozen?_alloc_past]
theorem Cut12 (n : Bool) (x : Option Addr) (ca : Nat) (xs : List Int) (w : World) (ha : Row w .u32 4294967296 x ca xs) :
    Calls Try.prog 10 #[.agg #[.bool n, .slice x xs.length ca], .int .i64 12] w fun e w' => e = .returned (.agg #[.bool n, .slice x (xs.take 12).length ca]) ∧ ∃ o1 o2, w' = (w.alloc o1).alloc o2 := Cut_exact n x ca 12 xs w ha (by decide)
/-- Digits that lie in blocks from lo on, below hi. -/
def Rlt (w : World) (lo hi : Nat) (v : Value) (z : Int) (n : Nat) : Prop :=
  ∃ (neg : Bool) (a : Option Addr) (cap : Nat) (ds : List Int), v = .agg #[.bool neg, .slice a ds.length cap] ∧ (Row w .i64 65536 a cap ds ∧ ∀ x, a = some x → ds ≠ [] → lo ≤ x.block ∧ x.block < hi) ∧ Norm neg ds ∧ num 65536 neg ds = z ∧ ds.length ≤ n
theorem Rout.rlt {w : World} {base : Nat} {v : Value} {z : Int} {n : Nat} (h : Rout w base v z n) : Rlt w base w.heap.size v z n := by
  obtain ⟨neg, a, cap, ds, hv, hr, r⟩ := h
  refine ⟨neg, a, cap, ds, hv, ⟨hr.1, fun x hx hne => ⟨hr.2 x hx, ?_⟩⟩, r⟩
  have := cell_lt (hr.1.cell x hx 0 (List.length_pos_iff.2 hne))
  rwa [add_block] at this
theorem Rlt.rint {w : World} {lo hi : Nat} {v : Value} {z : Int} {n : Nat} (h : Rlt w lo hi v z n) : Rint w v z n := by
  obtain ⟨neg, a, cap, ds, hv, hr, r⟩ := h
  exact ⟨neg, a, cap, ds, hv, hr.1, r⟩
theorem Rlt.next {w w' : World} {lo hi : Nat} {v : Value} {z : Int} {n : Nat} (h : Rlt w lo hi v z n) (hb : Below w.heap.size w w') : Rlt w' lo hi v z n := by
  obtain ⟨neg, a, cap, ds, hv, hr, r⟩ := h
  exact ⟨neg, a, cap, ds, hv, ⟨hr.1.next hb, hr.2⟩, r⟩
theorem Rlt.alloc {w : World} {lo hi : Nat} {v : Value} {z : Int} {n : Nat} (o : Obj) (h : Rlt w lo hi v z n) : Rlt (w.alloc o) lo hi v z n := h.next ((Below.refl _ _).alloc (Nat.le_refl _) _)
theorem Rlt.drew {w : World} {lo hi : Nat} {v : Value} {z : Int} {n : Nat} (h : Rlt w lo hi v z n) : Rlt w.drew lo hi v z n := h.next ((Below.refl _ _).drew)
theorem Rlt.set {w : World} {lo hi : Nat} {v : Value} {z : Int} {n : Nat} {p : Addr} {u : Value} (hp : p.block < lo ∨ hi ≤ p.block) (h : Rlt w lo hi v z n) : Rlt (w.setCell p u) lo hi v z n := by
  obtain ⟨neg, a, cap, ds, hv, hr, r⟩ := h
  refine ⟨neg, a, cap, ds, hv, ⟨⟨hr.1.le, hr.1.max, hr.1.nil, fun x hx i hi => keep_set (hr.1.cell x hx i hi) ?_, hr.1.words⟩, hr.2⟩, r⟩
  have := hr.2 x hx (by intro e; subst e; simp at hi)
  rw [add_block]
  omega
theorem Rlt.out {w w' : World} {lo hi : Nat} {v : Value} {z : Int} (h : Rlt w lo hi v z (2 * 12)) (k : Rlt w lo hi v z (2 * 12) → Rlt w' lo hi v z (2 * 12)) : Rint w' v z 24 := (k h).rint
theorem sums_cut {w wc : World} {na nb : Bool} {x y : Option Addr} {ca cb : Nat} {xs ys : List Int} (ha : Row w .u32 4294967296 x ca xs) (hb : Row w .u32 4294967296 y cb ys) (hB : Below w.heap.size w wc)
    (c0 : wc.cell? ⟨w.heap.size, 0, none⟩ = some (.bool na)) (c1 : wc.cell? ⟨w.heap.size, 1, none⟩ = some (.slice x (xs.take 12).length ca)) (c2 : wc.cell? ⟨w.heap.size + 1, 0, none⟩ = some (.bool nb)) (c3 : wc.cell? ⟨w.heap.size + 1, 1, none⟩ = some (.slice y (ys.take 12).length cb)) (hl : w.heap.size + 1 < wc.heap.size) :
    wc.cell? ⟨w.heap.size, 0, none⟩ = some (.bool na) ∧ wc.cell? ⟨w.heap.size, 1, none⟩ = some (.slice x (xs.take 12).length ca) ∧ wc.cell? ⟨w.heap.size + 1, 0, none⟩ = some (.bool nb) ∧ wc.cell? ⟨w.heap.size + 1, 1, none⟩ = some (.slice y (ys.take 12).length cb) ∧ Row wc .u32 4294967296 x ca (xs.take 12) ∧ Row wc .u32 4294967296 y cb (ys.take 12) ∧ Below w.heap.size w wc ∧ w.heap.size + 1 < wc.heap.size :=
  ⟨c0, c1, c2, c3, (ha.next hB).take' 12, (hb.next hB).take' 12, hB, hl⟩
def sumsV (pa pb gx gy : Nat) (A B X Y : Value) (za zb : Int) (t : Nat) (v : Value) (w : World) : Prop := match t with
  | 2 => v = .pointer (some ⟨pa, 0, none⟩)
  | 3 => v = .pointer (some ⟨pb, 0, none⟩)
  | 4 => v = .bool true
  | 5 => v = .bool true
  | 6 => v = .pointer (some ⟨gx, 0, none⟩)
  | 7 => v = .pointer (some ⟨gy, 0, none⟩)
  | 17 => v = .bool true
  | 18 => v = .bool true
  | 19 => v = A
  | 20 => v = B
  | 21 => OutE w v (za + zb) 13
  | 22 => v = X
  | 23 => v = Y
  | 24 => Rint w v (za + zb) 25
  | 25 => v = .bool true
  | 26 => v = .bool true
  | 27 => v = .bool true
  | 28 => v = A
  | 29 => v = B
  | 30 => OutE w v (za - zb) 13
  | 31 => v = X
  | 32 => v = Y
  | 33 => Rint w v (za - zb) 25
  | 34 => v = .bool true
  | 35 => v = .bool true
  | 36 => v = .bool true
  | 37 => v = A
  | 38 => v = B
  | 39 => OutE w v (za * zb) 24
  | 40 => v = X
  | 41 => v = Y
  | 42 => Rint w v (za * zb) 49
  | 43 => v = .bool true
  | 44 => v = .bool true
  | 45 => v = .bool true
  | 46 => v = A
  | 47 => OutE w v (-za) 12
  | 48 => v = X
  | 49 => Rint w v (-za) 24
  | 50 => v = .bool true
  | 51 => v = .bool true
  | 52 => v = .bool true
  | 53 => v = A
  | 54 => v = B
  | 55 => v = .int .i64 (cmpI za zb)
  | 56 => v = X
  | 57 => v = Y
  | 58 => v = .int .i64 (cmpI za zb)
  | 59 => v = .bool true
  | 60 => v = .bool true
  | 61 => v = .bool true
  | 62 => v = A
  | 63 => ∃ L : Nat, v = .int .i64 L ∧ HasBits (za.natAbs : Int) L
  | 64 => v = X
  | 65 => ∃ L : Nat, v = .int .i64 L ∧ HasBits (za.natAbs : Int) L
  | 66 => v = .bool true
  | 67 => v = .bool true
  | _ => True
theorem sumsV_next {pa pb gx gy : Nat} {A B X Y : Value} {za zb : Int} (t : Nat) (v : Value) (w w' : World) (hb : Below w.heap.size w w') (h : sumsV pa pb gx gy A B X Y za zb t v w) : sumsV pa pb gx gy A B X Y za zb t v w' := by
  unfold sumsV at h ⊢
  split at h <;> first | exact h | exact OutE.next h hb | exact Rint.next h hb
set_option maxRecDepth 20000 in
set_option maxHeartbeats 4000000 in
theorem sums_any (hbeg : BegunSaid) (na nb : Bool) (x y : Option Addr) (ca cb : Nat) (xs ys : List Int) (w : World) (ha : Row w .u32 4294967296 x ca xs) (hb : Row w .u32 4294967296 y cb ys) :
    Calls Try.prog 3 #[.agg #[.bool na, .slice x xs.length ca], .agg #[.bool nb, .slice y ys.length cb]] w fun e w' => e = .returned (.bool true) ∧ Below w.heap.size w w' := by
  go_enter Try.func3, Try.ntmps3
  go_wp2_with fail
  obtain ⟨W, hW, hbW, hlt, ⟨c0, c1, c2, c3⟩, f0, f1⟩ := two_boxes w (.bool na) (.slice x xs.length ca) (.bool nb) (.slice y ys.length cb) 24
  rw [← hW]
  clear hW
  refine (hbeg _).mono ?_
  rintro e w1 ⟨rfl, hb1⟩
  have d0 := keep_cell hb1 c0
  have d1 := keep_cell hb1 c1
  have d2 := keep_cell hb1 c2
  have d3 := keep_cell hb1 c3
  have g0 := keep_frozen hb1 c0 (f0 0)
  have g1 := keep_frozen hb1 c1 (f0 1)
  have g2 := keep_frozen hb1 c2 (f1 0)
  have g3 := keep_frozen hb1 c3 (f1 1)
  have hx := (ha.next hbW).next hb1
  have hy := (hb.next hbW).next hb1
  have hw1 := bthen hbW hb1
  have hsz := hb1.size
  have l0 : w.heap.size < w1.heap.size := by omega
  have l1 : w.heap.size + 1 < w1.heap.size := by omega
  have m10 : w.heap.size < w1.heap.size + 1 := by omega
  have m11 : w.heap.size + 1 < w1.heap.size + 1 := by omega
  have m20 : w.heap.size < w1.heap.size + 1 + 1 := by omega
  have m21 : w.heap.size + 1 < w1.heap.size + 1 + 1 := by omega
  have m30 : w.heap.size < w1.heap.size + 1 + 1 + 1 := by omega
  have m31 : w.heap.size + 1 < w1.heap.size + 1 + 1 + 1 := by omega
  have m40 : w.heap.size < w1.heap.size + 1 + 1 + 1 + 1 := by omega
  have m41 : w.heap.size + 1 < w1.heap.size + 1 + 1 + 1 + 1 := by omega
  clear c0 c1 c2 c3 f0 f1 hbW hb1
  go_wp2
  go_cut [] from 13 (fun wc => wc.cell? ⟨w.heap.size, 0, none⟩ = some (.bool na) ∧ wc.cell? ⟨w.heap.size, 1, none⟩ = some (.slice x (xs.take 12).length ca) ∧ wc.cell? ⟨w.heap.size + 1, 0, none⟩ = some (.bool nb) ∧ wc.cell? ⟨w.heap.size + 1, 1, none⟩ = some (.slice y (ys.take 12).length cb) ∧ Row wc .u32 4294967296 x ca (xs.take 12) ∧ Row wc .u32 4294967296 y cb (ys.take 12) ∧ Below w.heap.size w wc ∧ w.heap.size + 1 < wc.heap.size)
  case first =>
   go_region_with (first
     | (go_at_call_of 10 (Value.slice x xs.length ca); refine (Cut12 na x ca xs _ (hx.next ?q)).mono ?_; (case q => ((repeat' (first | with_reducible refine Below.alloc ?_ ?_ _ | with_reducible refine Below.setCell ?_ ?_ _ | with_reducible refine Below.drew ?_ | with_reducible assumption | with_reducible exact Below.refl _ _)) <;> first | omega | (simp; done) | (simp; omega))); rintro e w2 ⟨rfl, o1, o2, rfl⟩)
     | (go_at_call_of 10 (Value.slice y ys.length cb); refine (Cut12 nb y cb ys _ (hy.next ?q)).mono ?_; (case q => ((repeat' (first | with_reducible refine Below.alloc ?_ ?_ _ | with_reducible refine Below.setCell ?_ ?_ _ | with_reducible refine Below.drew ?_ | with_reducible assumption | with_reducible exact Below.refl _ _)) <;> first | omega | (simp; done) | (simp; omega))); rintro e w2 ⟨rfl, o3, o4, rfl⟩))
   all_goals
    go_wp2_with fail
    go_meet
    case rel =>
     go_light
     refine sums_cut ha hb ?_ ?_ ?_ ?_ ?_ ?_
     · ((repeat' (first | with_reducible refine Below.alloc ?_ ?_ _ | with_reducible refine Below.setCell ?_ ?_ _ | with_reducible refine Below.drew ?_ | with_reducible assumption | with_reducible exact Below.refl _ _)) <;> first | omega | (simp; done) | (simp; omega))
     · (clear ha hb hx hy hw1; simp [go_sem, *])
     · (clear ha hb hx hy hw1; simp [go_sem, *])
     · (clear ha hb hx hy hw1; simp [go_sem, *])
     · (clear ha hb hx hy hw1; simp [go_sem, *])
     · (simp; omega)
  case rest =>
   obtain ⟨e0, e1, e2, e3, rx, ry, hB, hl⟩ := hcut
   generalize wc = Wc at *
   clear d0 d1 d2 d3 g0 g1 g2 g3 hx hy hw1 hsz l0 l1 m10 m11 m20 m21 m30 m31 m40 m41 ha hb hlt
   have lx : (xs.take 12).length ≤ 12 := by rw [List.length_take]; omega
   have ly : (ys.take 12).length ≤ 12 := by rw [List.length_take]; omega
   generalize xs.take 12 = xt at *
   generalize ys.take 12 = yt at *
   have nA : Num Wc (.agg #[.bool na, .slice x xt.length ca]) (num 4294967296 na xt) 12 := ⟨na, x, ca, xt, rfl, rx, rfl, lx⟩
   have nB : Num Wc (.agg #[.bool nb, .slice y yt.length cb]) (num 4294967296 nb yt) 12 := ⟨nb, y, cb, yt, rfl, ry, rfl, ly⟩
   generalize num 4294967296 na xt = za at *
   generalize num 4294967296 nb yt = zb at *
   go_wp2
   go_cut [6, 7] from 17 (fun p q w2 => ∃ gx gy X Y, p = .pointer (some ⟨gx, 0, none⟩) ∧ q = .pointer (some ⟨gy, 0, none⟩) ∧ (∃ m a l c, X = Value.agg #[.bool m, .slice a l c] ∧ w2.cell? ⟨gx, 0, none⟩ = some (.bool m) ∧ w2.cell? ⟨gx, 1, none⟩ = some (.slice a l c)) ∧ (∃ m a l c, Y = Value.agg #[.bool m, .slice a l c] ∧ w2.cell? ⟨gy, 0, none⟩ = some (.bool m) ∧ w2.cell? ⟨gy, 1, none⟩ = some (.slice a l c)) ∧ Rint w2 X za 24 ∧ Rint w2 Y zb 24 ∧ Below Wc.heap.size Wc w2)
   case first =>
    go_region_held3 (fun w' => w'.cell? ⟨w.heap.size, 0, none⟩ = some (.bool na) ∧ w'.cell? ⟨w.heap.size, 1, none⟩ = some (.slice x xt.length ca) ∧ w'.cell? ⟨w.heap.size + 1, 0, none⟩ = some (.bool nb) ∧ w'.cell? ⟨w.heap.size + 1, 1, none⟩ = some (.slice y yt.length cb) ∧ Below Wc.heap.size Wc w') ((refine (fun hX : Below Wc.heap.size Wc _ => ⟨keep_cell hX e0, keep_cell hX e1, keep_cell hX e2, keep_cell hX e3, hX⟩) ?_; ((repeat' (first | with_reducible refine Below.alloc ?_ ?_ _ | with_reducible refine Below.setCell ?_ ?_ _ | with_reducible refine Below.drew ?_ | with_reducible assumption | with_reducible exact Below.refl _ _)) <;> first | omega | (simp; done) | (simp; omega))))
      (first
        | (go_at_call_of 11 (Value.slice x xt.length ca); refine (From_num (nA.next ?q1) (by omega)).mono ?_; (case q1 => exact And.right (And.right (And.right (And.right (by assumption))))); rintro e w2 ⟨t, rfl, hO1, hb2⟩; obtain ⟨n1, a1, l1, p1, rfl⟩ := hO1.rint.form; replace hO1 := hO1.rlt; have hy1 := hb2.size; (try simp at hy1); (try (refine (fun q : Wc.heap.size < w2.heap.size => ?_) ?_; rotate_left; (focus omega))); (try (refine (fun q : Wc.heap.size + 1 < w2.heap.size => ?_) ?_; rotate_left; (focus omega))); obtain ⟨hc1, hf1⟩ := bcell hb2; have hB1 : Below Wc.heap.size Wc w2 := bthen (And.right (And.right (And.right (And.right (by assumption))))) hb2; have hs1 := hB1.size)
        | (go_at_call_of 11 (Value.slice y yt.length cb); refine (From_num (nB.next ?q1) (by omega)).mono ?_; (case q1 => exact And.right (And.right (And.right (And.right (by assumption))))); rintro e w3 ⟨t, rfl, hO2, hb3⟩; obtain ⟨n2, a2, l2, p2, rfl⟩ := hO2.rint.form; replace hO2 := hO2.rlt; have hy2 := hb3.size; (try simp at hy2); (try (refine (fun q : w2.heap.size < w3.heap.size => ?_) ?_; rotate_left; (focus omega))); (try (refine (fun q : w2.heap.size + 1 < w3.heap.size => ?_) ?_; rotate_left; (focus omega))); (try (refine (fun q : Wc.heap.size < w3.heap.size => ?_) ?_; rotate_left; (focus omega))); (try (refine (fun q : Wc.heap.size + 1 < w3.heap.size => ?_) ?_; rotate_left; (focus omega))); obtain ⟨hc2, hf2⟩ := bcell hb3; have hB2 : Below Wc.heap.size Wc w3 := bthen (And.right (And.right (And.right (And.right (by assumption))))) hb3; have hs2 := hB2.size))
    all_goals
     go_wp2_with fail
     go_meet
     case rel =>
      go_light
      have u1 : ∀ n : Nat, n < n + 1 + 1 := by omega
      have u2 : ∀ n : Nat, n < n + 1 := by omega
      have u3 : Wc.heap.size < w2.heap.size + 1 := by omega
      have u4 : Wc.heap.size < w2.heap.size + 1 + 1 := by omega
      have u5 : Wc.heap.size + 1 < w2.heap.size + 1 + 1 := by omega
      have u6 : w2.heap.size < w3.heap.size + 1 := by have := hb3.size; (try simp at this); omega
      have u7 : Wc.heap.size < w3.heap.size + 1 := by omega
      have u8 : Wc.heap.size < w3.heap.size + 1 + 1 := by omega
      refine ⟨_, _, _, _, rfl, rfl, ⟨n1, a1, l1, p1, rfl, ?x1, ?x2⟩, ⟨n2, a2, l2, p2, rfl, ?x3, ?x4⟩, ?x5, ?x6, ?x7⟩
      case x5 => (refine Rlt.out hO1 (fun hO => ?_); ((repeat' (first | with_reducible exact hO | with_reducible refine Rlt.next ?_ hb3 | with_reducible refine Rlt.set ?_ ?_ | with_reducible refine Rlt.alloc _ ?_ | with_reducible refine Rlt.drew ?_)) <;> first | omega | (simp; done) | (simp; omega)))
      case x6 => (refine Rlt.out hO2 (fun hO => ?_); ((repeat' (first | with_reducible exact hO | with_reducible refine Rlt.set ?_ ?_ | with_reducible refine Rlt.alloc _ ?_ | with_reducible refine Rlt.drew ?_)) <;> first | omega | (simp; done) | (simp; omega)))
      case x7 => ((repeat' (first | with_reducible refine Below.alloc ?_ ?_ _ | with_reducible refine Below.setCell ?_ ?_ _ | with_reducible refine Below.drew ?_ | with_reducible assumption | with_reducible exact Below.refl _ _)) <;> first | omega | (simp; done) | (simp; omega))
      case x1 => (clear hO1 hO2 nA nB hb2 hb3 hB1 hB2 hB; simp [go_sem, *])
      case x2 => (clear hO1 hO2 nA nB hb2 hb3 hB1 hB2 hB; simp [go_sem, *])
      case x3 => (clear hO1 hO2 nA nB hb2 hb3 hB1 hB2 hB; simp [go_sem, *])
      case x4 => (clear hO1 hO2 nA nB hb2 hb3 hB1 hB2 hB; simp [go_sem, *])
   case rest =>
    obtain ⟨gx, gy, X, Y, rfl, rfl, ⟨mx, ax, kx, cx, rfl, p0, p1⟩, ⟨my, ay, ky, cy, rfl, q0, q1⟩, hX, hY, hB2⟩ := hcut
    have e0' := keep_cell hB2 e0
    have e1' := keep_cell hB2 e1
    have e2' := keep_cell hB2 e2
    have e3' := keep_cell hB2 e3
    have nA' := nA.next hB2
    have nB' := nB.next hB2
    have hBB := hB.trans (hB2.mono hB.size)
    clear e0 e1 e2 e3 nA nB rx ry hB hB2 lx ly
    have c0 := e0'
    have c1 := e1'
    have c2 := e2'
    have c3 := e3'
    have hA := nA'
    have hB := nB'
    clear e0' e1' e2' e3' nA' nB'
    go_wp2
    refine wp_region_typed (sumsV w.heap.size (w.heap.size + 1) gx gy (.agg #[.bool na, .slice x xt.length ca]) (.agg #[.bool nb, .slice y yt.length cb]) (.agg #[.bool mx, .slice ax kx cx]) (.agg #[.bool my, .slice ay ky cy]) za zb) [2, 3, 5, 6, 7] 68 (by kernel_rfl) (by kernel_rfl) rfl sumsV_next ?hstart ?hstep ?hend
    case hstart =>
     intro t ht
     simp only [List.mem_cons, List.not_mem_nil, or_false] at ht
     rcases ht with rfl | rfl | rfl | rfl | rfl <;> rfl
    case hstep =>
     refine steps_cons ?s0 (steps_cons ?s1 (steps_cons ?s2 (steps_cons ?s3 (steps_cons ?s4 (steps_cons ?s5 (steps_cons ?s6 (steps_cons ?s7 (steps_cons ?s8 (steps_cons ?s9 (steps_cons ?s10 (steps_cons ?s11 (steps_cons ?s12 (steps_cons ?s13 (steps_cons ?s14 (steps_cons ?s15 (steps_cons ?s16 (steps_cons ?s17 (steps_cons ?s18 (steps_cons ?s19 (steps_cons ?s20 (steps_cons ?s21 (steps_cons ?s22 (steps_cons ?s23 (steps_cons ?s24 (steps_cons ?s25 (steps_cons ?s26 (steps_cons ?s27 (steps_cons ?s28 (steps_cons ?s29 (steps_cons ?s30 (steps_cons ?s31 (steps_cons ?s32 (steps_cons ?s33 (steps_cons ?s34 (steps_cons ?s35 (steps_cons ?s36 (steps_cons ?s37 (steps_cons ?s38 (steps_cons ?s39 (steps_cons ?s40 (steps_cons ?s41 (steps_cons ?s42 (steps_cons ?s43 (steps_cons ?s44 (steps_cons ?s45 (steps_cons ?s46 (steps_cons ?s47 (steps_cons ?s48 (steps_cons ?s49 (steps_cons ?s50 (steps_cons ?s51 (steps_nil))))))))))))))))))))))))))))))))))))))))))))))))))))
     case s0 => exact step_move 5 17 rfl rfl (guard_none rfl) (by kernel_rfl) (fun v w h => h)
     case s1 => exact step_move 17 18 rfl rfl (guard_none rfl) (by kernel_rfl) (fun v w h => h)
     case s2 => exact StepOk.of (guard_true 1 18 rfl (by kernel_rfl) (by kernel_rfl) (fun v w h => h)) fun b w' _ hW hl K hK => ld24 (keep_cell hW c0) (keep_cell hW c1) 2 rfl (look hl 2 (by kernel_rfl)) (hK _ _ (Below.refl _ _) (dst_eq rfl rfl))
     case s3 => exact StepOk.of (guard_true 1 18 rfl (by kernel_rfl) (by kernel_rfl) (fun v w h => h)) fun b w' _ hW hl K hK => ld24 (keep_cell hW c2) (keep_cell hW c3) 3 rfl (look hl 3 (by kernel_rfl)) (hK _ _ (Below.refl _ _) (dst_eq rfl rfl))
     case s4 => exact step_call2 13 19 20 21 _ (by kernel_rfl) rfl rfl (guard_true 1 18 rfl (by kernel_rfl) (by kernel_rfl) (fun v w h => h)) (by kernel_rfl) (by kernel_rfl) (fun u v w' hW hu hv => by subst hu; subst hv; exact (Add_num (hA.next hW) (hB.next hW) (by decide) (by decide)).mono fun e w'' h => by obtain ⟨t, he, ho, hb⟩ := h; exact ⟨t, he, ⟨_, ho⟩, hb⟩)
     case s5 => exact StepOk.of (guard_true 1 18 rfl (by kernel_rfl) (by kernel_rfl) (fun v w h => h)) fun b w' _ hW hl K hK => ld30 (keep_cell hW p0) (keep_cell hW p1) 6 rfl (look hl 6 (by kernel_rfl)) (hK _ _ (Below.refl _ _) (dst_eq rfl rfl))
     case s6 => exact StepOk.of (guard_true 1 18 rfl (by kernel_rfl) (by kernel_rfl) (fun v w h => h)) fun b w' _ hW hl K hK => ld30 (keep_cell hW q0) (keep_cell hW q1) 7 rfl (look hl 7 (by kernel_rfl)) (hK _ _ (Below.refl _ _) (dst_eq rfl rfl))
     case s7 => exact step_call2 14 22 23 24 _ (by kernel_rfl) rfl rfl (guard_true 1 18 rfl (by kernel_rfl) (by kernel_rfl) (fun v w h => h)) (by kernel_rfl) (by kernel_rfl) (fun u v w' hW hu hv => by subst hu; subst hv; exact rAdd_num (hX.next hW) (hY.next hW) (by decide) (by decide))
     case s8 => exact step_call2 12 21 24 25 _ (by kernel_rfl) rfl rfl (guard_true 1 18 rfl (by kernel_rfl) (by kernel_rfl) (fun v w h => h)) (by kernel_rfl) (by kernel_rfl) (fun u v w' hW hu hv => (Is_num hu hv (by decide) (by decide)).mono fun e w'' h => ⟨_, h.1, by simp [sumsV], h.2⟩)
     case s9 => exact step_pick 18 25 26 _ rfl rfl (guard_none rfl) (by kernel_rfl) (by kernel_rfl) (fun v w h => h) (fun v w h => h)
     case s10 => exact step_move 26 27 rfl rfl (guard_none rfl) (by kernel_rfl) (fun v w h => h)
     case s11 => exact StepOk.of (guard_true 10 27 rfl (by kernel_rfl) (by kernel_rfl) (fun v w h => h)) fun b w' _ hW hl K hK => ld24 (keep_cell hW c0) (keep_cell hW c1) 2 rfl (look hl 2 (by kernel_rfl)) (hK _ _ (Below.refl _ _) (dst_eq rfl rfl))
     case s12 => exact StepOk.of (guard_true 10 27 rfl (by kernel_rfl) (by kernel_rfl) (fun v w h => h)) fun b w' _ hW hl K hK => ld24 (keep_cell hW c2) (keep_cell hW c3) 3 rfl (look hl 3 (by kernel_rfl)) (hK _ _ (Below.refl _ _) (dst_eq rfl rfl))
     case s13 => exact step_call2 15 28 29 30 _ (by kernel_rfl) rfl rfl (guard_true 10 27 rfl (by kernel_rfl) (by kernel_rfl) (fun v w h => h)) (by kernel_rfl) (by kernel_rfl) (fun u v w' hW hu hv => by subst hu; subst hv; exact (Sub_num (hA.next hW) (hB.next hW) (by decide) (by decide)).mono fun e w'' h => by obtain ⟨t, he, ho, hb⟩ := h; exact ⟨t, he, ⟨_, ho⟩, hb⟩)
     case s14 => exact StepOk.of (guard_true 10 27 rfl (by kernel_rfl) (by kernel_rfl) (fun v w h => h)) fun b w' _ hW hl K hK => ld30 (keep_cell hW p0) (keep_cell hW p1) 6 rfl (look hl 6 (by kernel_rfl)) (hK _ _ (Below.refl _ _) (dst_eq rfl rfl))
     case s15 => exact StepOk.of (guard_true 10 27 rfl (by kernel_rfl) (by kernel_rfl) (fun v w h => h)) fun b w' _ hW hl K hK => ld30 (keep_cell hW q0) (keep_cell hW q1) 7 rfl (look hl 7 (by kernel_rfl)) (hK _ _ (Below.refl _ _) (dst_eq rfl rfl))
     case s16 => exact step_call2 16 31 32 33 _ (by kernel_rfl) rfl rfl (guard_true 10 27 rfl (by kernel_rfl) (by kernel_rfl) (fun v w h => h)) (by kernel_rfl) (by kernel_rfl) (fun u v w' hW hu hv => by subst hu; subst hv; exact rSub_num (hX.next hW) (hY.next hW) (by decide) (by decide))
     case s17 => exact step_call2 12 30 33 34 _ (by kernel_rfl) rfl rfl (guard_true 10 27 rfl (by kernel_rfl) (by kernel_rfl) (fun v w h => h)) (by kernel_rfl) (by kernel_rfl) (fun u v w' hW hu hv => (Is_num hu hv (by decide) (by decide)).mono fun e w'' h => ⟨_, h.1, by simp [sumsV], h.2⟩)
     case s18 => exact step_pick 27 34 35 _ rfl rfl (guard_none rfl) (by kernel_rfl) (by kernel_rfl) (fun v w h => h) (fun v w h => h)
     case s19 => exact step_move 35 36 rfl rfl (guard_none rfl) (by kernel_rfl) (fun v w h => h)
     case s20 => exact StepOk.of (guard_true 19 36 rfl (by kernel_rfl) (by kernel_rfl) (fun v w h => h)) fun b w' _ hW hl K hK => ld24 (keep_cell hW c0) (keep_cell hW c1) 2 rfl (look hl 2 (by kernel_rfl)) (hK _ _ (Below.refl _ _) (dst_eq rfl rfl))
     case s21 => exact StepOk.of (guard_true 19 36 rfl (by kernel_rfl) (by kernel_rfl) (fun v w h => h)) fun b w' _ hW hl K hK => ld24 (keep_cell hW c2) (keep_cell hW c3) 3 rfl (look hl 3 (by kernel_rfl)) (hK _ _ (Below.refl _ _) (dst_eq rfl rfl))
     case s22 => exact step_call2 17 37 38 39 _ (by kernel_rfl) rfl rfl (guard_true 19 36 rfl (by kernel_rfl) (by kernel_rfl) (fun v w h => h)) (by kernel_rfl) (by kernel_rfl) (fun u v w' hW hu hv => by subst hu; subst hv; exact (Mul_num (hA.next hW) (hB.next hW) (by decide) (by decide)).mono fun e w'' h => by obtain ⟨t, he, ho, hb⟩ := h; exact ⟨t, he, ⟨_, ho⟩, hb⟩)
     case s23 => exact StepOk.of (guard_true 19 36 rfl (by kernel_rfl) (by kernel_rfl) (fun v w h => h)) fun b w' _ hW hl K hK => ld30 (keep_cell hW p0) (keep_cell hW p1) 6 rfl (look hl 6 (by kernel_rfl)) (hK _ _ (Below.refl _ _) (dst_eq rfl rfl))
     case s24 => exact StepOk.of (guard_true 19 36 rfl (by kernel_rfl) (by kernel_rfl) (fun v w h => h)) fun b w' _ hW hl K hK => ld30 (keep_cell hW q0) (keep_cell hW q1) 7 rfl (look hl 7 (by kernel_rfl)) (hK _ _ (Below.refl _ _) (dst_eq rfl rfl))
     case s25 => exact step_call2 18 40 41 42 _ (by kernel_rfl) rfl rfl (guard_true 19 36 rfl (by kernel_rfl) (by kernel_rfl) (fun v w h => h)) (by kernel_rfl) (by kernel_rfl) (fun u v w' hW hu hv => by subst hu; subst hv; exact rMul_num (hX.next hW) (hY.next hW) (by decide) (by decide))
     case s26 => exact step_call2 12 39 42 43 _ (by kernel_rfl) rfl rfl (guard_true 19 36 rfl (by kernel_rfl) (by kernel_rfl) (fun v w h => h)) (by kernel_rfl) (by kernel_rfl) (fun u v w' hW hu hv => (Is_num hu hv (by decide) (by decide)).mono fun e w'' h => ⟨_, h.1, by simp [sumsV], h.2⟩)
     case s27 => exact step_pick 36 43 44 _ rfl rfl (guard_none rfl) (by kernel_rfl) (by kernel_rfl) (fun v w h => h) (fun v w h => h)
     case s28 => exact step_move 44 45 rfl rfl (guard_none rfl) (by kernel_rfl) (fun v w h => h)
     case s29 => exact StepOk.of (guard_true 28 45 rfl (by kernel_rfl) (by kernel_rfl) (fun v w h => h)) fun b w' _ hW hl K hK => ld24 (keep_cell hW c0) (keep_cell hW c1) 2 rfl (look hl 2 (by kernel_rfl)) (hK _ _ (Below.refl _ _) (dst_eq rfl rfl))
     case s30 => exact step_call1 19 46 47 _ (by kernel_rfl) rfl rfl (guard_true 28 45 rfl (by kernel_rfl) (by kernel_rfl) (fun v w h => h)) (by kernel_rfl) (fun u w' hW hu => by subst hu; exact (Neg_num (hA.next hW) (by decide)).mono fun e w'' h => by obtain ⟨t, he, ho, hb⟩ := h; exact ⟨t, he, ⟨_, ho⟩, hb⟩)
     case s31 => exact StepOk.of (guard_true 28 45 rfl (by kernel_rfl) (by kernel_rfl) (fun v w h => h)) fun b w' _ hW hl K hK => ld30 (keep_cell hW p0) (keep_cell hW p1) 6 rfl (look hl 6 (by kernel_rfl)) (hK _ _ (Below.refl _ _) (dst_eq rfl rfl))
     case s32 => exact step_call1 20 48 49 _ (by kernel_rfl) rfl rfl (guard_true 28 45 rfl (by kernel_rfl) (by kernel_rfl) (fun v w h => h)) (by kernel_rfl) (fun u w' hW hu => by subst hu; exact rNeg_num (hX.next hW))
     case s33 => exact step_call2 12 47 49 50 _ (by kernel_rfl) rfl rfl (guard_true 28 45 rfl (by kernel_rfl) (by kernel_rfl) (fun v w h => h)) (by kernel_rfl) (by kernel_rfl) (fun u v w' hW hu hv => (Is_num hu hv (by decide) (by decide)).mono fun e w'' h => ⟨_, h.1, by simp [sumsV], h.2⟩)
     case s34 => exact step_pick 45 50 51 _ rfl rfl (guard_none rfl) (by kernel_rfl) (by kernel_rfl) (fun v w h => h) (fun v w h => h)
     case s35 => exact step_move 51 52 rfl rfl (guard_none rfl) (by kernel_rfl) (fun v w h => h)
     case s36 => exact StepOk.of (guard_true 35 52 rfl (by kernel_rfl) (by kernel_rfl) (fun v w h => h)) fun b w' _ hW hl K hK => ld24 (keep_cell hW c0) (keep_cell hW c1) 2 rfl (look hl 2 (by kernel_rfl)) (hK _ _ (Below.refl _ _) (dst_eq rfl rfl))
     case s37 => exact StepOk.of (guard_true 35 52 rfl (by kernel_rfl) (by kernel_rfl) (fun v w h => h)) fun b w' _ hW hl K hK => ld24 (keep_cell hW c2) (keep_cell hW c3) 3 rfl (look hl 3 (by kernel_rfl)) (hK _ _ (Below.refl _ _) (dst_eq rfl rfl))
     case s38 => exact step_call2 21 53 54 55 _ (by kernel_rfl) rfl rfl (guard_true 35 52 rfl (by kernel_rfl) (by kernel_rfl) (fun v w h => h)) (by kernel_rfl) (by kernel_rfl) (fun u v w' hW hu hv => by subst hu; subst hv; exact (Cmp_num (hA.next hW) (hB.next hW) (by decide) (by decide)).mono fun e w'' h => ⟨_, h.1, rfl, h.2⟩)
     case s39 => exact StepOk.of (guard_true 35 52 rfl (by kernel_rfl) (by kernel_rfl) (fun v w h => h)) fun b w' _ hW hl K hK => ld30 (keep_cell hW p0) (keep_cell hW p1) 6 rfl (look hl 6 (by kernel_rfl)) (hK _ _ (Below.refl _ _) (dst_eq rfl rfl))
     case s40 => exact StepOk.of (guard_true 35 52 rfl (by kernel_rfl) (by kernel_rfl) (fun v w h => h)) fun b w' _ hW hl K hK => ld30 (keep_cell hW q0) (keep_cell hW q1) 7 rfl (look hl 7 (by kernel_rfl)) (hK _ _ (Below.refl _ _) (dst_eq rfl rfl))
     case s41 => exact step_call2 22 56 57 58 _ (by kernel_rfl) rfl rfl (guard_true 35 52 rfl (by kernel_rfl) (by kernel_rfl) (fun v w h => h)) (by kernel_rfl) (by kernel_rfl) (fun u v w' hW hu hv => by subst hu; subst hv; exact (rCmp_num (hX.next hW) (hY.next hW) (by decide) (by decide)).mono fun e w'' h => ⟨_, h.1, rfl, h.2⟩)
     case s42 => exact StepOk.of (guard_true 35 52 rfl (by kernel_rfl) (by kernel_rfl) (fun v w h => h)) fun b w' _ hW hl K hK => eq3 55 58 rfl (look hl 55 (by kernel_rfl)) (look hl 58 (by kernel_rfl)) (hK _ _ (Below.refl _ _) (dst_eq rfl (by simp [sumsV])))
     case s43 => exact step_pick 52 59 60 _ rfl rfl (guard_none rfl) (by kernel_rfl) (by kernel_rfl) (fun v w h => h) (fun v w h => h)
     case s44 => exact step_move 60 61 rfl rfl (guard_none rfl) (by kernel_rfl) (fun v w h => h)
     case s45 => exact StepOk.of (guard_true 44 61 rfl (by kernel_rfl) (by kernel_rfl) (fun v w h => h)) fun b w' _ hW hl K hK => ld24 (keep_cell hW c0) (keep_cell hW c1) 2 rfl (look hl 2 (by kernel_rfl)) (hK _ _ (Below.refl _ _) (dst_eq rfl rfl))
     case s46 => exact step_call1 23 62 63 _ (by kernel_rfl) rfl rfl (guard_true 44 61 rfl (by kernel_rfl) (by kernel_rfl) (fun v w h => h)) (by kernel_rfl) (fun u w' hW hu => by subst hu; exact (Bits_num (hA.next hW) (by decide)).mono fun e w'' h => by obtain ⟨L, he, hL, hb⟩ := h; exact ⟨_, he, ⟨L, rfl, hL⟩, hb⟩)
     case s47 => exact StepOk.of (guard_true 44 61 rfl (by kernel_rfl) (by kernel_rfl) (fun v w h => h)) fun b w' _ hW hl K hK => ld30 (keep_cell hW p0) (keep_cell hW p1) 6 rfl (look hl 6 (by kernel_rfl)) (hK _ _ (Below.refl _ _) (dst_eq rfl rfl))
     case s48 => exact step_call1 24 64 65 _ (by kernel_rfl) rfl rfl (guard_true 44 61 rfl (by kernel_rfl) (by kernel_rfl) (fun v w h => h)) (by kernel_rfl) (fun u w' hW hu => by subst hu; exact (rBits_num (hX.next hW) (by decide)).mono fun e w'' h => by obtain ⟨L, he, hL, hb⟩ := h; exact ⟨_, he, ⟨L, rfl, hL⟩, hb⟩)
     case s49 => exact StepOk.of (guard_true 44 61 rfl (by kernel_rfl) (by kernel_rfl) (fun v w h => h)) fun b w' _ hW hl K hK => by obtain ⟨L, hL, kL⟩ := look hl 63 (by kernel_rfl); obtain ⟨M, hM, kM⟩ := look hl 65 (by kernel_rfl); obtain rfl := kL.unique kM; exact eq3 63 65 rfl hL hM (hK _ _ (Below.refl _ _) (dst_eq rfl (by simp [sumsV])))
     case s50 => exact step_pick 61 66 67 _ rfl rfl (guard_none rfl) (by kernel_rfl) (by kernel_rfl) (fun v w h => h) (fun v w h => h)
     case s51 => exact step_assign 67 4 rfl rfl (guard_none rfl) (by kernel_rfl) (fun v w h => h)
    case hend =>
     intro b w' hs hd hW hv
     have h4 : b.tmps.getD 4 undef = .bool true := hv 4 (.inr ⟨51, _, rfl, rfl⟩)
     rw [Array.getD_eq_getD_getElem?] at h4
     go_wp2
     exact bodyPost_ret (v := .bool true) (by simp [results, Try.results3, go_sem, h4]) hd ⟨rfl, bthen hBB hW⟩
end Go.Proofs.Ytdcjgepgiaaaoaa
