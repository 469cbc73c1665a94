/- Sums, differences, products of fractions. -/
import Derived.Test.YthiiglhecajhbaaGreatFs
namespace Go.Proofs.YthiiglhecajhbaaGreat
set_option linter.unusedVariables false
open Go.RowKit
attribute [local go_sem ↓] Go.wp_at_zero Go.wp_at_succ
theorem boxes_op (w : World) (n1 : Bool) (a1 : Option Addr) (l1 c1 : Nat) (n2 : Bool) (a2 : Option Addr) (l2 c2 : Nat) (n3 : Bool) (a3 : Option Addr) (l3 c3 : Nat) (n4 : Bool) (a4 : Option Addr) (l4 c4 : Nat) : ∃ W, W = ((w.alloc (.cells #[.bool n1, .slice a1 l1 c1, .bool n2, .slice a2 l2 c2] 26)).alloc (.cells #[.bool n3, .slice a3 l3 c3, .bool n4, .slice a4 l4 c4] 26)).alloc (.cells #[.bool false, .slice none 0 0, .bool false, .slice none 0 0] 26) ∧ Below w.heap.size w W ∧
    (W.cell? ⟨w.heap.size, 0, none⟩ = some (.bool n1) ∧ W.cell? ⟨w.heap.size, 1, none⟩ = some (.slice a1 l1 c1) ∧ W.cell? ⟨w.heap.size, 2, none⟩ = some (.bool n2) ∧ W.cell? ⟨w.heap.size, 3, none⟩ = some (.slice a2 l2 c2)) ∧
    (W.cell? ⟨w.heap.size + 1, 0, none⟩ = some (.bool n3) ∧ W.cell? ⟨w.heap.size + 1, 1, none⟩ = some (.slice a3 l3 c3) ∧ W.cell? ⟨w.heap.size + 1, 2, none⟩ = some (.bool n4) ∧ W.cell? ⟨w.heap.size + 1, 3, none⟩ = some (.slice a4 l4 c4)) ∧ Box4 W (w.heap.size + 1 + 1) := by
  refine ⟨_, rfl, (((Below.refl _ _).alloc (Nat.le_refl _) _).alloc (by simp) _).alloc (by simp; omega) _, ⟨?_, ?_, ?_, ?_⟩, ⟨?_, ?_, ?_, ?_⟩, ?n0⟩
  case n0 =>
    have h := Box4.new ((w.alloc (.cells #[.bool n1, .slice a1 l1 c1, .bool n2, .slice a2 l2 c2] 26)).alloc (.cells #[.bool n3, .slice a3 l3 c3, .bool n4, .slice a4 l4 c4] 26)) false none 0 0 false none 0 0 26 (by decide)
    rw [show ((w.alloc (.cells #[.bool n1, .slice a1 l1 c1, .bool n2, .slice a2 l2 c2] 26)).alloc (.cells #[.bool n3, .slice a3 l3 c3, .bool n4, .slice a4 l4 c4] 26)).heap.size = w.heap.size + 1 + 1 from by simp] at h
    exact h
  all_goals simp [go_sem, World.cell?_alloc_past]
theorem boxes_three (w : World) (m1 : Bool) (a1 : Option Addr) (l1 c1 : Nat) (m2 : Bool) (a2 : Option Addr) (l2 c2 : Nat) (m3 : Bool) (a3 : Option Addr) (l3 c3 : Nat) : ∃ W, W = ((w.alloc (.cells #[.bool m1, .slice a1 l1 c1] 24)).alloc (.cells #[.bool m2, .slice a2 l2 c2] 24)).alloc (.cells #[.bool m3, .slice a3 l3 c3] 24) ∧ Below w.heap.size w W ∧ w.heap.size + 1 + 1 < W.heap.size ∧
    (W.cell? ⟨w.heap.size, 0, none⟩ = some (.bool m1) ∧ W.cell? ⟨w.heap.size, 1, none⟩ = some (.slice a1 l1 c1) ∧ W.cell? ⟨w.heap.size + 1, 0, none⟩ = some (.bool m2) ∧ W.cell? ⟨w.heap.size + 1, 1, none⟩ = some (.slice a2 l2 c2) ∧ W.cell? ⟨w.heap.size + 1 + 1, 0, none⟩ = some (.bool m3) ∧ W.cell? ⟨w.heap.size + 1 + 1, 1, none⟩ = some (.slice a3 l3 c3)) := by
  refine ⟨_, rfl, (((Below.refl _ _).alloc (Nat.le_refl _) _).alloc (by simp) _).alloc (by simp; omega) _, by simp, ⟨?_, ?_, ?_, ?_, ?_, ?_⟩⟩
  all_goals simp [go_sem, World.cell?_alloc_past]
theorem FracE.form {w : World} {v : Value} {n d : Int} {m : Nat} (h : FracE w v n d m) : ∃ n1 a1 l1 c1 n2 a2 l2 c2, v = .agg #[.bool n1, .slice a1 l1 c1, .bool n2, .slice a2 l2 c2] := h.frac.form
theorem LowE.form {w : World} {v : Value} {n d : Int} {m : Nat} (h : LowE w v n d m) : ∃ n1 a1 l1 c1 n2 a2 l2 c2, v = .agg #[.bool n1, .slice a1 l1 c1, .bool n2, .slice a2 l2 c2] := by
  obtain ⟨p, q, h, _⟩ := h
  exact h.form
theorem pN_pos {n d : Int} (h : 0 < d) : pN n d = n := by unfold pN; rw [if_neg (by omega)]
theorem pD_of {d : Int} (h : 0 < d) : pD d = d := by unfold pD; rw [if_neg (by omega), if_neg (by omega)]
theorem lowest_pos {w : World} {v : Value} {n d : Int} {m : Nat} (hv : Frac w v n d m) (hm : m ≤ 200) (hd : 0 < d) :
    Calls Tryz.prog 45 #[v] w fun e w' => ∃ t, e = .returned t ∧ LowE w' t n d (m + 2) ∧ Below w.heap.size w w' := by
  refine (lowest_num hv hm).mono ?_
  rintro e w' ⟨t, p, q, rfl, h1, h2, h3⟩
  rw [pN_pos hd, pD_of hd] at h2
  exact ⟨t, rfl, ⟨p, q, h1, h2⟩, h3⟩
theorem Num.frac {w : World} {u v : Value} {y z : Int} {m : Nat} {n1 : Bool} {a1 : Option Addr} {l1 c1 : Nat} {n2 : Bool} {a2 : Option Addr} {l2 c2 : Nat} (hu : Num w u y m) (hv : Num w v z m) (eu : u = .agg #[.bool n1, .slice a1 l1 c1]) (ev : v = .agg #[.bool n2, .slice a2 l2 c2]) : Frac w (.agg #[.bool n1, .slice a1 l1 c1, .bool n2, .slice a2 l2 c2]) y z m := by
  subst eu; subst ev
  exact ⟨_, _, _, _, _, _, _, _, rfl, hu, hv⟩
def Add26V (p4 b5 K : Nat) (L R D : Value) (x y z : Int) (t : Nat) (v : Value) (w : World) : Prop := match t with
  | 4 => v = .pointer (some ⟨p4, 0, none⟩) ∧ Box4 w p4
  | 5 => v = .pointer (some ⟨b5, 0, none⟩)
  | 6 => v = .pointer (some ⟨b5 + 1, 0, none⟩)
  | 7 => v = .pointer (some ⟨b5 + 1 + 1, 0, none⟩)
  | 15 => v = L
  | 16 => v = R
  | 17 => Num w v (x + y) K
  | 18 => v = D
  | 19 => Frac w v (x + y) z K
  | 20 => LowE w v (x + y) z (K + 2)
  | _ => True
theorem Add26V_next {p4 b5 K : Nat} {L R D : Value} {x y z : Int} (t : Nat) (v : Value) (w w' : World) (hb : Below w.heap.size w w') (h : Add26V p4 b5 K L R D x y z t v w) : Add26V p4 b5 K L R D x y z t v w' := by
  unfold Add26V at h ⊢
  split at h <;> first | exact h | exact Num.next h hb | exact OutE.next h hb | exact Frac.next h hb | exact FracE.next h hb | exact LowE.next h hb | exact ⟨h.1, h.2.next hb⟩
theorem Add26V_chg {p4 b5 K : Nat} {L R D : Value} {x y z : Int} (t : Nat) (v : Value) (w w' : World) (b : Nat) (hc : Chg b w w') (hb : Box4 w b) (hb' : Box4 w' b) (h : Add26V p4 b5 K L R D x y z t v w) : Add26V p4 b5 K L R D x y z t v w' := by
  unfold Add26V at h ⊢
  split at h <;> first | exact h | exact Num.chg h hc hb.noint | exact OutE.chg h hc hb.noint | exact Frac.chg h hc hb.noint | exact FracE.chg h hc hb.noint | exact LowE.chg h hc hb.noint | exact ⟨h.1, h.2.chg hc hb'⟩
def Add26C (p4 b5 K : Nat) (L R D : Value) (x y z : Int) (j b : Nat) (w : World) : Prop := match j with
  | 6 => Holds4 w b (fun v => LowE w v (x + y) z (K + 2))
  | _ => True
theorem Add26C_next {p4 b5 K : Nat} {L R D : Value} {x y z : Int} (j b : Nat) (w w' : World) (hb : Below w.heap.size w w') (_ : b < w.heap.size) (h : Add26C p4 b5 K L R D x y z j b w) : Add26C p4 b5 K L R D x y z j b w' := by
  unfold Add26C at h ⊢
  split at h <;> first | exact h | exact Holds4.next h hb (fun v k => k.next hb)
theorem Add26C_chg {p4 b5 K : Nat} {L R D : Value} {x y z : Int} (j b b' : Nat) (w w' : World) (hc : Chg b' w w') (hb : Box4 w b') (_ : Box4 w' b') (hne : b ≠ b') (h : Add26C p4 b5 K L R D x y z j b w) : Add26C p4 b5 K L R D x y z j b w' := by
  unfold Add26C at h ⊢
  split at h <;> first | exact h | exact Holds4.chg h hc hne (fun v k => k.chg hc hb.noint)
set_option maxRecDepth 20000 in
set_option maxHeartbeats 4000000 in
theorem Add26_num {w : World} {u v : Value} {n d n' d' : Int} {m : Nat} (hu : Frac w u n d m) (hv : Frac w v n' d' m) (hm : m ≤ 80) :
    Calls Tryz.prog 16 #[u, v] w fun e w' => ∃ t, e = .returned t ∧ LowE w' t (pN n d * pD d' + pN n' d' * pD d) (pD d * pD d') (2 * m + 7) ∧ Below w.heap.size w w' := by
  obtain ⟨n1, a1, l1, c1, n2, a2, l2, c2, rfl⟩ := hu.form
  obtain ⟨n3, a3, l3, c3, n4, a4, l4, c4, rfl⟩ := hv.form
  obtain ⟨W, hW, hbW, ⟨e0, e1, e2, e3⟩, ⟨g0, g1, g2, g3⟩, x0⟩ := boxes_op w n1 a1 l1 c1 n2 a2 l2 c2 n3 a3 l3 c3 n4 a4 l4 c4
  have k1 := sameDen_num (hu.next hbW) (hv.next hbW) (by omega)
  have hzp : 0 < pD d * pD d' := Int.mul_pos (pD_pos d) (pD_pos d')
  replace k1 : Hid _ := k1
  go_enter Tryz.func16, Tryz.ntmps16
  go_wp2_with fail
  rw [← hW]
  clear hW
  refine Calls.mono k1.out ?_
  rintro e w1 ⟨r, s, t, rfl, h1, h2, h3, hb1⟩
  clear k1
  obtain ⟨n5, a5, l5, c5, rfl⟩ := h1.form
  obtain ⟨n6, a6, l6, c6, rfl⟩ := h2.form
  obtain ⟨n7, a7, l7, c7, rfl⟩ := h3.form
  obtain ⟨W1, hW1, hbW1, hl1, r0, r1, r2, r3, r4, r5⟩ := boxes_three w1 n5 a5 l5 c5 n6 a6 l6 c6 n7 a7 l7 c7
  have hbx := bthen hb1 hbW1
  have hL := h1.next hbW1
  have hR := h2.next hbW1
  have hZ := h3.next hbW1
  have u0 := x0.next hbx
  have hBB := bthen hbW hbx
  have hx0 := x0.noint.lt
  have hs1 := hb1.size
  go_wp2
  rw [← hW1]
  clear hW1 e0 e1 e2 e3 g0 g1 g2 g3 h1 h2 h3
  have hS : ∀ k, k ∈ [w.heap.size + 1 + 1] → NoInt W1 k := by
    intro k hk
    simp only [List.mem_cons, List.not_mem_nil, or_false] at hk
    subst hk
    exact u0.noint
  have hB_num : ∀ {w' : World} {v : Value} {z : Int} {n : Nat}, BelowBut [w.heap.size + 1 + 1] W1 w' → Num W1 v z n → Num w' v z n := fun hW h => h.but hW hS
  refine wp_region_boxes (Add26V (w.heap.size + 1 + 1) w1.heap.size (2 * m + 5) (.agg #[.bool n5, .slice a5 l5 c5]) (.agg #[.bool n6, .slice a6 l6 c6]) (.agg #[.bool n7, .slice a7 l7 c7]) (pN n d * pD d') (pN n' d' * pD d) (pD d * pD d')) Box4 (Add26C (w.heap.size + 1 + 1) w1.heap.size (2 * m + 5) (.agg #[.bool n5, .slice a5 l5 c5]) (.agg #[.bool n6, .slice a6 l6 c6]) (.agg #[.bool n7, .slice a7 l7 c7]) (pN n d * pD d') (pN n' d' * pD d) (pD d * pD d')) [4, 5, 6, 7] [4] [w.heap.size + 1 + 1] [(6, 4)] 21 (by kernel_rfl) (by kernel_rfl) rfl Add26V_next Add26V_chg ?hA Add26C_next Add26C_chg ?hstart ?hdis (StepsFrom.all ?hstep) ?hend
  case hA =>
    intro s v w' hs hv
    have hs' : s = 4 := by simpa using hs
    subst hs'
    exact ⟨_, hv.1, hv.2, .inr (by simp), hv.2.noint.lt⟩
  case hstart =>
    intro t ht
    have hD0 : Below W1.heap.size W1 W1.drew := (Below.refl _ _).drew
    simp only [List.mem_cons, List.not_mem_nil, or_false] at ht
    rcases ht with rfl | rfl | rfl | rfl
    · exact ⟨rfl, u0.next hD0⟩
    all_goals rfl
  case hdis =>
    intro s t hs ht hne _ _
    have hs' : s = 4 := by simpa using hs
    have ht' : t = 4 := by simpa using ht
    exact absurd (hs'.trans ht'.symm) hne
  case hstep =>
    refine ⟨?s0, ?s1, ?s2, ?s3, ?s4, ?s5, ?s6, trivial⟩
    case s0 => exact plain_at (plain_of (guard_none rfl) fun b w' _ hW hl K hK => ld24 (hW.cell r0 (by simp; omega)) (hW.cell r1 (by simp; omega)) 5 rfl (look hl 5 (by kernel_rfl)) (hK _ _ (Below.refl _ _) (dst_eq rfl rfl))) (dst_eq rfl rfl) rfl
    case s1 => exact plain_at (plain_of (guard_none rfl) fun b w' _ hW hl K hK => ld24 (hW.cell r2 (by simp; omega)) (hW.cell r3 (by simp; omega)) 6 rfl (look hl 6 (by kernel_rfl)) (hK _ _ (Below.refl _ _) (dst_eq rfl rfl))) (dst_eq rfl rfl) rfl
    case s2 => exact plain_at (pl_call2 46 15 16 17 _ (by kernel_rfl) rfl rfl (guard_none rfl) (by kernel_rfl) (by kernel_rfl) (fun u v w' hW hu hv => by subst hu; subst hv; exact (Add_num (hB_num hW hL) (hB_num hW hR) (by omega) (by omega)).mono fun e w'' h => by obtain ⟨t, h1, h2, h3⟩ := h; exact ⟨t, h1, h2.num.more' (by omega), h3⟩)) (dst_eq rfl rfl) rfl
    case s3 => exact plain_at (plain_of (guard_none rfl) fun b w' _ hW hl K hK => ld24 (hW.cell r4 (by simp; omega)) (hW.cell r5 (by simp; omega)) 7 rfl (look hl 7 (by kernel_rfl)) (hK _ _ (Below.refl _ _) (dst_eq rfl rfl))) (dst_eq rfl rfl) rfl
    case s4 => exact plain_at (plain_of (guard_none rfl) fun b w' _ hW hl K hK => by obtain ⟨m1, b1, i1, o1, h1⟩ := Num.form (show Num w' (b.tmps.getD 17 undef) _ _ from look hl 17 (by kernel_rfl)); exact bd26 17 18 rfl h1 (look hl 18 (by kernel_rfl)) (hK _ _ (Below.refl _ _) (dst_eq rfl (Num.frac (show Num w' (b.tmps.getD 17 undef) _ _ from look hl 17 (by kernel_rfl)) ((hB_num hW hZ).more' (by omega)) h1 rfl)))) (dst_eq rfl rfl) rfl
    case s5 => exact plain_at (pl_call1 45 19 20 _ (by kernel_rfl) rfl rfl (guard_none rfl) (by kernel_rfl) (fun u w' hW hu => lowest_pos hu (by omega) hzp)) (dst_eq rfl rfl) rfl
    case s6 => exact put_at (step_put4 6 4 20 rfl rfl rfl (by kernel_rfl) (by kernel_rfl) ⟨fun v w h => LowE.form h, fun g w' w'' m a l c m' a' l' c' hv hc hb r0 r1 r2 r3 => ⟨m, a, l, c, m', a', l', c', r0, r1, r2, r3, LowE.chg hv hc hb.noint⟩⟩) rfl rfl (by kernel_rfl)
  case hend =>
    intro b w' hs hd hW hv hdis hC hfr
    obtain ⟨h4, _⟩ := hv 4 (.inl rfl)
    obtain ⟨q1, b1, i1, o1, q2, b2, i2, o2, m0, m1, m2, m3, hR'⟩ := hC 6 4 (by simp) (by decide) _ h4
    have hBf : Below w.heap.size w w' := hBB.trans (hW.below hBB.size (by intro k hk; simp only [List.mem_cons, List.not_mem_nil, or_false] at hk; omega))
    rw [Array.getD_eq_getD_getElem?] at h4
    clear hv hdis hC hfr hW
    go_wp2
    exact bodyPost_ret (v := .agg #[.bool q1, .slice b1 i1 o1, .bool q2, .slice b2 i2 o2]) (by simp [results, Tryz.results16, go_sem, h4, m0, m1, m2, m3]) hd ⟨_, rfl, hR', hBf⟩
def Sub26V (p4 b5 K : Nat) (L R D : Value) (x y z : Int) (t : Nat) (v : Value) (w : World) : Prop := match t with
  | 4 => v = .pointer (some ⟨p4, 0, none⟩) ∧ Box4 w p4
  | 5 => v = .pointer (some ⟨b5, 0, none⟩)
  | 6 => v = .pointer (some ⟨b5 + 1, 0, none⟩)
  | 7 => v = .pointer (some ⟨b5 + 1 + 1, 0, none⟩)
  | 15 => v = L
  | 16 => v = R
  | 17 => Num w v (x - y) K
  | 18 => v = D
  | 19 => Frac w v (x - y) z K
  | 20 => LowE w v (x - y) z (K + 2)
  | _ => True
theorem Sub26V_next {p4 b5 K : Nat} {L R D : Value} {x y z : Int} (t : Nat) (v : Value) (w w' : World) (hb : Below w.heap.size w w') (h : Sub26V p4 b5 K L R D x y z t v w) : Sub26V p4 b5 K L R D x y z t v w' := by
  unfold Sub26V at h ⊢
  split at h <;> first | exact h | exact Num.next h hb | exact OutE.next h hb | exact Frac.next h hb | exact FracE.next h hb | exact LowE.next h hb | exact ⟨h.1, h.2.next hb⟩
theorem Sub26V_chg {p4 b5 K : Nat} {L R D : Value} {x y z : Int} (t : Nat) (v : Value) (w w' : World) (b : Nat) (hc : Chg b w w') (hb : Box4 w b) (hb' : Box4 w' b) (h : Sub26V p4 b5 K L R D x y z t v w) : Sub26V p4 b5 K L R D x y z t v w' := by
  unfold Sub26V at h ⊢
  split at h <;> first | exact h | exact Num.chg h hc hb.noint | exact OutE.chg h hc hb.noint | exact Frac.chg h hc hb.noint | exact FracE.chg h hc hb.noint | exact LowE.chg h hc hb.noint | exact ⟨h.1, h.2.chg hc hb'⟩
def Sub26C (p4 b5 K : Nat) (L R D : Value) (x y z : Int) (j b : Nat) (w : World) : Prop := match j with
  | 6 => Holds4 w b (fun v => LowE w v (x - y) z (K + 2))
  | _ => True
theorem Sub26C_next {p4 b5 K : Nat} {L R D : Value} {x y z : Int} (j b : Nat) (w w' : World) (hb : Below w.heap.size w w') (_ : b < w.heap.size) (h : Sub26C p4 b5 K L R D x y z j b w) : Sub26C p4 b5 K L R D x y z j b w' := by
  unfold Sub26C at h ⊢
  split at h <;> first | exact h | exact Holds4.next h hb (fun v k => k.next hb)
theorem Sub26C_chg {p4 b5 K : Nat} {L R D : Value} {x y z : Int} (j b b' : Nat) (w w' : World) (hc : Chg b' w w') (hb : Box4 w b') (_ : Box4 w' b') (hne : b ≠ b') (h : Sub26C p4 b5 K L R D x y z j b w) : Sub26C p4 b5 K L R D x y z j b w' := by
  unfold Sub26C at h ⊢
  split at h <;> first | exact h | exact Holds4.chg h hc hne (fun v k => k.chg hc hb.noint)
set_option maxRecDepth 20000 in
set_option maxHeartbeats 4000000 in
theorem Sub26_num {w : World} {u v : Value} {n d n' d' : Int} {m : Nat} (hu : Frac w u n d m) (hv : Frac w v n' d' m) (hm : m ≤ 80) :
    Calls Tryz.prog 18 #[u, v] w fun e w' => ∃ t, e = .returned t ∧ LowE w' t (pN n d * pD d' - pN n' d' * pD d) (pD d * pD d') (2 * m + 7) ∧ Below w.heap.size w w' := by
  obtain ⟨n1, a1, l1, c1, n2, a2, l2, c2, rfl⟩ := hu.form
  obtain ⟨n3, a3, l3, c3, n4, a4, l4, c4, rfl⟩ := hv.form
  obtain ⟨W, hW, hbW, ⟨e0, e1, e2, e3⟩, ⟨g0, g1, g2, g3⟩, x0⟩ := boxes_op w n1 a1 l1 c1 n2 a2 l2 c2 n3 a3 l3 c3 n4 a4 l4 c4
  have k1 := sameDen_num (hu.next hbW) (hv.next hbW) (by omega)
  have hzp : 0 < pD d * pD d' := Int.mul_pos (pD_pos d) (pD_pos d')
  replace k1 : Hid _ := k1
  go_enter Tryz.func18, Tryz.ntmps18
  go_wp2_with fail
  rw [← hW]
  clear hW
  refine Calls.mono k1.out ?_
  rintro e w1 ⟨r, s, t, rfl, h1, h2, h3, hb1⟩
  clear k1
  obtain ⟨n5, a5, l5, c5, rfl⟩ := h1.form
  obtain ⟨n6, a6, l6, c6, rfl⟩ := h2.form
  obtain ⟨n7, a7, l7, c7, rfl⟩ := h3.form
  obtain ⟨W1, hW1, hbW1, hl1, r0, r1, r2, r3, r4, r5⟩ := boxes_three w1 n5 a5 l5 c5 n6 a6 l6 c6 n7 a7 l7 c7
  have hbx := bthen hb1 hbW1
  have hL := h1.next hbW1
  have hR := h2.next hbW1
  have hZ := h3.next hbW1
  have u0 := x0.next hbx
  have hBB := bthen hbW hbx
  have hx0 := x0.noint.lt
  have hs1 := hb1.size
  go_wp2
  rw [← hW1]
  clear hW1 e0 e1 e2 e3 g0 g1 g2 g3 h1 h2 h3
  have hS : ∀ k, k ∈ [w.heap.size + 1 + 1] → NoInt W1 k := by
    intro k hk
    simp only [List.mem_cons, List.not_mem_nil, or_false] at hk
    subst hk
    exact u0.noint
  have hB_num : ∀ {w' : World} {v : Value} {z : Int} {n : Nat}, BelowBut [w.heap.size + 1 + 1] W1 w' → Num W1 v z n → Num w' v z n := fun hW h => h.but hW hS
  refine wp_region_boxes (Sub26V (w.heap.size + 1 + 1) w1.heap.size (2 * m + 5) (.agg #[.bool n5, .slice a5 l5 c5]) (.agg #[.bool n6, .slice a6 l6 c6]) (.agg #[.bool n7, .slice a7 l7 c7]) (pN n d * pD d') (pN n' d' * pD d) (pD d * pD d')) Box4 (Sub26C (w.heap.size + 1 + 1) w1.heap.size (2 * m + 5) (.agg #[.bool n5, .slice a5 l5 c5]) (.agg #[.bool n6, .slice a6 l6 c6]) (.agg #[.bool n7, .slice a7 l7 c7]) (pN n d * pD d') (pN n' d' * pD d) (pD d * pD d')) [4, 5, 6, 7] [4] [w.heap.size + 1 + 1] [(6, 4)] 21 (by kernel_rfl) (by kernel_rfl) rfl Sub26V_next Sub26V_chg ?hA Sub26C_next Sub26C_chg ?hstart ?hdis (StepsFrom.all ?hstep) ?hend
  case hA =>
    intro s v w' hs hv
    have hs' : s = 4 := by simpa using hs
    subst hs'
    exact ⟨_, hv.1, hv.2, .inr (by simp), hv.2.noint.lt⟩
  case hstart =>
    intro t ht
    have hD0 : Below W1.heap.size W1 W1.drew := (Below.refl _ _).drew
    simp only [List.mem_cons, List.not_mem_nil, or_false] at ht
    rcases ht with rfl | rfl | rfl | rfl
    · exact ⟨rfl, u0.next hD0⟩
    all_goals rfl
  case hdis =>
    intro s t hs ht hne _ _
    have hs' : s = 4 := by simpa using hs
    have ht' : t = 4 := by simpa using ht
    exact absurd (hs'.trans ht'.symm) hne
  case hstep =>
    refine ⟨?s0, ?s1, ?s2, ?s3, ?s4, ?s5, ?s6, trivial⟩
    case s0 => exact plain_at (plain_of (guard_none rfl) fun b w' _ hW hl K hK => ld24 (hW.cell r0 (by simp; omega)) (hW.cell r1 (by simp; omega)) 5 rfl (look hl 5 (by kernel_rfl)) (hK _ _ (Below.refl _ _) (dst_eq rfl rfl))) (dst_eq rfl rfl) rfl
    case s1 => exact plain_at (plain_of (guard_none rfl) fun b w' _ hW hl K hK => ld24 (hW.cell r2 (by simp; omega)) (hW.cell r3 (by simp; omega)) 6 rfl (look hl 6 (by kernel_rfl)) (hK _ _ (Below.refl _ _) (dst_eq rfl rfl))) (dst_eq rfl rfl) rfl
    case s2 => exact plain_at (pl_call2 48 15 16 17 _ (by kernel_rfl) rfl rfl (guard_none rfl) (by kernel_rfl) (by kernel_rfl) (fun u v w' hW hu hv => by subst hu; subst hv; exact (Sub_num (hB_num hW hL) (hB_num hW hR) (by omega) (by omega)).mono fun e w'' h => by obtain ⟨t, h1, h2, h3⟩ := h; exact ⟨t, h1, h2.num.more' (by omega), h3⟩)) (dst_eq rfl rfl) rfl
    case s3 => exact plain_at (plain_of (guard_none rfl) fun b w' _ hW hl K hK => ld24 (hW.cell r4 (by simp; omega)) (hW.cell r5 (by simp; omega)) 7 rfl (look hl 7 (by kernel_rfl)) (hK _ _ (Below.refl _ _) (dst_eq rfl rfl))) (dst_eq rfl rfl) rfl
    case s4 => exact plain_at (plain_of (guard_none rfl) fun b w' _ hW hl K hK => by obtain ⟨m1, b1, i1, o1, h1⟩ := Num.form (show Num w' (b.tmps.getD 17 undef) _ _ from look hl 17 (by kernel_rfl)); exact bd26 17 18 rfl h1 (look hl 18 (by kernel_rfl)) (hK _ _ (Below.refl _ _) (dst_eq rfl (Num.frac (show Num w' (b.tmps.getD 17 undef) _ _ from look hl 17 (by kernel_rfl)) ((hB_num hW hZ).more' (by omega)) h1 rfl)))) (dst_eq rfl rfl) rfl
    case s5 => exact plain_at (pl_call1 45 19 20 _ (by kernel_rfl) rfl rfl (guard_none rfl) (by kernel_rfl) (fun u w' hW hu => lowest_pos hu (by omega) hzp)) (dst_eq rfl rfl) rfl
    case s6 => exact put_at (step_put4 6 4 20 rfl rfl rfl (by kernel_rfl) (by kernel_rfl) ⟨fun v w h => LowE.form h, fun g w' w'' m a l c m' a' l' c' hv hc hb r0 r1 r2 r3 => ⟨m, a, l, c, m', a', l', c', r0, r1, r2, r3, LowE.chg hv hc hb.noint⟩⟩) rfl rfl (by kernel_rfl)
  case hend =>
    intro b w' hs hd hW hv hdis hC hfr
    obtain ⟨h4, _⟩ := hv 4 (.inl rfl)
    obtain ⟨q1, b1, i1, o1, q2, b2, i2, o2, m0, m1, m2, m3, hR'⟩ := hC 6 4 (by simp) (by decide) _ h4
    have hBf : Below w.heap.size w w' := hBB.trans (hW.below hBB.size (by intro k hk; simp only [List.mem_cons, List.not_mem_nil, or_false] at hk; omega))
    rw [Array.getD_eq_getD_getElem?] at h4
    clear hv hdis hC hfr hW
    go_wp2
    exact bodyPost_ret (v := .agg #[.bool q1, .slice b1 i1 o1, .bool q2, .slice b2 i2 o2]) (by simp [results, Tryz.results18, go_sem, h4, m0, m1, m2, m3]) hd ⟨_, rfl, hR', hBf⟩
end Go.Proofs.YthiiglhecajhbaaGreat
