/- Sums, differences, products of fractions. -/
import Derived.Test.YtclokcoimdjaeaaGreatDoorFsm
namespace Go.Proofs.YtclokcoimdjaeaaGreatDoor
set_option linter.unusedVariables false
open Go.RowKit
attribute [local go_sem ↓] Go.wp_at_zero Go.wp_at_succ
theorem boxes_op (w : World) (n1 : Bool) (a1 : Option Addr) (l1 c1 : Nat) (n2 : Bool) (a2 : Option Addr) (l2 c2 : Nat) (n3 : Bool) (a3 : Option Addr) (l3 c3 : Nat) (n4 : Bool) (a4 : Option Addr) (l4 c4 : Nat) : ∃ W, W = ((w.alloc (.cells #[.bool n1, .slice a1 l1 c1, .bool n2, .slice a2 l2 c2] 30)).alloc (.cells #[.bool n3, .slice a3 l3 c3, .bool n4, .slice a4 l4 c4] 30)).alloc (.cells #[.bool false, .slice none 0 0, .bool false, .slice none 0 0] 30) ∧ Below w.heap.size w W ∧
    (W.cell? ⟨w.heap.size, 0, none⟩ = some (.bool n1) ∧ W.cell? ⟨w.heap.size, 1, none⟩ = some (.slice a1 l1 c1) ∧ W.cell? ⟨w.heap.size, 2, none⟩ = some (.bool n2) ∧ W.cell? ⟨w.heap.size, 3, none⟩ = some (.slice a2 l2 c2)) ∧
    (W.cell? ⟨w.heap.size + 1, 0, none⟩ = some (.bool n3) ∧ W.cell? ⟨w.heap.size + 1, 1, none⟩ = some (.slice a3 l3 c3) ∧ W.cell? ⟨w.heap.size + 1, 2, none⟩ = some (.bool n4) ∧ W.cell? ⟨w.heap.size + 1, 3, none⟩ = some (.slice a4 l4 c4)) ∧ Box4 W (w.heap.size + 1 + 1) := by
  refine ⟨_, rfl, (((Below.refl _ _).alloc (Nat.le_refl _) _).alloc (by simp) _).alloc (by simp; omega) _, ⟨?_, ?_, ?_, ?_⟩, ⟨?_, ?_, ?_, ?_⟩, ?n0⟩
  case n0 =>
    have h := Box4.new ((w.alloc (.cells #[.bool n1, .slice a1 l1 c1, .bool n2, .slice a2 l2 c2] 30)).alloc (.cells #[.bool n3, .slice a3 l3 c3, .bool n4, .slice a4 l4 c4] 30)) false none 0 0 false none 0 0 30 (by decide)
    rw [show ((w.alloc (.cells #[.bool n1, .slice a1 l1 c1, .bool n2, .slice a2 l2 c2] 30)).alloc (.cells #[.bool n3, .slice a3 l3 c3, .bool n4, .slice a4 l4 c4] 30)).heap.size = w.heap.size + 1 + 1 from by simp] at h
    exact h
  all_goals simp [go_sem, World.cell?_alloc_past]
theorem boxes_three (w : World) (m1 : Bool) (a1 : Option Addr) (l1 c1 : Nat) (m2 : Bool) (a2 : Option Addr) (l2 c2 : Nat) (m3 : Bool) (a3 : Option Addr) (l3 c3 : Nat) : ∃ W, W = ((w.alloc (.cells #[.bool m1, .slice a1 l1 c1] 28)).alloc (.cells #[.bool m2, .slice a2 l2 c2] 28)).alloc (.cells #[.bool m3, .slice a3 l3 c3] 28) ∧ Below w.heap.size w W ∧ w.heap.size + 1 + 1 < W.heap.size ∧
    (W.cell? ⟨w.heap.size, 0, none⟩ = some (.bool m1) ∧ W.cell? ⟨w.heap.size, 1, none⟩ = some (.slice a1 l1 c1) ∧ W.cell? ⟨w.heap.size + 1, 0, none⟩ = some (.bool m2) ∧ W.cell? ⟨w.heap.size + 1, 1, none⟩ = some (.slice a2 l2 c2) ∧ W.cell? ⟨w.heap.size + 1 + 1, 0, none⟩ = some (.bool m3) ∧ W.cell? ⟨w.heap.size + 1 + 1, 1, none⟩ = some (.slice a3 l3 c3)) := by
  refine ⟨_, rfl, (((Below.refl _ _).alloc (Nat.le_refl _) _).alloc (by simp) _).alloc (by simp; omega) _, by simp, ⟨?_, ?_, ?_, ?_, ?_, ?_⟩⟩
  all_goals simp [go_sem, World.cell?_alloc_past]
theorem FracE.form {w : World} {v : Value} {n d : Int} {m : Nat} (h : FracE w v n d m) : ∃ n1 a1 l1 c1 n2 a2 l2 c2, v = .agg #[.bool n1, .slice a1 l1 c1, .bool n2, .slice a2 l2 c2] := h.frac.form
theorem LowE.form {w : World} {v : Value} {n d : Int} {m : Nat} (h : LowE w v n d m) : ∃ n1 a1 l1 c1 n2 a2 l2 c2, v = .agg #[.bool n1, .slice a1 l1 c1, .bool n2, .slice a2 l2 c2] := by
  obtain ⟨p, q, h, _⟩ := h
  exact h.form
theorem pN_pos {n d : Int} (h : 0 < d) : pN n d = n := by unfold pN; rw [if_neg (by omega)]
theorem pD_of {d : Int} (h : 0 < d) : pD d = d := by unfold pD; rw [if_neg (by omega), if_neg (by omega)]
theorem lowest_pos {w : World} {v : Value} {n d : Int} {m : Nat} (hv : Frac w v n d m) (hm : m ≤ 480) (hd : 0 < d) :
    Calls Tryz.prog 121 #[v] w fun e w' => ∃ t, e = .returned t ∧ LowE w' t n d (m + 2) ∧ Below w.heap.size w w' := by
  refine (lowest_num hv hm).mono ?_
  rintro e w' ⟨t, p, q, rfl, h1, h2, h3⟩
  rw [pN_pos hd, pD_of hd] at h2
  exact ⟨t, rfl, ⟨p, q, h1, h2⟩, h3⟩
theorem Num.frac {w : World} {u v : Value} {y z : Int} {m : Nat} {n1 : Bool} {a1 : Option Addr} {l1 c1 : Nat} {n2 : Bool} {a2 : Option Addr} {l2 c2 : Nat} (hu : Num w u y m) (hv : Num w v z m) (eu : u = .agg #[.bool n1, .slice a1 l1 c1]) (ev : v = .agg #[.bool n2, .slice a2 l2 c2]) : Frac w (.agg #[.bool n1, .slice a1 l1 c1, .bool n2, .slice a2 l2 c2]) y z m := by
  subst eu; subst ev
  exact ⟨_, _, _, _, _, _, _, _, rfl, hu, hv⟩
def Sub26V (p4 b5 K : Nat) (L R D : Value) (x y z : Int) (t : Nat) (v : Value) (w : World) : Prop := match t with
  | 4 => v = .pointer (some ⟨p4, 0, none⟩) ∧ Box4 w p4
  | 5 => v = .pointer (some ⟨b5, 0, none⟩)
  | 6 => v = .pointer (some ⟨b5 + 1, 0, none⟩)
  | 7 => v = .pointer (some ⟨b5 + 1 + 1, 0, none⟩)
  | 15 => v = L
  | 16 => v = R
  | 17 => Num w v (x - y) K
  | 18 => v = D
  | 19 => Frac w v (x - y) z K
  | 20 => LowE w v (x - y) z (K + 2)
  | _ => True
theorem Sub26V_next {p4 b5 K : Nat} {L R D : Value} {x y z : Int} (t : Nat) (v : Value) (w w' : World) (hb : Below w.heap.size w w') (h : Sub26V p4 b5 K L R D x y z t v w) : Sub26V p4 b5 K L R D x y z t v w' := by
  unfold Sub26V at h ⊢
  split at h <;> first | exact h | exact Num.next h hb | exact OutE.next h hb | exact Frac.next h hb | exact FracE.next h hb | exact LowE.next h hb | exact ⟨h.1, h.2.next hb⟩
theorem Sub26V_chg {p4 b5 K : Nat} {L R D : Value} {x y z : Int} (t : Nat) (v : Value) (w w' : World) (b : Nat) (hc : Chg b w w') (hb : Box4 w b) (hb' : Box4 w' b) (h : Sub26V p4 b5 K L R D x y z t v w) : Sub26V p4 b5 K L R D x y z t v w' := by
  unfold Sub26V at h ⊢
  split at h <;> first | exact h | exact Num.chg h hc hb.noint | exact OutE.chg h hc hb.noint | exact Frac.chg h hc hb.noint | exact FracE.chg h hc hb.noint | exact LowE.chg h hc hb.noint | exact ⟨h.1, h.2.chg hc hb'⟩
def Sub26C (p4 b5 K : Nat) (L R D : Value) (x y z : Int) (j b : Nat) (w : World) : Prop := match j with
  | 6 => Holds4 w b (fun v => LowE w v (x - y) z (K + 2))
  | _ => True
theorem Sub26C_next {p4 b5 K : Nat} {L R D : Value} {x y z : Int} (j b : Nat) (w w' : World) (hb : Below w.heap.size w w') (_ : b < w.heap.size) (h : Sub26C p4 b5 K L R D x y z j b w) : Sub26C p4 b5 K L R D x y z j b w' := by
  unfold Sub26C at h ⊢
  split at h <;> first | exact h | exact Holds4.next h hb (fun v k => k.next hb)
theorem Sub26C_chg {p4 b5 K : Nat} {L R D : Value} {x y z : Int} (j b b' : Nat) (w w' : World) (hc : Chg b' w w') (hb : Box4 w b') (_ : Box4 w' b') (hne : b ≠ b') (h : Sub26C p4 b5 K L R D x y z j b w) : Sub26C p4 b5 K L R D x y z j b w' := by
  unfold Sub26C at h ⊢
  split at h <;> first | exact h | exact Holds4.chg h hc hne (fun v k => k.chg hc hb.noint)
set_option maxRecDepth 20000 in
set_option maxHeartbeats 4000000 in
theorem Sub26_num {w : World} {u v : Value} {n d n' d' : Int} {m : Nat} (hu : Frac w u n d m) (hv : Frac w v n' d' m) (hm : m ≤ 80) :
    Calls Tryz.prog 93 #[u, v] w fun e w' => ∃ t, e = .returned t ∧ LowE w' t (pN n d * pD d' - pN n' d' * pD d) (pD d * pD d') (2 * m + 7) ∧ Below w.heap.size w w' := by
  obtain ⟨n1, a1, l1, c1, n2, a2, l2, c2, rfl⟩ := hu.form
  obtain ⟨n3, a3, l3, c3, n4, a4, l4, c4, rfl⟩ := hv.form
  obtain ⟨W, hW, hbW, ⟨e0, e1, e2, e3⟩, ⟨g0, g1, g2, g3⟩, x0⟩ := boxes_op w n1 a1 l1 c1 n2 a2 l2 c2 n3 a3 l3 c3 n4 a4 l4 c4
  have k1 := sameDen_num (hu.next hbW) (hv.next hbW) (by omega)
  have hzp : 0 < pD d * pD d' := Int.mul_pos (pD_pos d) (pD_pos d')
  replace k1 : Hid _ := k1
  go_enter Tryz.func93, Tryz.ntmps93
  go_wp2_with fail
  rw [← hW]
  clear hW
  refine Calls.mono k1.out ?_
  rintro e w1 ⟨r, s, t, rfl, h1, h2, h3, hb1⟩
  clear k1
  obtain ⟨n5, a5, l5, c5, rfl⟩ := h1.form
  obtain ⟨n6, a6, l6, c6, rfl⟩ := h2.form
  obtain ⟨n7, a7, l7, c7, rfl⟩ := h3.form
  obtain ⟨W1, hW1, hbW1, hl1, r0, r1, r2, r3, r4, r5⟩ := boxes_three w1 n5 a5 l5 c5 n6 a6 l6 c6 n7 a7 l7 c7
  have hbx := bthen hb1 hbW1
  have hL := h1.next hbW1
  have hR := h2.next hbW1
  have hZ := h3.next hbW1
  have u0 := x0.next hbx
  have hBB := bthen hbW hbx
  have hx0 := x0.noint.lt
  have hs1 := hb1.size
  go_wp2
  rw [← hW1]
  clear hW1 e0 e1 e2 e3 g0 g1 g2 g3 h1 h2 h3
  have hS : ∀ k, k ∈ [w.heap.size + 1 + 1] → NoInt W1 k := by
    intro k hk
    simp only [List.mem_cons, List.not_mem_nil, or_false] at hk
    subst hk
    exact u0.noint
  have hB_num : ∀ {w' : World} {v : Value} {z : Int} {n : Nat}, BelowBut [w.heap.size + 1 + 1] W1 w' → Num W1 v z n → Num w' v z n := fun hW h => h.but hW hS
  refine wp_region_boxes (Sub26V (w.heap.size + 1 + 1) w1.heap.size (2 * m + 5) (.agg #[.bool n5, .slice a5 l5 c5]) (.agg #[.bool n6, .slice a6 l6 c6]) (.agg #[.bool n7, .slice a7 l7 c7]) (pN n d * pD d') (pN n' d' * pD d) (pD d * pD d')) Box4 (Sub26C (w.heap.size + 1 + 1) w1.heap.size (2 * m + 5) (.agg #[.bool n5, .slice a5 l5 c5]) (.agg #[.bool n6, .slice a6 l6 c6]) (.agg #[.bool n7, .slice a7 l7 c7]) (pN n d * pD d') (pN n' d' * pD d) (pD d * pD d')) [4, 5, 6, 7] [4] [w.heap.size + 1 + 1] [(6, 4)] 21 (by kernel_rfl) (by kernel_rfl) rfl Sub26V_next Sub26V_chg ?hA Sub26C_next Sub26C_chg ?hstart ?hdis (StepsFrom.all ?hstep) ?hend
  case hA =>
    intro s v w' hs hv
    have hs' : s = 4 := by simpa using hs
    subst hs'
    exact ⟨_, hv.1, hv.2, .inr (by simp), hv.2.noint.lt⟩
  case hstart =>
    intro t ht
    have hD0 : Below W1.heap.size W1 W1.drew := (Below.refl _ _).drew
    simp only [List.mem_cons, List.not_mem_nil, or_false] at ht
    rcases ht with rfl | rfl | rfl | rfl
    · exact ⟨rfl, u0.next hD0⟩
    all_goals rfl
  case hdis =>
    intro s t hs ht hne _ _
    have hs' : s = 4 := by simpa using hs
    have ht' : t = 4 := by simpa using ht
    exact absurd (hs'.trans ht'.symm) hne
  case hstep =>
    refine ⟨?s0, ?s1, ?s2, ?s3, ?s4, ?s5, ?s6, trivial⟩
    case s0 => exact plain_at (plain_of (guard_none rfl) fun b w' _ hW hl K hK => ld24 (hW.cell r0 (by simp; omega)) (hW.cell r1 (by simp; omega)) 5 rfl (look hl 5 (by kernel_rfl)) (hK _ _ (Below.refl _ _) (dst_eq rfl rfl))) (dst_eq rfl rfl) rfl
    case s1 => exact plain_at (plain_of (guard_none rfl) fun b w' _ hW hl K hK => ld24 (hW.cell r2 (by simp; omega)) (hW.cell r3 (by simp; omega)) 6 rfl (look hl 6 (by kernel_rfl)) (hK _ _ (Below.refl _ _) (dst_eq rfl rfl))) (dst_eq rfl rfl) rfl
    case s2 => exact plain_at (pl_call2 159 15 16 17 _ (by kernel_rfl) rfl rfl (guard_none rfl) (by kernel_rfl) (by kernel_rfl) (fun u v w' hW hu hv => by subst hu; subst hv; exact (Sub_num (hB_num hW hL) (hB_num hW hR) (by omega) (by omega)).mono fun e w'' h => by obtain ⟨t, h1, h2, h3⟩ := h; exact ⟨t, h1, h2.num.more' (by omega), h3⟩)) (dst_eq rfl rfl) rfl
    case s3 => exact plain_at (plain_of (guard_none rfl) fun b w' _ hW hl K hK => ld24 (hW.cell r4 (by simp; omega)) (hW.cell r5 (by simp; omega)) 7 rfl (look hl 7 (by kernel_rfl)) (hK _ _ (Below.refl _ _) (dst_eq rfl rfl))) (dst_eq rfl rfl) rfl
    case s4 => exact plain_at (plain_of (guard_none rfl) fun b w' _ hW hl K hK => by obtain ⟨m1, b1, i1, o1, h1⟩ := Num.form (show Num w' (b.tmps.getD 17 undef) _ _ from look hl 17 (by kernel_rfl)); exact bd26 17 18 rfl h1 (look hl 18 (by kernel_rfl)) (hK _ _ (Below.refl _ _) (dst_eq rfl (Num.frac (show Num w' (b.tmps.getD 17 undef) _ _ from look hl 17 (by kernel_rfl)) ((hB_num hW hZ).more' (by omega)) h1 rfl)))) (dst_eq rfl rfl) rfl
    case s5 => exact plain_at (pl_call1 121 19 20 _ (by kernel_rfl) rfl rfl (guard_none rfl) (by kernel_rfl) (fun u w' hW hu => lowest_pos hu (by omega) hzp)) (dst_eq rfl rfl) rfl
    case s6 => exact put_at (step_put4 6 4 20 rfl rfl rfl (by kernel_rfl) (by kernel_rfl) ⟨fun v w h => LowE.form h, fun g w' w'' m a l c m' a' l' c' hv hc hb r0 r1 r2 r3 => ⟨m, a, l, c, m', a', l', c', r0, r1, r2, r3, LowE.chg hv hc hb.noint⟩⟩) rfl rfl (by kernel_rfl)
  case hend =>
    intro b w' hs hd hW hv hdis hC hfr
    obtain ⟨h4, _⟩ := hv 4 (.inl rfl)
    obtain ⟨q1, b1, i1, o1, q2, b2, i2, o2, m0, m1, m2, m3, hR'⟩ := hC 6 4 (by simp) (by decide) _ h4
    have hBf : Below w.heap.size w w' := hBB.trans (hW.below hBB.size (by intro k hk; simp only [List.mem_cons, List.not_mem_nil, or_false] at hk; omega))
    rw [Array.getD_eq_getD_getElem?] at h4
    clear hv hdis hC hfr hW
    go_wp2
    exact bodyPost_ret (v := .agg #[.bool q1, .slice b1 i1 o1, .bool q2, .slice b2 i2 o2]) (by simp [results, Tryz.results93, go_sem, h4, m0, m1, m2, m3]) hd ⟨_, rfl, hR', hBf⟩
end Go.Proofs.YtclokcoimdjaeaaGreatDoor
namespace Go.Proofs.YtclokcoimdjaeaaGreatDoor
set_option linter.unusedVariables false
open Go.RowKit
attribute [local go_sem ↓] Go.wp_at_zero Go.wp_at_succ
end Go.Proofs.YtclokcoimdjaeaaGreatDoor
namespace Go.Proofs.YtclokcoimdjaeaaGreatDoor
open Go.RowKit
attribute [local go_sem ↓] Go.wp_at_zero Go.wp_at_succ
theorem put4_boxed {base : Nat} {w : World} {g : Nat} (hg : NoInt w g) (bg : base ≤ g) (m1 : Bool) (a1 : Option Addr) (l1 c1 : Nat) (m2 : Bool) (a2 : Option Addr) (l2 c2 : Nat) : Boxed base w ((((w.setCell ⟨g, 0, none⟩ (.bool m1)).setCell ⟨g, 1, none⟩ (.slice a1 l1 c1)).setCell ⟨g, 2, none⟩ (.bool m2)).setCell ⟨g, 3, none⟩ (.slice a2 l2 c2)) :=
  (((Boxed.refl.set _ _ _ hg bg (notInt_bool _)).set _ _ _ hg bg (notInt_slice _ _ _)).set _ _ _ hg bg (notInt_bool _)).set _ _ _ hg bg (notInt_slice _ _ _)
theorem Boxed.fracE {base : Nat} {w w' : World} (h : Boxed base w w') {v : Value} {n d : Int} {m : Nat} (hf : FracE w v n d m) : FracE w' v n d m := by
  obtain ⟨n1, a1, l1, c1, n2, a2, l2, c2, hv, h1, h2⟩ := hf
  exact ⟨n1, a1, l1, c1, n2, a2, l2, c2, hv, h.out h1, h.out h2⟩
theorem Boxed.lowE {base : Nat} {w w' : World} (h : Boxed base w w') {v : Value} {n d : Int} {m : Nat} (hf : LowE w v n d m) : LowE w' v n d m := by
  obtain ⟨p, q, h1, h2⟩ := hf
  exact ⟨p, q, h.fracE h1, h2⟩
/-- What Of answers. -/
def OfAns (w : World) (v : Value) (n d : Int) (m : Nat) : Prop := ∃ t, v = .tuple #[t, .bool (decide (d ≠ 0))] ∧ (d = 0 → FracE w t 0 1 (m + 2)) ∧ (d ≠ 0 → LowE w t (pN n d) (pD d) (m + 2))
theorem FracE.more {w : World} {v : Value} {n d : Int} {m k : Nat} (h : FracE w v n d m) (hk : m ≤ k) : FracE w v n d k := by
  obtain ⟨n1, a1, l1, c1, n2, a2, l2, c2, hv, h1, h2⟩ := h
  exact ⟨n1, a1, l1, c1, n2, a2, l2, c2, hv, h1.more hk, h2.more hk⟩
theorem LowE.more {w : World} {v : Value} {n d : Int} {m k : Nat} (h : LowE w v n d m) (hk : m ≤ k) : LowE w v n d k := by
  obtain ⟨p, q, h1, h2⟩ := h
  exact ⟨p, q, h1.more hk, h2⟩
set_option maxRecDepth 20000 in
set_option maxHeartbeats 4000000 in
theorem Cmp26_num {w : World} {u v : Value} {n d n' d' : Int} {m : Nat} (hu : Frac w u n d m) (hv : Frac w v n' d' m) (hm : m ≤ 80) :
    Calls Tryz.prog 54 #[u, v] w fun e w' => e = .returned (.int .i64 (cmpI (pN n d * pD d') (pN n' d' * pD d))) ∧ Below w.heap.size w w' := by
  obtain ⟨n1, a1, l1, c1, n2, a2, l2, c2, rfl⟩ := hu.form
  obtain ⟨n3, a3, l3, c3, n4, a4, l4, c4, rfl⟩ := hv.form
  obtain ⟨W, hW, hbW, ⟨e0, e1, e2, e3⟩, ⟨g0, g1, g2, g3⟩⟩ : ∃ W, W = (w.alloc (.cells #[.bool n1, .slice a1 l1 c1, .bool n2, .slice a2 l2 c2] 30)).alloc (.cells #[.bool n3, .slice a3 l3 c3, .bool n4, .slice a4 l4 c4] 30) ∧ Below w.heap.size w W ∧
    (W.cell? ⟨w.heap.size, 0, none⟩ = some (.bool n1) ∧ W.cell? ⟨w.heap.size, 1, none⟩ = some (.slice a1 l1 c1) ∧ W.cell? ⟨w.heap.size, 2, none⟩ = some (.bool n2) ∧ W.cell? ⟨w.heap.size, 3, none⟩ = some (.slice a2 l2 c2)) ∧
    (W.cell? ⟨w.heap.size + 1, 0, none⟩ = some (.bool n3) ∧ W.cell? ⟨w.heap.size + 1, 1, none⟩ = some (.slice a3 l3 c3) ∧ W.cell? ⟨w.heap.size + 1, 2, none⟩ = some (.bool n4) ∧ W.cell? ⟨w.heap.size + 1, 3, none⟩ = some (.slice a4 l4 c4)) := by
    refine ⟨_, rfl, ((Below.refl _ _).alloc (Nat.le_refl _) _).alloc (by simp) _, ⟨?_, ?_, ?_, ?_⟩, ⟨?_, ?_, ?_, ?_⟩⟩
    all_goals simp [go_sem, World.cell?_alloc_past]
  have k1 := sameDen_num (hu.next hbW) (hv.next hbW) (by omega)
  replace k1 : Hid _ := k1
  go_enter Tryz.func54, Tryz.ntmps54
  go_wp2_with fail
  rw [← hW]
  clear hW
  refine Calls.mono k1.out ?_
  rintro e w1 ⟨r, s, t, rfl, h1, h2, h3, hb1⟩
  clear k1
  obtain ⟨n5, a5, l5, c5, rfl⟩ := h1.form
  obtain ⟨n6, a6, l6, c6, rfl⟩ := h2.form
  obtain ⟨n7, a7, l7, c7, rfl⟩ := h3.form
  obtain ⟨W1, hW1, hbW1, hl1, r0, r1, r2, r3, r4, r5⟩ := boxes_three w1 n5 a5 l5 c5 n6 a6 l6 c6 n7 a7 l7 c7
  have k2 := Cmp_num (h1.next hbW1) (h2.next hbW1) (by omega) (by omega)
  replace k2 : Hid _ := k2
  have hBB := bthen hbW (bthen hb1 hbW1)
  go_wp2_with fail
  rw [← hW1]
  clear hW1
  refine Calls.mono k2.out ?_
  rintro e w2 ⟨rfl, hb2⟩
  have hB2 := bthen hBB hb2
  clear k2
  go_wp2
  go_ret
  exact ⟨rfl, hB2⟩
end Go.Proofs.YtclokcoimdjaeaaGreatDoor
namespace Go.Proofs.YtclokcoimdjaeaaGreatDoor
set_option linter.unusedVariables false
open Go.RowKit
attribute [local go_sem ↓] Go.wp_at_zero Go.wp_at_succ
/-- The fraction that Of answers. -/
def OfRes (w : World) (v : Value) (n d : Int) (m : Nat) : Prop := (d = 0 → FracE w v 0 1 (m + 2)) ∧ (d ≠ 0 → LowE w v (pN n d) (pD d) (m + 2))
section
variable {w w' : World} {v : Value} {n d : Int} {m b : Nat}
theorem OfRes.next (h : OfRes w v n d m) (hb : Below w.heap.size w w') : OfRes w' v n d m := ⟨fun e => (h.1 e).next hb, fun e => (h.2 e).next hb⟩
theorem OfRes.chg (h : OfRes w v n d m) (hc : Chg b w w') (hb : NoInt w b) : OfRes w' v n d m := ⟨fun e => (h.1 e).chg hc hb, fun e => (h.2 e).chg hc hb⟩
theorem OfRes.form (h : OfRes w v n d m) : ∃ n1 a1 l1 c1 n2 a2 l2 c2, v = .agg #[.bool n1, .slice a1 l1 c1, .bool n2, .slice a2 l2 c2] := by
  by_cases e : d = 0
  · exact (h.1 e).form
  · exact (h.2 e).form
theorem OfAns.next (h : OfAns w v n d m) (hb : Below w.heap.size w w') : OfAns w' v n d m := by
  obtain ⟨t, h1, h2, h3⟩ := h
  exact ⟨t, h1, fun e => (h2 e).next hb, fun e => (h3 e).next hb⟩
theorem OfAns.chg (h : OfAns w v n d m) (hc : Chg b w w') (hb : NoInt w b) : OfAns w' v n d m := by
  obtain ⟨t, h1, h2, h3⟩ := h
  exact ⟨t, h1, fun e => (h2 e).chg hc hb, fun e => (h3 e).chg hc hb⟩
end
section
variable {ops : Array Oper} {Q : Exit → Act → World → Prop} {V : Nat → Value → World → Prop} {S : List Nat} {N : Nat} {w : World}
end
end Go.Proofs.YtclokcoimdjaeaaGreatDoor
namespace Go.Proofs.YtclokcoimdjaeaaGreatDoor
open Go.RowKit
attribute [local go_sem ↓] Go.wp_at_zero Go.wp_at_succ
theorem boxes_whole (w : World) (n1 : Bool) (a1 : Option Addr) (l1 c1 : Nat) : ∃ W, W = (w.alloc (.cells #[.bool n1, .slice a1 l1 c1] 28)).alloc (.cells #[.bool false, .slice none 0 0, .bool false, .slice none 0 0] 30) ∧ Below w.heap.size w W ∧
    (W.cell? ⟨w.heap.size, 0, none⟩ = some (.bool n1) ∧ W.cell? ⟨w.heap.size, 1, none⟩ = some (.slice a1 l1 c1)) ∧ Box4 W (w.heap.size + 1) := by
  refine ⟨_, rfl, ((Below.refl _ _).alloc (Nat.le_refl _) _).alloc (by simp) _, ⟨?_, ?_⟩, ?n0⟩
  case n0 =>
    have h := Box4.new (w.alloc (.cells #[.bool n1, .slice a1 l1 c1] 28)) false none 0 0 false none 0 0 30 (by decide)
    rw [show (w.alloc (.cells #[.bool n1, .slice a1 l1 c1] 28)).heap.size = w.heap.size + 1 from by simp] at h
    exact h
  all_goals simp [go_sem, World.cell?_alloc_past]
set_option maxRecDepth 20000 in
set_option maxHeartbeats 4000000 in
theorem Whole_num {w : World} {u : Value} {n : Int} {m : Nat} (hu : Num w u n m) (hm : m ≤ 440) :
    Calls Tryz.prog 70 #[u] w fun e w' => ∃ t, e = .returned t ∧ LowE w' t n 1 (m + 4) ∧ Below w.heap.size w w' := by
  obtain ⟨n1, a1, l1, c1, rfl⟩ := hu.form
  obtain ⟨W, hW, hbW, ⟨e0, e1⟩, x0⟩ := boxes_whole w n1 a1 l1 c1
  have hU := hu.next hbW
  have hD0 : Below W.heap.size W W.drew := (Below.refl _ _).drew
  go_enter Tryz.func70, Tryz.ntmps70
  go_wp2
  rw [← hW]
  clear hW
  go_region_with (first
    | (go_at_call 44; refine (Of_any 1 _ (by decide) (by decide)).mono ?_; rintro e w2 ⟨t, rfl, hO, hb2⟩; obtain ⟨n3, a3, l3, c3, rfl⟩ := hO.form; have hB2 : Below W.heap.size W w2 := bthen hD0 hb2; have p0 := keep_cell hB2 e0; have p1 := keep_cell hB2 e1)
    | (go_at_call 121; refine (lowest_pos (Num.frac ((hU.next hB2).more' (m := m + 2) (by omega)) (hO.num.more' (m := m + 2) (by omega)) rfl rfl) (by omega) (by decide)).mono ?_; rintro e w3 ⟨t, rfl, hL, hb3⟩; obtain ⟨n4, a4, l4, c4, n5, a5, l5, c5, rfl⟩ := hL.form; have hB3 : Below W.heap.size W w3 := bthen hB2 hb3; have y0 := x0.next hB3; obtain ⟨_, _, _, _, _, _, _, _, j0, j1, j2, j3, f⟩ := y0.cells; have f0 := f 0; have f1 := f 1; have f2 := f 2; have f3 := f 3; clear f))
  all_goals
    have hbx : Hid _ := put4_boxed (base := w.heap.size) y0.noint (by omega) n4 a4 l4 c4 n5 a5 l5 c5
    have hBf := bthen hbW hB3
    have hLf : Hid _ := hbx.out.lowE hL
    clear hO hL hU hb2 hb3 hB2 hB3
    go_wp2
    exact bodyPost_ret (v := .agg #[.bool n4, .slice a4 l4 c4, .bool n5, .slice a5 l5 c5]) (by simp [results, Tryz.results70, go_sem, j0, j1, j2, j3]) rfl ⟨_, rfl, hLf.out, hbx.out.keep hBf (Nat.le_refl _) hBf.size⟩
end Go.Proofs.YtclokcoimdjaeaaGreatDoor
namespace Go.Proofs.YtclokcoimdjaeaaGreatDoor
open Go.RowKit
attribute [local go_sem ↓] Go.wp_at_zero Go.wp_at_succ
theorem boxes_int (w : World) (m1 : Bool) (a1 : Option Addr) (l1 c1 : Nat) (m2 : Bool) (a2 : Option Addr) (l2 c2 : Nat) : ∃ W, W = (w.alloc (.cells #[.bool m1, .slice a1 l1 c1, .bool m2, .slice a2 l2 c2] 30)).alloc (.cells #[.bool false, .slice none 0 0] 28) ∧ Below w.heap.size w W ∧
    (W.cell? ⟨w.heap.size, 0, none⟩ = some (.bool m1) ∧ W.cell? ⟨w.heap.size, 1, none⟩ = some (.slice a1 l1 c1) ∧ W.cell? ⟨w.heap.size, 2, none⟩ = some (.bool m2) ∧ W.cell? ⟨w.heap.size, 3, none⟩ = some (.slice a2 l2 c2)) ∧ Box2 W (w.heap.size + 1) := by
  refine ⟨_, rfl, ((Below.refl _ _).alloc (Nat.le_refl _) _).alloc (by simp) _, ⟨?_, ?_, ?_, ?_⟩, ?n⟩
  case n =>
    have h := Box2.new (w.alloc (.cells #[.bool m1, .slice a1 l1 c1, .bool m2, .slice a2 l2 c2] 30)) false none 0 0 28 (by decide)
    rw [show (w.alloc (.cells #[.bool m1, .slice a1 l1 c1, .bool m2, .slice a2 l2 c2] 30)).heap.size = w.heap.size + 1 from by simp] at h
    exact h
  all_goals simp [go_sem, World.cell?_alloc_past]
theorem put2_boxed {base : Nat} {w : World} {g : Nat} (hg : NoInt w g) (bg : base ≤ g) (m1 : Bool) (a1 : Option Addr) (l1 c1 : Nat) : Boxed base w ((w.setCell ⟨g, 0, none⟩ (.bool m1)).setCell ⟨g, 1, none⟩ (.slice a1 l1 c1)) :=
  (Boxed.refl.set _ _ _ hg bg (notInt_bool _)).set _ _ _ hg bg (notInt_slice _ _ _)
/-- What Int answers. -/
def IntAns (w : World) (v : Value) (n d : Int) (m : Nat) : Prop :=
  ∃ t, v = .tuple #[t, .bool (decide ((pN n d).tmod (pD d) = 0))] ∧ ((pN n d).tmod (pD d) = 0 → OutE w t ((pN n d).tdiv (pD d)) (m + 3)) ∧ ((pN n d).tmod (pD d) ≠ 0 → t = .agg #[.bool false, .slice none 0 0])
set_option maxRecDepth 20000 in
set_option maxHeartbeats 4000000 in
theorem Int_num {w : World} {v : Value} {n d : Int} {m : Nat} (hv : Frac w v n d m) (hm : m ≤ 440) :
    Calls Tryz.prog 91 #[v] w fun e w' => ∃ t, e = .returned t ∧ IntAns w' t n d m ∧ Below w.heap.size w w' := by
  obtain ⟨n1, a1, l1, c1, n2, a2, l2, c2, rfl, h1, h2⟩ := hv
  obtain ⟨W, hW, hbW, ⟨e0, e1, e2, e3⟩, x4⟩ := boxes_int w n1 a1 l1 c1 n2 a2 l2 c2
  have hF : Frac W (.agg #[.bool n1, .slice a1 l1 c1, .bool n2, .slice a2 l2 c2]) n d m := ⟨_, _, _, _, _, _, _, _, rfl, h1.next hbW, h2.next hbW⟩
  have k1 := parts_num hF (by omega)
  have hdp := pD_pos d
  unfold IntAns
  generalize pN n d = N at *
  generalize pD d = D at *
  replace k1 : Hid _ := k1
  go_enter Tryz.func91, Tryz.ntmps91
  go_wp2_with fail
  rw [← hW]
  clear hW
  refine Calls.mono k1.out ?_
  rintro e w1 ⟨s, t, rfl, hN, hD, hb1⟩
  clear k1
  obtain ⟨n3, a3, l3, c3, rfl⟩ := hN.form
  obtain ⟨n4, a4, l4, c4, rfl⟩ := hD.form
  obtain ⟨W1, hW1, hbW1, ⟨p0, p1, p2, p3⟩, y0, y1⟩ := boxes_two w1 n3 a3 l3 c3 n4 a4 l4 c4
  have hN1 := hN.next hbW1
  have hD1 := hD.next hbW1
  have k2 := Quo_num hN1 hD1 (by omega) (by omega) (by omega)
  replace k2 : Hid _ := k2
  have x5 := (x4.next hb1).next hbW1
  have hB1 := bthen (bthen hbW hb1) hbW1
  clear x4 y0 y1 e0 e1 e2 e3 h1 h2
  go_wp2_with fail
  rw [← hW1]
  clear hW1
  refine Calls.mono k2.out ?_
  rintro e w2 ⟨t, t', rfl, hO, hO', hb2⟩
  clear k2
  obtain ⟨n5, a5, l5, c5, rfl⟩ := hO.form
  obtain ⟨n6, a6, l6, c6, rfl⟩ := hO'.form
  obtain ⟨W2, hW2, hbW2, ⟨q0, q1, q2, q3⟩, z0, z1⟩ := boxes_two w2 n5 a5 l5 c5 n6 a6 l6 c6
  have hQ : OutE W2 (.agg #[.bool n5, .slice a5 l5 c5]) (N.tdiv D) (m + 3) := OutE.next ⟨_, hO⟩ hbW2
  have hR : OutE W2 (.agg #[.bool n6, .slice a6 l6 c6]) (N.tmod D) (m + 2 + (m + 2)) := OutE.next ⟨_, hO'⟩ hbW2
  have k3 := isZero_num hR.num (by omega)
  replace k3 : Hid _ := k3
  have x6 := (x5.next hb2).next hbW2
  have hB2 := bthen (bthen hB1 hb2) hbW2
  clear x5 z0 z1 hO hO' hN hD hN1 hD1 p0 p1 p2 p3
  go_wp2_with fail
  rw [← hW2]
  clear hW2
  refine Calls.mono k3.out ?_
  rintro e w3 ⟨rfl, hb3⟩
  clear k3
  have r0 := keep_cell hb3 q0
  have r1 := keep_cell hb3 q1
  have x7 := x6.next hb3
  have hQ3 := hQ.next hb3
  have hB3 := bthen hB2 hb3
  obtain ⟨_, _, _, _, j0, j1, f⟩ := x7.cells
  have f0 := f 0
  have f1 := f 1
  clear f q0 q1 q2 q3 x6 hQ hR
  by_cases hz : N.tmod D = 0
  · have hd : decide (N.tmod D = 0) = true := by simpa using hz
    have hbx : Hid _ := put2_boxed (base := w.heap.size) x7.noint (by omega) n5 a5 l5 c5
    have hz' : Hid _ := hz
    rw [hd]
    have hd' : Hid _ := hd
    clear hz hd
    go_wp2
    exact bodyPost_ret (v := .tuple #[.agg #[.bool n5, .slice a5 l5 c5], .bool true]) (by simp [results, Tryz.results91, go_sem, j0, j1]) rfl ⟨_, rfl, ⟨_, by rw [hd'.out], fun _ => hbx.out.out hQ3, fun h => absurd hz'.out h⟩, hbx.out.keep hB3 (Nat.le_refl _) hB3.size⟩
  · have hd : decide (N.tmod D = 0) = false := by simpa using hz
    have hbx : Hid _ := put2_boxed (base := w.heap.size) x7.noint (by omega) false none 0 0
    have hz' : Hid (N.tmod D ≠ 0) := hz
    rw [hd]
    have hd' : Hid _ := hd
    clear hz hd
    go_wp2
    exact bodyPost_ret (v := .tuple #[.agg #[.bool false, .slice none 0 0], .bool false]) (by simp [results, Tryz.results91, go_sem, j0, j1]) rfl ⟨_, rfl, ⟨_, by rw [hd'.out], fun h => absurd h hz'.out, fun _ => rfl⟩, hbx.out.keep hB3 (Nat.le_refl _) hB3.size⟩
end Go.Proofs.YtclokcoimdjaeaaGreatDoor
namespace Go.Proofs.YtclokcoimdjaeaaGreatDoor
open Go.RowKit
attribute [local go_sem ↓] Go.wp_at_zero Go.wp_at_succ
end Go.Proofs.YtclokcoimdjaeaaGreatDoor
namespace Go.Proofs.YtclokcoimdjaeaaGreatDoor
open Go.RowKit
attribute [local go_sem ↓] Go.wp_at_zero Go.wp_at_succ
end Go.Proofs.YtclokcoimdjaeaaGreatDoor
namespace Go.Proofs.YtclokcoimdjaeaaGreatDoor
open Go.RowKit
/-- v is worth x over y. -/
def Qv (w : World) (v : Value) (x y : Int) (m : Nat) : Prop := 0 < y ∧ ∃ n d, Frac w v n d m ∧ pN n d * y = x * pD d
section
variable {w w' : World} {u v : Value} {x y x' y' : Int} {m b : Nat}
theorem Qv.next (h : Qv w v x y m) (hb : Below w.heap.size w w') : Qv w' v x y m := by
  obtain ⟨h0, n, d, h1, h2⟩ := h
  exact ⟨h0, n, d, h1.next hb, h2⟩
theorem Qv.chg (h : Qv w v x y m) (hc : Chg b w w') (hb : NoInt w b) : Qv w' v x y m := by
  obtain ⟨h0, n, d, h1, h2⟩ := h
  exact ⟨h0, n, d, h1.chg hc hb, h2⟩
theorem Qv.form (h : Qv w v x y m) : ∃ n1 a1 l1 c1 n2 a2 l2 c2, v = .agg #[.bool n1, .slice a1 l1 c1, .bool n2, .slice a2 l2 c2] := by
  obtain ⟨_, n, d, h1, _⟩ := h
  exact h1.form
theorem Frac.more {n d : Int} {k : Nat} (h : Frac w v n d m) (hk : m ≤ k) : Frac w v n d k := by
  obtain ⟨n1, a1, l1, c1, n2, a2, l2, c2, hv, h1, h2⟩ := h
  exact ⟨n1, a1, l1, c1, n2, a2, l2, c2, hv, h1.more' hk, h2.more' hk⟩
theorem Qv.more {k : Nat} (h : Qv w v x y m) (hk : m ≤ k) : Qv w v x y k := by
  obtain ⟨h0, n, d, h1, h2⟩ := h
  exact ⟨h0, n, d, h1.more hk, h2⟩
theorem Qv.to {X Y : Int} (h : Qv w v x y m) (hY : 0 < Y) (e : x * Y = X * y) : Qv w v X Y m := by
  obtain ⟨h0, n, d, h1, h2⟩ := h
  refine ⟨hY, n, d, h1, ?_⟩
  refine Int.eq_of_mul_eq_mul_left (Int.ne_of_gt h0) ?_
  grind
/-- What Quo answers: its value where there is one. -/
def QuoV (w : World) (v : Value) (x y x' y' : Int) (m : Nat) : Prop := x' ≠ 0 → ∃ p q, Qv w v p q m ∧ p * (y * x') = x * y' * q
theorem QuoV.next (h : QuoV w v x y x' y' m) (hb : Below w.heap.size w w') : QuoV w' v x y x' y' m := fun e => by
  obtain ⟨p, q, h1, h2⟩ := h e
  exact ⟨p, q, h1.next hb, h2⟩
theorem QuoV.chg (h : QuoV w v x y x' y' m) (hc : Chg b w w') (hb : NoInt w b) : QuoV w' v x y x' y' m := fun e => by
  obtain ⟨p, q, h1, h2⟩ := h e
  exact ⟨p, q, h1.chg hc hb, h2⟩
end
end Go.Proofs.YtclokcoimdjaeaaGreatDoor
namespace Go.Proofs.YtclokcoimdjaeaaGreatDoor
open Go.RowKit
attribute [local go_sem ↓] Go.wp_at_zero Go.wp_at_succ
section
variable {ops : Array Oper} {Q : Exit → Act → World → Prop} {V : Nat → Value → World → Prop} {S : List Nat} {N : Nat} {w : World}
end
end Go.Proofs.YtclokcoimdjaeaaGreatDoor
