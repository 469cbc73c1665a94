/- Products of fractions. -/
import Derived.Test.YthiiglhecajhbaaGreatFa
namespace Go.Proofs.YthiiglhecajhbaaGreat
set_option linter.unusedVariables false
open Go.RowKit
attribute [local go_sem ↓] Go.wp_at_zero Go.wp_at_succ
def Mul26V (p4 b5 b7 K : Nat) (AN AD BN BD : Value) (x z : Int) (t : Nat) (v : Value) (w : World) : Prop := match t with
  | 4 => v = .pointer (some ⟨p4, 0, none⟩) ∧ Box4 w p4
  | 5 => v = .pointer (some ⟨b5, 0, none⟩)
  | 6 => v = .pointer (some ⟨b5 + 1, 0, none⟩)
  | 7 => v = .pointer (some ⟨b7, 0, none⟩)
  | 8 => v = .pointer (some ⟨b7 + 1, 0, none⟩)
  | 19 => v = AN
  | 20 => v = BN
  | 21 => Num w v x K
  | 22 => v = AD
  | 23 => v = BD
  | 24 => Num w v z K
  | 25 => Frac w v x z K
  | 26 => LowE w v x z (K + 2)
  | _ => True
theorem Mul26V_next {p4 b5 b7 K : Nat} {AN AD BN BD : Value} {x z : Int} (t : Nat) (v : Value) (w w' : World) (hb : Below w.heap.size w w') (h : Mul26V p4 b5 b7 K AN AD BN BD x z t v w) : Mul26V p4 b5 b7 K AN AD BN BD x z t v w' := by
  unfold Mul26V at h ⊢
  split at h <;> first | exact h | exact Num.next h hb | exact OutE.next h hb | exact Frac.next h hb | exact FracE.next h hb | exact LowE.next h hb | exact ⟨h.1, h.2.next hb⟩
theorem Mul26V_chg {p4 b5 b7 K : Nat} {AN AD BN BD : Value} {x z : Int} (t : Nat) (v : Value) (w w' : World) (b : Nat) (hc : Chg b w w') (hb : Box4 w b) (hb' : Box4 w' b) (h : Mul26V p4 b5 b7 K AN AD BN BD x z t v w) : Mul26V p4 b5 b7 K AN AD BN BD x z t v w' := by
  unfold Mul26V at h ⊢
  split at h <;> first | exact h | exact Num.chg h hc hb.noint | exact OutE.chg h hc hb.noint | exact Frac.chg h hc hb.noint | exact FracE.chg h hc hb.noint | exact LowE.chg h hc hb.noint | exact ⟨h.1, h.2.chg hc hb'⟩
def Mul26C (p4 b5 b7 K : Nat) (AN AD BN BD : Value) (x z : Int) (j b : Nat) (w : World) : Prop := match j with
  | 8 => Holds4 w b (fun v => LowE w v x z (K + 2))
  | _ => True
theorem Mul26C_next {p4 b5 b7 K : Nat} {AN AD BN BD : Value} {x z : Int} (j b : Nat) (w w' : World) (hb : Below w.heap.size w w') (_ : b < w.heap.size) (h : Mul26C p4 b5 b7 K AN AD BN BD x z j b w) : Mul26C p4 b5 b7 K AN AD BN BD x z j b w' := by
  unfold Mul26C at h ⊢
  split at h <;> first | exact h | exact Holds4.next h hb (fun v k => k.next hb)
theorem Mul26C_chg {p4 b5 b7 K : Nat} {AN AD BN BD : Value} {x z : Int} (j b b' : Nat) (w w' : World) (hc : Chg b' w w') (hb : Box4 w b') (_ : Box4 w' b') (hne : b ≠ b') (h : Mul26C p4 b5 b7 K AN AD BN BD x z j b w) : Mul26C p4 b5 b7 K AN AD BN BD x z j b w' := by
  unfold Mul26C at h ⊢
  split at h <;> first | exact h | exact Holds4.chg h hc hne (fun v k => k.chg hc hb.noint)
set_option maxRecDepth 20000 in
set_option maxHeartbeats 4000000 in
theorem Mul26_num {w : World} {u v : Value} {n d n' d' : Int} {m : Nat} (hu : Frac w u n d m) (hv : Frac w v n' d' m) (hm : m ≤ 80) :
    Calls Tryz.prog 20 #[u, v] w fun e w' => ∃ t, e = .returned t ∧ LowE w' t (pN n d * pN n' d') (pD d * pD d') (2 * m + 6) ∧ Below w.heap.size w w' := by
  obtain ⟨n1, a1, l1, c1, n2, a2, l2, c2, rfl⟩ := hu.form
  obtain ⟨n3, a3, l3, c3, n4, a4, l4, c4, rfl⟩ := hv.form
  obtain ⟨W, hW, hbW, ⟨e0, e1, e2, e3⟩, ⟨g0, g1, g2, g3⟩, x0⟩ := boxes_op w n1 a1 l1 c1 n2 a2 l2 c2 n3 a3 l3 c3 n4 a4 l4 c4
  have k1 := parts_num (hu.next hbW) (by omega)
  have hzp : 0 < pD d * pD d' := Int.mul_pos (pD_pos d) (pD_pos d')
  replace k1 : Hid _ := k1
  go_enter Tryz.func20, Tryz.ntmps20
  go_wp2_with fail
  rw [← hW]
  clear hW
  refine Calls.mono k1.out ?_
  rintro e w1 ⟨s, t, rfl, hN, hD, hb1⟩
  clear k1
  obtain ⟨n5, a5, l5, c5, rfl⟩ := hN.form
  obtain ⟨n6, a6, l6, c6, rfl⟩ := hD.form
  obtain ⟨W1, hW1, hbW1, ⟨p0, p1, p2, p3⟩, y0, y1⟩ := boxes_two w1 n5 a5 l5 c5 n6 a6 l6 c6
  have hbx1 := bthen hb1 hbW1
  have k2 := parts_num ((hv.next hbW).next hbx1) (by omega)
  replace k2 : Hid _ := k2
  have j0 := keep_cell hb1 g0
  have j1 := keep_cell hb1 g1
  have j2 := keep_cell hb1 g2
  have j3 := keep_cell hb1 g3
  have j4 : w.heap.size + 1 < w1.heap.size := cell_lt j0
  have j5 : w.heap.size + 1 < w1.heap.size + 1 := by omega
  go_wp2_with fail
  rw [← hW1]
  clear hW1 j0 j1 j2 j3 j5
  refine Calls.mono k2.out ?_
  rintro e w2 ⟨s, t, rfl, hN', hD', hb2⟩
  clear k2
  obtain ⟨n7, a7, l7, c7, rfl⟩ := hN'.form
  obtain ⟨n8, a8, l8, c8, rfl⟩ := hD'.form
  obtain ⟨W2, hW2, hbW2, ⟨s0, s1, s2, s3⟩, z0, z1⟩ := boxes_two w2 n7 a7 l7 c7 n8 a8 l8 c8
  have hbx2 := bthen hb2 hbW2
  have hbx12 := bthen hbx1 hbx2
  have r0 := keep_cell hbx2 p0
  have r1 := keep_cell hbx2 p1
  have r2 := keep_cell hbx2 p2
  have r3 := keep_cell hbx2 p3
  have hAN := (hN.next hbW1).next hbx2
  have hAD := (hD.next hbW1).next hbx2
  have hBN := hN'.next hbW2
  have hBD := hD'.next hbW2
  have u0 := x0.next hbx12
  have hBB := bthen hbW hbx12
  have hx0 := x0.noint.lt
  have hs1 := hb1.size
  have hs2 := hb2.size
  have hs3 := hbW1.size
  have hy1 := y1.noint.lt
  go_wp2
  rw [← hW2]
  clear hW2 e0 e1 e2 e3 g0 g1 g2 g3 p0 p1 p2 p3 hN hD hN' hD'
  have hS : ∀ k, k ∈ [w.heap.size + 1 + 1] → NoInt W2 k := by
    intro k hk
    simp only [List.mem_cons, List.not_mem_nil, or_false] at hk
    subst hk
    exact u0.noint
  have hB_num : ∀ {w' : World} {v : Value} {z : Int} {n : Nat}, BelowBut [w.heap.size + 1 + 1] W2 w' → Num W2 v z n → Num w' v z n := fun hW h => h.but hW hS
  refine wp_region_boxes (Mul26V (w.heap.size + 1 + 1) w1.heap.size w2.heap.size (2 * m + 4) (.agg #[.bool n5, .slice a5 l5 c5]) (.agg #[.bool n6, .slice a6 l6 c6]) (.agg #[.bool n7, .slice a7 l7 c7]) (.agg #[.bool n8, .slice a8 l8 c8]) (pN n d * pN n' d') (pD d * pD d')) Box4 (Mul26C (w.heap.size + 1 + 1) w1.heap.size w2.heap.size (2 * m + 4) (.agg #[.bool n5, .slice a5 l5 c5]) (.agg #[.bool n6, .slice a6 l6 c6]) (.agg #[.bool n7, .slice a7 l7 c7]) (.agg #[.bool n8, .slice a8 l8 c8]) (pN n d * pN n' d') (pD d * pD d')) [4, 5, 6, 7, 8] [4] [w.heap.size + 1 + 1] [(8, 4)] 27 (by kernel_rfl) (by kernel_rfl) rfl Mul26V_next Mul26V_chg ?hA Mul26C_next Mul26C_chg ?hstart ?hdis (StepsFrom.all ?hstep) ?hend
  case hA =>
    intro s v w' hs hv
    have hs' : s = 4 := by simpa using hs
    subst hs'
    exact ⟨_, hv.1, hv.2, .inr (by simp), hv.2.noint.lt⟩
  case hstart =>
    intro t ht
    have hD0 : Below W2.heap.size W2 W2.drew := (Below.refl _ _).drew
    simp only [List.mem_cons, List.not_mem_nil, or_false] at ht
    rcases ht with rfl | rfl | rfl | rfl | rfl
    · exact ⟨rfl, u0.next hD0⟩
    all_goals rfl
  case hdis =>
    intro s t hs ht hne _ _
    have hs' : s = 4 := by simpa using hs
    have ht' : t = 4 := by simpa using ht
    exact absurd (hs'.trans ht'.symm) hne
  case hstep =>
    refine ⟨?s0, ?s1, ?s2, ?s3, ?s4, ?s5, ?s6, ?s7, ?s8, trivial⟩
    case s0 => exact plain_at (plain_of (guard_none rfl) fun b w' _ hW hl K hK => ld24 (hW.cell r0 (by simp; omega)) (hW.cell r1 (by simp; omega)) 5 rfl (look hl 5 (by kernel_rfl)) (hK _ _ (Below.refl _ _) (dst_eq rfl rfl))) (dst_eq rfl rfl) rfl
    case s1 => exact plain_at (plain_of (guard_none rfl) fun b w' _ hW hl K hK => ld24 (hW.cell s0 (by simp; omega)) (hW.cell s1 (by simp; omega)) 7 rfl (look hl 7 (by kernel_rfl)) (hK _ _ (Below.refl _ _) (dst_eq rfl rfl))) (dst_eq rfl rfl) rfl
    case s2 => exact plain_at (pl_call2 39 19 20 21 _ (by kernel_rfl) rfl rfl (guard_none rfl) (by kernel_rfl) (by kernel_rfl) (fun u v w' hW hu hv => by subst hu; subst hv; exact (Mul_num (hB_num hW hAN) (hB_num hW hBN) (by omega) (by omega)).mono fun e w'' h => by obtain ⟨t, h1, h2, h3⟩ := h; exact ⟨t, h1, h2.num.more' (by omega), h3⟩)) (dst_eq rfl rfl) rfl
    case s3 => exact plain_at (plain_of (guard_none rfl) fun b w' _ hW hl K hK => ld24 (hW.cell r2 (by simp; omega)) (hW.cell r3 (by simp; omega)) 6 rfl (look hl 6 (by kernel_rfl)) (hK _ _ (Below.refl _ _) (dst_eq rfl rfl))) (dst_eq rfl rfl) rfl
    case s4 => exact plain_at (plain_of (guard_none rfl) fun b w' _ hW hl K hK => ld24 (hW.cell s2 (by simp; omega)) (hW.cell s3 (by simp; omega)) 8 rfl (look hl 8 (by kernel_rfl)) (hK _ _ (Below.refl _ _) (dst_eq rfl rfl))) (dst_eq rfl rfl) rfl
    case s5 => exact plain_at (pl_call2 39 22 23 24 _ (by kernel_rfl) rfl rfl (guard_none rfl) (by kernel_rfl) (by kernel_rfl) (fun u v w' hW hu hv => by subst hu; subst hv; exact (Mul_num (hB_num hW hAD) (hB_num hW hBD) (by omega) (by omega)).mono fun e w'' h => by obtain ⟨t, h1, h2, h3⟩ := h; exact ⟨t, h1, h2.num.more' (by omega), h3⟩)) (dst_eq rfl rfl) rfl
    case s6 => exact plain_at (plain_of (guard_none rfl) fun b w' _ hW hl K hK => by obtain ⟨m1, b1, i1, o1, h1⟩ := Num.form (show Num w' (b.tmps.getD 21 undef) _ _ from look hl 21 (by kernel_rfl)); obtain ⟨m2, b2, i2, o2, h2⟩ := Num.form (show Num w' (b.tmps.getD 24 undef) _ _ from look hl 24 (by kernel_rfl)); exact bd26 21 24 rfl h1 h2 (hK _ _ (Below.refl _ _) (dst_eq rfl (Num.frac (show Num w' (b.tmps.getD 21 undef) _ _ from look hl 21 (by kernel_rfl)) (show Num w' (b.tmps.getD 24 undef) _ _ from look hl 24 (by kernel_rfl)) h1 h2)))) (dst_eq rfl rfl) rfl
    case s7 => exact plain_at (pl_call1 45 25 26 _ (by kernel_rfl) rfl rfl (guard_none rfl) (by kernel_rfl) (fun u w' hW hu => lowest_pos hu (by omega) hzp)) (dst_eq rfl rfl) rfl
    case s8 => exact put_at (step_put4 8 4 26 rfl rfl rfl (by kernel_rfl) (by kernel_rfl) ⟨fun v w h => LowE.form h, fun g w' w'' m a l c m' a' l' c' hv hc hb r0 r1 r2 r3 => ⟨m, a, l, c, m', a', l', c', r0, r1, r2, r3, LowE.chg hv hc hb.noint⟩⟩) rfl rfl (by kernel_rfl)
  case hend =>
    intro b w' hs hd hW hv hdis hC hfr
    obtain ⟨h4, _⟩ := hv 4 (.inl rfl)
    obtain ⟨q1, b1, i1, o1, q2, b2, i2, o2, m0, m1, m2, m3, hR'⟩ := hC 8 4 (by simp) (by decide) _ h4
    have hBf : Below w.heap.size w w' := hBB.trans (hW.below hBB.size (by intro k hk; simp only [List.mem_cons, List.not_mem_nil, or_false] at hk; omega))
    rw [Array.getD_eq_getD_getElem?] at h4
    clear hv hdis hC hfr hW
    go_wp2
    exact bodyPost_ret (v := .agg #[.bool q1, .slice b1 i1 o1, .bool q2, .slice b2 i2 o2]) (by simp [results, Tryz.results20, go_sem, h4, m0, m1, m2, m3]) hd ⟨_, rfl, hR', hBf⟩
end Go.Proofs.YthiiglhecajhbaaGreat
