/- Quotients of fractions. -/
import Derived.Test.YthiiglhecajhbaaGreatFo
namespace Go.Proofs.YthiiglhecajhbaaGreat
set_option linter.unusedVariables false
open Go.RowKit
attribute [local go_sem ↓] Go.wp_at_zero Go.wp_at_succ
/-- The fraction that Of answers. -/
def OfRes (w : World) (v : Value) (n d : Int) (m : Nat) : Prop := (d = 0 → FracE w v 0 1 (m + 2)) ∧ (d ≠ 0 → LowE w v (pN n d) (pD d) (m + 2))
section
variable {w w' : World} {v : Value} {n d : Int} {m b : Nat}
theorem OfRes.next (h : OfRes w v n d m) (hb : Below w.heap.size w w') : OfRes w' v n d m := ⟨fun e => (h.1 e).next hb, fun e => (h.2 e).next hb⟩
theorem OfRes.chg (h : OfRes w v n d m) (hc : Chg b w w') (hb : NoInt w b) : OfRes w' v n d m := ⟨fun e => (h.1 e).chg hc hb, fun e => (h.2 e).chg hc hb⟩
theorem OfRes.form (h : OfRes w v n d m) : ∃ n1 a1 l1 c1 n2 a2 l2 c2, v = .agg #[.bool n1, .slice a1 l1 c1, .bool n2, .slice a2 l2 c2] := by
  by_cases e : d = 0
  · exact (h.1 e).form
  · exact (h.2 e).form
theorem OfAns.next (h : OfAns w v n d m) (hb : Below w.heap.size w w') : OfAns w' v n d m := by
  obtain ⟨t, h1, h2, h3⟩ := h
  exact ⟨t, h1, fun e => (h2 e).next hb, fun e => (h3 e).next hb⟩
theorem OfAns.chg (h : OfAns w v n d m) (hc : Chg b w w') (hb : NoInt w b) : OfAns w' v n d m := by
  obtain ⟨t, h1, h2, h3⟩ := h
  exact ⟨t, h1, fun e => (h2 e).chg hc hb, fun e => (h3 e).chg hc hb⟩
end
section
variable {ops : Array Oper} {Q : Exit → Act → World → Prop} {V : Nat → Value → World → Prop} {S : List Nat} {N : Nat} {w : World}
theorem pl_extract {o : Oper} (t d i : Nat) (ho : o.op = .extract (.tmp t) i) (hi : i = 0 ∨ i = 1) (hd : o.dst = some d) (hg : GuardOk ops V o) (hl : (o.looksAt ops).contains t = true) (hv : ∀ v w, V t v w → ∃ x y, v = .tuple #[x, y] ∧ V d (if i = 0 then x else y) w) : PlainStep Tryz.prog ops Q V S N w o :=
  plain_of hg fun b w' _ _ hb K hK => by
    obtain ⟨x, y, h1, h2⟩ := hv _ _ (look hb t hl)
    obtain ⟨dst, op, type, pos, after, guard⟩ := o
    dsimp only at ho hd
    subst ho
    unfold Oper.wp
    have e : b.eval (.tmp t) = .tuple #[x, y] := h1
    have hk := hK (if i = 0 then x else y) _ (Below.refl _ w') (dst_eq hd h2)
    clear hd hK h2
    rcases hi with rfl | rfl
    · replace hk : Hid _ := hk
      go_simp
      exact hk.out
    · replace hk : Hid _ := hk
      go_simp
      exact hk.out
end
def Quo26V (p4 b5 b7 K : Nat) (AN AD BN BD : Value) (x z : Int) (t : Nat) (v : Value) (w : World) : Prop := match t with
  | 4 => v = .pointer (some ⟨p4, 0, none⟩) ∧ Box4 w p4
  | 5 => v = .bool (decide (z ≠ 0))
  | 6 => v = .pointer (some ⟨b5, 0, none⟩)
  | 7 => v = .pointer (some ⟨b5 + 1, 0, none⟩)
  | 8 => v = .pointer (some ⟨b7, 0, none⟩)
  | 9 => v = .pointer (some ⟨b7 + 1, 0, none⟩)
  | 20 => v = AN
  | 21 => v = BD
  | 22 => Num w v x K
  | 23 => v = AD
  | 24 => v = BN
  | 25 => Num w v z K
  | 26 => OfAns w v x z K
  | 27 => OfRes w v x z K
  | 28 => v = .bool (decide (z ≠ 0))
  | _ => True
theorem Quo26V_next {p4 b5 b7 K : Nat} {AN AD BN BD : Value} {x z : Int} (t : Nat) (v : Value) (w w' : World) (hb : Below w.heap.size w w') (h : Quo26V p4 b5 b7 K AN AD BN BD x z t v w) : Quo26V p4 b5 b7 K AN AD BN BD x z t v w' := by
  unfold Quo26V at h ⊢
  split at h <;> first | exact h | exact Num.next h hb | exact OutE.next h hb | exact Frac.next h hb | exact FracE.next h hb | exact LowE.next h hb | exact OfAns.next h hb | exact OfRes.next h hb | exact ⟨h.1, h.2.next hb⟩
theorem Quo26V_chg {p4 b5 b7 K : Nat} {AN AD BN BD : Value} {x z : Int} (t : Nat) (v : Value) (w w' : World) (b : Nat) (hc : Chg b w w') (hb : Box4 w b) (hb' : Box4 w' b) (h : Quo26V p4 b5 b7 K AN AD BN BD x z t v w) : Quo26V p4 b5 b7 K AN AD BN BD x z t v w' := by
  unfold Quo26V at h ⊢
  split at h <;> first | exact h | exact Num.chg h hc hb.noint | exact OutE.chg h hc hb.noint | exact Frac.chg h hc hb.noint | exact FracE.chg h hc hb.noint | exact LowE.chg h hc hb.noint | exact OfAns.chg h hc hb.noint | exact OfRes.chg h hc hb.noint | exact ⟨h.1, h.2.chg hc hb'⟩
def Quo26C (p4 b5 b7 K : Nat) (AN AD BN BD : Value) (x z : Int) (j b : Nat) (w : World) : Prop := match j with
  | 9 => Holds4 w b (fun v => OfRes w v x z K)
  | _ => True
theorem Quo26C_next {p4 b5 b7 K : Nat} {AN AD BN BD : Value} {x z : Int} (j b : Nat) (w w' : World) (hb : Below w.heap.size w w') (_ : b < w.heap.size) (h : Quo26C p4 b5 b7 K AN AD BN BD x z j b w) : Quo26C p4 b5 b7 K AN AD BN BD x z j b w' := by
  unfold Quo26C at h ⊢
  split at h <;> first | exact h | exact Holds4.next h hb (fun v k => k.next hb)
theorem Quo26C_chg {p4 b5 b7 K : Nat} {AN AD BN BD : Value} {x z : Int} (j b b' : Nat) (w w' : World) (hc : Chg b' w w') (hb : Box4 w b') (_ : Box4 w' b') (hne : b ≠ b') (h : Quo26C p4 b5 b7 K AN AD BN BD x z j b w) : Quo26C p4 b5 b7 K AN AD BN BD x z j b w' := by
  unfold Quo26C at h ⊢
  split at h <;> first | exact h | exact Holds4.chg h hc hne (fun v k => k.chg hc hb.noint)
/-- What Quo answers. -/
def QuoAns (w w' : World) (e : Ending) (x z : Int) (m : Nat) : Prop := ∃ t, e = .returned (.tuple #[t, .bool (decide (z ≠ 0))]) ∧ OfRes w' t x z m ∧ Below w.heap.size w w'
set_option maxRecDepth 20000 in
set_option maxHeartbeats 4000000 in
theorem Quo26_num {w : World} {u v : Value} {n d n' d' : Int} {m : Nat} (hu : Frac w u n d m) (hv : Frac w v n' d' m) (hm : m ≤ 80) :
    Calls Tryz.prog 9 #[u, v] w fun e w' => QuoAns w w' e (pN n d * pD d') (pD d * pN n' d') (2 * m + 4) := by
  obtain ⟨n1, a1, l1, c1, n2, a2, l2, c2, rfl⟩ := hu.form
  obtain ⟨n3, a3, l3, c3, n4, a4, l4, c4, rfl⟩ := hv.form
  obtain ⟨W, hW, hbW, ⟨e0, e1, e2, e3⟩, ⟨g0, g1, g2, g3⟩, x0⟩ := boxes_op w n1 a1 l1 c1 n2 a2 l2 c2 n3 a3 l3 c3 n4 a4 l4 c4
  have k1 := parts_num (hu.next hbW) (by omega)
  replace k1 : Hid _ := k1
  go_enter Tryz.func9, Tryz.ntmps9
  go_wp2_with fail
  rw [← hW]
  clear hW
  refine Calls.mono k1.out ?_
  rintro e w1 ⟨s, t, rfl, hN, hD, hb1⟩
  clear k1
  obtain ⟨n5, a5, l5, c5, rfl⟩ := hN.form
  obtain ⟨n6, a6, l6, c6, rfl⟩ := hD.form
  obtain ⟨W1, hW1, hbW1, ⟨p0, p1, p2, p3⟩, y0, y1⟩ := boxes_two w1 n5 a5 l5 c5 n6 a6 l6 c6
  have hbx1 := bthen hb1 hbW1
  have k2 := parts_num ((hv.next hbW).next hbx1) (by omega)
  replace k2 : Hid _ := k2
  have j0 := keep_cell hb1 g0
  have j1 := keep_cell hb1 g1
  have j2 := keep_cell hb1 g2
  have j3 := keep_cell hb1 g3
  have j4 : w.heap.size + 1 < w1.heap.size := cell_lt j0
  have j5 : w.heap.size + 1 < w1.heap.size + 1 := by omega
  go_wp2_with fail
  rw [← hW1]
  clear hW1 j0 j1 j2 j3 j5
  refine Calls.mono k2.out ?_
  rintro e w2 ⟨s, t, rfl, hN', hD', hb2⟩
  clear k2
  obtain ⟨n7, a7, l7, c7, rfl⟩ := hN'.form
  obtain ⟨n8, a8, l8, c8, rfl⟩ := hD'.form
  obtain ⟨W2, hW2, hbW2, ⟨s0, s1, s2, s3⟩, z0, z1⟩ := boxes_two w2 n7 a7 l7 c7 n8 a8 l8 c8
  have hbx2 := bthen hb2 hbW2
  have hbx12 := bthen hbx1 hbx2
  have r0 := keep_cell hbx2 p0
  have r1 := keep_cell hbx2 p1
  have r2 := keep_cell hbx2 p2
  have r3 := keep_cell hbx2 p3
  have hAN := (hN.next hbW1).next hbx2
  have hAD := (hD.next hbW1).next hbx2
  have hBN := hN'.next hbW2
  have hBD := hD'.next hbW2
  have u0 := x0.next hbx12
  have hBB := bthen hbW hbx12
  have hx0 := x0.noint.lt
  have hs1 := hb1.size
  have hs2 := hb2.size
  have hs3 := hbW1.size
  have hy1 := y1.noint.lt
  go_wp2
  rw [← hW2]
  clear hW2 e0 e1 e2 e3 g0 g1 g2 g3 p0 p1 p2 p3 hN hD hN' hD'
  have hS : ∀ k, k ∈ [w.heap.size + 1 + 1] → NoInt W2 k := by
    intro k hk
    simp only [List.mem_cons, List.not_mem_nil, or_false] at hk
    subst hk
    exact u0.noint
  have hB_num : ∀ {w' : World} {v : Value} {z : Int} {n : Nat}, BelowBut [w.heap.size + 1 + 1] W2 w' → Num W2 v z n → Num w' v z n := fun hW h => h.but hW hS
  refine wp_region_boxes (Quo26V (w.heap.size + 1 + 1) w1.heap.size w2.heap.size (2 * m + 4) (.agg #[.bool n5, .slice a5 l5 c5]) (.agg #[.bool n6, .slice a6 l6 c6]) (.agg #[.bool n7, .slice a7 l7 c7]) (.agg #[.bool n8, .slice a8 l8 c8]) (pN n d * pD d') (pD d * pN n' d')) Box4 (Quo26C (w.heap.size + 1 + 1) w1.heap.size w2.heap.size (2 * m + 4) (.agg #[.bool n5, .slice a5 l5 c5]) (.agg #[.bool n6, .slice a6 l6 c6]) (.agg #[.bool n7, .slice a7 l7 c7]) (.agg #[.bool n8, .slice a8 l8 c8]) (pN n d * pD d') (pD d * pN n' d')) [4, 6, 7, 8, 9] [4] [w.heap.size + 1 + 1] [(9, 4)] 29 (by kernel_rfl) (by kernel_rfl) rfl Quo26V_next Quo26V_chg ?hA Quo26C_next Quo26C_chg ?hstart ?hdis (StepsFrom.all ?hstep) ?hend
  case hA =>
    intro s v w' hs hv
    have hs' : s = 4 := by simpa using hs
    subst hs'
    exact ⟨_, hv.1, hv.2, .inr (by simp), hv.2.noint.lt⟩
  case hstart =>
    intro t ht
    have hD0 : Below W2.heap.size W2 W2.drew := (Below.refl _ _).drew
    simp only [List.mem_cons, List.not_mem_nil, or_false] at ht
    rcases ht with rfl | rfl | rfl | rfl | rfl
    · exact ⟨rfl, u0.next hD0⟩
    all_goals rfl
  case hdis =>
    intro s t hs ht hne _ _
    have hs' : s = 4 := by simpa using hs
    have ht' : t = 4 := by simpa using ht
    exact absurd (hs'.trans ht'.symm) hne
  case hstep =>
    refine ⟨?s0, ?s1, ?s2, ?s3, ?s4, ?s5, ?s6, ?s7, ?s8, ?s9, ?s10, trivial⟩
    case s0 => exact plain_at (plain_of (guard_none rfl) fun b w' _ hW hl K hK => ld24 (hW.cell r0 (by simp; omega)) (hW.cell r1 (by simp; omega)) 6 rfl (look hl 6 (by kernel_rfl)) (hK _ _ (Below.refl _ _) (dst_eq rfl rfl))) (dst_eq rfl rfl) rfl
    case s1 => exact plain_at (plain_of (guard_none rfl) fun b w' _ hW hl K hK => ld24 (hW.cell s2 (by simp; omega)) (hW.cell s3 (by simp; omega)) 9 rfl (look hl 9 (by kernel_rfl)) (hK _ _ (Below.refl _ _) (dst_eq rfl rfl))) (dst_eq rfl rfl) rfl
    case s2 => exact plain_at (pl_call2 39 20 21 22 _ (by kernel_rfl) rfl rfl (guard_none rfl) (by kernel_rfl) (by kernel_rfl) (fun u v w' hW hu hv => by subst hu; subst hv; exact (Mul_num (hB_num hW hAN) (hB_num hW hBD) (by omega) (by omega)).mono fun e w'' h => by obtain ⟨t, h1, h2, h3⟩ := h; exact ⟨t, h1, h2.num.more' (by omega), h3⟩)) (dst_eq rfl rfl) rfl
    case s3 => exact plain_at (plain_of (guard_none rfl) fun b w' _ hW hl K hK => ld24 (hW.cell r2 (by simp; omega)) (hW.cell r3 (by simp; omega)) 7 rfl (look hl 7 (by kernel_rfl)) (hK _ _ (Below.refl _ _) (dst_eq rfl rfl))) (dst_eq rfl rfl) rfl
    case s4 => exact plain_at (plain_of (guard_none rfl) fun b w' _ hW hl K hK => ld24 (hW.cell s0 (by simp; omega)) (hW.cell s1 (by simp; omega)) 8 rfl (look hl 8 (by kernel_rfl)) (hK _ _ (Below.refl _ _) (dst_eq rfl rfl))) (dst_eq rfl rfl) rfl
    case s5 => exact plain_at (pl_call2 39 23 24 25 _ (by kernel_rfl) rfl rfl (guard_none rfl) (by kernel_rfl) (by kernel_rfl) (fun u v w' hW hu hv => by subst hu; subst hv; exact (Mul_num (hB_num hW hAD) (hB_num hW hBN) (by omega) (by omega)).mono fun e w'' h => by obtain ⟨t, h1, h2, h3⟩ := h; exact ⟨t, h1, h2.num.more' (by omega), h3⟩)) (dst_eq rfl rfl) rfl
    case s6 => exact plain_at (pl_call2 29 22 25 26 _ (by kernel_rfl) rfl rfl (guard_none rfl) (by kernel_rfl) (by kernel_rfl) (fun u v w' hW hu hv => Of26_num hu hv (by omega))) (dst_eq rfl rfl) rfl
    case s7 => exact plain_at (pl_extract 26 27 0 rfl (by decide) rfl (guard_none rfl) (by kernel_rfl) (fun v w h => by obtain ⟨t, h1, h2, h3⟩ := h; exact ⟨t, _, h1, ⟨h2, h3⟩⟩)) (dst_eq rfl rfl) rfl
    case s8 => exact plain_at (pl_extract 26 28 1 rfl (by decide) rfl (guard_none rfl) (by kernel_rfl) (fun v w h => by obtain ⟨t, h1, h2, h3⟩ := h; exact ⟨t, _, h1, rfl⟩)) (dst_eq rfl rfl) rfl
    case s9 => exact put_at (step_put4 9 4 27 rfl rfl rfl (by kernel_rfl) (by kernel_rfl) ⟨fun v w h => OfRes.form h, fun g w' w'' m a l c m' a' l' c' hv hc hb r0 r1 r2 r3 => ⟨m, a, l, c, m', a', l', c', r0, r1, r2, r3, OfRes.chg hv hc hb.noint⟩⟩) rfl rfl (by kernel_rfl)
    case s10 => exact plain_at (pl_move 28 5 (.inr rfl) rfl (guard_none rfl) (by kernel_rfl) (fun v w h => h)) (dst_eq rfl rfl) rfl
  case hend =>
    intro b w' hs hd hW hv hdis hC hfr
    obtain ⟨h4, _⟩ := hv 4 (.inl rfl)
    have h5 : b.tmps.getD 5 undef = .bool (decide (pD d * pN n' d' ≠ 0)) := hv 5 (.inr ⟨10, _, rfl, rfl⟩)
    obtain ⟨q1, b1, i1, o1, q2, b2, i2, o2, m0, m1, m2, m3, hR'⟩ := hC 9 4 (by simp) (by decide) _ h4
    have hBf : Below w.heap.size w w' := hBB.trans (hW.below hBB.size (by intro k hk; simp only [List.mem_cons, List.not_mem_nil, or_false] at hk; omega))
    rw [Array.getD_eq_getD_getElem?] at h4 h5
    generalize hok : decide (pD d * pN n' d' ≠ 0) = ok at *
    replace hok : Hid (ok = decide (pD d * pN n' d' ≠ 0)) := hok.symm
    clear hv hdis hC hfr hW
    go_wp2
    exact bodyPost_ret (v := .tuple #[.agg #[.bool q1, .slice b1 i1 o1, .bool q2, .slice b2 i2 o2], .bool ok]) (by simp [results, Tryz.results9, go_sem, h4, h5, m0, m1, m2, m3]) hd ⟨_, by rw [hok.out], hR', hBf⟩
end Go.Proofs.YthiiglhecajhbaaGreat
