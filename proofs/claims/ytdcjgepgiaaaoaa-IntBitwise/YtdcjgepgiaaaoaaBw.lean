/- The walk of IntBitwise. -/
import Derived.Test.YtdcjgepgiaaaoaaBn
namespace Go.Proofs.Ytdcjgepgiaaaoaa
open Go.RowKit
attribute [local go_sem ↓] Go.wp_at_zero Go.wp_at_succ
theorem bits_exist (o : BinOp) (y z : Int) : ∃ r, ∀ i, tb r i = opB o (tb y i) (tb z i) := by
  obtain ⟨n, hn⟩ : ∃ n, n = y.natAbs + z.natAbs + 2 := ⟨_, rfl⟩
  have h1 := two_pow_gt (n - 2)
  have wy : Wide y n := ⟨by omega, by omega⟩
  have wz : Wide z n := ⟨by omega, by omega⟩
  refine ⟨_, sgn_bits (R := bsum (fun i => opB o (tb y i) (tb z i)) n) (n := n) (v := fun i => opB o (tb y i) (tb z i)) (by omega) (bsum_rng _ _).1 (bsum_rng _ _).2 (fun i hi => bsum_bit _ _ i hi) (fun i hi => ?_)⟩
  show opB o _ _ = opB o _ _
  rw [wy.sign hi, wz.sign hi]
/-- Both roads come to one answer. -/
theorem bit_pair (s : ByteArray) (y z : Int) : ∃ (ok : Bool) (r : Int),
    (∀ w u v, Num w u y 8 → Num w v z 8 → Calls Try.prog 27 #[.string s, u, v] w fun e w' => ∃ t, e = .returned (.tuple #[t, .bool ok]) ∧ OutE w' t r 31 ∧ Below w.heap.size w w') ∧
    (∀ w u v, Rint w u y 16 → Rint w v z 16 → Calls Try.prog 28 #[.string s, u, v] w fun e w' => ∃ t, e = .returned (.tuple #[t, .bool ok]) ∧ Rint w' t r 100 ∧ Below w.heap.size w w') := by
  by_cases h : ∃ o, OpText o s
  · obtain ⟨o, ho⟩ := h
    obtain ⟨r, hr⟩ := bits_exist o y z
    refine ⟨true, r, fun w u v hu hv => ?_, fun w u v hu hv => ?_⟩
    · refine (Bitwise_num o s ho hu hv (by decide) (by decide)).mono ?_
      rintro e w' ⟨t, r', rfl, h1, h2, h3⟩
      have : r' = r := tb_ext fun i => by rw [h2, hr]
      subst this
      exact ⟨t, rfl, h1, h3⟩
    · refine (rBitwise_ok o s ho hu hv (by decide) (by decide)).mono ?_
      rintro e w' ⟨t, r', rfl, h1, h2, h3⟩
      have : r' = r := tb_ext fun i => by rw [h2, hr]
      subst this
      exact ⟨t, rfl, h1, h3⟩
  · have hn : ∀ o, ¬ OpText o s := fun o ho => h ⟨o, ho⟩
    refine ⟨false, 0, fun w u v hu hv => ?_, fun w u v hu hv => ?_⟩
    · refine (Bitwise_none s hn hu hv (by decide) (by decide)).mono ?_
      rintro e w' ⟨rfl, h3⟩
      exact ⟨_, rfl, ⟨0, false, none, 0, [], rfl, Own.empty _ _ _ _ _, ⟨trivial, fun h => by cases h⟩, rfl, by simp⟩, h3⟩
    · refine (rBitwise_no s hn hu hv (by decide) (by decide)).mono ?_
      rintro e w' ⟨rfl, h3⟩
      exact ⟨_, rfl, ⟨false, none, 0, [], rfl, Row.empty _ _ _, ⟨trivial, fun h => by cases h⟩, rfl, by simp⟩, h3⟩
theorem Cut8 (n : Bool) (x : Option Addr) (ca : Nat) (xs : List Int) (w : World) (ha : Row w .u32 4294967296 x ca xs) :
    Calls Try.prog 10 #[.agg #[.bool n, .slice x xs.length ca], .int .i64 8] w fun e w' => e = .returned (.agg #[.bool n, .slice x (xs.take 8).length ca]) ∧ ∃ o1 o2, w' = (w.alloc o1).alloc o2 := Cut_exact n x ca 8 xs w ha (by decide)
theorem bit_cut {w wc : World} {na nb : Bool} {x y : Option Addr} {ca cb : Nat} {xs ys : List Int} (ha : Row w .u32 4294967296 x ca xs) (hb : Row w .u32 4294967296 y cb ys) (hB : Below w.heap.size w wc)
    (c0 : wc.cell? ⟨w.heap.size, 0, none⟩ = some (.bool na)) (c1 : wc.cell? ⟨w.heap.size, 1, none⟩ = some (.slice x (xs.take 8).length ca)) (c2 : wc.cell? ⟨w.heap.size + 1, 0, none⟩ = some (.bool nb)) (c3 : wc.cell? ⟨w.heap.size + 1, 1, none⟩ = some (.slice y (ys.take 8).length cb)) (hl : w.heap.size + 1 < wc.heap.size) :
    wc.cell? ⟨w.heap.size, 0, none⟩ = some (.bool na) ∧ wc.cell? ⟨w.heap.size, 1, none⟩ = some (.slice x (xs.take 8).length ca) ∧ wc.cell? ⟨w.heap.size + 1, 0, none⟩ = some (.bool nb) ∧ wc.cell? ⟨w.heap.size + 1, 1, none⟩ = some (.slice y (ys.take 8).length cb) ∧ Row wc .u32 4294967296 x ca (xs.take 8) ∧ Row wc .u32 4294967296 y cb (ys.take 8) ∧ Below w.heap.size w wc ∧ w.heap.size + 1 < wc.heap.size :=
  ⟨c0, c1, c2, c3, (ha.next hB).take' 8, (hb.next hB).take' 8, hB, hl⟩
section
variable {ops : Array Oper} {Q : Exit → Act → World → Prop} {V : Nat → Value → World → Prop} {N : Nat} {w : World}
theorem step_call3 {P : Program} {o : Oper} (f : FuncId) (r s t d : Nat) (ats : Array TypeId) (hf : goFn P f = true) (ho : o.op = .call { callee := .value (.func f), args := #[.tmp r, .tmp s, .tmp t], argTypes := ats }) (hd : o.dst = some d) (hg : GuardOk ops V o) (hl0 : (o.looksAt ops).contains r = true) (hl : (o.looksAt ops).contains s = true) (hl' : (o.looksAt ops).contains t = true)
    (hc : ∀ x u v w', Below w.heap.size w w' → V r x w' → V s u w' → V t v w' → Calls P f #[x, u, v] w' fun e w'' => ∃ y, e = .returned y ∧ V d y w'' ∧ Below w'.heap.size w' w'') : StepOk P ops Q V N w o :=
  StepOk.of hg fun b w' _ hB hb K hK => by
    obtain ⟨dst, op, type, pos, after, guard⟩ := o
    dsimp only at ho hd
    subst ho
    unfold Oper.wp
    have e : (#[] ++ (#[Operand.tmp r, Operand.tmp s, Operand.tmp t]).map b.eval ++ #[] : Array Value) = #[b.tmps.getD r undef, b.tmps.getD s undef, b.tmps.getD t undef] := by simp [Act.eval]
    rw [execOp_call_go, run_callFunc_go hf, e, Oper.upon_enter]
    refine Calls.mono (hc _ _ _ _ hB (look hb r hl0) (look hb s hl) (look hb t hl')) ?_
    rintro e w'' ⟨u, rfl, hu, hbl⟩
    exact hK _ _ hbl (dst_eq hd hu)
theorem step_extract2 {o : Oper} (t d i : Nat) (ho : o.op = .extract (.tmp t) i) (hi : i = 0 ∨ i = 1) (hd : o.dst = some d) (hg : GuardOk ops V o) (hl : (o.looksAt ops).contains t = true) (hv : ∀ v w, V t v w → ∃ x y, v = .tuple #[x, y] ∧ V d (if i = 0 then x else y) w) : StepOk Try.prog ops Q V N w o :=
  StepOk.of hg fun b w' _ _ hb K hK => by
    obtain ⟨x, y, h1, h2⟩ := hv _ _ (look hb t hl)
    obtain ⟨dst, op, type, pos, after, guard⟩ := o
    dsimp only at ho hd
    subst ho
    unfold Oper.wp
    have e : b.eval (.tmp t) = .tuple #[x, y] := h1
    have hk := hK (if i = 0 then x else y) _ (Below.refl _ w') (dst_eq hd h2)
    clear hd hK h2
    rcases hi with rfl | rfl
    · replace hk : Hid _ := hk
      go_simp
      exact hk.out
    · replace hk : Hid _ := hk
      go_simp
      exact hk.out
end
def bwV (base p q : Nat) (s : ByteArray) (A B : Value) (ok : Bool) (za zb r : Int) (t : Nat) (v : Value) (w : World) : Prop := match t with
  | 0 => v = .string s
  | 4 => v = .pointer (some ⟨p, 0, none⟩)
  | 5 => v = .pointer (some ⟨q, 0, none⟩)
  | 10 => BoxPtr base v w
  | 11 => v = .bool ok
  | 24 => ∃ x y, v = .tuple #[x, y] ∧ Rint w x r 100 ∧ y = .bool ok
  | 25 => v = .string s
  | 26 => v = A
  | 27 => Rint w v za 16
  | 28 => v = B
  | 29 => Rint w v zb 16
  | 30 => ∃ x y, v = .tuple #[x, y] ∧ Rint w x r 100 ∧ y = .bool ok
  | 31 => Rint w v r 100
  | 32 => v = .bool ok
  | _ => True
theorem bwV_next {base p q : Nat} {s : ByteArray} {A B : Value} {ok : Bool} {za zb r : Int} (t : Nat) (v : Value) (w w' : World) (hb : Below w.heap.size w w') (h : bwV base p q s A B ok za zb r t v w) : bwV base p q s A B ok za zb r t v w' := by
  unfold bwV at h ⊢
  split at h <;> first | exact h | exact BoxPtr.next h hb | exact Rint.next h hb | (obtain ⟨x, y, h1, h2, h3⟩ := h; exact ⟨x, y, h1, h2.next hb, h3⟩)
theorem bwV_chg {base p q : Nat} {s : ByteArray} {A B : Value} {ok : Bool} {za zb r : Int} (t : Nat) (v : Value) (w w' : World) (b : Nat) (hc : Chg b w w') (hb : NBox w b) (hb' : NBox w' b) (h : bwV base p q s A B ok za zb r t v w) : bwV base p q s A B ok za zb r t v w' := by
  unfold bwV at h ⊢
  split at h <;> first | exact h | exact BoxPtr.chg h hc hb' | exact Rint.chg h hc hb | (obtain ⟨x, y, h1, h2, h3⟩ := h; exact ⟨x, y, h1, h2.chg hc hb, h3⟩)
def bwC (r : Int) (j b : Nat) (w : World) : Prop := match j with
  | 10 => Holds w b (fun v => Rint w v r 100)
  | _ => True
theorem bwC_next {r : Int} (j b : Nat) (w w' : World) (hb : Below w.heap.size w w') (_ : b < w.heap.size) (h : bwC r j b w) : bwC r j b w' := by
  unfold bwC at h ⊢
  split at h <;> first | exact h | exact Holds.next h hb (fun v k => k.next hb)
theorem bwC_chg {r : Int} (j b b' : Nat) (w w' : World) (hc : Chg b' w w') (hb : NBox w b') (_ : NBox w' b') (hne : b ≠ b') (h : bwC r j b w) : bwC r j b w' := by
  unfold bwC at h ⊢
  split at h <;> first | exact h | exact Holds.chg h hc hne (fun v k => k.chg hc hb)
set_option maxRecDepth 20000 in
set_option maxHeartbeats 4000000 in
theorem bitwise_law (hbeg : BegunSaid) (s : ByteArray) (na nb : Bool) (x y : Option Addr) (ca cb : Nat) (xs ys : List Int) (w : World) (ha : Row w .u32 4294967296 x ca xs) (hb : Row w .u32 4294967296 y cb ys) :
    Calls Try.prog 5 #[.string s, .agg #[.bool na, .slice x xs.length ca], .agg #[.bool nb, .slice y ys.length cb]] w fun e w' => e = .returned (.bool true) ∧ Below w.heap.size w w' := by
  go_enter Try.func5, Try.ntmps5
  go_wp2_with fail
  obtain ⟨W, hW, hbW, hlt, ⟨c0, c1, c2, c3⟩, f0, f1⟩ := two_boxes w (.bool na) (.slice x xs.length ca) (.bool nb) (.slice y ys.length cb) 24
  rw [← hW]
  clear hW
  refine (hbeg _).mono ?_
  rintro e w1 ⟨rfl, hb1⟩
  have d0 := keep_cell hb1 c0
  have d1 := keep_cell hb1 c1
  have d2 := keep_cell hb1 c2
  have d3 := keep_cell hb1 c3
  have g0 := keep_frozen hb1 c0 (f0 0)
  have g1 := keep_frozen hb1 c1 (f0 1)
  have g2 := keep_frozen hb1 c2 (f1 0)
  have g3 := keep_frozen hb1 c3 (f1 1)
  have hx := (ha.next hbW).next hb1
  have hy := (hb.next hbW).next hb1
  have hw1 := bthen hbW hb1
  have hsz := hb1.size
  have l0 : w.heap.size < w1.heap.size := by omega
  have l1 : w.heap.size + 1 < w1.heap.size := by omega
  have m10 : w.heap.size < w1.heap.size + 1 := by omega
  have m11 : w.heap.size + 1 < w1.heap.size + 1 := by omega
  have m20 : w.heap.size < w1.heap.size + 1 + 1 := by omega
  have m21 : w.heap.size + 1 < w1.heap.size + 1 + 1 := by omega
  have m30 : w.heap.size < w1.heap.size + 1 + 1 + 1 := by omega
  have m31 : w.heap.size + 1 < w1.heap.size + 1 + 1 + 1 := by omega
  have m40 : w.heap.size < w1.heap.size + 1 + 1 + 1 + 1 := by omega
  have m41 : w.heap.size + 1 < w1.heap.size + 1 + 1 + 1 + 1 := by omega
  clear c0 c1 c2 c3 f0 f1 hbW hb1
  go_wp2
  go_cut [] from 12 (fun wc => wc.cell? ⟨w.heap.size, 0, none⟩ = some (.bool na) ∧ wc.cell? ⟨w.heap.size, 1, none⟩ = some (.slice x (xs.take 8).length ca) ∧ wc.cell? ⟨w.heap.size + 1, 0, none⟩ = some (.bool nb) ∧ wc.cell? ⟨w.heap.size + 1, 1, none⟩ = some (.slice y (ys.take 8).length cb) ∧ Row wc .u32 4294967296 x ca (xs.take 8) ∧ Row wc .u32 4294967296 y cb (ys.take 8) ∧ Below w.heap.size w wc ∧ w.heap.size + 1 < wc.heap.size)
  case first =>
   go_region_with (first
     | (go_at_call_of 10 (Value.slice x xs.length ca); refine (Cut8 na x ca xs _ (hx.next ?q)).mono ?_; (case q => ((repeat' (first | with_reducible refine Below.alloc ?_ ?_ _ | with_reducible refine Below.setCell ?_ ?_ _ | with_reducible refine Below.drew ?_ | with_reducible assumption | with_reducible exact Below.refl _ _)) <;> first | omega | (simp; done) | (simp; omega))); rintro e w2 ⟨rfl, o1, o2, rfl⟩)
     | (go_at_call_of 10 (Value.slice y ys.length cb); refine (Cut8 nb y cb ys _ (hy.next ?q)).mono ?_; (case q => ((repeat' (first | with_reducible refine Below.alloc ?_ ?_ _ | with_reducible refine Below.setCell ?_ ?_ _ | with_reducible refine Below.drew ?_ | with_reducible assumption | with_reducible exact Below.refl _ _)) <;> first | omega | (simp; done) | (simp; omega))); rintro e w2 ⟨rfl, o3, o4, rfl⟩))
   all_goals
    go_wp2_with fail
    go_meet
    case rel =>
     go_light
     refine bit_cut ha hb ?_ ?_ ?_ ?_ ?_ ?_
     · ((repeat' (first | with_reducible refine Below.alloc ?_ ?_ _ | with_reducible refine Below.setCell ?_ ?_ _ | with_reducible refine Below.drew ?_ | with_reducible assumption | with_reducible exact Below.refl _ _)) <;> first | omega | (simp; done) | (simp; omega))
     · (clear ha hb hx hy hw1; simp [go_sem, *])
     · (clear ha hb hx hy hw1; simp [go_sem, *])
     · (clear ha hb hx hy hw1; simp [go_sem, *])
     · (clear ha hb hx hy hw1; simp [go_sem, *])
     · (simp; omega)
  case rest =>
   obtain ⟨e0, e1, e2, e3, rx, ry, hB, hl⟩ := hcut
   generalize wc = Wc at *
   clear d0 d1 d2 d3 g0 g1 g2 g3 hx hy hw1 hsz l0 l1 m10 m11 m20 m21 m30 m31 m40 m41 ha hb hlt
   have lx : (xs.take 8).length ≤ 8 := by rw [List.length_take]; omega
   have ly : (ys.take 8).length ≤ 8 := by rw [List.length_take]; omega
   generalize xs.take 8 = xt at *
   generalize ys.take 8 = yt at *
   have nA : Num Wc (.agg #[.bool na, .slice x xt.length ca]) (num 4294967296 na xt) 8 := ⟨na, x, ca, xt, rfl, rx, rfl, lx⟩
   have nB : Num Wc (.agg #[.bool nb, .slice y yt.length cb]) (num 4294967296 nb yt) 8 := ⟨nb, y, cb, yt, rfl, ry, rfl, ly⟩
   generalize num 4294967296 na xt = za at *
   generalize num 4294967296 nb yt = zb at *
   obtain ⟨ok, r, kB, kR⟩ := bit_pair s za zb
   have k1 := kB Wc _ _ nA nB
   replace k1 : Hid _ := k1
   replace kR : Hid _ := kR
   clear kB
   go_wp2_with fail
   refine Calls.mono k1.out ?_
   rintro e w3 ⟨t, rfl, hO, hb3⟩
   obtain ⟨bo, hO⟩ := hO
   obtain ⟨n3, a3, l3, d3, rfl⟩ := hO.form
   clear k1
   obtain ⟨W3, hW3, hbW3, hlW3, x0, x1, _, _⟩ := box1r w3 (.bool n3) (.slice a3 l3 d3) 24
   go_wp2_with fail
   rw [← hW3]
   clear hW3
   have hbx := bthen hb3 hbW3
   have c0 := keep_cell hbx e0
   have c1 := keep_cell hbx e1
   have c2 := keep_cell hbx e2
   have c3 := keep_cell hbx e3
   have hA := nA.next hbx
   have hBn := nB.next hbx
   have oR : OutE W3 (.agg #[.bool n3, .slice a3 l3 d3]) r 31 := ⟨_, hO.next hbW3⟩
   have hBB := bthen hB hbx
   clear e0 e1 e2 e3 nA nB rx ry hB hO hb3 hbW3 hbx lx ly
   go_cut [10, 11] from 24 (fun p q w4 => ∃ gv, p = .pointer (some ⟨gv, 0, none⟩) ∧ q = .bool ok ∧ Holds w4 gv (fun v => Rint w4 v r 100) ∧ Below W3.heap.size W3 w4)
   case first =>
     rename_i J K' hJ hK'
     refine wp_region_boxes (bwV W3.heap.size w.heap.size (w.heap.size + 1) s (.agg #[.bool na, .slice x xt.length ca]) (.agg #[.bool nb, .slice y yt.length cb]) ok za zb r) NBox (bwC r) [0, 4, 5] [10] [(10, 10)] 44 (by kernel_rfl) (by kernel_rfl) rfl bwV_next bwV_chg ?hA bwC_next bwC_chg ?hstart (StepsFrom.all ?hstep) ?hend
     case hA =>
       intro s v w' hs hv
       have hs' : s = 10 := by simpa using hs
       subst hs'
       exact BoxPtr.has hv
     case hstart =>
       intro t ht
       simp only [List.mem_cons, List.not_mem_nil, or_false] at ht
       rcases ht with rfl | rfl | rfl <;> rfl
     case hstep =>
       refine ⟨?s0, ?s1, ?s2, ?s3, ?s4, ?s5, ?s6, ?s7, ?s8, ?s9, ?s10, ?s11, trivial⟩
       case s0 => exact plain_at (step_move 0 25 rfl rfl (guard_none rfl) (by kernel_rfl) (fun v w h => h)) (dst_eq rfl rfl) rfl
       case s1 => exact plain_at (StepOk.of (guard_none rfl) fun b w' _ hW hl K hK => ld24 (keep_cell hW c0) (keep_cell hW c1) 4 rfl (look hl 4 (by kernel_rfl)) (hK _ _ (Below.refl _ _) (dst_eq rfl rfl))) (dst_eq rfl rfl) rfl
       case s2 => exact plain_at (step_call1 11 26 27 _ (by kernel_rfl) rfl rfl (guard_none rfl) (by kernel_rfl) (fun u w' hW hu => by subst hu; exact (From_num (hA.next hW) (by decide)).mono fun e w'' h => by obtain ⟨t, h1, h2, h3⟩ := h; exact ⟨t, h1, h2.rint, h3⟩)) (dst_eq rfl rfl) rfl
       case s3 => exact plain_at (StepOk.of (guard_none rfl) fun b w' _ hW hl K hK => ld24 (keep_cell hW c2) (keep_cell hW c3) 5 rfl (look hl 5 (by kernel_rfl)) (hK _ _ (Below.refl _ _) (dst_eq rfl rfl))) (dst_eq rfl rfl) rfl
       case s4 => exact plain_at (step_call1 11 28 29 _ (by kernel_rfl) rfl rfl (guard_none rfl) (by kernel_rfl) (fun u w' hW hu => by subst hu; exact (From_num (hBn.next hW) (by decide)).mono fun e w'' h => by obtain ⟨t, h1, h2, h3⟩ := h; exact ⟨t, h1, h2.rint, h3⟩)) (dst_eq rfl rfl) rfl
       case s5 => exact plain_at (step_call3 28 25 27 29 30 _ (by kernel_rfl) rfl rfl (guard_none rfl) (by kernel_rfl) (by kernel_rfl) (by kernel_rfl) (fun x u v w' hW hx hu hv => by subst hx; exact (kR.out w' u v hu hv).mono fun e w'' h => by obtain ⟨t, h1, h2, h3⟩ := h; exact ⟨_, h1, ⟨_, _, rfl, h2, rfl⟩, h3⟩)) (dst_eq rfl rfl) rfl
       case s6 => exact plain_at (step_move 30 24 rfl rfl (guard_none rfl) (by kernel_rfl) (fun v w h => h)) (dst_eq rfl rfl) rfl
       case s7 => exact plain_at (step_extract2 24 31 0 rfl (.inl rfl) rfl (guard_none rfl) (by kernel_rfl) (fun v w h => by obtain ⟨x, y, h1, h2, h3⟩ := h; exact ⟨x, y, h1, h2⟩)) (dst_eq rfl rfl) rfl
       case s8 => exact plain_at (step_extract2 24 32 1 rfl (.inr rfl) rfl (guard_none rfl) (by kernel_rfl) (fun v w h => by obtain ⟨x, y, h1, h2, h3⟩ := h; exact ⟨x, y, h1, h3⟩)) (dst_eq rfl rfl) rfl
       case s9 => exact new_at (step_new 10 (.inl rfl) rfl rfl (fun v w h => h)) rfl rfl rfl
       case s10 => exact put_at (step_put 10 10 31 (.inl rfl) rfl rfl (by kernel_rfl) (fun v w h => Rint.form h) (fun g w' w'' m a l c hv hc hb _ r0 r1 => ⟨m, a, l, c, r0, r1, Rint.chg hv hc hb⟩)) rfl rfl (by kernel_rfl)
       case s11 => exact plain_at (step_assign 32 11 rfl rfl (guard_none rfl) (by kernel_rfl) (fun v w h => h)) (dst_eq rfl rfl) rfl
     case hend =>
       rintro ⟨tm, df⟩ w' hs hd hW hv hdis hC hfr
       obtain ⟨g10, e10, _, _⟩ := hv 10 (.inr ⟨9, _, rfl, rfl⟩)
       have e11 := hv 11 (.inr ⟨11, _, rfl, rfl⟩)
       have c10 := hC 10 10 (by simp) (by decide) g10 e10
       obtain ⟨xs', htm, hxs⟩ := frame_mixed hfr hs
       have x10 : xs'.getD 10 undef = .pointer (some ⟨g10, 0, none⟩) := (hxs 10).trans e10
       have x11 : xs'.getD 11 undef = .bool ok := (hxs 11).trans e11
       clear hxs hv hdis hC hfr e10 e11
       subst htm
       obtain rfl := hd
       refine hK' _ _ (Met.intro (hJ _ _ ?_))
       (repeat apply Exists.intro)
       refine ⟨?rel, rfl⟩
       case rel => exact ⟨g10, x10, x11, c10, hW⟩
   case rest =>
     obtain ⟨gv, rfl, rfl, ⟨mv, av, kv, cv, v0, v1, hV⟩, hb4⟩ := hcut
     have x0' := keep_cell hb4 x0
     have x1' := keep_cell hb4 x1
     have kI := Is_num (oR.next hb4) hV (by decide) (by decide)
     rw [decide_eq_true rfl] at kI
     replace kI : Hid _ := kI
     have hB4 := bthen hBB hb4
     clear x0 x1 c0 c1 c2 c3 hA hBn oR hBB kR hV hb4
     have hok : (ok == ok) = true := by simp
     go_wp2_with fail
     refine Calls.mono kI.out ?_
     rintro e w6 ⟨rfl, hb6⟩
     have hB6 := bthen hB4 hb6
     go_wp2
     go_ret
     exact ⟨rfl, hB6⟩
end Go.Proofs.Ytdcjgepgiaaaoaa
