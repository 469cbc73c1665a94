/- RatSums: the law's walk. -/
import Derived.Test.YthiiglhecajhbaaGreatGim
namespace Go.Proofs.YthiiglhecajhbaaGreat
set_option linter.unusedVariables false
open Go.RowKit
attribute [local go_sem ↓] Go.wp_at_zero Go.wp_at_succ
theorem Rint.bound {w : World} {v : Value} {z : Int} {n : Nat} (h : Rint w v z n) : (z.natAbs : Int) < 65536 ^ n := by
  obtain ⟨neg, a, cap, ds, hv, hr, hn, hz, hl⟩ := h
  have h1 := val_lt (B := 65536) (by decide) hr.words
  have h2 := val_nonneg (B := 65536) (by decide) hr.words
  have h3 := pow_mono (B := 65536) (by decide) hl
  have h4 : (z.natAbs : Int) = Go.Proofs.YthiiglhecajhbaaGreat.val 65536 ds := by subst hz; cases neg <;> simp [Go.Proofs.YthiiglhecajhbaaGreat.num] <;> omega
  omega
theorem Decs.uniq {y : Int} {ds es : List Int} (h : Decs y ds) (k : Decs y es) : ds = es := by
  by_cases h0 : y = 0
  · rw [h.2.2.2.2 h0, k.2.2.2.2 h0]
  · exact nrm_unique (B := 10) (by decide) h.1 k.1 (h.2.2.2.1 h0) (k.2.2.2.1 h0) (by rw [h.2.2.1, k.2.2.1])
theorem Text26_said {w : World} {v : Value} {n d p q : Int} {m : Nat} {ds es : List Int} (hv : Frac w v n d m) (hm : m ≤ 200) (hl : Low (pN n d) (pD d) p q) (hd : Decs p ds) (he : Decs q es) :
    Calls Tryz.prog 26 #[v] w fun e w' => e = .returned (.string (txt (decide (p < 0)) ds ++ { data := #[47] } ++ txt (decide (q < 0)) es)) ∧ Below w.heap.size w w' := by
  refine (Text26_num hv hm).mono ?_
  rintro e w' ⟨p', q', ds', es', h1, h2, h3, rfl, h4⟩
  obtain ⟨rfl, rfl⟩ := low_same (pD_pos d) h1 hl
  obtain rfl := h2.uniq hd
  obtain rfl := h3.uniq he
  exact ⟨rfl, h4⟩
section
variable {w : World} {u v : Value} {n d n' d' p q p2 q2 : Int} {m k : Nat}
theorem is_same {N D N' D' : Int} (hu : LowE w u N D m) (hv : LowR w v N' D' k) (hm : m ≤ 1000) (hk : k ≤ 1000) (hs : ∀ P Q P' Q', Low N D P Q → Low N' D' P' Q' → P = P' ∧ Q = Q') :
    Calls Tryz.prog 10 #[u, v] w fun e w' => e = .returned (.bool true) ∧ Below w.heap.size w w' := by
  obtain ⟨P, Q, h1, h2⟩ := hu
  obtain ⟨P', Q', h3, h4⟩ := hv
  obtain ⟨rfl, rfl⟩ := hs P Q P' Q' h2 h4
  exact rIsRat_same h1 h3 hm hk
theorem is_add (hl : Low (pN n d) (pD d) p q) (hl2 : Low (pN n' d') (pD d') p2 q2) (hu : LowE w u (pN n d * pD d' + pN n' d' * pD d) (pD d * pD d') m) (hv : LowR w v (pN (p * q2 + p2 * q) (q * q2)) (pD (q * q2)) k) (hm : m ≤ 1000) (hk : k ≤ 1000) :
    Calls Tryz.prog 10 #[u, v] w fun e w' => e = .returned (.bool true) ∧ Below w.heap.size w w' :=
  is_same hu hv hm hk fun _ _ _ _ h h' => low_add hl hl2 (pD_pos d) (pD_pos d') h h'
theorem is_sub (hl : Low (pN n d) (pD d) p q) (hl2 : Low (pN n' d') (pD d') p2 q2) (hu : LowE w u (pN n d * pD d' - pN n' d' * pD d) (pD d * pD d') m) (hv : LowR w v (pN (p * q2 + -p2 * q) (q * q2)) (pD (q * q2)) k) (hm : m ≤ 1000) (hk : k ≤ 1000) :
    Calls Tryz.prog 10 #[u, v] w fun e w' => e = .returned (.bool true) ∧ Below w.heap.size w w' :=
  is_same hu hv hm hk fun _ _ _ _ h h' => low_sub hl hl2 (pD_pos d) (pD_pos d') h h'
theorem is_mul (hl : Low (pN n d) (pD d) p q) (hl2 : Low (pN n' d') (pD d') p2 q2) (hu : LowE w u (pN n d * pN n' d') (pD d * pD d') m) (hv : LowR w v (pN (p * p2) (q * q2)) (pD (q * q2)) k) (hm : m ≤ 1000) (hk : k ≤ 1000) :
    Calls Tryz.prog 10 #[u, v] w fun e w' => e = .returned (.bool true) ∧ Below w.heap.size w w' :=
  is_same hu hv hm hk fun _ _ _ _ h h' => low_mul hl hl2 (pD_pos d) (pD_pos d') h h'
theorem is_neg (hl : Low (pN n d) (pD d) p q) (hu : LowE w u (pN (-n) d) (pD d) m) (hv : RatR w v (-p) q k) (hm : m ≤ 1000) (hk : k ≤ 1000) :
    Calls Tryz.prog 10 #[u, v] w fun e w' => e = .returned (.bool true) ∧ Below w.heap.size w w' := by
  obtain ⟨P, Q, h1, h2⟩ := hu
  obtain ⟨rfl, rfl⟩ := low_neg hl h2
  exact rIsRat_same h1 hv hm hk
theorem is_quo (hl : Low (pN n d) (pD d) p q) (hl2 : Low (pN n' d') (pD d') p2 q2) (hp : p2 ≠ 0) (hu : LowE w u (pN (pN n d * pD d') (pD d * pN n' d')) (pD (pD d * pN n' d')) m) (hv : LowR w v (pN (p * q2) (q * p2)) (pD (q * p2)) k) (hm : m ≤ 1000) (hk : k ≤ 1000) :
    Calls Tryz.prog 10 #[u, v] w fun e w' => e = .returned (.bool true) ∧ Below w.heap.size w w' :=
  is_same hu hv hm hk fun _ _ _ _ h h' => low_quo hl hl2 (pD_pos d) (pD_pos d') hp (fun e => hp ((low_zero hl2 (pD_pos d')).2 e)) h h'
theorem cmp_same (hl : Low (pN n d) (pD d) p q) (hl2 : Low (pN n' d') (pD d') p2 q2) : cmpI (pN n d * pD d') (pN n' d' * pD d) = cmpI (p * q2) (p2 * q) := by
  obtain ⟨h1, h2⟩ := low_cmp hl hl2 (pD_pos d) (pD_pos d')
  unfold cmpI
  simp only [h1, h2]
end
section
variable {ops : Array Oper} {Q : Exit → Act → World → Prop} {V : Nat → Value → World → Prop} {S : List Nat} {N : Nat} {w : World}
theorem al34 {w : World} {o : Oper} {b : Act} {K : Act → World → Prop} (ho : o.op = .alloc 34) (h : K (b.put o.dst (.pointer (some ⟨w.heap.size, 0, none⟩))) (w.alloc (.cells #[.bool false, .slice none 0 0, .bool false, .slice none 0 0] 34))) : o.wp Tryz.prog b w K Q := by
  obtain ⟨dst, op, type, pos, after, guard⟩ := o
  dsimp only at ho
  subst ho
  unfold Oper.wp
  go_simp
  exact h
theorem step_new34 {o : Oper} (d : Nat) (ho : o.op = .alloc 34) (hd : o.dst = some d) (hg : o.guard = none) (hv : ∀ v w', Ptr4 w.heap.size S v w' → V d v w') : NewStep Tryz.prog ops Q V S N w o := by
  intro b w' hs hB hl K hK
  have hw : Region.wanted o (yielded ops b.tmps) = true := by simp [Region.wanted, hg]
  rw [if_pos hw]
  exact al34 ho (hK _ _ _ rfl (Nat.le_refl _) ((Below.refl _ _).alloc (Nat.le_refl _) _) (dst_eq hd (hv _ _ ⟨_, rfl, Box4.new _ _ _ _ _ _ _ _ _ _ (by decide), .inl hB.size⟩)))
theorem guard_false {o : Oper} (g d : Nat) (h : o.guard = some (g, false)) (hd : (ops[g]?).bind (·.dst) = some d) (hl : (o.looksAt ops).contains d = true) (hv : ∀ v w, V d v w → v = .bool false) : GuardOk ops V o := by
  intro b w' hb
  have := hv _ _ (look hb d hl)
  simp [Region.wanted, h, yielded_of hd this]
theorem pl_else {o : Oper} (c t d : Nat) (y : Operand) (ho : o.op = .pick (.tmp c) y (.tmp t)) (hd : o.dst = some d) (hg : GuardOk ops V o) (hl : (o.looksAt ops).contains c = true) (hl' : (o.looksAt ops).contains t = true) (hc : ∀ v w, V c v w → v = .bool false) (hv : ∀ v w, V t v w → V d v w) : PlainStep Tryz.prog ops Q V S N w o :=
  plain_of hg fun b w' _ _ hb K hK => by
    have hcv := hc _ _ (look hb c hl)
    unfold Oper.wp execOp
    simp only [ho]
    have e : b.eval (.tmp c) = .bool false := hcv
    rw [e]
    exact hK _ _ (Below.refl _ _) (dst_eq hd (hv _ _ (look hb t hl')))
theorem pl_not {o : Oper} (t d : Nat) (x : Bool) (ho : o.op = .unOp .not 4 (.tmp t)) (hd : o.dst = some d) (hg : GuardOk ops V o) (hl : (o.looksAt ops).contains t = true) (hc : ∀ v w, V t v w → v = .bool x) (hv : ∀ w, V d (.bool (!x)) w) : PlainStep Tryz.prog ops Q V S N w o :=
  plain_of hg fun b w' _ _ hb K hK => by
    have hcv := hc _ _ (look hb t hl)
    obtain ⟨dst, op, type, pos, after, guard⟩ := o
    dsimp only at ho
    subst ho
    unfold Oper.wp
    have e : b.eval (.tmp t) = .bool x := hcv
    go_simp
    exact hK _ _ (Below.refl _ _) (dst_eq hd (hv _))
end
/-- A fraction that was handed in, cut. -/
theorem cut_frac {w : World} (n1 : Bool) (x1 : Option Addr) (c1 : Nat) (xs : List Int) (n2 : Bool) (x2 : Option Addr) (c2 : Nat) (ys : List Int) (h1 : Row w .u32 4294967296 x1 c1 xs) (h2 : Row w .u32 4294967296 x2 c2 ys) :
    ∃ l1 l2 n d, Hid (∀ w', Below w.heap.size w w' → Calls Tryz.prog 7 #[.agg #[.bool n1, .slice x1 xs.length c1, .bool n2, .slice x2 ys.length c2], .int .i64 5] w' fun e w'' => e = .returned (.agg #[.bool n1, .slice x1 l1 c1, .bool n2, .slice x2 l2 c2]) ∧ Below w.heap.size w w'') ∧ Frac w (.agg #[.bool n1, .slice x1 l1 c1, .bool n2, .slice x2 l2 c2]) n d 5 := by
  refine ⟨(xs.take 5).length, (ys.take 5).length, _, _, ?_, ⟨_, _, _, _, _, _, _, _, rfl, ⟨_, _, _, _, rfl, h1.take' 5, rfl, by simp; omega⟩, ⟨_, _, _, _, rfl, h2.take' 5, rfl, by simp; omega⟩⟩⟩
  intro w' h
  refine (Cut26_any n1 x1 c1 xs n2 x2 c2 ys 5 (h1.next h) (h2.next h) (by decide)).mono ?_
  rintro e w'' ⟨rfl, h3⟩
  exact ⟨rfl, bthen h h3⟩
/-- What stands once the two are cut. -/
def SumsCut (w wc : World) (n d n' d' : Int) : Prop :=
  Holds4 wc w.heap.size (fun v => Frac wc v n d 5) ∧ Holds4 wc (w.heap.size + 1) (fun v => Frac wc v n' d' 5) ∧ Below w.heap.size w wc ∧ w.heap.size + 1 < wc.heap.size
theorem put_two {w w4 : World} {n d n' d' : Int} {n1 : Bool} {a1 : Option Addr} {l1 c1 : Nat} {n2 : Bool} {a2 : Option Addr} {l2 c2 : Nat} {n3 : Bool} {a3 : Option Addr} {l3 c3 : Nat} {n4 : Bool} {a4 : Option Addr} {l4 c4 : Nat}
    (hB : Below w.heap.size w w4) (y0 : Box4 w4 w.heap.size) (y1 : Box4 w4 (w.heap.size + 1)) (q1 : Frac w4 (.agg #[.bool n1, .slice a1 l1 c1, .bool n2, .slice a2 l2 c2]) n d 5) (q2 : Frac w4 (.agg #[.bool n3, .slice a3 l3 c3, .bool n4, .slice a4 l4 c4]) n' d' 5) :
    ∃ W3, W3 = ((((((((w4.setCell ⟨w.heap.size, 0, none⟩ (.bool n1)).setCell ⟨w.heap.size, 1, none⟩ (.slice a1 l1 c1)).setCell ⟨w.heap.size, 2, none⟩ (.bool n2)).setCell ⟨w.heap.size, 3, none⟩ (.slice a2 l2 c2)).setCell ⟨w.heap.size + 1, 0, none⟩ (.bool n3)).setCell ⟨w.heap.size + 1, 1, none⟩ (.slice a3 l3 c3)).setCell ⟨w.heap.size + 1, 2, none⟩ (.bool n4)).setCell ⟨w.heap.size + 1, 3, none⟩ (.slice a4 l4 c4)) ∧ SumsCut w W3 n d n' d' := by
  obtain ⟨W1, hW1, g1, b1, e0, e1, e2, e3⟩ := put_one y0 n1 a1 l1 c1 n2 a2 l2 c2
  have z1 : Box4 W1 (w.heap.size + 1) := y1.same (g1.block _ (by omega))
  obtain ⟨W2, hW2, g2, b2, e4, e5, e6, e7⟩ := put_one z1 n3 a3 l3 c3 n4 a4 l4 c4
  refine ⟨W2, by rw [hW2, hW1], ?_, ⟨_, _, _, _, _, _, _, _, e4, e5, e6, e7, (q2.chg g1 y0.noint).chg g2 z1.noint⟩, (hB.trans (g1.below _ (Nat.le_refl _))).trans (g2.below _ (by omega)), ?_⟩
  · have h0 : Holds4 W1 w.heap.size (fun v => Frac W1 v n d 5) := ⟨_, _, _, _, _, _, _, _, e0, e1, e2, e3, q1.chg g1 y0.noint⟩
    exact h0.chg g2 (by omega) (p' := fun v => Frac W2 v n d 5) fun v h => h.chg g2 z1.noint
  · rw [g2.size, g1.size]
    exact y1.noint.lt
def s3V (k2 k3 base : Nat) (A B : Value) (n d n2 d2 : Int) (t : Nat) (v : Value) (w : World) : Prop := match t with
  | 2 => v = .pointer (some ⟨k2, 0, none⟩)
  | 3 => v = .pointer (some ⟨k3, 0, none⟩)
  | 6 => Ptr4 base [] v w
  | 7 => Ptr4 base [] v w
  | 17 => v = A
  | 18 => LowR w v (pN n d) (pD d) 13
  | 19 => v = B
  | 20 => LowR w v (pN n2 d2) (pD d2) 13
  | _ => True
theorem s3V_next {k2 k3 base : Nat} {A B : Value} {n d n2 d2 : Int} (t : Nat) (v : Value) (w w' : World) (hb : Below w.heap.size w w') (h : s3V k2 k3 base A B n d n2 d2 t v w) : s3V k2 k3 base A B n d n2 d2 t v w' := by
  unfold s3V at h ⊢
  split at h <;> first | exact h | exact LowR.next h hb | exact Ptr4.next h hb
theorem s3V_chg {k2 k3 base : Nat} {A B : Value} {n d n2 d2 : Int} (t : Nat) (v : Value) (w w' : World) (b : Nat) (hc : Chg b w w') (hb : Box4 w b) (hb' : Box4 w' b) (h : s3V k2 k3 base A B n d n2 d2 t v w) : s3V k2 k3 base A B n d n2 d2 t v w' := by
  unfold s3V at h ⊢
  split at h <;> first | exact h | exact LowR.chg h hc hb.noint | exact Ptr4.chg h hc (fun _ => hb')
def s3C (k2 k3 base : Nat) (A B : Value) (n d n2 d2 : Int) (j b : Nat) (w : World) : Prop := match j with
  | 6 => Holds4 w b (fun v => LowR w v (pN n d) (pD d) 13)
  | 7 => Holds4 w b (fun v => LowR w v (pN n2 d2) (pD d2) 13)
  | _ => True
theorem s3C_next {k2 k3 base : Nat} {A B : Value} {n d n2 d2 : Int} (j b : Nat) (w w' : World) (hb : Below w.heap.size w w') (_ : b < w.heap.size) (h : s3C k2 k3 base A B n d n2 d2 j b w) : s3C k2 k3 base A B n d n2 d2 j b w' := by
  unfold s3C at h ⊢
  split at h <;> first | exact h | exact Holds4.next h hb (fun v k => k.next hb)
theorem s3C_chg {k2 k3 base : Nat} {A B : Value} {n d n2 d2 : Int} (j b b' : Nat) (w w' : World) (hc : Chg b' w w') (hb : Box4 w b') (_ : Box4 w' b') (hne : b ≠ b') (h : s3C k2 k3 base A B n d n2 d2 j b w) : s3C k2 k3 base A B n d n2 d2 j b w' := by
  unfold s3C at h ⊢
  split at h <;> first | exact h | exact Holds4.chg h hc hne (fun v k => k.chg hc hb.noint)
def s6V (k6 k7 k8 : Nat) (R X Y : Value) (p q p2 q2 : Int) (t : Nat) (v : Value) (w : World) : Prop := match t with
  | 8 => v = .pointer (some ⟨k8, 0, none⟩)
  | 9 => v = .bool false
  | 32 => v = .bool false
  | 33 => v = .bool false
  | 34 => v = R
  | 35 => v = .agg #[.bool false, .slice none 0 0]
  | 36 => RatR w v 0 1 13
  | 37 => v = .bool true
  | 38 => v = .bool false
  | 39 => v = .bool false
  | _ => True
theorem s6V_next {k6 k7 k8 : Nat} {R X Y : Value} {p q p2 q2 : Int} (t : Nat) (v : Value) (w w' : World) (hb : Below w.heap.size w w') (h : s6V k6 k7 k8 R X Y p q p2 q2 t v w) : s6V k6 k7 k8 R X Y p q p2 q2 t v w' := by
  unfold s6V at h ⊢
  split at h <;> first | exact h | exact RatR.next h hb
theorem s6V_chg {k6 k7 k8 : Nat} {R X Y : Value} {p q p2 q2 : Int} (t : Nat) (v : Value) (w w' : World) (b : Nat) (hc : Chg b w w') (hb : Box4 w b) (hb' : Box4 w' b) (h : s6V k6 k7 k8 R X Y p q p2 q2 t v w) : s6V k6 k7 k8 R X Y p q p2 q2 t v w' := by
  unfold s6V at h ⊢
  split at h <;> first | exact h | exact RatR.chg h hc hb.noint
def s6C (k6 k7 k8 : Nat) (R X Y : Value) (p q p2 q2 : Int) (j b : Nat) (w : World) : Prop := match j with
  | _ => True
theorem s6C_next {k6 k7 k8 : Nat} {R X Y : Value} {p q p2 q2 : Int} (j b : Nat) (w w' : World) (hb : Below w.heap.size w w') (_ : b < w.heap.size) (h : s6C k6 k7 k8 R X Y p q p2 q2 j b w) : s6C k6 k7 k8 R X Y p q p2 q2 j b w' := by
  unfold s6C at h ⊢
  split at h <;> first | exact h | exact Holds4.next h hb (fun v k => k.next hb)
theorem s6C_chg {k6 k7 k8 : Nat} {R X Y : Value} {p q p2 q2 : Int} (j b b' : Nat) (w w' : World) (hc : Chg b' w w') (hb : Box4 w b') (_ : Box4 w' b') (hne : b ≠ b') (h : s6C k6 k7 k8 R X Y p q p2 q2 j b w) : s6C k6 k7 k8 R X Y p q p2 q2 j b w' := by
  unfold s6C at h ⊢
  split at h <;> first | exact h | exact Holds4.chg h hc hne (fun v k => k.chg hc hb.noint)
def s8V (k6 k7 k8 : Nat) (R X Y : Value) (p q p2 q2 : Int) (t : Nat) (v : Value) (w : World) : Prop := match t with
  | 6 => v = .pointer (some ⟨k6, 0, none⟩)
  | 7 => v = .pointer (some ⟨k7, 0, none⟩)
  | 8 => v = .pointer (some ⟨k8, 0, none⟩)
  | 9 => v = .bool true
  | 40 => v = .bool true
  | 41 => v = .bool false
  | 42 => v = .bool false
  | 43 => v = R
  | 44 => v = X
  | 45 => v = Y
  | 46 => LowR w v (pN (p * q2) (q * p2)) (pD (q * p2)) 30
  | 47 => v = .bool true
  | 48 => v = .bool false
  | 49 => v = .bool false
  | _ => True
theorem s8V_next {k6 k7 k8 : Nat} {R X Y : Value} {p q p2 q2 : Int} (t : Nat) (v : Value) (w w' : World) (hb : Below w.heap.size w w') (h : s8V k6 k7 k8 R X Y p q p2 q2 t v w) : s8V k6 k7 k8 R X Y p q p2 q2 t v w' := by
  unfold s8V at h ⊢
  split at h <;> first | exact h | exact LowR.next h hb
theorem s8V_chg {k6 k7 k8 : Nat} {R X Y : Value} {p q p2 q2 : Int} (t : Nat) (v : Value) (w w' : World) (b : Nat) (hc : Chg b w w') (hb : Box4 w b) (hb' : Box4 w' b) (h : s8V k6 k7 k8 R X Y p q p2 q2 t v w) : s8V k6 k7 k8 R X Y p q p2 q2 t v w' := by
  unfold s8V at h ⊢
  split at h <;> first | exact h | exact LowR.chg h hc hb.noint
def s8C (k6 k7 k8 : Nat) (R X Y : Value) (p q p2 q2 : Int) (j b : Nat) (w : World) : Prop := match j with
  | _ => True
theorem s8C_next {k6 k7 k8 : Nat} {R X Y : Value} {p q p2 q2 : Int} (j b : Nat) (w w' : World) (hb : Below w.heap.size w w') (_ : b < w.heap.size) (h : s8C k6 k7 k8 R X Y p q p2 q2 j b w) : s8C k6 k7 k8 R X Y p q p2 q2 j b w' := by
  unfold s8C at h ⊢
  split at h <;> first | exact h | exact Holds4.next h hb (fun v k => k.next hb)
theorem s8C_chg {k6 k7 k8 : Nat} {R X Y : Value} {p q p2 q2 : Int} (j b b' : Nat) (w w' : World) (hc : Chg b' w w') (hb : Box4 w b') (_ : Box4 w' b') (hne : b ≠ b') (h : s8C k6 k7 k8 R X Y p q p2 q2 j b w) : s8C k6 k7 k8 R X Y p q p2 q2 j b w' := by
  unfold s8C at h ⊢
  split at h <;> first | exact h | exact Holds4.chg h hc hne (fun v k => k.chg hc hb.noint)
def s13V (k2 k3 k6 k7 : Nat) (A B X Y : Value) (n d n2 d2 p q p2 q2 : Int) (S : ByteArray) (t : Nat) (v : Value) (w : World) : Prop := match t with
  | 2 => v = .pointer (some ⟨k2, 0, none⟩)
  | 3 => v = .pointer (some ⟨k3, 0, none⟩)
  | 4 => v = .bool true
  | 5 => v = .bool true
  | 6 => v = .pointer (some ⟨k6, 0, none⟩)
  | 7 => v = .pointer (some ⟨k7, 0, none⟩)
  | 79 => v = .bool true
  | 80 => v = .bool true
  | 81 => v = A
  | 82 => v = B
  | 83 => LowE w v (pN n d * pD d2 + pN n2 d2 * pD d) (pD d * pD d2) 17
  | 84 => v = X
  | 85 => v = Y
  | 86 => LowR w v (pN (p * q2 + p2 * q) (q * q2)) (pD (q * q2)) 30
  | 87 => v = .bool true
  | 88 => v = .bool true
  | 89 => v = .bool true
  | 90 => v = A
  | 91 => v = B
  | 92 => LowE w v (pN n d * pD d2 - pN n2 d2 * pD d) (pD d * pD d2) 17
  | 93 => v = X
  | 94 => v = Y
  | 95 => LowR w v (pN (p * q2 + -p2 * q) (q * q2)) (pD (q * q2)) 30
  | 96 => v = .bool true
  | 97 => v = .bool true
  | 98 => v = .bool true
  | 99 => v = A
  | 100 => v = B
  | 101 => LowE w v (pN n d * pN n2 d2) (pD d * pD d2) 16
  | 102 => v = X
  | 103 => v = Y
  | 104 => LowR w v (pN (p * p2) (q * q2)) (pD (q * q2)) 30
  | 105 => v = .bool true
  | 106 => v = .bool true
  | 107 => v = .bool true
  | 108 => v = A
  | 109 => LowE w v (pN (-n) d) (pD d) 7
  | 110 => v = X
  | 111 => RatR w v (-p) q 13
  | 112 => v = .bool true
  | 113 => v = .bool true
  | 114 => v = .bool true
  | 115 => v = A
  | 116 => v = B
  | 117 => v = .int .i64 (cmpI (p * q2) (p2 * q))
  | 118 => v = X
  | 119 => v = Y
  | 120 => v = .int .i64 (cmpI (p * q2) (p2 * q))
  | 121 => v = .bool true
  | 122 => v = .bool true
  | 123 => v = .bool true
  | 124 => v = A
  | 125 => v = .string S
  | 126 => v = X
  | 127 => v = .string S
  | 128 => v = .bool true
  | 129 => v = .bool true
  | _ => True
theorem s13V_next (k2 k3 k6 k7 : Nat) (A B X Y : Value) (n d n2 d2 p q p2 q2 : Int) (S : ByteArray) (t : Nat) (v : Value) (w w' : World) (hb : Below w.heap.size w w') (h : s13V k2 k3 k6 k7 A B X Y n d n2 d2 p q p2 q2 S t v w) : s13V k2 k3 k6 k7 A B X Y n d n2 d2 p q p2 q2 S t v w' := by
  unfold s13V at h ⊢
  split at h <;> first | exact h | exact LowR.next h hb | exact LowE.next h hb | exact RatR.next h hb
set_option maxRecDepth 20000 in
set_option maxHeartbeats 16000000 in
theorem ratSums_any (n1 : Bool) (z1 : Option Addr) (c1 : Nat) (xs1 : List Int) (n2 : Bool) (z2 : Option Addr) (c2 : Nat) (xs2 : List Int) (n3 : Bool) (z3 : Option Addr) (c3 : Nat) (xs3 : List Int) (n4 : Bool) (z4 : Option Addr) (c4 : Nat) (xs4 : List Int) (w : World)
    (h1 : Row w .u32 4294967296 z1 c1 xs1) (h2 : Row w .u32 4294967296 z2 c2 xs2) (h3 : Row w .u32 4294967296 z3 c3 xs3) (h4 : Row w .u32 4294967296 z4 c4 xs4) :
    Calls Tryz.prog 3 #[.agg #[.bool n1, .slice z1 xs1.length c1, .bool n2, .slice z2 xs2.length c2], .agg #[.bool n3, .slice z3 xs3.length c3, .bool n4, .slice z4 xs4.length c4]] w fun e w' => e = .returned (.bool true) ∧ Below w.heap.size w w' := by
  obtain ⟨W, hW⟩ : ∃ W, W = (w.alloc (.cells #[.bool n1, .slice z1 xs1.length c1, .bool n2, .slice z2 xs2.length c2] 26)).alloc (.cells #[.bool n3, .slice z3 xs3.length c3, .bool n4, .slice z4 xs4.length c4] 26) := ⟨_, rfl⟩
  have hbW : Below w.heap.size w W := by rw [hW]; exact ((Below.refl _ _).alloc (Nat.le_refl _) _).alloc (by simp) _
  have i0 : Box4 W w.heap.size := by rw [hW]; exact (Box4.new w n1 z1 xs1.length c1 n2 z2 xs2.length c2 26 (by decide)).next ((Below.refl _ _).alloc (Nat.le_refl _) _)
  have i1 : Box4 W (w.heap.size + 1) := by
    rw [hW]
    have h := Box4.new (w.alloc (.cells #[.bool n1, .slice z1 xs1.length c1, .bool n2, .slice z2 xs2.length c2] 26)) n3 z3 xs3.length c3 n4 z4 xs4.length c4 26 (by decide)
    rw [show (w.alloc (.cells #[.bool n1, .slice z1 xs1.length c1, .bool n2, .slice z2 xs2.length c2] 26)).heap.size = w.heap.size + 1 from by simp] at h
    exact h
  have d0 : W.cell? ⟨w.heap.size, 0, none⟩ = some (.bool n1) := by rw [hW]; simp [go_sem, World.cell?_alloc_past]
  have d1 : W.cell? ⟨w.heap.size, 1, none⟩ = some (.slice z1 xs1.length c1) := by rw [hW]; simp [go_sem, World.cell?_alloc_past]
  have d2 : W.cell? ⟨w.heap.size, 2, none⟩ = some (.bool n2) := by rw [hW]; simp [go_sem, World.cell?_alloc_past]
  have d3 : W.cell? ⟨w.heap.size, 3, none⟩ = some (.slice z2 xs2.length c2) := by rw [hW]; simp [go_sem, World.cell?_alloc_past]
  have d4 : W.cell? ⟨w.heap.size + 1, 0, none⟩ = some (.bool n3) := by rw [hW]; simp [go_sem]
  have d5 : W.cell? ⟨w.heap.size + 1, 1, none⟩ = some (.slice z3 xs3.length c3) := by rw [hW]; simp [go_sem]
  have d6 : W.cell? ⟨w.heap.size + 1, 2, none⟩ = some (.bool n4) := by rw [hW]; simp [go_sem]
  have d7 : W.cell? ⟨w.heap.size + 1, 3, none⟩ = some (.slice z4 xs4.length c4) := by rw [hW]; simp [go_sem]
  have kB := begun_said W
  replace kB : Hid _ := kB
  go_enter Tryz.func3, Tryz.ntmps3
  go_upto_region 1 with fail
  rw [← hW]
  clear hW
  go_wp2_with fail
  refine Calls.mono kB.out ?_
  rintro e w1 ⟨rfl, hb1⟩
  clear kB
  replace d0 := keep_cell hb1 d0
  replace d1 := keep_cell hb1 d1
  replace d2 := keep_cell hb1 d2
  replace d3 := keep_cell hb1 d3
  replace d4 := keep_cell hb1 d4
  replace d5 := keep_cell hb1 d5
  replace d6 := keep_cell hb1 d6
  replace d7 := keep_cell hb1 d7
  have j0 := i0.next hb1
  have j1 := i1.next hb1
  have hB1 := bthen hbW hb1
  obtain ⟨l1, l2, n, d, kk1, q1⟩ := cut_frac n1 z1 c1 xs1 n2 z2 c2 xs2 (h1.next hB1) (h2.next hB1)
  obtain ⟨l3, l4, n', d', kk2, q2⟩ := cut_frac n3 z3 c3 xs3 n4 z4 c4 xs4 (h3.next hB1) (h4.next hB1)
  clear h1 h2 h3 h4 i0 i1 hbW hb1
  generalize xs1.length = L1 at *
  generalize xs2.length = L2 at *
  generalize xs3.length = L3 at *
  generalize xs4.length = L4 at *
  have hD0 : Below w1.heap.size w1 w1.drew := (Below.refl _ _).drew
  go_upto_region 2 with fail
  go_cut [] from 12 (fun wc => SumsCut w wc n d n' d')
  case first =>
   go_region_with (first
    | (go_at_call 7; refine Calls.mono (kk1.out _ hD0) ?_; rintro e w2 ⟨rfl, hb2⟩; clear kk1; have p4 := keep_cell hb2 d4; have p5 := keep_cell hb2 d5; have p6 := keep_cell hb2 d6; have p7 := keep_cell hb2 d7)
    | (go_at_call 7; refine Calls.mono (kk2.out _ hb2) ?_; rintro e w4 ⟨rfl, hb4⟩; clear kk2; have y0 := j0.next hb4; have y1 := j1.next hb4; obtain ⟨W3, hW3, hcut⟩ := put_two (bthen hB1 hb4) y0 y1 (q1.next hb4) (q2.next hb4); obtain ⟨_, _, _, _, _, _, _, _, s0, s1, s2, s3, f⟩ := y0.cells; have f0 := f 0; have f1 := f 1; have f2 := f 2; have f3 := f 3; clear f; obtain ⟨_, _, _, _, _, _, _, _, s4, s5, s6, s7, f⟩ := y1.cells; have f4 := f 0; have f5 := f 1; have f6 := f 2; have f7 := f 3; clear f))
   all_goals
    go_wp2_with fail
    go_meet
    case rel =>
     go_light
     rw [← hW3]
     exact hcut
  case rest =>
  obtain ⟨⟨ma, ra, la, oa, ma2, ra2, la2, oa2, a0, a1, a2, a3, qA⟩, ⟨mb, rb, lb, ob, mb2, rb2, lb2, ob2, b0, b1, b2, b3, qB⟩, hBc, hlc⟩ := hcut
  generalize wc = Wc at *
  clear d0 d1 d2 d3 d4 d5 d6 d7 j0 j1 hB1 q1 q2 hD0
  go_upto_region 3 with fail
  go_cut [6, 7] from 12 (fun p p' w3 => ∃ g6 g7, p = .pointer (some ⟨g6, 0, none⟩) ∧ p' = .pointer (some ⟨g7, 0, none⟩) ∧ Holds4 w3 g6 (fun v => LowR w3 v (pN n d) (pD d) 13) ∧ Holds4 w3 g7 (fun v => LowR w3 v (pN n' d') (pD d') 13) ∧ Below Wc.heap.size Wc w3)
  case first =>
   rename_i J K' hJ hK'
   have lw : ∀ {w' : World}, BelowBut [] Wc w' → Below Wc.heap.size Wc w' := fun hW => hW.below (Nat.le_refl _) (by intro k hk; cases hk)
   refine wp_region_boxes (s3V w.heap.size (w.heap.size + 1) Wc.heap.size (.agg #[.bool ma, .slice ra la oa, .bool ma2, .slice ra2 la2 oa2]) (.agg #[.bool mb, .slice rb lb ob, .bool mb2, .slice rb2 lb2 ob2]) n d n' d') Box4 (s3C w.heap.size (w.heap.size + 1) Wc.heap.size (.agg #[.bool ma, .slice ra la oa, .bool ma2, .slice ra2 la2 oa2]) (.agg #[.bool mb, .slice rb lb ob, .bool mb2, .slice rb2 lb2 ob2]) n d n' d') [2, 3] [6, 7] [] [(6, 6), (7, 7)] 130 (by kernel_rfl) (by kernel_rfl) rfl s3V_next s3V_chg ?hA s3C_next s3C_chg ?hstart ?hdis (StepsFrom.all ?hstep) ?hend
   case hA =>
     intro s v w' hs hv
     have hs' : s = 6 ∨ s = 7 := by simpa using hs
     rcases hs' with rfl | rfl
     · obtain ⟨b, h1, h2, h3⟩ := hv
       exact ⟨b, h1, h2, h3, h2.noint.lt⟩
     · obtain ⟨b, h1, h2, h3⟩ := hv
       exact ⟨b, h1, h2, h3, h2.noint.lt⟩
   case hstart =>
     intro t ht
     simp only [List.mem_cons, List.not_mem_nil, or_false] at ht
     rcases ht with rfl | rfl <;> rfl
   case hdis =>
     intro s t hs ht hne h1 _
     have hs' : s = 6 ∨ s = 7 := by simpa using hs
     rcases hs' with rfl | rfl <;> cases h1
   case hstep =>
     refine ⟨?s0, ?s1, ?s2, ?s3, ?s4, ?s5, ?s6, ?s7, trivial⟩
     case s0 => exact plain_at (plain_of (guard_none rfl) fun b w' _ hW hl K hK => ld26 (hW.cell a0 (by simp)) (hW.cell a1 (by simp)) (hW.cell a2 (by simp)) (hW.cell a3 (by simp)) 2 rfl (look hl 2 (by kernel_rfl)) (hK _ _ (Below.refl _ _) (dst_eq rfl rfl))) (dst_eq rfl rfl) rfl
     case s1 => exact plain_at (pl_call1 8 17 18 _ (by kernel_rfl) rfl rfl (guard_none rfl) (by kernel_rfl) (fun u w' hW hu => by subst hu; exact FromRat_num (qA.next (lw hW)) (by decide))) (dst_eq rfl rfl) rfl
     case s2 => exact plain_at (plain_of (guard_none rfl) fun b w' _ hW hl K hK => ld26 (hW.cell b0 (by simp)) (hW.cell b1 (by simp)) (hW.cell b2 (by simp)) (hW.cell b3 (by simp)) 3 rfl (look hl 3 (by kernel_rfl)) (hK _ _ (Below.refl _ _) (dst_eq rfl rfl))) (dst_eq rfl rfl) rfl
     case s3 => exact plain_at (pl_call1 8 19 20 _ (by kernel_rfl) rfl rfl (guard_none rfl) (by kernel_rfl) (fun u w' hW hu => by subst hu; exact FromRat_num (qB.next (lw hW)) (by decide))) (dst_eq rfl rfl) rfl
     case s4 => exact new_at (step_new34 6 rfl rfl rfl (fun v w h => h)) rfl rfl rfl
     case s5 => exact new_at (step_new34 7 rfl rfl rfl (fun v w h => h)) rfl rfl rfl
     case s6 => exact put_at (step_put34 6 6 18 rfl rfl rfl (by kernel_rfl) (by kernel_rfl) ⟨fun v w h => LowR.form h, fun g w' w'' m a l c m' a' l' c' hv hc hb r0 r1 r2 r3 => ⟨m, a, l, c, m', a', l', c', r0, r1, r2, r3, LowR.chg hv hc hb.noint⟩⟩) rfl rfl (by kernel_rfl)
     case s7 => exact put_at (step_put34 7 7 20 rfl rfl rfl (by kernel_rfl) (by kernel_rfl) ⟨fun v w h => LowR.form h, fun g w' w'' m a l c m' a' l' c' hv hc hb r0 r1 r2 r3 => ⟨m, a, l, c, m', a', l', c', r0, r1, r2, r3, LowR.chg hv hc hb.noint⟩⟩) rfl rfl (by kernel_rfl)
   case hend =>
     rintro ⟨tm, df⟩ w' hs hd hW hv hdis hC hfr
     obtain ⟨g6, e6, _, _⟩ := hv 6 (.inr ⟨4, _, rfl, rfl⟩)
     obtain ⟨g7, e7, _, _⟩ := hv 7 (.inr ⟨5, _, rfl, rfl⟩)
     have c6 := hC 6 6 (by simp) (by decide) g6 e6
     have c7 := hC 7 7 (by simp) (by decide) g7 e7
     obtain ⟨xs', htm, hxs⟩ := frame_mixed hfr hs
     have x6 : xs'.getD 6 undef = .pointer (some ⟨g6, 0, none⟩) := (hxs 6).trans e6
     have x7 : xs'.getD 7 undef = .pointer (some ⟨g7, 0, none⟩) := (hxs 7).trans e7
     have hWb := lw hW
     clear hxs hv hdis hC hfr e6 e7
     subst htm
     obtain rfl := hd
     refine hK' _ _ (Met.intro (hJ _ _ ?_))
     (repeat apply Exists.intro)
     refine ⟨?rel, rfl⟩
     case rel => exact ⟨g6, g7, x6, x7, c6, c7, hWb⟩
  case rest =>
  obtain ⟨g6, g7, rfl, rfl, ⟨mx, rx, lx, ox, mx2, rx2, lx2, ox2, x0, x1, x2, x3, p, q, qX, hl⟩, ⟨my, ry, ly, oy, my2, ry2, ly2, oy2, y0, y1, y2, y3, p2, q2, qY, hl2⟩, hb3⟩ := hcut
  generalize wc = W3 at *
  replace a0 := keep_cell hb3 a0
  replace a1 := keep_cell hb3 a1
  replace a2 := keep_cell hb3 a2
  replace a3 := keep_cell hb3 a3
  replace b0 := keep_cell hb3 b0
  replace b1 := keep_cell hb3 b1
  replace b2 := keep_cell hb3 b2
  replace b3 := keep_cell hb3 b3
  replace qA := qA.next hb3
  replace qB := qB.next hb3
  replace hBc := bthen hBc hb3
  clear hb3 hlc
  have k5 := Quo26_num qA qB (by decide)
  replace k5 : Hid _ := k5
  go_upto_region 4 with fail
  go_wp2_with fail
  refine Calls.mono k5.out ?_
  rintro e w5 ⟨t, rfl, hQ, hb5⟩
  clear k5
  obtain ⟨mr, rr, lr, or1, mr2, rr2, lr2, or2, rfl⟩ := hQ.form
  obtain ⟨bk, hbk⟩ : ∃ bk, bk = decide (pD d * pN n' d' ≠ 0) := ⟨_, rfl⟩
  rw [← hbk]
  replace hbk : Hid _ := hbk
  obtain ⟨W5, hW5, hbW5, _, r0, r1, r2, r3⟩ := box_text w5 mr rr lr or1 mr2 rr2 lr2 or2
  have hbx := bthen hb5 hbW5
  replace a0 := keep_cell hbx a0
  replace a1 := keep_cell hbx a1
  replace a2 := keep_cell hbx a2
  replace a3 := keep_cell hbx a3
  replace b0 := keep_cell hbx b0
  replace b1 := keep_cell hbx b1
  replace b2 := keep_cell hbx b2
  replace b3 := keep_cell hbx b3
  replace x0 := keep_cell hbx x0
  replace x1 := keep_cell hbx x1
  replace x2 := keep_cell hbx x2
  replace x3 := keep_cell hbx x3
  replace y0 := keep_cell hbx y0
  replace y1 := keep_cell hbx y1
  replace y2 := keep_cell hbx y2
  replace y3 := keep_cell hbx y3
  replace qA := qA.next hbx
  replace qB := qB.next hbx
  replace qX := qX.next hbx
  replace qY := qY.next hbx
  replace hQ := hQ.next hbW5
  replace hBc := bthen hBc hbx
  go_upto_region 5 with fail
  rw [← hW5]
  clear hW5 hb5 hbW5 hbx
  generalize w5.heap.size = g8 at *
  have hdig := qY.parts.1.digits
  replace hdig : Hid _ := hdig
  have hN0 : pN n' d' = 0 ↔ p2 = 0 := (low_zero hl2 (pD_pos d')).symm
  have hDp := pD_pos d
  have hDN : pD d * pN n' d' = 0 ↔ p2 = 0 := by
    rw [Int.mul_eq_zero, hN0]
    exact ⟨fun h => h.elim (fun e => by omega) id, .inr⟩
  replace hDN : Hid _ := hDN
  clear hN0 hDp
  go_upto_if 31 with fail
  go_cut [] from 12 (fun wc => Below W5.heap.size W5 wc)
  case first =>
   have lw : ∀ {w' : World}, BelowBut [] W5 w' → Below W5.heap.size W5 w' := fun hW => hW.below (Nat.le_refl _) (by intro k hk; cases hk)
   by_cases hp2 : p2 = 0
   · have hly : ly = 0 := hdig.out.2 hp2
     have hR := hQ.1 (hDN.out.2 hp2)
     have hok : bk = false := by rw [hbk.out]; simp [hDN.out.2 hp2]
     subst hly
     clear hdig hDN hbk hQ
     subst hok
     go_upto_region 6 with fail
     go_cut [39] from 12 (fun v wc => v = .bool false ∧ Below W5.heap.size W5 wc)
     case first =>
      rename_i J K' hJ hK'
      refine wp_region_boxes (s6V g6 g7 g8 (.agg #[.bool mr, .slice rr lr or1, .bool mr2, .slice rr2 lr2 or2]) (.agg #[.bool mx, .slice rx lx ox, .bool mx2, .slice rx2 lx2 ox2]) undef p q p2 q2) Box4 (s6C g6 g7 g8 (.agg #[.bool mr, .slice rr lr or1, .bool mr2, .slice rr2 lr2 or2]) (.agg #[.bool mx, .slice rx lx ox, .bool mx2, .slice rx2 lx2 ox2]) undef p q p2 q2) [8, 9] [] [] [] 130 (by kernel_rfl) (by kernel_rfl) rfl s6V_next s6V_chg ?hA s6C_next s6C_chg ?hstart ?hdis (StepsFrom.all ?hstep) ?hend
      case hA => intro s v w' hs hv; cases hs
      case hstart =>
        intro t ht
        simp only [List.mem_cons, List.not_mem_nil, or_false] at ht
        rcases ht with rfl | rfl <;> rfl
      case hdis => intro s t hs ht hne h1 _; cases hs
      case hstep =>
        refine ⟨?s0, ?s1, ?s2, ?s3, ?s4, ?s5, ?s6, ?s7, trivial⟩
        case s0 => exact plain_at (pl_move 9 32 (.inl rfl) rfl (guard_none rfl) (by kernel_rfl) (fun v w h => h)) (dst_eq rfl rfl) rfl
        case s1 => exact plain_at (pl_move 32 33 (.inl rfl) rfl (guard_none rfl) (by kernel_rfl) (fun v w h => h)) (dst_eq rfl rfl) rfl
        case s2 => exact plain_at (plain_of (guard_false 1 33 rfl (by kernel_rfl) (by kernel_rfl) (fun v w h => h)) fun b w' _ hW hl K hK => ld26 (hW.cell r0 (by simp)) (hW.cell r1 (by simp)) (hW.cell r2 (by simp)) (hW.cell r3 (by simp)) 8 rfl (look hl 8 (by kernel_rfl)) (hK _ _ (Below.refl _ _) (dst_eq rfl rfl))) (dst_eq rfl rfl) rfl
        case s3 => exact plain_at (plain_of (guard_false 1 33 rfl (by kernel_rfl) (by kernel_rfl) (fun v w h => h)) fun b w' hsz hW hl K hK => by clear hsz; unfold Oper.wp; go_simp; exact hK _ _ (Below.refl _ _) (dst_eq rfl rfl)) (dst_eq rfl rfl) rfl
        case s4 => exact plain_at (pl_call1 11 35 36 _ (by kernel_rfl) rfl rfl (guard_false 1 33 rfl (by kernel_rfl) (by kernel_rfl) (fun v w h => h)) (by kernel_rfl) (fun u w' hW hu => by have hu : u = .agg #[.bool false, .slice none 0 0] := hu; subst hu; exact (rWhole_num (m := 12) (⟨false, none, 0, [], rfl, Row.empty _ _ _, ⟨trivial, fun h => by cases h⟩, rfl, by decide⟩ : Rint w' _ 0 12)))) (dst_eq rfl rfl) rfl
        case s5 => exact plain_at (pl_call2 10 34 36 37 _ (by kernel_rfl) rfl rfl (guard_false 1 33 rfl (by kernel_rfl) (by kernel_rfl) (fun v w h => h)) (by kernel_rfl) (by kernel_rfl) (fun u v w' hW hu hv => by subst hu; exact (rIsRat_same (hR.next (lw hW)) (show RatR w' v 0 1 13 from hv) (by decide) (by decide)).mono fun e w'' h => ⟨_, h.1, rfl, h.2⟩)) (dst_eq rfl rfl) rfl
        case s6 => exact plain_at (pl_not 37 38 true rfl rfl (guard_false 1 33 rfl (by kernel_rfl) (by kernel_rfl) (fun v w h => h)) (by kernel_rfl) (fun v w h => h) (fun w => rfl)) (dst_eq rfl rfl) rfl
        case s7 => exact plain_at (pl_else 33 38 39 (.const (.bool true)) rfl rfl (guard_none rfl) (by kernel_rfl) (by kernel_rfl) (fun v w h => h) (fun v w h => h)) (dst_eq rfl rfl) rfl
      case hend =>
        rintro ⟨tm, df⟩ w' hs hd hW hv hdis hC hfr
        have e39 : tm.getD 39 undef = .bool false := hv 39 (.inr ⟨7, _, rfl, rfl⟩)
        obtain ⟨xs', htm, hxs⟩ := frame_mixed hfr hs
        have x39 : xs'.getD 39 undef = .bool false := (hxs 39).trans e39
        have hWb := lw hW
        clear hxs hv hdis hC hfr e39
        subst htm
        obtain rfl := hd
        refine hK' _ _ (Met.intro (hJ _ _ ?_))
        (repeat apply Exists.intro)
        refine ⟨?rel, rfl⟩
        case rel => exact ⟨x39, hWb⟩
     case rest =>
      obtain ⟨rfl, hb6⟩ := hcut
      go_wp2
      go_meet
      case rel => exact hb6
   · have hly : ¬ ((ly : Int) = 0) := fun e => hp2 (hdig.out.1 (by omega))
     have hR := hQ.2 (fun e => hp2 (hDN.out.1 e))
     have hok : bk = true := by rw [hbk.out]; simp only [ne_eq, decide_not, Bool.not_eq_true', decide_eq_false_iff_not]; exact fun e => hp2 (hDN.out.1 e)
     clear hdig hDN hbk hQ
     subst hok
     have hqp : q * p2 ≠ 0 := Int.mul_ne_zero (by have := hl.1; omega) hp2
     go_upto_region 8 with fail
     go_cut [49] from 12 (fun v wc => v = .bool false ∧ Below W5.heap.size W5 wc)
     case first =>
      rename_i J K' hJ hK'
      refine wp_region_boxes (s8V g6 g7 g8 (.agg #[.bool mr, .slice rr lr or1, .bool mr2, .slice rr2 lr2 or2]) (.agg #[.bool mx, .slice rx lx ox, .bool mx2, .slice rx2 lx2 ox2]) (.agg #[.bool my, .slice ry ly oy, .bool my2, .slice ry2 ly2 oy2]) p q p2 q2) Box4 (s8C g6 g7 g8 (.agg #[.bool mr, .slice rr lr or1, .bool mr2, .slice rr2 lr2 or2]) (.agg #[.bool mx, .slice rx lx ox, .bool mx2, .slice rx2 lx2 ox2]) (.agg #[.bool my, .slice ry ly oy, .bool my2, .slice ry2 ly2 oy2]) p q p2 q2) [6, 7, 8, 9] [] [] [] 130 (by kernel_rfl) (by kernel_rfl) rfl s8V_next s8V_chg ?hA s8C_next s8C_chg ?hstart ?hdis (StepsFrom.all ?hstep) ?hend
      case hA => intro s v w' hs hv; cases hs
      case hstart =>
        intro t ht
        simp only [List.mem_cons, List.not_mem_nil, or_false] at ht
        rcases ht with rfl | rfl | rfl | rfl <;> rfl
      case hdis => intro s t hs ht hne h1 _; cases hs
      case hstep =>
        refine ⟨?s0, ?s1, ?s2, ?s3, ?s4, ?s5, ?s6, ?s7, ?s8, ?s9, trivial⟩
        case s0 => exact plain_at (pl_move 9 40 (.inl rfl) rfl (guard_none rfl) (by kernel_rfl) (fun v w h => h)) (dst_eq rfl rfl) rfl
        case s1 => exact plain_at (pl_not 40 41 true rfl rfl (guard_none rfl) (by kernel_rfl) (fun v w h => h) (fun w => rfl)) (dst_eq rfl rfl) rfl
        case s2 => exact plain_at (pl_move 41 42 (.inl rfl) rfl (guard_none rfl) (by kernel_rfl) (fun v w h => h)) (dst_eq rfl rfl) rfl
        case s3 => exact plain_at (plain_of (guard_false 2 42 rfl (by kernel_rfl) (by kernel_rfl) (fun v w h => h)) fun b w' _ hW hl K hK => ld26 (hW.cell r0 (by simp)) (hW.cell r1 (by simp)) (hW.cell r2 (by simp)) (hW.cell r3 (by simp)) 8 rfl (look hl 8 (by kernel_rfl)) (hK _ _ (Below.refl _ _) (dst_eq rfl rfl))) (dst_eq rfl rfl) rfl
        case s4 => exact plain_at (plain_of (guard_false 2 42 rfl (by kernel_rfl) (by kernel_rfl) (fun v w h => h)) fun b w' _ hW hl K hK => ld34 (hW.cell x0 (by simp)) (hW.cell x1 (by simp)) (hW.cell x2 (by simp)) (hW.cell x3 (by simp)) 6 rfl (look hl 6 (by kernel_rfl)) (hK _ _ (Below.refl _ _) (dst_eq rfl rfl))) (dst_eq rfl rfl) rfl
        case s5 => exact plain_at (plain_of (guard_false 2 42 rfl (by kernel_rfl) (by kernel_rfl) (fun v w h => h)) fun b w' _ hW hl K hK => ld34 (hW.cell y0 (by simp)) (hW.cell y1 (by simp)) (hW.cell y2 (by simp)) (hW.cell y3 (by simp)) 7 rfl (look hl 7 (by kernel_rfl)) (hK _ _ (Below.refl _ _) (dst_eq rfl rfl))) (dst_eq rfl rfl) rfl
        case s6 => exact plain_at (pl_call2 12 44 45 46 _ (by kernel_rfl) rfl rfl (guard_false 2 42 rfl (by kernel_rfl) (by kernel_rfl) (fun v w h => h)) (by kernel_rfl) (by kernel_rfl) (fun u v w' hW hu hv => by subst hu; subst hv; exact QuoRat_num (qX.next (lw hW)) (qY.next (lw hW)) (by decide) hqp)) (dst_eq rfl rfl) rfl
        case s7 => exact plain_at (pl_call2 10 43 46 47 _ (by kernel_rfl) rfl rfl (guard_false 2 42 rfl (by kernel_rfl) (by kernel_rfl) (fun v w h => h)) (by kernel_rfl) (by kernel_rfl) (fun u v w' hW hu hv => by subst hu; exact (is_quo hl hl2 hp2 (hR.next (lw hW)) hv (by decide) (by decide)).mono fun e w'' h => ⟨_, h.1, rfl, h.2⟩)) (dst_eq rfl rfl) rfl
        case s8 => exact plain_at (pl_not 47 48 true rfl rfl (guard_false 2 42 rfl (by kernel_rfl) (by kernel_rfl) (fun v w h => h)) (by kernel_rfl) (fun v w h => h) (fun w => rfl)) (dst_eq rfl rfl) rfl
        case s9 => exact plain_at (pl_else 42 48 49 (.const (.bool true)) rfl rfl (guard_none rfl) (by kernel_rfl) (by kernel_rfl) (fun v w h => h) (fun v w h => h)) (dst_eq rfl rfl) rfl
      case hend =>
        rintro ⟨tm, df⟩ w' hs hd hW hv hdis hC hfr
        have e49 : tm.getD 49 undef = .bool false := hv 49 (.inr ⟨9, _, rfl, rfl⟩)
        obtain ⟨xs', htm, hxs⟩ := frame_mixed hfr hs
        have x49 : xs'.getD 49 undef = .bool false := (hxs 49).trans e49
        have hWb := lw hW
        clear hxs hv hdis hC hfr e49
        subst htm
        obtain rfl := hd
        refine hK' _ _ (Met.intro (hJ _ _ ?_))
        (repeat apply Exists.intro)
        refine ⟨?rel, rfl⟩
        case rel => exact ⟨x49, hWb⟩
     case rest =>
      obtain ⟨rfl, hb6⟩ := hcut
      go_wp2
      go_meet
      case rel => exact hb6
  case rest =>
  clear hdig hDN hbk hQ r0 r1 r2 r3
  generalize wc = W6 at *
  replace a0 := keep_cell hcut a0
  replace a1 := keep_cell hcut a1
  replace a2 := keep_cell hcut a2
  replace a3 := keep_cell hcut a3
  replace b0 := keep_cell hcut b0
  replace b1 := keep_cell hcut b1
  replace b2 := keep_cell hcut b2
  replace b3 := keep_cell hcut b3
  replace x0 := keep_cell hcut x0
  replace x1 := keep_cell hcut x1
  replace x2 := keep_cell hcut x2
  replace x3 := keep_cell hcut x3
  replace y0 := keep_cell hcut y0
  replace y1 := keep_cell hcut y1
  replace y2 := keep_cell hcut y2
  replace y3 := keep_cell hcut y3
  replace qA := qA.next hcut
  replace qB := qB.next hcut
  replace qX := qX.next hcut
  replace qY := qY.next hcut
  replace hBc := bthen hBc hcut
  clear hcut
  have k6 := Int_num qA (by decide)
  replace k6 : Hid _ := k6
  go_upto_region 10 with fail
  go_wp2_with fail
  refine Calls.mono k6.out ?_
  rintro e w7 ⟨t, rfl, ⟨I, rfl, hI1, hI0⟩, hb7⟩
  clear k6
  have hli := low_int hl (pD_pos d)
  obtain ⟨mi, ri, li, oi, rfl⟩ : ∃ mi ri li oi, I = .agg #[.bool mi, .slice ri li oi] := by
    by_cases h : (pN n d).tmod (pD d) = 0
    · exact (hI1 h).num.form
    · exact ⟨_, _, _, _, hI0 h⟩
  obtain ⟨bw, hbw⟩ : ∃ bw, bw = decide ((pN n d).tmod (pD d) = 0) := ⟨_, rfl⟩
  rw [← hbw]
  replace hbw : Hid _ := hbw
  obtain ⟨W7, hW7⟩ : ∃ W7, W7 = w7.alloc (.cells #[.bool mi, .slice ri li oi] 24) := ⟨_, rfl⟩
  have hb8 : Below w7.heap.size w7 W7 := by rw [hW7]; exact (Below.refl _ _).alloc (Nat.le_refl _) _
  have o0 : W7.cell? ⟨w7.heap.size, 0, none⟩ = some (.bool mi) := by rw [hW7]; simp [go_sem]
  have o1 : W7.cell? ⟨w7.heap.size, 1, none⟩ = some (.slice ri li oi) := by rw [hW7]; simp [go_sem]
  have hbx := bthen hb7 hb8
  replace a0 := keep_cell hbx a0
  replace a1 := keep_cell hbx a1
  replace a2 := keep_cell hbx a2
  replace a3 := keep_cell hbx a3
  replace b0 := keep_cell hbx b0
  replace b1 := keep_cell hbx b1
  replace b2 := keep_cell hbx b2
  replace b3 := keep_cell hbx b3
  replace x0 := keep_cell hbx x0
  replace x1 := keep_cell hbx x1
  replace x2 := keep_cell hbx x2
  replace x3 := keep_cell hbx x3
  replace y0 := keep_cell hbx y0
  replace y1 := keep_cell hbx y1
  replace y2 := keep_cell hbx y2
  replace y3 := keep_cell hbx y3
  replace qA := qA.next hbx
  replace qB := qB.next hbx
  replace qX := qX.next hbx
  replace qY := qY.next hbx
  replace hBc := bthen hBc hbx
  have hI1' := fun h => (hI1 h).next hb8
  replace hI1' : Hid _ := hI1'
  replace hI0 : Hid _ := hI0
  replace hli : Hid _ := hli
  clear hI1
  go_upto_region 11 with fail
  rw [← hW7]
  clear hW7 hb7 hb8 hbx
  generalize w7.heap.size = g10 at *
  go_cut [78] from 12 (fun v wc => v = .bool false ∧ Below W7.heap.size W7 wc)
  case first =>
   have kI := IsInt_num qX hl.1 (by decide)
   replace kI : Hid _ := kI
   by_cases hq : q = 1
   · have hm0 : (pN n d).tmod (pD d) = 0 := hli.out.1.2 hq
     have hb1 : bw = true := by rw [hbw.out]; simpa using hm0
     have hO := hI1'.out hm0
     rw [hli.out.2 hq] at hO
     have e1 : decide (q = 1) = true := by simpa using hq
     rw [e1] at kI
     clear hli hbw hI0 hI1' hm0 e1 hq
     subst hb1
     go_wp2_with fail
     refine Calls.mono kI.out ?_
     rintro e w8 ⟨rfl, hb8⟩
     clear kI
     have kS := Is_num (hO.next hb8) (qX.parts.1.next hb8) (by decide) (by decide)
     rw [decide_eq_true rfl] at kS
     replace kS : Hid _ := kS
     have o0' := keep_cell hb8 o0
     have o1' := keep_cell hb8 o1
     have x0' := keep_cell hb8 x0
     have x1' := keep_cell hb8 x1
     go_wp2_with fail
     refine Calls.mono kS.out ?_
     rintro e w9 ⟨rfl, hb9⟩
     clear kS
     have hb89 := bthen hb8 hb9
     clear hb8 hb9 o0' o1' x0' x1' hO
     go_wp2
     go_meet
     case rel => exact ⟨rfl, hb89⟩
   · have hm0 : ¬ ((pN n d).tmod (pD d) = 0) := fun e => hq (hli.out.1.1 e)
     have hb1 : bw = false := by rw [hbw.out]; simpa using hm0
     have hO := hI0.out hm0
     simp at hO
     obtain ⟨rfl, rfl, rfl, rfl⟩ := hO
     have e1 : decide (q = 1) = false := by simpa using hq
     rw [e1] at kI
     clear hli hbw hI0 hI1' hm0 e1 hq
     subst hb1
     go_wp2_with fail
     refine Calls.mono kI.out ?_
     rintro e w8 ⟨rfl, hb8⟩
     clear kI
     have o0' := keep_cell hb8 o0
     have o1' := keep_cell hb8 o1
     go_wp2
     go_meet
     case rel => exact ⟨rfl, hb8⟩
  case rest =>
  obtain ⟨rfl, hb9⟩ := hcut
  clear hli hbw hI0 hI1' o0 o1
  generalize wc = W9 at *
  replace a0 := keep_cell hb9 a0
  replace a1 := keep_cell hb9 a1
  replace a2 := keep_cell hb9 a2
  replace a3 := keep_cell hb9 a3
  replace b0 := keep_cell hb9 b0
  replace b1 := keep_cell hb9 b1
  replace b2 := keep_cell hb9 b2
  replace b3 := keep_cell hb9 b3
  replace x0 := keep_cell hb9 x0
  replace x1 := keep_cell hb9 x1
  replace x2 := keep_cell hb9 x2
  replace x3 := keep_cell hb9 x3
  replace y0 := keep_cell hb9 y0
  replace y1 := keep_cell hb9 y1
  replace y2 := keep_cell hb9 y2
  replace y3 := keep_cell hb9 y3
  replace qA := qA.next hb9
  replace qB := qB.next hb9
  replace qX := qX.next hb9
  replace qY := qY.next hb9
  replace hBc := bthen hBc hb9
  clear hb9
  obtain ⟨ds, hds⟩ := decs_of p
  obtain ⟨es, hes⟩ := decs_of q
  have hqq : q * q2 ≠ 0 := Int.mul_ne_zero (by have := hl.1; omega) (by have := hl2.1; omega)
  have hdl : ds.length ≤ 10000 := by
    have := hds.len (m := 13) (Int.lt_of_lt_of_le (Rint.bound qX.parts.1) (pow_le_left (by decide) (by decide) 13))
    omega
  have hel : es.length ≤ 10000 := by
    have := hes.len (m := 13) (Int.lt_of_lt_of_le (Rint.bound qX.parts.2) (pow_le_left (by decide) (by decide) 13))
    omega
  have kT1 : Hid (∀ w', Below W9.heap.size W9 w' → Calls Tryz.prog 26 #[.agg #[.bool ma, .slice ra la oa, .bool ma2, .slice ra2 la2 oa2]] w' fun e w'' => e = .returned (.string (txt (decide (p < 0)) ds ++ { data := #[47] } ++ txt (decide (q < 0)) es)) ∧ Below w'.heap.size w' w'') := fun w' h => Text26_said (qA.next h) (by decide) hl hds hes
  have kT2 : Hid (∀ w', Below W9.heap.size W9 w' → Calls Tryz.prog 27 #[.agg #[.bool mx, .slice rx lx ox, .bool mx2, .slice rx2 lx2 ox2]] w' fun e w'' => e = .returned (.string (txt (decide (p < 0)) ds ++ { data := #[47] } ++ txt (decide (q < 0)) es)) ∧ Below w'.heap.size w' w'') := fun w' h => TextRat_num (qX.next h) hds hes (by decide) hdl hel
  generalize txt (decide (p < 0)) ds ++ { data := #[47] } ++ txt (decide (q < 0)) es = S at *
  clear hds hes hdl hel
  go_upto_region 13 with fail
  refine wp_region_typed (s13V w.heap.size (w.heap.size + 1) g6 g7 (.agg #[.bool ma, .slice ra la oa, .bool ma2, .slice ra2 la2 oa2]) (.agg #[.bool mb, .slice rb lb ob, .bool mb2, .slice rb2 lb2 ob2]) (.agg #[.bool mx, .slice rx lx ox, .bool mx2, .slice rx2 lx2 ox2]) (.agg #[.bool my, .slice ry ly oy, .bool my2, .slice ry2 ly2 oy2]) n d n' d' p q p2 q2 S) [2, 3, 5, 6, 7] 130 (by kernel_rfl) (by kernel_rfl) rfl (s13V_next _ _ _ _ _ _ _ _ _ _ _ _ _ _ _ _ _) ?hstart ?hstep ?hend
  case hstart =>
   intro t ht
   simp only [List.mem_cons, List.not_mem_nil, or_false] at ht
   rcases ht with rfl | rfl | rfl | rfl | rfl <;> rfl
  case hstep =>
   refine steps_cons ?s0 (steps_cons ?s1 (steps_cons ?s2 (steps_cons ?s3 (steps_cons ?s4 (steps_cons ?s5 (steps_cons ?s6 (steps_cons ?s7 (steps_cons ?s8 (steps_cons ?s9 (steps_cons ?s10 (steps_cons ?s11 (steps_cons ?s12 (steps_cons ?s13 (steps_cons ?s14 (steps_cons ?s15 (steps_cons ?s16 (steps_cons ?s17 (steps_cons ?s18 (steps_cons ?s19 (steps_cons ?s20 (steps_cons ?s21 (steps_cons ?s22 (steps_cons ?s23 (steps_cons ?s24 (steps_cons ?s25 (steps_cons ?s26 (steps_cons ?s27 (steps_cons ?s28 (steps_cons ?s29 (steps_cons ?s30 (steps_cons ?s31 (steps_cons ?s32 (steps_cons ?s33 (steps_cons ?s34 (steps_cons ?s35 (steps_cons ?s36 (steps_cons ?s37 (steps_cons ?s38 (steps_cons ?s39 (steps_cons ?s40 (steps_cons ?s41 (steps_cons ?s42 (steps_cons ?s43 (steps_cons ?s44 (steps_cons ?s45 (steps_cons ?s46 (steps_cons ?s47 (steps_cons ?s48 (steps_cons ?s49 (steps_cons ?s50 (steps_cons ?s51 (steps_nil))))))))))))))))))))))))))))))))))))))))))))))))))))
   case s0 => exact step_move 5 79 rfl rfl (guard_none rfl) (by kernel_rfl) (fun v w h => h)
   case s1 => exact step_move 79 80 rfl rfl (guard_none rfl) (by kernel_rfl) (fun v w h => h)
   case s2 => exact StepOk.of (guard_true 1 80 rfl (by kernel_rfl) (by kernel_rfl) (fun v w h => h)) fun b w' hsz hW hl K hK => ld26 (keep_cell hW a0) (keep_cell hW a1) (keep_cell hW a2) (keep_cell hW a3) 2 rfl (look hl 2 (by kernel_rfl)) (hK _ _ (Below.refl _ _) (dst_eq rfl rfl))
   case s3 => exact StepOk.of (guard_true 1 80 rfl (by kernel_rfl) (by kernel_rfl) (fun v w h => h)) fun b w' hsz hW hl K hK => ld26 (keep_cell hW b0) (keep_cell hW b1) (keep_cell hW b2) (keep_cell hW b3) 3 rfl (look hl 3 (by kernel_rfl)) (hK _ _ (Below.refl _ _) (dst_eq rfl rfl))
   case s4 => exact step_call2 16 81 82 83 _ (by kernel_rfl) rfl rfl (guard_true 1 80 rfl (by kernel_rfl) (by kernel_rfl) (fun v w h => h)) (by kernel_rfl) (by kernel_rfl) (fun u v w' hB' hu hv => by subst hu; subst hv; exact Add26_num (qA.next hB') (qB.next hB') (by decide))
   case s5 => exact StepOk.of (guard_true 1 80 rfl (by kernel_rfl) (by kernel_rfl) (fun v w h => h)) fun b w' hsz hW hl K hK => ld34 (keep_cell hW x0) (keep_cell hW x1) (keep_cell hW x2) (keep_cell hW x3) 6 rfl (look hl 6 (by kernel_rfl)) (hK _ _ (Below.refl _ _) (dst_eq rfl rfl))
   case s6 => exact StepOk.of (guard_true 1 80 rfl (by kernel_rfl) (by kernel_rfl) (fun v w h => h)) fun b w' hsz hW hl K hK => ld34 (keep_cell hW y0) (keep_cell hW y1) (keep_cell hW y2) (keep_cell hW y3) 7 rfl (look hl 7 (by kernel_rfl)) (hK _ _ (Below.refl _ _) (dst_eq rfl rfl))
   case s7 => exact step_call2 17 84 85 86 _ (by kernel_rfl) rfl rfl (guard_true 1 80 rfl (by kernel_rfl) (by kernel_rfl) (fun v w h => h)) (by kernel_rfl) (by kernel_rfl) (fun u v w' hB' hu hv => by subst hu; subst hv; exact AddRat_num (qX.next hB') (qY.next hB') (by decide) hqq)
   case s8 => exact step_call2 10 83 86 87 _ (by kernel_rfl) rfl rfl (guard_true 1 80 rfl (by kernel_rfl) (by kernel_rfl) (fun v w h => h)) (by kernel_rfl) (by kernel_rfl) (fun u v w' hB' hu hv => (is_add hl hl2 hu hv (by decide) (by decide)).mono fun e w'' h => ⟨_, h.1, rfl, h.2⟩)
   case s9 => exact step_pick 80 87 88 (.const (.bool false)) rfl rfl (guard_none rfl) (by kernel_rfl) (by kernel_rfl) (fun v w h => h) (fun v w h => h)
   case s10 => exact step_move 88 89 rfl rfl (guard_none rfl) (by kernel_rfl) (fun v w h => h)
   case s11 => exact StepOk.of (guard_true 10 89 rfl (by kernel_rfl) (by kernel_rfl) (fun v w h => h)) fun b w' hsz hW hl K hK => ld26 (keep_cell hW a0) (keep_cell hW a1) (keep_cell hW a2) (keep_cell hW a3) 2 rfl (look hl 2 (by kernel_rfl)) (hK _ _ (Below.refl _ _) (dst_eq rfl rfl))
   case s12 => exact StepOk.of (guard_true 10 89 rfl (by kernel_rfl) (by kernel_rfl) (fun v w h => h)) fun b w' hsz hW hl K hK => ld26 (keep_cell hW b0) (keep_cell hW b1) (keep_cell hW b2) (keep_cell hW b3) 3 rfl (look hl 3 (by kernel_rfl)) (hK _ _ (Below.refl _ _) (dst_eq rfl rfl))
   case s13 => exact step_call2 18 90 91 92 _ (by kernel_rfl) rfl rfl (guard_true 10 89 rfl (by kernel_rfl) (by kernel_rfl) (fun v w h => h)) (by kernel_rfl) (by kernel_rfl) (fun u v w' hB' hu hv => by subst hu; subst hv; exact Sub26_num (qA.next hB') (qB.next hB') (by decide))
   case s14 => exact StepOk.of (guard_true 10 89 rfl (by kernel_rfl) (by kernel_rfl) (fun v w h => h)) fun b w' hsz hW hl K hK => ld34 (keep_cell hW x0) (keep_cell hW x1) (keep_cell hW x2) (keep_cell hW x3) 6 rfl (look hl 6 (by kernel_rfl)) (hK _ _ (Below.refl _ _) (dst_eq rfl rfl))
   case s15 => exact StepOk.of (guard_true 10 89 rfl (by kernel_rfl) (by kernel_rfl) (fun v w h => h)) fun b w' hsz hW hl K hK => ld34 (keep_cell hW y0) (keep_cell hW y1) (keep_cell hW y2) (keep_cell hW y3) 7 rfl (look hl 7 (by kernel_rfl)) (hK _ _ (Below.refl _ _) (dst_eq rfl rfl))
   case s16 => exact step_call2 19 93 94 95 _ (by kernel_rfl) rfl rfl (guard_true 10 89 rfl (by kernel_rfl) (by kernel_rfl) (fun v w h => h)) (by kernel_rfl) (by kernel_rfl) (fun u v w' hB' hu hv => by subst hu; subst hv; exact SubRat_num (qX.next hB') (qY.next hB') (by decide) hqq)
   case s17 => exact step_call2 10 92 95 96 _ (by kernel_rfl) rfl rfl (guard_true 10 89 rfl (by kernel_rfl) (by kernel_rfl) (fun v w h => h)) (by kernel_rfl) (by kernel_rfl) (fun u v w' hB' hu hv => (is_sub hl hl2 hu hv (by decide) (by decide)).mono fun e w'' h => ⟨_, h.1, rfl, h.2⟩)
   case s18 => exact step_pick 89 96 97 (.const (.bool false)) rfl rfl (guard_none rfl) (by kernel_rfl) (by kernel_rfl) (fun v w h => h) (fun v w h => h)
   case s19 => exact step_move 97 98 rfl rfl (guard_none rfl) (by kernel_rfl) (fun v w h => h)
   case s20 => exact StepOk.of (guard_true 19 98 rfl (by kernel_rfl) (by kernel_rfl) (fun v w h => h)) fun b w' hsz hW hl K hK => ld26 (keep_cell hW a0) (keep_cell hW a1) (keep_cell hW a2) (keep_cell hW a3) 2 rfl (look hl 2 (by kernel_rfl)) (hK _ _ (Below.refl _ _) (dst_eq rfl rfl))
   case s21 => exact StepOk.of (guard_true 19 98 rfl (by kernel_rfl) (by kernel_rfl) (fun v w h => h)) fun b w' hsz hW hl K hK => ld26 (keep_cell hW b0) (keep_cell hW b1) (keep_cell hW b2) (keep_cell hW b3) 3 rfl (look hl 3 (by kernel_rfl)) (hK _ _ (Below.refl _ _) (dst_eq rfl rfl))
   case s22 => exact step_call2 20 99 100 101 _ (by kernel_rfl) rfl rfl (guard_true 19 98 rfl (by kernel_rfl) (by kernel_rfl) (fun v w h => h)) (by kernel_rfl) (by kernel_rfl) (fun u v w' hB' hu hv => by subst hu; subst hv; exact Mul26_num (qA.next hB') (qB.next hB') (by decide))
   case s23 => exact StepOk.of (guard_true 19 98 rfl (by kernel_rfl) (by kernel_rfl) (fun v w h => h)) fun b w' hsz hW hl K hK => ld34 (keep_cell hW x0) (keep_cell hW x1) (keep_cell hW x2) (keep_cell hW x3) 6 rfl (look hl 6 (by kernel_rfl)) (hK _ _ (Below.refl _ _) (dst_eq rfl rfl))
   case s24 => exact StepOk.of (guard_true 19 98 rfl (by kernel_rfl) (by kernel_rfl) (fun v w h => h)) fun b w' hsz hW hl K hK => ld34 (keep_cell hW y0) (keep_cell hW y1) (keep_cell hW y2) (keep_cell hW y3) 7 rfl (look hl 7 (by kernel_rfl)) (hK _ _ (Below.refl _ _) (dst_eq rfl rfl))
   case s25 => exact step_call2 21 102 103 104 _ (by kernel_rfl) rfl rfl (guard_true 19 98 rfl (by kernel_rfl) (by kernel_rfl) (fun v w h => h)) (by kernel_rfl) (by kernel_rfl) (fun u v w' hB' hu hv => by subst hu; subst hv; exact MulRat_num (qX.next hB') (qY.next hB') (by decide) hqq)
   case s26 => exact step_call2 10 101 104 105 _ (by kernel_rfl) rfl rfl (guard_true 19 98 rfl (by kernel_rfl) (by kernel_rfl) (fun v w h => h)) (by kernel_rfl) (by kernel_rfl) (fun u v w' hB' hu hv => (is_mul hl hl2 hu hv (by decide) (by decide)).mono fun e w'' h => ⟨_, h.1, rfl, h.2⟩)
   case s27 => exact step_pick 98 105 106 (.const (.bool false)) rfl rfl (guard_none rfl) (by kernel_rfl) (by kernel_rfl) (fun v w h => h) (fun v w h => h)
   case s28 => exact step_move 106 107 rfl rfl (guard_none rfl) (by kernel_rfl) (fun v w h => h)
   case s29 => exact StepOk.of (guard_true 28 107 rfl (by kernel_rfl) (by kernel_rfl) (fun v w h => h)) fun b w' hsz hW hl K hK => ld26 (keep_cell hW a0) (keep_cell hW a1) (keep_cell hW a2) (keep_cell hW a3) 2 rfl (look hl 2 (by kernel_rfl)) (hK _ _ (Below.refl _ _) (dst_eq rfl rfl))
   case s30 => exact step_call1 22 108 109 _ (by kernel_rfl) rfl rfl (guard_true 28 107 rfl (by kernel_rfl) (by kernel_rfl) (fun v w h => h)) (by kernel_rfl) (fun v w' hB' hv => by subst hv; exact Neg26_num (qA.next hB') (by decide))
   case s31 => exact StepOk.of (guard_true 28 107 rfl (by kernel_rfl) (by kernel_rfl) (fun v w h => h)) fun b w' hsz hW hl K hK => ld34 (keep_cell hW x0) (keep_cell hW x1) (keep_cell hW x2) (keep_cell hW x3) 6 rfl (look hl 6 (by kernel_rfl)) (hK _ _ (Below.refl _ _) (dst_eq rfl rfl))
   case s32 => exact step_call1 23 110 111 _ (by kernel_rfl) rfl rfl (guard_true 28 107 rfl (by kernel_rfl) (by kernel_rfl) (fun v w h => h)) (by kernel_rfl) (fun v w' hB' hv => by subst hv; exact NegRat_num (qX.next hB'))
   case s33 => exact step_call2 10 109 111 112 _ (by kernel_rfl) rfl rfl (guard_true 28 107 rfl (by kernel_rfl) (by kernel_rfl) (fun v w h => h)) (by kernel_rfl) (by kernel_rfl) (fun u v w' hB' hu hv => (is_neg hl hu hv (by decide) (by decide)).mono fun e w'' h => ⟨_, h.1, rfl, h.2⟩)
   case s34 => exact step_pick 107 112 113 (.const (.bool false)) rfl rfl (guard_none rfl) (by kernel_rfl) (by kernel_rfl) (fun v w h => h) (fun v w h => h)
   case s35 => exact step_move 113 114 rfl rfl (guard_none rfl) (by kernel_rfl) (fun v w h => h)
   case s36 => exact StepOk.of (guard_true 35 114 rfl (by kernel_rfl) (by kernel_rfl) (fun v w h => h)) fun b w' hsz hW hl K hK => ld26 (keep_cell hW a0) (keep_cell hW a1) (keep_cell hW a2) (keep_cell hW a3) 2 rfl (look hl 2 (by kernel_rfl)) (hK _ _ (Below.refl _ _) (dst_eq rfl rfl))
   case s37 => exact StepOk.of (guard_true 35 114 rfl (by kernel_rfl) (by kernel_rfl) (fun v w h => h)) fun b w' hsz hW hl K hK => ld26 (keep_cell hW b0) (keep_cell hW b1) (keep_cell hW b2) (keep_cell hW b3) 3 rfl (look hl 3 (by kernel_rfl)) (hK _ _ (Below.refl _ _) (dst_eq rfl rfl))
   case s38 => exact step_call2 24 115 116 117 _ (by kernel_rfl) rfl rfl (guard_true 35 114 rfl (by kernel_rfl) (by kernel_rfl) (fun v w h => h)) (by kernel_rfl) (by kernel_rfl) (fun u v w' hB' hu hv => by subst hu; subst hv; have k := Cmp26_num (qA.next hB') (qB.next hB') (by decide); rw [cmp_same hl hl2] at k; exact k.mono fun e w'' h => ⟨_, h.1, rfl, h.2⟩)
   case s39 => exact StepOk.of (guard_true 35 114 rfl (by kernel_rfl) (by kernel_rfl) (fun v w h => h)) fun b w' hsz hW hl K hK => ld34 (keep_cell hW x0) (keep_cell hW x1) (keep_cell hW x2) (keep_cell hW x3) 6 rfl (look hl 6 (by kernel_rfl)) (hK _ _ (Below.refl _ _) (dst_eq rfl rfl))
   case s40 => exact StepOk.of (guard_true 35 114 rfl (by kernel_rfl) (by kernel_rfl) (fun v w h => h)) fun b w' hsz hW hl K hK => ld34 (keep_cell hW y0) (keep_cell hW y1) (keep_cell hW y2) (keep_cell hW y3) 7 rfl (look hl 7 (by kernel_rfl)) (hK _ _ (Below.refl _ _) (dst_eq rfl rfl))
   case s41 => exact step_call2 25 118 119 120 _ (by kernel_rfl) rfl rfl (guard_true 35 114 rfl (by kernel_rfl) (by kernel_rfl) (fun v w h => h)) (by kernel_rfl) (by kernel_rfl) (fun u v w' hB' hu hv => by subst hu; subst hv; exact (CmpRat_num (qX.next hB') (qY.next hB') (by decide)).mono fun e w'' h => ⟨_, h.1, rfl, h.2⟩)
   case s42 => 
    refine StepOk.of (guard_true 35 114 rfl (by kernel_rfl) (by kernel_rfl) (fun v w h => h)) fun b w' hsz hW hl' K hK => ?_
    clear hsz
    unfold Oper.wp
    have e117 : b.tmps[117]?.getD undef = .int .i64 (cmpI (p * q2) (p2 * q)) := getD' (look hl' 117 (by kernel_rfl))
    have e120 : b.tmps[120]?.getD undef = .int .i64 (cmpI (p * q2) (p2 * q)) := getD' (look hl' 120 (by kernel_rfl))
    go_simp
    exact hK _ _ (Below.refl _ _) (dst_eq rfl rfl)
   case s43 => exact step_pick 114 121 122 (.const (.bool false)) rfl rfl (guard_none rfl) (by kernel_rfl) (by kernel_rfl) (fun v w h => h) (fun v w h => h)
   case s44 => exact step_move 122 123 rfl rfl (guard_none rfl) (by kernel_rfl) (fun v w h => h)
   case s45 => exact StepOk.of (guard_true 44 123 rfl (by kernel_rfl) (by kernel_rfl) (fun v w h => h)) fun b w' hsz hW hl K hK => ld26 (keep_cell hW a0) (keep_cell hW a1) (keep_cell hW a2) (keep_cell hW a3) 2 rfl (look hl 2 (by kernel_rfl)) (hK _ _ (Below.refl _ _) (dst_eq rfl rfl))
   case s46 => exact step_call1 26 124 125 _ (by kernel_rfl) rfl rfl (guard_true 44 123 rfl (by kernel_rfl) (by kernel_rfl) (fun v w h => h)) (by kernel_rfl) (fun v w' hB' hv => by subst hv; exact (kT1.out _ hB').mono fun e w'' h => ⟨_, h.1, rfl, h.2⟩)
   case s47 => exact StepOk.of (guard_true 44 123 rfl (by kernel_rfl) (by kernel_rfl) (fun v w h => h)) fun b w' hsz hW hl K hK => ld34 (keep_cell hW x0) (keep_cell hW x1) (keep_cell hW x2) (keep_cell hW x3) 6 rfl (look hl 6 (by kernel_rfl)) (hK _ _ (Below.refl _ _) (dst_eq rfl rfl))
   case s48 => exact step_call1 27 126 127 _ (by kernel_rfl) rfl rfl (guard_true 44 123 rfl (by kernel_rfl) (by kernel_rfl) (fun v w h => h)) (by kernel_rfl) (fun v w' hB' hv => by subst hv; exact (kT2.out _ hB').mono fun e w'' h => ⟨_, h.1, rfl, h.2⟩)
   case s49 => 
    refine StepOk.of (guard_true 44 123 rfl (by kernel_rfl) (by kernel_rfl) (fun v w h => h)) fun b w' hsz hW hl' K hK => ?_
    clear hsz
    unfold Oper.wp
    have e125 : b.tmps[125]?.getD undef = .string S := getD' (look hl' 125 (by kernel_rfl))
    have e127 : b.tmps[127]?.getD undef = .string S := getD' (look hl' 127 (by kernel_rfl))
    go_simp
    exact hK _ _ (Below.refl _ _) (dst_eq rfl rfl)
   case s50 => exact step_pick 123 128 129 (.const (.bool false)) rfl rfl (guard_none rfl) (by kernel_rfl) (by kernel_rfl) (fun v w h => h) (fun v w h => h)
   case s51 => exact step_assign 129 4 rfl rfl (guard_none rfl) (by kernel_rfl) (fun v w h => h)
  case hend =>
   intro b w' hs hd hW hv
   have h0 : b.tmps.getD 4 undef = .bool true := hv 4 (.inr ⟨51, _, rfl, rfl⟩)
   rw [Array.getD_eq_getD_getElem?] at h0
   go_wp2
   exact bodyPost_ret (v := .bool true) (by simp [results, Tryz.results3, go_sem, h0]) hd ⟨rfl, bthen hBc hW⟩
end Go.Proofs.YthiiglhecajhbaaGreat
