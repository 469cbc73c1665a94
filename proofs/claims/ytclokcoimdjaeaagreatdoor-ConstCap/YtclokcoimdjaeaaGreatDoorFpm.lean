/- Blocks in which no digits lie; boxes of numbers and of fractions. -/
import Derived.Test.YtclokcoimdjaeaaGreatDoorNum
namespace Go.Proofs.YtclokcoimdjaeaaGreatDoor
open Go.RowKit
/-- A value that is no integer. -/
def notInt (u : Value) : Prop := ∀ k z, u ≠ .int k z
theorem notInt_bool (b : Bool) : notInt (.bool b) := fun _ _ h => by cases h
theorem notInt_slice (a : Option Addr) (l c : Nat) : notInt (.slice a l c) := fun _ _ h => by cases h
/-- Block b holds no integers, and is no row of words: no digits lie there. -/
def NoInt (w : World) (b : Nat) : Prop := ∃ cur T fr, w.heap[b]? = some (.cells cur T fr) ∧ T ≠ 139 ∧ ∀ (i : Nat) (u : Value), cur[i]? = some u → notInt u
section
variable {w w' : World} {b : Nat}
theorem NoInt.lt (h : NoInt w b) : b < w.heap.size := by
  obtain ⟨cur, T, fr, h, _⟩ := h
  by_cases hg : b < w.heap.size
  · exact hg
  · rw [Array.getElem?_eq_none (by omega)] at h; cases h
theorem NoInt.apart (h : NoInt w b) {k : IntKind} {B : Int} {x : Addr} {cap : Nat} {ds : List Int} (hr : Row w k B (some x) cap ds) (hne : ds ≠ []) : x.block ≠ b := by
  obtain ⟨cur, T, fr, h, _, hc⟩ := h
  intro e
  have h1 := hr.cell x rfl 0 (List.length_pos_iff.2 hne)
  unfold World.cell? at h1
  rw [add_block, e, h] at h1
  simp only at h1
  split at h1
  · cases h1
  · exact hc _ _ h1 _ _ rfl
theorem NoInt.same (h : NoInt w b) (e : w'.heap[b]? = w.heap[b]?) : NoInt w' b := by
  obtain ⟨cur, T, fr, h, r⟩ := h
  exact ⟨cur, T, fr, e.trans h, r⟩
theorem NoInt.next (h : NoInt w b) (hb : Below w.heap.size w w') : NoInt w' b := h.same (hb.block b h.lt)
theorem NoInt.alloc (h : NoInt w b) (o : Obj) : NoInt (w.alloc o) b := h.next ((Below.refl _ _).alloc (Nat.le_refl _) _)
theorem NoInt.set (h : NoInt w b) (g o : Nat) (u : Value) (hu : notInt u) : NoInt (w.setCell ⟨g, o, none⟩ u) b := by
  by_cases e : g = b
  · subst e
    obtain ⟨cur, T, fr, h, hT, hc⟩ := h
    refine ⟨cur.setIfInBounds o u, T, fr, ?_, hT, fun i v hv => ?_⟩
    · simp [World.setCell, Array.getElem?_modify, h]
    · rw [Array.getElem?_setIfInBounds] at hv
      split at hv
      · split at hv
        · cases hv; exact hu
        · cases hv
      · exact hc i v hv
  · exact h.same (Below.heap_setCell _ _ _ _ (Ne.symm e))
theorem NoInt.new (w : World) (cur : Array Value) (T : TypeId) (hT : T ≠ 139) (hc : ∀ (i : Nat) (u : Value), cur[i]? = some u → notInt u) : NoInt (w.alloc (.cells cur T)) w.heap.size :=
  ⟨cur, T, (0, 0), by show (w.heap.push _)[w.heap.size]? = _; simp, hT, hc⟩
theorem two_notInt {u v : Value} (hu : notInt u) (hv : notInt v) : ∀ (i : Nat) (x : Value), (#[u, v] : Array Value)[i]? = some x → notInt x := by
  intro i x h
  match i, h with
  | 0, h => simp at h; subst h; exact hu
  | 1, h => simp at h; subst h; exact hv
  | n + 2, h => simp at h
theorem four_notInt {u v u' v' : Value} (hu : notInt u) (hv : notInt v) (hu' : notInt u') (hv' : notInt v') : ∀ (i : Nat) (x : Value), (#[u, v, u', v'] : Array Value)[i]? = some x → notInt x := by
  intro i x h
  match i, h with
  | 0, h => simp at h; subst h; exact hu
  | 1, h => simp at h; subst h; exact hv
  | 2, h => simp at h; subst h; exact hu'
  | 3, h => simp at h; subst h; exact hv'
  | n + 4, h => simp at h
theorem Row.noint {k : IntKind} {B : Int} {a : Option Addr} {cap : Nat} {ds : List Int} (h : Row w k B a cap ds) {p : Addr} (hb : NoInt w p.block) (u : Value) : Row (w.setCell p u) k B a cap ds := by
  refine ⟨h.le, h.max, h.nil, fun x hx i hi => keep_set (h.cell x hx i hi) ?_, h.words⟩
  rw [add_block]
  subst hx
  exact Ne.symm (hb.apart h (by intro e; subst e; simp at hi))
theorem Num.noint {v : Value} {z : Int} {n : Nat} (h : Num w v z n) {p : Addr} (hb : NoInt w p.block) (u : Value) : Num (w.setCell p u) v z n := by
  obtain ⟨neg, a, cap, ds, hv, hr, r⟩ := h
  exact ⟨neg, a, cap, ds, hv, hr.noint hb u, r⟩
theorem Own.noint {base : Nat} {k : IntKind} {B : Int} {a : Option Addr} {cap : Nat} {zs : List Int} (h : Own w base k 139 B a cap zs) {p : Addr} (hb : NoInt w p.block) (u : Value) : Own (w.setCell p u) base k 139 B a cap zs := by
  obtain ⟨hw, h | ⟨g, ha, hg, hbl⟩⟩ := h
  · exact ⟨hw, .inl h⟩
  · refine ⟨hw, .inr ⟨g, ha, hg, hbl.other p u fun e => ?_⟩⟩
    obtain ⟨cur, h1, _⟩ := hbl
    obtain ⟨cur', T, fr, h2, hT, _⟩ := hb
    rw [e, h1] at h2
    simp at h2
    exact hT h2.2.1.symm
theorem OutE.noint {v : Value} {z : Int} {n : Nat} (h : OutE w v z n) {p : Addr} (hb : NoInt w p.block) (u : Value) : OutE (w.setCell p u) v z n := by
  obtain ⟨base, neg, a, cap, ds, hv, hr, r⟩ := h
  exact ⟨base, neg, a, cap, ds, hv, hr.noint hb u, r⟩
theorem Num.alloc {v : Value} {z : Int} {n : Nat} (h : Num w v z n) (o : Obj) : Num (w.alloc o) v z n := h.next ((Below.refl _ _).alloc (Nat.le_refl _) _)
theorem OutE.alloc {v : Value} {z : Int} {n : Nat} (h : OutE w v z n) (o : Obj) : OutE (w.alloc o) v z n := h.next ((Below.refl _ _).alloc (Nat.le_refl _) _)
end
theorem HasBits.zero {v : Int} (hv : 0 ≤ v) {L : Nat} (h : HasBits v L) : L = 0 ↔ v = 0 := by
  constructor
  · intro e; subst e
    have := h.1
    simp at this
    omega
  · intro e
    rcases h.2 with h2 | h2
    · exact h2
    · have := pow_pos' (B := 2) (by decide) (L - 1)
      omega
theorem isZero_num {w : World} {u : Value} {y : Int} {m : Nat} (hu : Num w u y m) (hm : m ≤ 1000) :
    Calls Tryz.prog 165 #[u] w fun e w' => e = .returned (.bool (decide (y = 0))) ∧ Below w.heap.size w w' := by
  obtain ⟨na, a, l, c, rfl⟩ := hu.form
  have hbW : Below w.heap.size w (w.alloc (.cells #[.bool na, .slice a l c] 28)) := (Below.refl _ _).alloc (Nat.le_refl _) _
  go_enter Tryz.func165, Tryz.ntmps165
  go_wp2_with fail
  refine (Bits_num (hu.next hbW) hm).mono ?_
  rintro e w1 ⟨L, rfl, hL, hb1⟩
  have hz := hL.zero (by omega)
  by_cases h0 : y = 0
  · have hL0 : L = 0 := hz.2 (by omega)
    subst hL0
    have hd : Hid (decide (y = 0) = true) := by show _ = _; simpa using h0
    clear hz hL
    go_wp2
    go_ret
    exact ⟨by rw [hd.out]; rfl, bthen hbW hb1⟩
  · have hL0 : L ≠ 0 := fun e => h0 (by have := hz.1 e; omega)
    have hd : Hid (decide (y = 0) = false) := by show _ = _; simpa using h0
    have hLb : ((L : Int) == 0) = false := by simp; exact hL0
    clear hz hL h0
    go_wp2
    go_ret
    exact ⟨by rw [hd.out]; rfl, bthen hbW hb1⟩
/-- A fraction that is handed in: n over d. -/
def Frac (w : World) (v : Value) (n d : Int) (m : Nat) : Prop :=
  ∃ n1 a1 l1 c1 n2 a2 l2 c2, v = .agg #[.bool n1, .slice a1 l1 c1, .bool n2, .slice a2 l2 c2] ∧ Num w (.agg #[.bool n1, .slice a1 l1 c1]) n m ∧ Num w (.agg #[.bool n2, .slice a2 l2 c2]) d m
/-- A fraction that is an answer. -/
def FracE (w : World) (v : Value) (n d : Int) (m : Nat) : Prop :=
  ∃ n1 a1 l1 c1 n2 a2 l2 c2, v = .agg #[.bool n1, .slice a1 l1 c1, .bool n2, .slice a2 l2 c2] ∧ OutE w (.agg #[.bool n1, .slice a1 l1 c1]) n m ∧ OutE w (.agg #[.bool n2, .slice a2 l2 c2]) d m
theorem FracE.frac {w : World} {v : Value} {n d : Int} {m : Nat} (h : FracE w v n d m) : Frac w v n d m := by
  obtain ⟨n1, a1, l1, c1, n2, a2, l2, c2, hv, h1, h2⟩ := h
  exact ⟨n1, a1, l1, c1, n2, a2, l2, c2, hv, h1.num, h2.num⟩
theorem Frac.next {w w' : World} {v : Value} {n d : Int} {m : Nat} (h : Frac w v n d m) (hb : Below w.heap.size w w') : Frac w' v n d m := by
  obtain ⟨n1, a1, l1, c1, n2, a2, l2, c2, hv, h1, h2⟩ := h
  exact ⟨n1, a1, l1, c1, n2, a2, l2, c2, hv, h1.next hb, h2.next hb⟩
theorem FracE.next {w w' : World} {v : Value} {n d : Int} {m : Nat} (h : FracE w v n d m) (hb : Below w.heap.size w w') : FracE w' v n d m := by
  obtain ⟨n1, a1, l1, c1, n2, a2, l2, c2, hv, h1, h2⟩ := h
  exact ⟨n1, a1, l1, c1, n2, a2, l2, c2, hv, h1.next hb, h2.next hb⟩
theorem box4 (w : World) (m1 : Bool) (a1 : Option Addr) (l1 c1 : Nat) (m2 : Bool) (a2 : Option Addr) (l2 c2 : Nat) : ∃ W, W = w.alloc (.cells #[.bool m1, .slice a1 l1 c1, .bool m2, .slice a2 l2 c2] 30) ∧ Below w.heap.size w W ∧ w.heap.size < W.heap.size ∧ (W.cell? ⟨w.heap.size, 0, none⟩ = some (.bool m1) ∧ W.cell? ⟨w.heap.size, 1, none⟩ = some (.slice a1 l1 c1) ∧ W.cell? ⟨w.heap.size, 2, none⟩ = some (.bool m2) ∧ W.cell? ⟨w.heap.size, 3, none⟩ = some (.slice a2 l2 c2)) ∧ (∀ o, W.frozen? ⟨w.heap.size, o, none⟩ = false) ∧ NoInt W w.heap.size := by
  refine ⟨_, rfl, (Below.refl _ _).alloc (Nat.le_refl _) _, by simp, ⟨?_, ?_, ?_, ?_⟩, ?_, NoInt.new _ _ _ (by decide) (four_notInt (notInt_bool _) (notInt_slice _ _ _) (notInt_bool _) (notInt_slice _ _ _))⟩ <;> (try intro o) <;> simp [go_sem]
theorem box2 (w : World) (m1 : Bool) (a1 : Option Addr) (l1 c1 : Nat) : ∃ W, W = w.alloc (.cells #[.bool m1, .slice a1 l1 c1] 28) ∧ Below w.heap.size w W ∧ w.heap.size < W.heap.size ∧ (W.cell? ⟨w.heap.size, 0, none⟩ = some (.bool m1) ∧ W.cell? ⟨w.heap.size, 1, none⟩ = some (.slice a1 l1 c1)) ∧ (∀ o, W.frozen? ⟨w.heap.size, o, none⟩ = false) ∧ NoInt W w.heap.size := by
  refine ⟨_, rfl, (Below.refl _ _).alloc (Nat.le_refl _) _, by simp, ⟨?_, ?_⟩, ?_, NoInt.new _ _ _ (by decide) (two_notInt (notInt_bool _) (notInt_slice _ _ _))⟩ <;> (try intro o) <;> simp [go_sem]
/-- Stores of what is no integer into blocks without integers, from base on: numbers stay. -/
inductive Boxed (base : Nat) (w : World) : World → Prop
  | refl : Boxed base w w
  | set {w' : World} (h : Boxed base w w') (g o : Nat) (u : Value) (hn : NoInt w g) (hb : base ≤ g) (hu : notInt u) : Boxed base w (w'.setCell ⟨g, o, none⟩ u)
  | alloc {w' : World} (h : Boxed base w w') (o : Obj) : Boxed base w (w'.alloc o)
  | drew {w' : World} (h : Boxed base w w') : Boxed base w w'.drew
section
variable {base : Nat} {w w' : World}
theorem Boxed.noint (h : Boxed base w w') {b : Nat} (hb : NoInt w b) : NoInt w' b := by
  induction h with
  | refl => exact hb
  | set h g o u hn _ hu ih => exact ih.set g o u hu
  | alloc h o ih => exact ih.alloc o
  | drew h ih => exact ih.next ((Below.refl _ _).drew)
theorem Boxed.num (h : Boxed base w w') {v : Value} {z : Int} {n : Nat} (hb : Num w v z n) : Num w' v z n := by
  induction h with
  | refl => exact hb
  | set h g o u hn _ hu ih => exact ih.noint (p := ⟨g, o, none⟩) (h.noint hn) u
  | alloc h o ih => exact ih.alloc o
  | drew h ih => exact ih.next ((Below.refl _ _).drew)
theorem Boxed.out (h : Boxed base w w') {v : Value} {z : Int} {n : Nat} (hb : OutE w v z n) : OutE w' v z n := by
  induction h with
  | refl => exact hb
  | set h g o u hn _ hu ih => exact ih.noint (p := ⟨g, o, none⟩) (h.noint hn) u
  | alloc h o ih => exact ih.alloc o
  | drew h ih => exact ih.next ((Below.refl _ _).drew)
theorem Boxed.keep (h : Boxed base w w') {B : Nat} {w0 : World} (hB : Below B w0 w) (hb : B ≤ base) (hs : B ≤ w.heap.size) : Below B w0 w' := by
  have : Below B w0 w' ∧ B ≤ w'.heap.size := by
    induction h with
    | refl => exact ⟨hB, hs⟩
    | set h g o u hn hg hu ih => exact ⟨ih.1.setCell (by simp; omega) _, by simp [World.setCell]; exact ih.2⟩
    | alloc h o ih => exact ⟨ih.1.alloc ih.2 _, by simp; omega⟩
    | drew h ih => exact ⟨ih.1.drew, ih.2⟩
  exact this.1
end
theorem zero_any (w : World) : Calls Tryz.prog 129 #[] w fun e w' => ∃ v, e = .returned v ∧ FracE w' v 0 1 2 ∧ Below w.heap.size w w' := by
  obtain ⟨W, hW, hbW, hlt, ⟨c0, c1, c2, c3⟩, f, hn⟩ := box4 w false none 0 0 false none 0 0
  go_enter Tryz.func129, Tryz.ntmps129
  go_wp2_with fail
  rw [← hW]
  clear hW
  refine (Of_any 1 _ (by decide) (by decide)).mono ?_
  rintro e w1 ⟨t, rfl, hO, hb1⟩
  obtain ⟨n1, a1, l1, d1, rfl⟩ := hO.form
  have k0 := keep_cell hb1 c0
  have k1 := keep_cell hb1 c1
  have k2 := keep_cell hb1 c2
  have k3 := keep_cell hb1 c3
  have g0 := keep_frozen hb1 c0 (f 0)
  have g1 := keep_frozen hb1 c1 (f 1)
  have g2 := keep_frozen hb1 c2 (f 2)
  have g3 := keep_frozen hb1 c3 (f 3)
  have hn1 := hn.next hb1
  have oE : OutE w1 _ _ _ := ⟨_, hO⟩
  have oZ : OutE w1 (.agg #[.bool false, .slice none 0 0]) 0 2 := ⟨0, false, none, 0, [], rfl, Own.empty _ _ _ _ _, ⟨trivial, fun h => by cases h⟩, rfl, by simp⟩
  have hB := bthen hbW hb1
  have hbx : Boxed w.heap.size w1 ((((w1.setCell ⟨w.heap.size, 0, none⟩ (.bool false)).setCell ⟨w.heap.size, 1, none⟩ (.slice none 0 0)).setCell ⟨w.heap.size, 2, none⟩ (.bool n1)).setCell ⟨w.heap.size, 3, none⟩ (.slice a1 l1 d1)) :=
    (((Boxed.refl.set _ _ _ hn1 (Nat.le_refl _) (notInt_bool _)).set _ _ _ hn1 (Nat.le_refl _) (notInt_slice _ _ _)).set _ _ _ hn1 (Nat.le_refl _) (notInt_bool _)).set _ _ _ hn1 (Nat.le_refl _) (notInt_slice _ _ _)
  replace hbx : Hid _ := hbx
  go_wp2
  exact bodyPost_ret (v := .agg #[.bool false, .slice none 0 0, .bool n1, .slice a1 l1 d1]) (by simp [results, Tryz.results129, go_sem, k0, k1, k2, k3]) rfl ⟨_, rfl, ⟨_, _, _, _, _, _, _, _, rfl, hbx.out.out oZ, hbx.out.out oE⟩, hbx.out.keep hB (Nat.le_refl _) hB.size⟩
end Go.Proofs.YtclokcoimdjaeaaGreatDoor
namespace Go.Proofs.YtclokcoimdjaeaaGreatDoor
open Go.RowKit
attribute [local go_sem ↓] Go.wp_at_zero Go.wp_at_succ
/-- The numerator and the denominator of n over d, the latter above zero. -/
def pN (n d : Int) : Int := if d < 0 then -n else n
def pD (d : Int) : Int := if d = 0 then 1 else if d < 0 then -d else d
theorem pD_pos (d : Int) : 0 < pD d := by unfold pD; split <;> (try split) <;> omega
theorem boxes_parts (w : World) (m1 : Bool) (a1 : Option Addr) (l1 c1 : Nat) (m2 : Bool) (a2 : Option Addr) (l2 c2 : Nat) : ∃ W, W = ((w.alloc (.cells #[.bool m1, .slice a1 l1 c1, .bool m2, .slice a2 l2 c2] 30)).alloc (.cells #[.bool false, .slice none 0 0] 28)).alloc (.cells #[.bool false, .slice none 0 0] 28) ∧ Below w.heap.size w W ∧ w.heap.size + 1 + 1 < W.heap.size ∧
    (W.cell? ⟨w.heap.size, 0, none⟩ = some (.bool m1) ∧ W.cell? ⟨w.heap.size, 1, none⟩ = some (.slice a1 l1 c1) ∧ W.cell? ⟨w.heap.size, 2, none⟩ = some (.bool m2) ∧ W.cell? ⟨w.heap.size, 3, none⟩ = some (.slice a2 l2 c2)) ∧
    (W.cell? ⟨w.heap.size + 1, 0, none⟩ = some (.bool false) ∧ W.cell? ⟨w.heap.size + 1, 1, none⟩ = some (.slice none 0 0) ∧ W.cell? ⟨w.heap.size + 1 + 1, 0, none⟩ = some (.bool false) ∧ W.cell? ⟨w.heap.size + 1 + 1, 1, none⟩ = some (.slice none 0 0)) ∧
    (∀ o, W.frozen? ⟨w.heap.size + 1, o, none⟩ = false) ∧ (∀ o, W.frozen? ⟨w.heap.size + 1 + 1, o, none⟩ = false) ∧ NoInt W (w.heap.size + 1) ∧ NoInt W (w.heap.size + 1 + 1) := by
  refine ⟨_, rfl, (((Below.refl _ _).alloc (Nat.le_refl _) _).alloc (by simp) _).alloc (by simp; omega) _, by simp, ⟨?_, ?_, ?_, ?_⟩, ⟨?_, ?_, ?_, ?_⟩, ?_, ?_, ?n1, ?n2⟩
  case n1 =>
    have h := NoInt.new (w.alloc (.cells #[.bool m1, .slice a1 l1 c1, .bool m2, .slice a2 l2 c2] 30)) #[.bool false, .slice none 0 0] 28 (by decide) (two_notInt (notInt_bool _) (notInt_slice _ _ _))
    rw [show (w.alloc (.cells #[.bool m1, .slice a1 l1 c1, .bool m2, .slice a2 l2 c2] 30)).heap.size = w.heap.size + 1 from by simp] at h
    exact h.alloc _
  case n2 =>
    have h := NoInt.new ((w.alloc (.cells #[.bool m1, .slice a1 l1 c1, .bool m2, .slice a2 l2 c2] 30)).alloc (.cells #[.bool false, .slice none 0 0] 28)) #[.bool false, .slice none 0 0] 28 (by decide) (two_notInt (notInt_bool _) (notInt_slice _ _ _))
    rw [show ((w.alloc (.cells #[.bool m1, .slice a1 l1 c1, .bool m2, .slice a2 l2 c2] 30)).alloc (.cells #[.bool false, .slice none 0 0] 28)).heap.size = w.heap.size + 1 + 1 from by simp] at h
    exact h
  all_goals (try intro o) <;> simp [go_sem, World.cell?_alloc_past, World.frozen?_alloc_past]
theorem Num.more' {w : World} {v : Value} {z : Int} {n : Nat} (hn : Num w v z n) {m : Nat} (h : n ≤ m) : Num w v z m := Num.more h hn
theorem Num.sign {w : World} {m : Bool} {a : Option Addr} {l c : Nat} {z : Int} {n : Nat} (h : Num w (.agg #[.bool m, .slice a l c]) z n) (hz : z ≠ 0) : m = decide (z < 0) := by
  obtain ⟨neg, a', cap, ds, hv, hr, rfl, _⟩ := h
  simp at hv
  obtain ⟨rfl, rfl, rfl, rfl⟩ := hv
  have h0 := val_nonneg (B := 4294967296) (by decide) hr.words
  cases m with
  | false => simp [num] at hz ⊢; omega
  | true => simp [num] at hz ⊢; omega
theorem put22 {base : Nat} {w : World} {g h : Nat} (hg : NoInt w g) (hh : NoInt w h) (bg : base ≤ g) (bh : base ≤ h) (m1 : Bool) (a1 : Option Addr) (l1 c1 : Nat) (m2 : Bool) (a2 : Option Addr) (l2 c2 : Nat) : Boxed base w ((((w.setCell ⟨g, 0, none⟩ (.bool m1)).setCell ⟨g, 1, none⟩ (.slice a1 l1 c1)).setCell ⟨h, 0, none⟩ (.bool m2)).setCell ⟨h, 1, none⟩ (.slice a2 l2 c2)) :=
  (((Boxed.refl.set _ _ _ hg bg (notInt_bool _)).set _ _ _ hg bg (notInt_slice _ _ _)).set _ _ _ hh bh (notInt_bool _)).set _ _ _ hh bh (notInt_slice _ _ _)
set_option maxRecDepth 20000 in
set_option maxHeartbeats 4000000 in
theorem parts_num {w : World} {v : Value} {n d : Int} {m : Nat} (hv : Frac w v n d m) (hm : m ≤ 500) :
    Calls Tryz.prog 164 #[v] w fun e w' => ∃ s t, e = .returned (.tuple #[s, t]) ∧ Num w' s (pN n d) (m + 2) ∧ Num w' t (pD d) (m + 2) ∧ Below w.heap.size w w' := by
  obtain ⟨n1, a1, l1, c1, n2, a2, l2, c2, rfl, h1, h2⟩ := hv
  obtain ⟨W, hW, hbW, hlt, ⟨e0, e1, e2, e3⟩, ⟨b0, b1, b2, b3⟩, f1, f2, x1, x2⟩ := boxes_parts w n1 a1 l1 c1 n2 a2 l2 c2
  have k1 := isZero_num (h2.next hbW) (by omega)
  replace k1 : Hid _ := k1
  go_enter Tryz.func164, Tryz.ntmps164
  go_wp2_with fail
  rw [← hW]
  clear hW
  refine Calls.mono k1.out ?_
  rintro e w1 ⟨rfl, hb1⟩
  clear k1
  have p0 := keep_cell hb1 e0
  have p1 := keep_cell hb1 e1
  have p2 := keep_cell hb1 e2
  have p3 := keep_cell hb1 e3
  have q0 := keep_cell hb1 b0
  have q1 := keep_cell hb1 b1
  have q2 := keep_cell hb1 b2
  have q3 := keep_cell hb1 b3
  have g0 := keep_frozen hb1 b0 (f1 0)
  have g1 := keep_frozen hb1 b1 (f1 1)
  have g2 := keep_frozen hb1 b2 (f2 0)
  have g3 := keep_frozen hb1 b3 (f2 1)
  have y1 := x1.next hb1
  have y2 := x2.next hb1
  have hA := (h1.next hbW).next hb1
  have hB := (h2.next hbW).next hb1
  have hBB := bthen hbW hb1
  clear e0 e1 e2 e3 b0 b1 b2 b3 f1 f2 x1 x2 h1 h2 hbW hb1
  have hD0 : Below w1.heap.size w1 w1.drew := (Below.refl _ _).drew
  by_cases hz : d = 0
  · subst hz
    have hdz : decide ((0 : Int) = 0) = true := by decide
    rw [hdz]
    go_wp2
    go_region_with (go_at_call 44; refine (Of_any 1 _ (by decide) (by decide)).mono ?_; rintro e w2 ⟨t, rfl, hO, hb2⟩; obtain ⟨n3, a3, l3, c3, rfl⟩ := hO.form; have hB2 : Below w1.heap.size w1 w2 := bthen hD0 hb2; have p0' := keep_cell hB2 p0; have p1' := keep_cell hB2 p1; have q0' := keep_cell hB2 q0; have q1' := keep_cell hB2 q1; have q2' := keep_cell hB2 q2; have q3' := keep_cell hB2 q3; have g0' := keep_frozen hB2 q0 g0; have g1' := keep_frozen hB2 q1 g1; have g2' := keep_frozen hB2 q2 g2; have g3' := keep_frozen hB2 q3 g3)
    all_goals
      have hBf := bthen hBB hB2
      have hbx : Hid _ := put22 (base := w.heap.size) (y1.next hB2) (y2.next hB2) (by omega) (by omega) n1 a1 l1 c1 n3 a3 l3 c3
      have r1 := (hbx.out.num (hA.next hB2)).more' (m := m + 2) (by omega)
      have r2 := (hbx.out.num hO.num).more' (m := m + 2) (by omega)
      have hnn : pN n 0 = n := by simp [pN]
      have hdd : pD 0 = 1 := by simp [pD]
      replace r1 : Hid _ := r1
      replace r2 : Hid _ := r2
      replace hnn : Hid _ := hnn
      replace hdd : Hid _ := hdd
      clear hO hb2 hB2 hD0 hA hB
      go_wp2
      exact bodyPost_ret (v := .tuple #[.agg #[.bool n1, .slice a1 l1 c1], .agg #[.bool n3, .slice a3 l3 c3]]) (by simp [results, Tryz.results164, go_sem, q0', q1', q2', q3']) rfl ⟨_, _, rfl, by rw [hnn.out]; exact r1.out, by rw [hdd.out]; exact r2.out, hbx.out.keep hBf (Nat.le_refl _) hBf.size⟩
  · have hdz : decide (d = 0) = false := by simpa using hz
    have hsg : Hid _ := hB.sign hz
    rw [hdz]
    by_cases hneg : d < 0
    · have hm2 : n2 = true := by rw [hsg.out]; simpa using hneg
      subst hm2
      have hnn : Hid (pN n d = -n) := by show _ = _; simp [pN, hneg]
      have hdd : Hid (pD d = -d) := by show _ = _; simp [pD, hz, hneg]
      have hz' : Hid _ := hz
      clear hz hdz
      go_wp2
      go_region_with (first
        | (go_at_call_of 227 (Value.slice a1 l1 c1); refine (Neg_num (hA.next ?q1) (by omega)).mono ?_; (case q1 => first | exact hD0 | exact Below.refl _ _); rintro e w2 ⟨t, rfl, hO, hb2⟩; obtain ⟨n3, a3, l3, c3, rfl⟩ := hO.form; have hB2 : Below w1.heap.size w1 w2 := bthen hD0 hb2; have p2' := keep_cell hB2 p2; have p3' := keep_cell hB2 p3)
        | (go_at_call_of 227 (Value.slice a2 l2 c2); refine (Neg_num (hB.next hB2) (by omega)).mono ?_; rintro e w3 ⟨t, rfl, hO3, hb3⟩; obtain ⟨n4, a4, l4, c4, rfl⟩ := hO3.form; have hB3 : Below w1.heap.size w1 w3 := bthen hB2 hb3; have q0' := keep_cell hB3 q0; have q1' := keep_cell hB3 q1; have q2' := keep_cell hB3 q2; have q3' := keep_cell hB3 q3; have g0' := keep_frozen hB3 q0 g0; have g1' := keep_frozen hB3 q1 g1; have g2' := keep_frozen hB3 q2 g2; have g3' := keep_frozen hB3 q3 g3))
      all_goals
        have hBf := bthen hBB hB3
        have hbx : Hid _ := put22 (base := w.heap.size) (y1.next hB3) (y2.next hB3) (by omega) (by omega) n3 a3 l3 c3 n4 a4 l4 c4
        have r1 := (hbx.out.num (hO.num.next hb3)).more' (m := m + 2) (by omega)
        have r2 := (hbx.out.num hO3.num).more' (m := m + 2) (by omega)
        replace r1 : Hid _ := r1
        replace r2 : Hid _ := r2
        clear hO hO3 hb2 hb3 hB2 hB3 hD0 hA hB
        go_wp2
        exact bodyPost_ret (v := .tuple #[.agg #[.bool n3, .slice a3 l3 c3], .agg #[.bool n4, .slice a4 l4 c4]]) (by simp [results, Tryz.results164, go_sem, q0', q1', q2', q3']) rfl ⟨_, _, rfl, by rw [hnn.out]; exact r1.out, by rw [hdd.out]; exact r2.out, hbx.out.keep hBf (Nat.le_refl _) hBf.size⟩
    · have hm2 : n2 = false := by rw [hsg.out]; simpa using hneg
      subst hm2
      have hnn : Hid (pN n d = n) := by show _ = _; simp [pN, hneg]
      have hdd : Hid (pD d = d) := by show _ = _; simp [pD, hz, hneg]
      have hz' : Hid _ := hz
      clear hz hdz
      have hbx : Hid _ := (put22 (base := w.heap.size) (w := w1) y1 y2 (by omega) (by omega) n1 a1 l1 c1 false a2 l2 c2).drew
      have r1 := (hbx.out.num hA).more' (m := m + 2) (by omega)
      have r2 := (hbx.out.num hB).more' (m := m + 2) (by omega)
      replace r1 : Hid _ := r1
      replace r2 : Hid _ := r2
      clear hA hB
      go_wp2
      go_region
      go_wp2
      exact bodyPost_ret (v := .tuple #[.agg #[.bool n1, .slice a1 l1 c1], .agg #[.bool false, .slice a2 l2 c2]]) (by simp [results, Tryz.results164, go_sem, q0, q1, q2, q3]) rfl ⟨_, _, rfl, by rw [hnn.out]; exact r1.out, by rw [hdd.out]; exact r2.out, hbx.out.keep hBB (Nat.le_refl _) hBB.size⟩
end Go.Proofs.YtclokcoimdjaeaaGreatDoor
