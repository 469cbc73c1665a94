/- constants: the law ConstLaws. -/
import Derived.Test.YtclokcoimdjaeaaGreatDoorYc
import Derived.Test.YtclokcoimdjaeaaGreatDoorYd
import Derived.Test.YtclokcoimdjaeaaGreatDoorQrm
import Derived.Deep.CutRange
import Derived.Deep.RegionWith
namespace Go.Proofs.YtclokcoimdjaeaaGreatDoor
open Go.RowKit
attribute [local go_sem ↓] Go.wp_at_zero Go.wp_at_succ
theorem cutT_size (s : ByteArray) : (cutT s).size ≤ 200 := by
  unfold cutT
  split
  · rw [ByteArray.size_extract]; omega
  · omega
theorem frac_cut {w : World} (n1 : Bool) {x1 : Option Addr} {c1 : Nat} {xs : List Int} (n2 : Bool) {x2 : Option Addr} {c2 : Nat} {ys : List Int} (h1 : Row w .u32 4294967296 x1 c1 xs) (h2 : Row w .u32 4294967296 x2 c2 ys) :
    ∃ n d, Frac w (.agg #[.bool n1, .slice x1 (xs.take 6).length c1, .bool n2, .slice x2 (ys.take 6).length c2]) n d 6 :=
  ⟨_, _, ⟨_, _, _, _, _, _, _, _, rfl, ⟨_, _, _, _, rfl, h1.take' 6, rfl, by simp; omega⟩, ⟨_, _, _, _, rfl, h2.take' 6, rfl, by simp; omega⟩⟩⟩
/-- A whole constant, as the second road takes it over. -/
theorem FromIs.whole {b : Bool} {s : ByteArray} {n1 : Bool} {l1 : Nat} {n2 : Bool} {l2 : Nat} {n d : Int} {w : World} {v : Value} (h : FromIs 3 b s n1 l1 n2 l2 n d w v true) : b = false ∧ s = ⟨#[]⟩ ∧ ∃ z, pN n d = z * pD d := by
  obtain ⟨k', b', s', m1, b1, k1, d1, m2, b2, k2, d2, p, q, e, hR, _, h⟩ := h
  rcases h with ⟨_, _, _, _, hl, hB⟩ | ⟨h, _⟩ | ⟨h, _⟩ | ⟨_, _, h, _⟩
  · cases b with
    | true => simp at hB
    | false =>
      have h0 : s.size = 0 ∧ q = 1 := by simpa using hB.symm
      refine ⟨rfl, bytes_empty h0.1, p, ?_⟩
      have := hl.2.2
      rw [h0.2] at this
      omega
  · cases h
  · cases h
  · exact absurd rfl h
/-- The two constants as they are cut, in the boxes r and r + 1. -/
def CutTwo (w : World) (r : Nat) (A B : Array Value) (FA FB : Value) (n d n' d' : Int) (wx : World) : Prop :=
  wx.heap[r]? = some (.cells A 32 (0, 0)) ∧ wx.heap[r + 1]? = some (.cells B 32 (0, 0)) ∧ Frac wx FA n d 6 ∧ Frac wx FB n' d' 6 ∧ Below r w wx
def V12 (X Y Z : Value) (pX pY pZ : Nat) (j : Bool) (t : Nat) (v : Value) (w : World) : Prop := match t with
  | 10 => v = .pointer (some ⟨pX, 0, none⟩)
  | 11 => v = .bool true
  | 12 => v = .pointer (some ⟨pY, 0, none⟩)
  | 13 => v = .bool true
  | 14 => v = .pointer (some ⟨pZ, 0, none⟩)
  | 15 => v = .bool true
  | 17 => v = .bool j
  | 19 => v = .bool j
  | 86 => v = .bool true
  | 87 => v = .bool false
  | 88 => v = .bool false
  | 89 => v = .bool true
  | 90 => v = .bool false
  | 91 => v = .bool false
  | 92 => v = .bool false
  | 93 => v = .bool true
  | 94 => v = .bool false
  | 95 => v = .bool false
  | 96 => v = .bool false
  | 97 => v = X
  | 98 => v = Y
  | 99 => v = .bool true
  | 100 => v = .bool false
  | 101 => v = .bool false
  | 102 => v = .bool false
  | 103 => v = Z
  | 104 => CI w v 0 6
  | 105 => v = .bool true
  | 106 => v = .bool false
  | 107 => v = .bool false
  | 108 => v = .bool false
  | 109 => v = .bool j
  | 110 => v = .bool j
  | 111 => v = .bool false
  | 112 => v = .bool false
  | _ => True
theorem V12_next (X Y Z : Value) (pX pY pZ : Nat) (j : Bool) (t : Nat) (v : Value) (w w' : World) (hb : Below w.heap.size w w') (h : V12 X Y Z pX pY pZ j t v w) : V12 X Y Z pX pY pZ j t v w' := by
  unfold V12 at h ⊢
  split at h <;> first | exact h | exact CI.next h hb
def V15 (B : Value) (pB : Nat) (t : Nat) (v : Value) (w : World) : Prop := match t with
  | 3 => v = .pointer (some ⟨pB, 0, none⟩)
  | 4 => v = .bool true
  | 5 => v = .bool true
  | 115 => v = .bool true
  | 116 => v = .bool true
  | 117 => v = B
  | 118 => CI w v 0 6
  | 119 => v = .bool true
  | 120 => v = .bool true
  | _ => True
theorem V15_next (B : Value) (pB : Nat) (t : Nat) (v : Value) (w w' : World) (hb : Below w.heap.size w w') (h : V15 B pB t v w) : V15 B pB t v w' := by
  unfold V15 at h ⊢
  split at h <;> first | exact h | exact CI.next h hb
theorem bthen' {r : Nat} {w wk w' : World} (h : Below r w wk) (hb : Below wk.heap.size wk w') (hr : r ≤ wk.heap.size := by omega) : Below r w w' := h.trans (hb.mono hr)
theorem ci_zero {w : World} {v : Value} {z : Int} {m : Nat} (h : CI w v z m) (h0 : z = 0) : CI w v 0 m := by rw [← h0]; exact h
theorem wp_region_typedF {P : Program} {ops : Array Oper} {Q : Exit → Act → World → Prop} {id : Nat} {a : Act} {w : World} (V : Nat → Value → World → Prop) (start : List Nat) (N : Nat) (hm : P.follows .mixedOrders = true) (hchk : boxCheck ops start [] [] N = true) (hN : a.tmps.size = N)
    (hV : ∀ t v w w', Below w.heap.size w w' → V t v w → V t v w')
    (hstart : ∀ t ∈ start, V t (a.tmps.getD t undef) w.drew)
    (hstep : ∀ o ∈ ops.toList, StepOk P ops Q V N w o)
    (hend : ∀ b w', b.tmps.size = N → b.defers = a.defers → Below w.heap.size w w' → (∀ t, (start.contains t = true ∨ ∃ (j : Nat) (p : Oper), ops[j]? = some p ∧ p.dst = some t) → V t (b.tmps.getD t undef) w') → (∀ t, (regDsts ops).contains t = false → b.tmps.getD t undef = a.tmps.getD t undef) → Q .normal b w') : (Code.region id ops true).wp P Q a w := by
  refine wp_region_boxes V (fun _ _ => False) (fun _ _ _ => True) start [] [] [] N hm hchk hN hV (fun _ _ _ _ _ _ h => h.elim) (fun s v w' hs => by cases hs) (fun _ _ _ _ _ _ h => h) (fun _ _ _ _ _ _ h => h.elim) hstart (fun s t hs => by cases hs) (fun i o ho => .inl ⟨fun b w' hs hB hl K hK => ?_, fun s _ => rfl, fun s hs => by cases hs⟩) (fun b w' hs hd hB hv _ _ hfr => hend b w' hs hd (hB.below (Nat.le_refl _) (fun k hk => by cases hk)) hv hfr)
  exact hstep o (Array.mem_toList_iff.2 (Array.mem_of_getElem? ho)) b w' hs (hB.below (Nat.le_refl _) (fun k hk => by cases hk)) hl K hK
set_option maxRecDepth 20000 in
set_option maxHeartbeats 4000000 in
theorem constLaws_any {w : World} (k : Int) (b : Bool) (s : ByteArray) (n1 : Bool) (x1 : Option Addr) (c1 : Nat) (xs : List Int) (n2 : Bool) (x2 : Option Addr) (c2 : Nat) (ys : List Int) (k' : Int) (b' : Bool) (s' : ByteArray) (n3 : Bool) (x3 : Option Addr) (c3 : Nat) (zs : List Int) (n4 : Bool) (x4 : Option Addr) (c4 : Nat) (us : List Int) (h1 : Row w .u32 4294967296 x1 c1 xs) (h2 : Row w .u32 4294967296 x2 c2 ys) (h3 : Row w .u32 4294967296 x3 c3 zs) (h4 : Row w .u32 4294967296 x4 c4 us) (hG : Glob w) (hB2 : 4 < w.heap.size) :
    Calls Tryz.prog 7 #[.agg #[.int .i64 k, .bool b, .string s, .bool n1, .slice x1 xs.length c1, .bool n2, .slice x2 ys.length c2], .agg #[.int .i64 k', .bool b', .string s', .bool n3, .slice x3 zs.length c3, .bool n4, .slice x4 us.length c4]] w fun e w' => e = .returned (.bool true) ∧ Below w.heap.size w w' := by
  obtain ⟨W, hW, hqa, hqb, hbW, hsz⟩ := two_new (w := w) (A := .cells #[.int .i64 k, .bool b, .string s, .bool n1, .slice x1 xs.length c1, .bool n2, .slice x2 ys.length c2] 32) (B := .cells #[.int .i64 k', .bool b', .string s', .bool n3, .slice x3 zs.length c3, .bool n4, .slice x4 us.length c4] 32)
  have kG : Hid (Calls Tryz.prog 9 #[] W fun e w' => e = .returned (.bool true) ∧ Below W.heap.size W w') := begun_any W (hG.next hbW) (by omega)
  obtain ⟨n, d, hF⟩ := frac_cut n1 n2 h1 h2
  obtain ⟨n', d', hF'⟩ := frac_cut n3 n4 h3 h4
  have kA : Hid (∀ X, Below w.heap.size w X → Calls Tryz.prog 13 #[.agg #[.int .i64 k, .bool b, .string s, .bool n1, .slice x1 xs.length c1, .bool n2, .slice x2 ys.length c2]] X fun e w' => e = .returned (.agg #[.int .i64 k, .bool b, .string (cutT s), .bool n1, .slice x1 (xs.take 6).length c1, .bool n2, .slice x2 (ys.take 6).length c2]) ∧ Below X.heap.size X w') := fun X hX => Cut13_any k b s n1 x1 c1 xs n2 x2 c2 ys (h1.next hX) (h2.next hX)
  have kB : Hid (∀ X, Below w.heap.size w X → Calls Tryz.prog 13 #[.agg #[.int .i64 k', .bool b', .string s', .bool n3, .slice x3 zs.length c3, .bool n4, .slice x4 us.length c4]] X fun e w' => e = .returned (.agg #[.int .i64 k', .bool b', .string (cutT s'), .bool n3, .slice x3 (zs.take 6).length c3, .bool n4, .slice x4 (us.take 6).length c4]) ∧ Below X.heap.size X w') := fun X hX => Cut13_any k' b' s' n3 x3 c3 zs n4 x4 c4 us (h3.next hX) (h4.next hX)
  have hS0 : Hid ((cutT s).size ≤ 200 ∧ (cutT s').size ≤ 200) := ⟨cutT_size s, cutT_size s'⟩
  have hFF : Hid (Frac w (.agg #[.bool n1, .slice x1 (xs.take 6).length c1, .bool n2, .slice x2 (ys.take 6).length c2]) n d 6 ∧ Frac w (.agg #[.bool n3, .slice x3 (zs.take 6).length c3, .bool n4, .slice x4 (us.take 6).length c4]) n' d' 6) := ⟨hF, hF'⟩
  clear hF hF' h1 h2 h3 h4 hG hB2
  generalize (xs.take 6).length = lx at kA hFF
  generalize (ys.take 6).length = ly at kA hFF
  generalize (zs.take 6).length = lz at kB hFF
  generalize (us.take 6).length = lu at kB hFF
  generalize cutT s = S at kA hS0
  generalize cutT s' = S' at kB hS0
  generalize xs.length = lxs at *
  generalize ys.length = lys at *
  generalize zs.length = lzs at *
  generalize us.length = lus at *
  have hall : Hid (Below w.heap.size w W ∧ W.heap.size = w.heap.size + 1 + 1 ∧ W.heap[w.heap.size]? = some (.cells #[.int .i64 k, .bool b, .string s, .bool n1, .slice x1 lxs c1, .bool n2, .slice x2 lys c2] 32 (0, 0)) ∧ W.heap[w.heap.size + 1]? = some (.cells #[.int .i64 k', .bool b', .string s', .bool n3, .slice x3 lzs c3, .bool n4, .slice x4 lus c4] 32 (0, 0))) := ⟨hbW, hsz, hqa, hqb⟩
  clear hqa hqb hbW hsz
  go_enter Tryz.func7, Tryz.ntmps7
  go_upto_region 1 with fail
  rw [← hW]
  clear hW
  go_wp2_with fail
  refine Calls.mono kG.out ?_
  clear kG
  rintro e w1 ⟨rfl, hb1⟩
  have hqa := keep_heap hb1 hall.out.2.2.1
  have hqb := keep_heap hb1 hall.out.2.2.2
  replace hall : Hid (Below w.heap.size w w1 ∧ w.heap.size + 1 < w1.heap.size ∧ w1.heap[w.heap.size]? = some (.cells #[.int .i64 k, .bool b, .string s, .bool n1, .slice x1 lxs c1, .bool n2, .slice x2 lys c2] 32 (0, 0)) ∧ w1.heap[w.heap.size + 1]? = some (.cells #[.int .i64 k', .bool b', .string s', .bool n3, .slice x3 lzs c3, .bool n4, .slice x4 lus c4] 32 (0, 0))) := ⟨bthen hall.out.1 hb1, by have := hall.out.2.1; have := hb1.size; omega, hqa, hqb⟩
  obtain ⟨r, hr⟩ : ∃ r, r = w.heap.size := ⟨_, rfl⟩
  have hrh : Hid (r = w.heap.size) := hr
  rw [← hr] at hqa hqb hall kA kB ⊢
  obtain ⟨⟨p0, p1, p2, p3, p4, p5, p6⟩, _, _⟩ := cells7 hqa
  obtain ⟨⟨q0, q1, q2, q3, q4, q5, q6⟩, _, _⟩ := cells7 hqb
  have hdh : Hid (Below w1.heap.size w1 w1.drew) := (Below.refl _ _).drew
  clear hr hqa hqb hb1
  go_upto_region 2 with fail
  go_cut [28] from 25 to 28 (fun _ wx => Hid (CutTwo w r #[.int .i64 k, .bool b, .string S, .bool n1, .slice x1 lx c1, .bool n2, .slice x2 ly c2] #[.int .i64 k', .bool b', .string S', .bool n3, .slice x3 lz c3, .bool n4, .slice x4 lu c4] (.agg #[.bool n1, .slice x1 lx c1, .bool n2, .slice x2 ly c2]) (.agg #[.bool n3, .slice x3 lz c3, .bool n4, .slice x4 lu c4]) n d n' d' wx))
  case first =>
    have hr1 : Below r w w1 := hall.out.1
    go_region_with (first
      | (go_at_call 13; refine Calls.mono (kA.out _ (bthen' hr1 hdh.out)) ?_; rintro e w5 ⟨rfl, hb5⟩; clear kA
         replace hb5 : Below w1.heap.size w1 w5 := hdh.out.trans hb5
         replace q0 := keep_cell hb5 q0; replace q1 := keep_cell hb5 q1; replace q2 := keep_cell hb5 q2; replace q3 := keep_cell hb5 q3; replace q4 := keep_cell hb5 q4; replace q5 := keep_cell hb5 q5; replace q6 := keep_cell hb5 q6
         have hb5h : Hid (Below w1.heap.size w1 w5) := hb5
         clear hb5)
      | (go_at_call 13; refine Calls.mono (kB.out _ (bthen' hr1 hb5h.out)) ?_; rintro e w6 ⟨rfl, hb6⟩; clear kB
         have hb6h : Hid (Below w1.heap.size w1 w6) := bthen hb5h.out hb6
         have hqA : w6.heap[r]? = _ := (hb6h.out.block r (by have := hall.out.2.1; omega)).trans hall.out.2.2.1
         have hqB : w6.heap[r + 1]? = _ := (hb6h.out.block (r + 1) (by have := hall.out.2.1; omega)).trans hall.out.2.2.2
         obtain ⟨⟨u0, u1, u2, u3, u4, u5, u6⟩, uf, _⟩ := cells7 hqA
         obtain ⟨⟨v0, v1, v2, v3, v4, v5, v6⟩, vf, _⟩ := cells7 hqB
         have uf0 := uf 0; have uf1 := uf 1; have uf2 := uf 2; have uf3 := uf 3; have uf4 := uf 4; have uf5 := uf 5; have uf6 := uf 6
         have vf0 := vf 0; have vf1 := vf 1; have vf2 := vf 2; have vf3 := vf 3; have vf4 := vf 4; have vf5 := vf 5; have vf6 := vf 6
         clear hb6 hqA hqB uf vf))
    all_goals
      go_wp2_with fail
      go_meet
      case rel =>
        have h6 := hb6h.out
        have s6 := h6.size
        have hsz := hall.out.2.1
        have hb : Below r w w6 := bthen' hr1 h6
        have hqA : w6.heap[r]? = _ := (h6.block r (by omega)).trans hall.out.2.2.1
        have hqB : w6.heap[r + 1]? = _ := (h6.block (r + 1) (by omega)).trans hall.out.2.2.2
        have hT : CutTwo w r #[.int .i64 k, .bool b, .string S, .bool n1, .slice x1 lx c1, .bool n2, .slice x2 ly c2] #[.int .i64 k', .bool b', .string S', .bool n3, .slice x3 lz c3, .bool n4, .slice x4 lu c4] (.agg #[.bool n1, .slice x1 lx c1, .bool n2, .slice x2 ly c2]) (.agg #[.bool n3, .slice x3 lz c3, .bool n4, .slice x4 lu c4]) n d n' d' (put7 (put7 w6 r (.int .i64 k) (.bool b) (.string S) (.bool n1) (.slice x1 lx c1) (.bool n2) (.slice x2 ly c2)) (r + 1) (.int .i64 k') (.bool b') (.string S') (.bool n3) (.slice x3 lz c3) (.bool n4) (.slice x4 lu c4)) := by
          have cA : CBox w6 r := ⟨_, _, _, _, _, _, _, _, _, _, _, hqA⟩
          have cB : ∀ {x0 x1 x2 x3 x4 x5 x6 : Value}, CBox (put7 w6 r x0 x1 x2 x3 x4 x5 x6) (r + 1) := ⟨_, _, _, _, _, _, _, _, _, _, _, (put7_same (by omega)).trans hqB⟩
          have hbw : Below w.heap.size w w6 := hrh.out ▸ hb
          exact ⟨(put7_same (by omega)).trans (put7_at hqA), put7_at ((put7_same (by omega)).trans hqB), frac_put7 cB (frac_put7 cA (hFF.out.1.next hbw)), frac_put7 cB (frac_put7 cA (hFF.out.2.next hbw)), put7_below (put7_below hb (Nat.le_refl _)) (by omega)⟩
        unfold put7 at hT
        exact hT
  case rest =>
    obtain ⟨hqa, hqb, hF, hF', hb⟩ := hcut.out
    have zz : Hid (Below w.heap.size w wc) := hrh.out ▸ hb
    have qA : Hid (wc.heap[r]? = some (.cells #[.int .i64 k, .bool b, .string S, .bool n1, .slice x1 lx c1, .bool n2, .slice x2 ly c2] 32 (0, 0))) := hqa
    have qB : Hid (wc.heap[r + 1]? = some (.cells #[.int .i64 k', .bool b', .string S', .bool n3, .slice x3 lz c3, .bool n4, .slice x4 lu c4] 32 (0, 0))) := hqb
    have hF2 : Hid (Frac wc (.agg #[.bool n1, .slice x1 lx c1, .bool n2, .slice x2 ly c2]) n d 6 ∧ Frac wc (.agg #[.bool n3, .slice x3 lz c3, .bool n4, .slice x4 lu c4]) n' d' 6) := ⟨hF, hF'⟩
    clear hcut hqa hqb hF hF' hb kA kB hall hdh hFF p0 p1 p2 p3 p4 p5 p6 q0 q1 q2 q3 q4 q5 q6
    have kF : Hid (Calls Tryz.prog 14 #[.agg #[.int .i64 k, .bool b, .string S, .bool n1, .slice x1 lx c1, .bool n2, .slice x2 ly c2]] wc (fun e w' => FromRet k b S n1 lx n2 ly n d wc e w')) := From14_any k b S hF2.out.1 (by decide) (by have := hS0.out.1; omega)
    obtain ⟨⟨a0, a1, a2, a3, a4, a5, a6⟩, _, _⟩ := cells7 qA.out
    go_wp2_with fail
    refine Calls.mono kF.out ?_
    clear kF
    clear a0 a1 a2 a3 a4 a5 a6
    rintro e w3 hret
    obtain ⟨v3, B1, rfl, ⟨f0, f1, f2, f3, f4, f5, f6, f7, f8, f9, fa, rfl⟩, hT1, _, bb⟩ := hret
    obtain ⟨W3, hW3⟩ : ∃ W3, W3 = w3.alloc (.cells #[.int .i64 f0, .bool f1, .string f2, .bool f3, .slice f4 f5 f6, .bool f7, .slice f8 f9 fa] 42) := ⟨_, rfl⟩
    have k3 : Below w3.heap.size w3 W3 := by rw [hW3]; exact (Below.refl _ _).alloc (Nat.le_refl _) _
    have kk := bthen bb k3
    have hT1h : Hid (B1 = true → FromIs k b S n1 lx n2 ly n d w3 (.agg #[.int .i64 f0, .bool f1, .string f2, .bool f3, .slice f4 f5 f6, .bool f7, .slice f8 f9 fa]) true) := hT1
    replace qA : Hid (W3.heap[r]? = some (.cells #[.int .i64 k, .bool b, .string S, .bool n1, .slice x1 lx c1, .bool n2, .slice x2 ly c2] 32 (0, 0))) := keep_heap kk qA.out
    replace qB : Hid (W3.heap[r + 1]? = some (.cells #[.int .i64 k', .bool b', .string S', .bool n3, .slice x3 lz c3, .bool n4, .slice x4 lu c4] 32 (0, 0))) := keep_heap kk qB.out
    replace hF2 : Hid (Frac W3 (.agg #[.bool n1, .slice x1 lx c1, .bool n2, .slice x2 ly c2]) n d 6 ∧ Frac W3 (.agg #[.bool n3, .slice x3 lz c3, .bool n4, .slice x4 lu c4]) n' d' 6) := ⟨hF2.out.1.next kk, hF2.out.2.next kk⟩
    replace zz : Hid (Below w.heap.size w W3) := bthen zz.out kk
    go_upto_region 4 with fail
    rw [← hW3]
    clear hW3 k3 kk bb hT1
    generalize w3.heap.size = pa3 at *
    have kF : Hid (Calls Tryz.prog 14 #[.agg #[.int .i64 k', .bool b', .string S', .bool n3, .slice x3 lz c3, .bool n4, .slice x4 lu c4]] W3 (fun e w' => FromRet k' b' S' n3 lz n4 lu n' d' W3 e w')) := From14_any k' b' S' hF2.out.2 (by decide) (by have := hS0.out.2; omega)
    obtain ⟨⟨b0, b1, b2, b3, b4, b5, b6⟩, _, _⟩ := cells7 qB.out
    go_wp2_with fail
    refine Calls.mono kF.out ?_
    clear kF
    clear b0 b1 b2 b3 b4 b5 b6
    rintro e w4 hret
    obtain ⟨v4, B2, rfl, ⟨g0, g1, g2, g3, g4, g5, g6, g7, g8, g9, ga, rfl⟩, hT2, _, bb⟩ := hret
    obtain ⟨W4, hW4⟩ : ∃ W4, W4 = w4.alloc (.cells #[.int .i64 g0, .bool g1, .string g2, .bool g3, .slice g4 g5 g6, .bool g7, .slice g8 g9 ga] 42) := ⟨_, rfl⟩
    have k4 : Below w4.heap.size w4 W4 := by rw [hW4]; exact (Below.refl _ _).alloc (Nat.le_refl _) _
    have kk := bthen bb k4
    have hT2h : Hid (B2 = true → FromIs k' b' S' n3 lz n4 lu n' d' w4 (.agg #[.int .i64 g0, .bool g1, .string g2, .bool g3, .slice g4 g5 g6, .bool g7, .slice g8 g9 ga]) true) := hT2
    replace qA : Hid (W4.heap[r]? = some (.cells #[.int .i64 k, .bool b, .string S, .bool n1, .slice x1 lx c1, .bool n2, .slice x2 ly c2] 32 (0, 0))) := keep_heap kk qA.out
    replace qB : Hid (W4.heap[r + 1]? = some (.cells #[.int .i64 k', .bool b', .string S', .bool n3, .slice x3 lz c3, .bool n4, .slice x4 lu c4] 32 (0, 0))) := keep_heap kk qB.out
    replace hF2 : Hid (Frac W4 (.agg #[.bool n1, .slice x1 lx c1, .bool n2, .slice x2 ly c2]) n d 6 ∧ Frac W4 (.agg #[.bool n3, .slice x3 lz c3, .bool n4, .slice x4 lu c4]) n' d' 6) := ⟨hF2.out.1.next kk, hF2.out.2.next kk⟩
    replace zz : Hid (Below w.heap.size w W4) := bthen zz.out kk
    go_upto_region 5 with fail
    rw [← hW4]
    clear hW4 k4 kk bb hT2
    generalize w4.heap.size = pa4 at *
    cases B1 with
    | false =>
      go_wp2
      exact bodyPost_ret (v := .bool true) (by simp [results, Tryz.results7, go_sem]) rfl ⟨rfl, zz.out⟩
    | true =>
    cases B2 with
    | false =>
      go_wp2
      exact bodyPost_ret (v := .bool true) (by simp [results, Tryz.results7, go_sem]) rfl ⟨rfl, zz.out⟩
    | true =>
    obtain ⟨⟨a0, a1, a2, a3, a4, a5, a6⟩, _, _⟩ := cells7 qA.out
    obtain ⟨⟨b0, b1, b2, b3, b4, b5, b6⟩, _, _⟩ := cells7 qB.out
    by_cases hk : k = 3
    case neg =>
      have e1 : (k == 3) = false := by rw [beq_eq_false_iff_ne]; exact hk
      have e2 : (k != 3) = true := by rw [bne, e1]; rfl
      have e3 : decide (k = 3) = false := decide_eq_false hk
      go_wp2
      exact bodyPost_ret (v := .bool true) (by simp [results, Tryz.results7, go_sem]) rfl ⟨rfl, zz.out⟩
    by_cases hk' : k' = 3
    case neg =>
      have e1 : (k' == 3) = false := by rw [beq_eq_false_iff_ne]; exact hk'
      have e2 : (k' != 3) = true := by rw [bne, e1]; rfl
      have e3 : decide (k' = 3) = false := decide_eq_false hk'
      subst hk
      go_wp2
      exact bodyPost_ret (v := .bool true) (by simp [results, Tryz.results7, go_sem]) rfl ⟨rfl, zz.out⟩
    subst hk
    subst hk'
    obtain ⟨rfl, rfl, z, hz⟩ := (hT1h.out rfl).whole
    obtain ⟨rfl, rfl, z', hz'⟩ := (hT2h.out rfl).whole
    have hA : Hid (CI W4 (.agg #[.int .i64 3, .bool false, .string ⟨#[]⟩, .bool n1, .slice x1 lx c1, .bool n2, .slice x2 ly c2]) z 6) := ⟨n, d, ⟨_, _, _, _, _, _, _, _, rfl, hF2.out.1⟩, hz⟩
    have hB : Hid (CI W4 (.agg #[.int .i64 3, .bool false, .string ⟨#[]⟩, .bool n3, .slice x3 lz c3, .bool n4, .slice x4 lu c4]) z' 6) := ⟨n', d', ⟨_, _, _, _, _, _, _, _, rfl, hF2.out.2⟩, hz'⟩
    clear hT1h hT2h hF2 hz hz' hS0
    go_upto_region 7 with fail
    clear a0 a1 a2 a3 a4 a5 a6 b0 b1 b2 b3 b4 b5 b6
    obtain ⟨⟨a0, a1, a2, a3, a4, a5, a6⟩, _, _⟩ := cells7 qA.out
    obtain ⟨⟨b0, b1, b2, b3, b4, b5, b6⟩, _, _⟩ := cells7 qB.out
    go_wp2_with fail
    refine Calls.mono (Bin_add hA.out hB.out (by decide)) ?_
    clear a0 a1 a2 a3 a4 a5 a6 b0 b1 b2 b3 b4 b5 b6
    rintro e w5 ⟨tX, rfl, hX, bb⟩
    obtain ⟨nX, xX, lX, cX, mX, yX, kX, dX, rfl⟩ := hX.form
    obtain ⟨W5, hW5⟩ : ∃ W5, W5 = w5.alloc (.cells #[.int .i64 3, .bool false, .string ⟨#[]⟩, .bool nX, .slice xX lX cX, .bool mX, .slice yX kX dX] 32) := ⟨_, rfl⟩
    have k : Below w5.heap.size w5 W5 := by rw [hW5]; exact (Below.refl _ _).alloc (Nat.le_refl _) _
    have qX : Hid (W5.heap[w5.heap.size]? = some (.cells #[.int .i64 3, .bool false, .string ⟨#[]⟩, .bool nX, .slice xX lX cX, .bool mX, .slice yX kX dX] 32 (0, 0))) := by show _ = _; rw [hW5]; exact newAt _ _
    have kk := bthen bb k
    replace hX : Hid (CI W5 (.agg #[.int .i64 3, .bool false, .string ⟨#[]⟩, .bool nX, .slice xX lX cX, .bool mX, .slice yX kX dX]) (z + z') (6 + 4 + 4)) := CI.next hX k
    replace hA : Hid (CI W5 (.agg #[.int .i64 3, .bool false, .string ⟨#[]⟩, .bool n1, .slice x1 lx c1, .bool n2, .slice x2 ly c2]) z 6) := CI.next hA.out kk
    replace qA : Hid _ := keep_heap kk qA.out
    replace hB : Hid (CI W5 (.agg #[.int .i64 3, .bool false, .string ⟨#[]⟩, .bool n3, .slice x3 lz c3, .bool n4, .slice x4 lu c4]) z' 6) := CI.next hB.out kk
    replace qB : Hid _ := keep_heap kk qB.out
    replace zz : Hid _ := bthen zz.out kk
    go_upto_region 8 with fail
    rw [← hW5]
    clear hW5 k kk bb
    generalize w5.heap.size = pX at *
    obtain ⟨⟨a0, a1, a2, a3, a4, a5, a6⟩, _, _⟩ := cells7 qA.out
    obtain ⟨⟨b0, b1, b2, b3, b4, b5, b6⟩, _, _⟩ := cells7 qB.out
    go_wp2_with fail
    refine Calls.mono (Bin_add hB.out hA.out (by decide)) ?_
    clear a0 a1 a2 a3 a4 a5 a6 b0 b1 b2 b3 b4 b5 b6
    rintro e w6 ⟨tY, rfl, hY, bb⟩
    obtain ⟨nY, xY, lY, cY, mY, yY, kY, dY, rfl⟩ := hY.form
    obtain ⟨W6, hW6⟩ : ∃ W6, W6 = w6.alloc (.cells #[.int .i64 3, .bool false, .string ⟨#[]⟩, .bool nY, .slice xY lY cY, .bool mY, .slice yY kY dY] 32) := ⟨_, rfl⟩
    have k : Below w6.heap.size w6 W6 := by rw [hW6]; exact (Below.refl _ _).alloc (Nat.le_refl _) _
    have qY : Hid (W6.heap[w6.heap.size]? = some (.cells #[.int .i64 3, .bool false, .string ⟨#[]⟩, .bool nY, .slice xY lY cY, .bool mY, .slice yY kY dY] 32 (0, 0))) := by show _ = _; rw [hW6]; exact newAt _ _
    have kk := bthen bb k
    replace hY : Hid (CI W6 (.agg #[.int .i64 3, .bool false, .string ⟨#[]⟩, .bool nY, .slice xY lY cY, .bool mY, .slice yY kY dY]) (z' + z) (6 + 4 + 4)) := CI.next hY k
    replace hA : Hid (CI W6 (.agg #[.int .i64 3, .bool false, .string ⟨#[]⟩, .bool n1, .slice x1 lx c1, .bool n2, .slice x2 ly c2]) z 6) := CI.next hA.out kk
    replace qA : Hid _ := keep_heap kk qA.out
    replace hB : Hid (CI W6 (.agg #[.int .i64 3, .bool false, .string ⟨#[]⟩, .bool n3, .slice x3 lz c3, .bool n4, .slice x4 lu c4]) z' 6) := CI.next hB.out kk
    replace qB : Hid _ := keep_heap kk qB.out
    replace hX : Hid (CI W6 (.agg #[.int .i64 3, .bool false, .string ⟨#[]⟩, .bool nX, .slice xX lX cX, .bool mX, .slice yX kX dX]) (z + z') (6 + 4 + 4)) := CI.next hX.out kk
    replace qX : Hid _ := keep_heap kk qX.out
    replace zz : Hid _ := bthen zz.out kk
    go_upto_region 9 with fail
    rw [← hW6]
    clear hW6 k kk bb
    generalize w6.heap.size = pY at *
    obtain ⟨⟨a0, a1, a2, a3, a4, a5, a6⟩, _, _⟩ := cells7 qA.out
    go_wp2_with fail
    refine Calls.mono (Bin_xor hA.out hA.out (by decide)) ?_
    clear a0 a1 a2 a3 a4 a5 a6
    rintro e w7 ⟨tZ, rfl, hZ, bb⟩
    obtain ⟨nZ, xZ, lZ, cZ, mZ, yZ, kZ, dZ, rfl⟩ := hZ.form
    obtain ⟨W7, hW7⟩ : ∃ W7, W7 = w7.alloc (.cells #[.int .i64 3, .bool false, .string ⟨#[]⟩, .bool nZ, .slice xZ lZ cZ, .bool mZ, .slice yZ kZ dZ] 32) := ⟨_, rfl⟩
    have k : Below w7.heap.size w7 W7 := by rw [hW7]; exact (Below.refl _ _).alloc (Nat.le_refl _) _
    have qZ : Hid (W7.heap[w7.heap.size]? = some (.cells #[.int .i64 3, .bool false, .string ⟨#[]⟩, .bool nZ, .slice xZ lZ cZ, .bool mZ, .slice yZ kZ dZ] 32 (0, 0))) := by show _ = _; rw [hW7]; exact newAt _ _
    have kk := bthen bb k
    replace hZ : Hid (CI W7 (.agg #[.int .i64 3, .bool false, .string ⟨#[]⟩, .bool nZ, .slice xZ lZ cZ, .bool mZ, .slice yZ kZ dZ]) 0 64) := CI.next hZ k
    replace hA : Hid (CI W7 (.agg #[.int .i64 3, .bool false, .string ⟨#[]⟩, .bool n1, .slice x1 lx c1, .bool n2, .slice x2 ly c2]) z 6) := CI.next hA.out kk
    replace qA : Hid _ := keep_heap kk qA.out
    replace hB : Hid (CI W7 (.agg #[.int .i64 3, .bool false, .string ⟨#[]⟩, .bool n3, .slice x3 lz c3, .bool n4, .slice x4 lu c4]) z' 6) := CI.next hB.out kk
    replace qB : Hid _ := keep_heap kk qB.out
    replace hX : Hid (CI W7 (.agg #[.int .i64 3, .bool false, .string ⟨#[]⟩, .bool nX, .slice xX lX cX, .bool mX, .slice yX kX dX]) (z + z') (6 + 4 + 4)) := CI.next hX.out kk
    replace qX : Hid _ := keep_heap kk qX.out
    replace hY : Hid (CI W7 (.agg #[.int .i64 3, .bool false, .string ⟨#[]⟩, .bool nY, .slice xY lY cY, .bool mY, .slice yY kY dY]) (z' + z) (6 + 4 + 4)) := CI.next hY.out kk
    replace qY : Hid _ := keep_heap kk qY.out
    replace zz : Hid _ := bthen zz.out kk
    go_upto_region 10 with fail
    rw [← hW7]
    clear hW7 k kk bb
    generalize w7.heap.size = pZ at *
    by_cases h0 : z' = 0
    case pos =>
     replace h0 : Hid (z' = 0) := h0
     obtain ⟨⟨a0, a1, a2, a3, a4, a5, a6⟩, _, _⟩ := cells7 qA.out
     obtain ⟨⟨b0, b1, b2, b3, b4, b5, b6⟩, _, _⟩ := cells7 qB.out
     go_wp2_with fail
     refine Calls.mono (Bin_quo0 (y := z) hA.out (ci_zero hB.out h0.out) (by decide)) ?_
     clear a0 a1 a2 a3 a4 a5 a6 b0 b1 b2 b3 b4 b5 b6
     rintro e w8 ⟨he, bb⟩
     unfold cNone at he
     subst he
     obtain ⟨W8, hW8⟩ : ∃ W8, W8 = w8.alloc (.cells #[.int .i64 0, .bool false, .string ⟨#[]⟩, .bool false, .slice none 0 0, .bool false, .slice none 0 0] 32) := ⟨_, rfl⟩
     have k : Below w8.heap.size w8 W8 := by rw [hW8]; exact (Below.refl _ _).alloc (Nat.le_refl _) _
     have qQ : Hid (W8.heap[w8.heap.size]? = some (.cells #[.int .i64 0, .bool false, .string ⟨#[]⟩, .bool false, .slice none 0 0, .bool false, .slice none 0 0] 32 (0, 0))) := by show _ = _; rw [hW8]; exact newAt _ _
     have kk := bthen bb k
     replace hA : Hid (CI W8 (.agg #[.int .i64 3, .bool false, .string ⟨#[]⟩, .bool n1, .slice x1 lx c1, .bool n2, .slice x2 ly c2]) z 6) := CI.next hA.out kk
     replace qA : Hid _ := keep_heap kk qA.out
     replace hB : Hid (CI W8 (.agg #[.int .i64 3, .bool false, .string ⟨#[]⟩, .bool n3, .slice x3 lz c3, .bool n4, .slice x4 lu c4]) z' 6) := CI.next hB.out kk
     replace qB : Hid _ := keep_heap kk qB.out
     replace hX : Hid (CI W8 (.agg #[.int .i64 3, .bool false, .string ⟨#[]⟩, .bool nX, .slice xX lX cX, .bool mX, .slice yX kX dX]) (z + z') (6 + 4 + 4)) := CI.next hX.out kk
     replace qX : Hid _ := keep_heap kk qX.out
     replace hY : Hid (CI W8 (.agg #[.int .i64 3, .bool false, .string ⟨#[]⟩, .bool nY, .slice xY lY cY, .bool mY, .slice yY kY dY]) (z' + z) (6 + 4 + 4)) := CI.next hY.out kk
     replace qY : Hid _ := keep_heap kk qY.out
     replace hZ : Hid (CI W8 (.agg #[.int .i64 3, .bool false, .string ⟨#[]⟩, .bool nZ, .slice xZ lZ cZ, .bool mZ, .slice yZ kZ dZ]) 0 64) := CI.next hZ.out kk
     replace qZ : Hid _ := keep_heap kk qZ.out
     replace zz : Hid _ := bthen zz.out kk
     go_upto_region 11 with fail
     rw [← hW8]
     clear hW8 k kk bb
     generalize w8.heap.size = pQ at *
     obtain ⟨⟨a0, a1, a2, a3, a4, a5, a6⟩, _, _⟩ := cells7 qA.out
     obtain ⟨⟨b0, b1, b2, b3, b4, b5, b6⟩, _, _⟩ := cells7 qB.out
     go_wp2_with fail
     refine Calls.mono (Bin_rem0 (y := z) hA.out (ci_zero hB.out h0.out) (by decide)) ?_
     clear a0 a1 a2 a3 a4 a5 a6 b0 b1 b2 b3 b4 b5 b6
     rintro e w9 ⟨he, bb⟩
     unfold cNone at he
     subst he
     obtain ⟨W9, hW9⟩ : ∃ W9, W9 = w9.alloc (.cells #[.int .i64 0, .bool false, .string ⟨#[]⟩, .bool false, .slice none 0 0, .bool false, .slice none 0 0] 32) := ⟨_, rfl⟩
     have k : Below w9.heap.size w9 W9 := by rw [hW9]; exact (Below.refl _ _).alloc (Nat.le_refl _) _
     have qR : Hid (W9.heap[w9.heap.size]? = some (.cells #[.int .i64 0, .bool false, .string ⟨#[]⟩, .bool false, .slice none 0 0, .bool false, .slice none 0 0] 32 (0, 0))) := by show _ = _; rw [hW9]; exact newAt _ _
     have kk := bthen bb k
     replace hA : Hid (CI W9 (.agg #[.int .i64 3, .bool false, .string ⟨#[]⟩, .bool n1, .slice x1 lx c1, .bool n2, .slice x2 ly c2]) z 6) := CI.next hA.out kk
     replace qA : Hid _ := keep_heap kk qA.out
     replace hB : Hid (CI W9 (.agg #[.int .i64 3, .bool false, .string ⟨#[]⟩, .bool n3, .slice x3 lz c3, .bool n4, .slice x4 lu c4]) z' 6) := CI.next hB.out kk
     replace qB : Hid _ := keep_heap kk qB.out
     replace hX : Hid (CI W9 (.agg #[.int .i64 3, .bool false, .string ⟨#[]⟩, .bool nX, .slice xX lX cX, .bool mX, .slice yX kX dX]) (z + z') (6 + 4 + 4)) := CI.next hX.out kk
     replace qX : Hid _ := keep_heap kk qX.out
     replace hY : Hid (CI W9 (.agg #[.int .i64 3, .bool false, .string ⟨#[]⟩, .bool nY, .slice xY lY cY, .bool mY, .slice yY kY dY]) (z' + z) (6 + 4 + 4)) := CI.next hY.out kk
     replace qY : Hid _ := keep_heap kk qY.out
     replace hZ : Hid (CI W9 (.agg #[.int .i64 3, .bool false, .string ⟨#[]⟩, .bool nZ, .slice xZ lZ cZ, .bool mZ, .slice yZ kZ dZ]) 0 64) := CI.next hZ.out kk
     replace qZ : Hid _ := keep_heap kk qZ.out
     replace qQ : Hid _ := keep_heap kk qQ.out
     replace zz : Hid _ := bthen zz.out kk
     go_upto_region 12 with fail
     rw [← hW9]
     clear hW9 k kk bb
     generalize w9.heap.size = pR at *
     go_cut [112] from 86 to 112 (fun v wx => v = .bool false ∧ Hid (Below W9.heap.size W9 wx))
     case first =>
      rename_i J K' hJ hK'
      refine wp_region_typedF (V12 (.agg #[.int .i64 3, .bool false, .string ⟨#[]⟩, .bool nX, .slice xX lX cX, .bool mX, .slice yX kX dX]) (.agg #[.int .i64 3, .bool false, .string ⟨#[]⟩, .bool nY, .slice xY lY cY, .bool mY, .slice yY kY dY]) (.agg #[.int .i64 3, .bool false, .string ⟨#[]⟩, .bool nZ, .slice xZ lZ cZ, .bool mZ, .slice yZ kZ dZ]) pX pY pZ false) [10, 11, 12, 13, 14, 15, 17, 19] 139 (by kernel_rfl) (by kernel_rfl) rfl (V12_next _ _ _ _ _ _ _) ?hstart ?hstep ?hend
      case hstart =>
       intro t ht
       simp only [List.mem_cons, List.not_mem_nil, or_false] at ht
       rcases ht with rfl | rfl | rfl | rfl | rfl | rfl | rfl | rfl <;> rfl
      case hstep =>
       refine steps_cons ?s0 (steps_cons ?s1 (steps_cons ?s2 (steps_cons ?s3 (steps_cons ?s4 (steps_cons ?s5 (steps_cons ?s6 (steps_cons ?s7 (steps_cons ?s8 (steps_cons ?s9 (steps_cons ?s10 (steps_cons ?s11 (steps_cons ?s12 (steps_cons ?s13 (steps_cons ?s14 (steps_cons ?s15 (steps_cons ?s16 (steps_cons ?s17 (steps_cons ?s18 (steps_cons ?s19 (steps_cons ?s20 (steps_cons ?s21 (steps_cons ?s22 (steps_cons ?s23 (steps_cons ?s24 (steps_cons ?s25 (steps_cons ?s26 steps_nil))))))))))))))))))))))))))
       case s0 => exact step_move 11 86 rfl rfl (guard_none rfl) (by kernel_rfl) (fun v w h => h)
       case s1 =>
        refine StepOk.of (guard_none rfl) fun b w' hsz hW hl K hK => ?_
        clear hsz
        unfold Oper.wp
        have e86 : b.tmps[86]?.getD undef = .bool true := getD' (look hl 86 (by kernel_rfl))
        go_simp
        exact hK _ _ (Below.refl _ _) (dst_eq rfl (by first | rfl | decide))
       case s2 => exact step_move 87 88 rfl rfl (guard_none rfl) (by kernel_rfl) (fun v w h => h)
       case s3 => exact step_move 13 89 rfl rfl (guard_open 2 88 false rfl (by kernel_rfl) (by kernel_rfl) (fun v w h => h)) (by kernel_rfl) (fun v w h => h)
       case s4 =>
        refine StepOk.of (guard_open 2 88 false rfl (by kernel_rfl) (by kernel_rfl) (fun v w h => h)) fun b w' hsz hW hl K hK => ?_
        clear hsz
        unfold Oper.wp
        have e89 : b.tmps[89]?.getD undef = .bool true := getD' (look hl 89 (by kernel_rfl))
        go_simp
        exact hK _ _ (Below.refl _ _) (dst_eq rfl (by first | rfl | decide))
       case s5 => exact step_pickE 88 90 91 (.const (.bool true)) rfl rfl (guard_none rfl) (by kernel_rfl) (by kernel_rfl) (fun v w h => h) (fun v w h => h)
       case s6 => exact step_move 91 92 rfl rfl (guard_none rfl) (by kernel_rfl) (fun v w h => h)
       case s7 => exact step_move 15 93 rfl rfl (guard_open 6 92 false rfl (by kernel_rfl) (by kernel_rfl) (fun v w h => h)) (by kernel_rfl) (fun v w h => h)
       case s8 =>
        refine StepOk.of (guard_open 6 92 false rfl (by kernel_rfl) (by kernel_rfl) (fun v w h => h)) fun b w' hsz hW hl K hK => ?_
        clear hsz
        unfold Oper.wp
        have e93 : b.tmps[93]?.getD undef = .bool true := getD' (look hl 93 (by kernel_rfl))
        go_simp
        exact hK _ _ (Below.refl _ _) (dst_eq rfl (by first | rfl | decide))
       case s9 => exact step_pickE 92 94 95 (.const (.bool true)) rfl rfl (guard_none rfl) (by kernel_rfl) (by kernel_rfl) (fun v w h => h) (fun v w h => h)
       case s10 => exact step_move 95 96 rfl rfl (guard_none rfl) (by kernel_rfl) (fun v w h => h)
       case s11 => exact StepOk.of (guard_open 10 96 false rfl (by kernel_rfl) (by kernel_rfl) (fun v w h => h)) fun b w' hsz hW hl K hK => ld7 (keep_heap hW qX.out) 10 rfl (look hl 10 (by kernel_rfl)) (hK _ _ (Below.refl _ _) (dst_eq rfl rfl))
       case s12 => exact StepOk.of (guard_open 10 96 false rfl (by kernel_rfl) (by kernel_rfl) (fun v w h => h)) fun b w' hsz hW hl K hK => ld7 (keep_heap hW qY.out) 12 rfl (look hl 12 (by kernel_rfl)) (hK _ _ (Below.refl _ _) (dst_eq rfl rfl))
       case s13 => exact step_call2 21 97 98 99 _ (by kernel_rfl) rfl rfl (guard_open 10 96 false rfl (by kernel_rfl) (by kernel_rfl) (fun v w h => h)) (by kernel_rfl) (by kernel_rfl) (fun u v w' hB' hu hv => by have hu : u = .agg #[.int .i64 3, .bool false, .string ⟨#[]⟩, .bool nX, .slice xX lX cX, .bool mX, .slice yX kX dX] := hu; have hv : v = .agg #[.int .i64 3, .bool false, .string ⟨#[]⟩, .bool nY, .slice xY lY cY, .bool mY, .slice yY kY dY] := hv; subst hu; subst hv; exact (Eq_int (CI.next hX.out hB') (CI.next hY.out hB') (by decide)).mono fun e w'' h => ⟨_, h.1, congrArg Value.bool (decide_eq_true (Int.add_comm z z')), h.2⟩)
       case s14 =>
        refine StepOk.of (guard_open 10 96 false rfl (by kernel_rfl) (by kernel_rfl) (fun v w h => h)) fun b w' hsz hW hl K hK => ?_
        clear hsz
        unfold Oper.wp
        have e99 : b.tmps[99]?.getD undef = .bool true := getD' (look hl 99 (by kernel_rfl))
        go_simp
        exact hK _ _ (Below.refl _ _) (dst_eq rfl (by first | rfl | decide))
       case s15 => exact step_pickE 96 100 101 (.const (.bool true)) rfl rfl (guard_none rfl) (by kernel_rfl) (by kernel_rfl) (fun v w h => h) (fun v w h => h)
       case s16 => exact step_move 101 102 rfl rfl (guard_none rfl) (by kernel_rfl) (fun v w h => h)
       case s17 => exact StepOk.of (guard_open 16 102 false rfl (by kernel_rfl) (by kernel_rfl) (fun v w h => h)) fun b w' hsz hW hl K hK => ld7 (keep_heap hW qZ.out) 14 rfl (look hl 14 (by kernel_rfl)) (hK _ _ (Below.refl _ _) (dst_eq rfl rfl))
       case s18 => exact step_callc 31 (.int .i64 (0)) 104 _ (by kernel_rfl) rfl rfl (guard_open 16 102 false rfl (by kernel_rfl) (by kernel_rfl) (fun v w h => h)) (fun w' hB' => (whole_any (0) w' (by decide) (by decide)).mono fun e w'' ⟨t, h1, h2, h3⟩ => ⟨t, h1, h2, h3⟩)
       case s19 => exact step_call2 21 103 104 105 _ (by kernel_rfl) rfl rfl (guard_open 16 102 false rfl (by kernel_rfl) (by kernel_rfl) (fun v w h => h)) (by kernel_rfl) (by kernel_rfl) (fun u v w' hB' hu hv => by have hu : u = .agg #[.int .i64 3, .bool false, .string ⟨#[]⟩, .bool nZ, .slice xZ lZ cZ, .bool mZ, .slice yZ kZ dZ] := hu; subst hu; exact (Eq_int (CI.next hZ.out hB') (CI.more (m' := 64) (show CI w' v 0 6 from hv) (by decide)) (by decide)).mono fun e w'' h => ⟨_, h.1, rfl, h.2⟩)
       case s20 =>
        refine StepOk.of (guard_open 16 102 false rfl (by kernel_rfl) (by kernel_rfl) (fun v w h => h)) fun b w' hsz hW hl K hK => ?_
        clear hsz
        unfold Oper.wp
        have e105 : b.tmps[105]?.getD undef = .bool true := getD' (look hl 105 (by kernel_rfl))
        go_simp
        exact hK _ _ (Below.refl _ _) (dst_eq rfl (by first | rfl | decide))
       case s21 => exact step_pickE 102 106 107 (.const (.bool true)) rfl rfl (guard_none rfl) (by kernel_rfl) (by kernel_rfl) (fun v w h => h) (fun v w h => h)
       case s22 => exact step_move 107 108 rfl rfl (guard_none rfl) (by kernel_rfl) (fun v w h => h)
       case s23 => exact step_move 17 109 rfl rfl (guard_open 22 108 false rfl (by kernel_rfl) (by kernel_rfl) (fun v w h => h)) (by kernel_rfl) (fun v w h => h)
       case s24 => exact step_move 19 110 rfl rfl (guard_open 22 108 false rfl (by kernel_rfl) (by kernel_rfl) (fun v w h => h)) (by kernel_rfl) (fun v w h => h)
       case s25 =>
        refine StepOk.of (guard_open 22 108 false rfl (by kernel_rfl) (by kernel_rfl) (fun v w h => h)) fun b w' hsz hW hl K hK => ?_
        clear hsz
        unfold Oper.wp
        have e109 : b.tmps[109]?.getD undef = .bool false := getD' (look hl 109 (by kernel_rfl))
        have e110 : b.tmps[110]?.getD undef = .bool false := getD' (look hl 110 (by kernel_rfl))
        go_simp
        exact hK _ _ (Below.refl _ _) (dst_eq rfl rfl)
       case s26 => exact step_pickE 108 111 112 (.const (.bool true)) rfl rfl (guard_none rfl) (by kernel_rfl) (by kernel_rfl) (fun v w h => h) (fun v w h => h)
      case hend =>
       rintro ⟨tm, df⟩ w' hs hd hW hv hfr
       have e112 : tm.getD 112 undef = .bool false := hv 112 (.inr ⟨26, _, rfl, rfl⟩)
       obtain ⟨xs', htm, hxs⟩ := frame_mixed hfr hs
       have x112 : xs'.getD 112 undef = .bool false := (hxs 112).trans e112
       clear hxs hv hfr e112
       subst htm
       obtain rfl := hd
       refine hK' _ _ (Met.intro (hJ _ _ ?_))
       (repeat apply Exists.intro)
       refine ⟨?rel, rfl⟩
       case rel => exact ⟨x112, hW⟩
     case rest =>
      obtain ⟨rfl, hkk⟩ := hcut
      replace hB : Hid (CI wc (.agg #[.int .i64 3, .bool false, .string ⟨#[]⟩, .bool n3, .slice x3 lz c3, .bool n4, .slice x4 lu c4]) z' 6) := CI.next hB.out hkk.out
      replace qB : Hid _ := keep_heap hkk.out qB.out
      replace zz : Hid _ := bthen zz.out hkk.out
      go_upto_region 15 with fail
      refine wp_region_typed (V15 (.agg #[.int .i64 3, .bool false, .string ⟨#[]⟩, .bool n3, .slice x3 lz c3, .bool n4, .slice x4 lu c4]) (r + 1)) [3, 5] 139 (by kernel_rfl) (by kernel_rfl) rfl (V15_next _ _) ?hstart ?hstep ?hend
      case hstart =>
       intro t ht
       simp only [List.mem_cons, List.not_mem_nil, or_false] at ht
       rcases ht with rfl | rfl <;> rfl
      case hstep =>
       refine steps_cons ?s0 (steps_cons ?s1 (steps_cons ?s2 (steps_cons ?s3 (steps_cons ?s4 (steps_cons ?s5 (steps_cons ?s6 steps_nil))))))
       case s0 => exact step_move 5 115 rfl rfl (guard_none rfl) (by kernel_rfl) (fun v w h => h)
       case s1 => exact step_move 115 116 rfl rfl (guard_none rfl) (by kernel_rfl) (fun v w h => h)
       case s2 => exact StepOk.of (guard_open 1 116 true rfl (by kernel_rfl) (by kernel_rfl) (fun v w h => h)) fun b w' hsz hW hl K hK => ld7 (keep_heap hW qB.out) 3 rfl (look hl 3 (by kernel_rfl)) (hK _ _ (Below.refl _ _) (dst_eq rfl rfl))
       case s3 => exact step_callc 31 (.int .i64 (0)) 118 _ (by kernel_rfl) rfl rfl (guard_open 1 116 true rfl (by kernel_rfl) (by kernel_rfl) (fun v w h => h)) (fun w' hB' => (whole_any (0) w' (by decide) (by decide)).mono fun e w'' ⟨t, h1, h2, h3⟩ => ⟨t, h1, h2, h3⟩)
       case s4 => exact step_call2 21 117 118 119 _ (by kernel_rfl) rfl rfl (guard_open 1 116 true rfl (by kernel_rfl) (by kernel_rfl) (fun v w h => h)) (by kernel_rfl) (by kernel_rfl) (fun u v w' hB' hu hv => by have hu : u = .agg #[.int .i64 3, .bool false, .string ⟨#[]⟩, .bool n3, .slice x3 lz c3, .bool n4, .slice x4 lu c4] := hu; subst hu; exact (Eq_int (CI.next (ci_zero hB.out h0.out) hB') (CI.more (m' := 6) (show CI w' v 0 6 from hv) (by decide)) (by decide)).mono fun e w'' h => ⟨_, h.1, rfl, h.2⟩)
       case s5 => exact step_pick 116 119 120 (.const (.bool false)) rfl rfl (guard_none rfl) (by kernel_rfl) (by kernel_rfl) (fun v w h => h) (fun v w h => h)
       case s6 => exact step_assign 120 4 rfl rfl (guard_none rfl) (by kernel_rfl) (fun v w h => h)
      case hend =>
       intro b w' hs hd hW hv
       have h0 : b.tmps.getD 4 undef = .bool true := hv 4 (.inr ⟨6, _, rfl, rfl⟩)
       rw [Array.getD_eq_getD_getElem?] at h0
       go_wp2
       exact bodyPost_ret (v := .bool true) (by simp [results, Tryz.results7, go_sem, h0]) hd ⟨rfl, bthen zz.out hW⟩
    case neg =>
     replace h0 : Hid (z' ≠ 0) := h0
     obtain ⟨⟨a0, a1, a2, a3, a4, a5, a6⟩, _, _⟩ := cells7 qA.out
     obtain ⟨⟨b0, b1, b2, b3, b4, b5, b6⟩, _, _⟩ := cells7 qB.out
     go_wp2_with fail
     refine Calls.mono (Bin_quo hA.out hB.out (by decide) h0.out) ?_
     clear a0 a1 a2 a3 a4 a5 a6 b0 b1 b2 b3 b4 b5 b6
     rintro e w8 ⟨tQ, rfl, hQ, bb⟩
     obtain ⟨nQ, xQ, lQ, cQ, mQ, yQ, kQ, dQ, rfl⟩ := hQ.form
     obtain ⟨W8, hW8⟩ : ∃ W8, W8 = w8.alloc (.cells #[.int .i64 3, .bool false, .string ⟨#[]⟩, .bool nQ, .slice xQ lQ cQ, .bool mQ, .slice yQ kQ dQ] 32) := ⟨_, rfl⟩
     have k : Below w8.heap.size w8 W8 := by rw [hW8]; exact (Below.refl _ _).alloc (Nat.le_refl _) _
     have qQ : Hid (W8.heap[w8.heap.size]? = some (.cells #[.int .i64 3, .bool false, .string ⟨#[]⟩, .bool nQ, .slice xQ lQ cQ, .bool mQ, .slice yQ kQ dQ] 32 (0, 0))) := by show _ = _; rw [hW8]; exact newAt _ _
     have kk := bthen bb k
     replace hQ : Hid (CI W8 (.agg #[.int .i64 3, .bool false, .string ⟨#[]⟩, .bool nQ, .slice xQ lQ cQ, .bool mQ, .slice yQ kQ dQ]) (z.tdiv z') (6 + 4 + 4)) := CI.next hQ k
     replace hA : Hid (CI W8 (.agg #[.int .i64 3, .bool false, .string ⟨#[]⟩, .bool n1, .slice x1 lx c1, .bool n2, .slice x2 ly c2]) z 6) := CI.next hA.out kk
     replace qA : Hid _ := keep_heap kk qA.out
     replace hB : Hid (CI W8 (.agg #[.int .i64 3, .bool false, .string ⟨#[]⟩, .bool n3, .slice x3 lz c3, .bool n4, .slice x4 lu c4]) z' 6) := CI.next hB.out kk
     replace qB : Hid _ := keep_heap kk qB.out
     replace hX : Hid (CI W8 (.agg #[.int .i64 3, .bool false, .string ⟨#[]⟩, .bool nX, .slice xX lX cX, .bool mX, .slice yX kX dX]) (z + z') (6 + 4 + 4)) := CI.next hX.out kk
     replace qX : Hid _ := keep_heap kk qX.out
     replace hY : Hid (CI W8 (.agg #[.int .i64 3, .bool false, .string ⟨#[]⟩, .bool nY, .slice xY lY cY, .bool mY, .slice yY kY dY]) (z' + z) (6 + 4 + 4)) := CI.next hY.out kk
     replace qY : Hid _ := keep_heap kk qY.out
     replace hZ : Hid (CI W8 (.agg #[.int .i64 3, .bool false, .string ⟨#[]⟩, .bool nZ, .slice xZ lZ cZ, .bool mZ, .slice yZ kZ dZ]) 0 64) := CI.next hZ.out kk
     replace qZ : Hid _ := keep_heap kk qZ.out
     replace zz : Hid _ := bthen zz.out kk
     go_upto_region 11 with fail
     rw [← hW8]
     clear hW8 k kk bb
     generalize w8.heap.size = pQ at *
     obtain ⟨⟨a0, a1, a2, a3, a4, a5, a6⟩, _, _⟩ := cells7 qA.out
     obtain ⟨⟨b0, b1, b2, b3, b4, b5, b6⟩, _, _⟩ := cells7 qB.out
     go_wp2_with fail
     refine Calls.mono (Bin_rem hA.out hB.out (by decide) h0.out) ?_
     clear a0 a1 a2 a3 a4 a5 a6 b0 b1 b2 b3 b4 b5 b6
     rintro e w9 ⟨tR, rfl, hR, bb⟩
     obtain ⟨nR, xR, lR, cR, mR, yR, kR, dR, rfl⟩ := hR.form
     obtain ⟨W9, hW9⟩ : ∃ W9, W9 = w9.alloc (.cells #[.int .i64 3, .bool false, .string ⟨#[]⟩, .bool nR, .slice xR lR cR, .bool mR, .slice yR kR dR] 32) := ⟨_, rfl⟩
     have k : Below w9.heap.size w9 W9 := by rw [hW9]; exact (Below.refl _ _).alloc (Nat.le_refl _) _
     have qR : Hid (W9.heap[w9.heap.size]? = some (.cells #[.int .i64 3, .bool false, .string ⟨#[]⟩, .bool nR, .slice xR lR cR, .bool mR, .slice yR kR dR] 32 (0, 0))) := by show _ = _; rw [hW9]; exact newAt _ _
     have kk := bthen bb k
     replace hR : Hid (CI W9 (.agg #[.int .i64 3, .bool false, .string ⟨#[]⟩, .bool nR, .slice xR lR cR, .bool mR, .slice yR kR dR]) (z.tmod z') (6 + 3 + (6 + 3) + 4)) := CI.next hR k
     replace hA : Hid (CI W9 (.agg #[.int .i64 3, .bool false, .string ⟨#[]⟩, .bool n1, .slice x1 lx c1, .bool n2, .slice x2 ly c2]) z 6) := CI.next hA.out kk
     replace qA : Hid _ := keep_heap kk qA.out
     replace hB : Hid (CI W9 (.agg #[.int .i64 3, .bool false, .string ⟨#[]⟩, .bool n3, .slice x3 lz c3, .bool n4, .slice x4 lu c4]) z' 6) := CI.next hB.out kk
     replace qB : Hid _ := keep_heap kk qB.out
     replace hX : Hid (CI W9 (.agg #[.int .i64 3, .bool false, .string ⟨#[]⟩, .bool nX, .slice xX lX cX, .bool mX, .slice yX kX dX]) (z + z') (6 + 4 + 4)) := CI.next hX.out kk
     replace qX : Hid _ := keep_heap kk qX.out
     replace hY : Hid (CI W9 (.agg #[.int .i64 3, .bool false, .string ⟨#[]⟩, .bool nY, .slice xY lY cY, .bool mY, .slice yY kY dY]) (z' + z) (6 + 4 + 4)) := CI.next hY.out kk
     replace qY : Hid _ := keep_heap kk qY.out
     replace hZ : Hid (CI W9 (.agg #[.int .i64 3, .bool false, .string ⟨#[]⟩, .bool nZ, .slice xZ lZ cZ, .bool mZ, .slice yZ kZ dZ]) 0 64) := CI.next hZ.out kk
     replace qZ : Hid _ := keep_heap kk qZ.out
     replace hQ : Hid (CI W9 (.agg #[.int .i64 3, .bool false, .string ⟨#[]⟩, .bool nQ, .slice xQ lQ cQ, .bool mQ, .slice yQ kQ dQ]) (z.tdiv z') (6 + 4 + 4)) := CI.next hQ.out kk
     replace qQ : Hid _ := keep_heap kk qQ.out
     replace zz : Hid _ := bthen zz.out kk
     go_upto_region 12 with fail
     rw [← hW9]
     clear hW9 k kk bb
     generalize w9.heap.size = pR at *
     go_cut [112] from 86 to 112 (fun v wx => v = .bool false ∧ Hid (Below W9.heap.size W9 wx))
     case first =>
      rename_i J K' hJ hK'
      refine wp_region_typedF (V12 (.agg #[.int .i64 3, .bool false, .string ⟨#[]⟩, .bool nX, .slice xX lX cX, .bool mX, .slice yX kX dX]) (.agg #[.int .i64 3, .bool false, .string ⟨#[]⟩, .bool nY, .slice xY lY cY, .bool mY, .slice yY kY dY]) (.agg #[.int .i64 3, .bool false, .string ⟨#[]⟩, .bool nZ, .slice xZ lZ cZ, .bool mZ, .slice yZ kZ dZ]) pX pY pZ true) [10, 11, 12, 13, 14, 15, 17, 19] 139 (by kernel_rfl) (by kernel_rfl) rfl (V12_next _ _ _ _ _ _ _) ?hstart ?hstep ?hend
      case hstart =>
       intro t ht
       simp only [List.mem_cons, List.not_mem_nil, or_false] at ht
       rcases ht with rfl | rfl | rfl | rfl | rfl | rfl | rfl | rfl <;> rfl
      case hstep =>
       refine steps_cons ?s0 (steps_cons ?s1 (steps_cons ?s2 (steps_cons ?s3 (steps_cons ?s4 (steps_cons ?s5 (steps_cons ?s6 (steps_cons ?s7 (steps_cons ?s8 (steps_cons ?s9 (steps_cons ?s10 (steps_cons ?s11 (steps_cons ?s12 (steps_cons ?s13 (steps_cons ?s14 (steps_cons ?s15 (steps_cons ?s16 (steps_cons ?s17 (steps_cons ?s18 (steps_cons ?s19 (steps_cons ?s20 (steps_cons ?s21 (steps_cons ?s22 (steps_cons ?s23 (steps_cons ?s24 (steps_cons ?s25 (steps_cons ?s26 steps_nil))))))))))))))))))))))))))
       case s0 => exact step_move 11 86 rfl rfl (guard_none rfl) (by kernel_rfl) (fun v w h => h)
       case s1 =>
        refine StepOk.of (guard_none rfl) fun b w' hsz hW hl K hK => ?_
        clear hsz
        unfold Oper.wp
        have e86 : b.tmps[86]?.getD undef = .bool true := getD' (look hl 86 (by kernel_rfl))
        go_simp
        exact hK _ _ (Below.refl _ _) (dst_eq rfl (by first | rfl | decide))
       case s2 => exact step_move 87 88 rfl rfl (guard_none rfl) (by kernel_rfl) (fun v w h => h)
       case s3 => exact step_move 13 89 rfl rfl (guard_open 2 88 false rfl (by kernel_rfl) (by kernel_rfl) (fun v w h => h)) (by kernel_rfl) (fun v w h => h)
       case s4 =>
        refine StepOk.of (guard_open 2 88 false rfl (by kernel_rfl) (by kernel_rfl) (fun v w h => h)) fun b w' hsz hW hl K hK => ?_
        clear hsz
        unfold Oper.wp
        have e89 : b.tmps[89]?.getD undef = .bool true := getD' (look hl 89 (by kernel_rfl))
        go_simp
        exact hK _ _ (Below.refl _ _) (dst_eq rfl (by first | rfl | decide))
       case s5 => exact step_pickE 88 90 91 (.const (.bool true)) rfl rfl (guard_none rfl) (by kernel_rfl) (by kernel_rfl) (fun v w h => h) (fun v w h => h)
       case s6 => exact step_move 91 92 rfl rfl (guard_none rfl) (by kernel_rfl) (fun v w h => h)
       case s7 => exact step_move 15 93 rfl rfl (guard_open 6 92 false rfl (by kernel_rfl) (by kernel_rfl) (fun v w h => h)) (by kernel_rfl) (fun v w h => h)
       case s8 =>
        refine StepOk.of (guard_open 6 92 false rfl (by kernel_rfl) (by kernel_rfl) (fun v w h => h)) fun b w' hsz hW hl K hK => ?_
        clear hsz
        unfold Oper.wp
        have e93 : b.tmps[93]?.getD undef = .bool true := getD' (look hl 93 (by kernel_rfl))
        go_simp
        exact hK _ _ (Below.refl _ _) (dst_eq rfl (by first | rfl | decide))
       case s9 => exact step_pickE 92 94 95 (.const (.bool true)) rfl rfl (guard_none rfl) (by kernel_rfl) (by kernel_rfl) (fun v w h => h) (fun v w h => h)
       case s10 => exact step_move 95 96 rfl rfl (guard_none rfl) (by kernel_rfl) (fun v w h => h)
       case s11 => exact StepOk.of (guard_open 10 96 false rfl (by kernel_rfl) (by kernel_rfl) (fun v w h => h)) fun b w' hsz hW hl K hK => ld7 (keep_heap hW qX.out) 10 rfl (look hl 10 (by kernel_rfl)) (hK _ _ (Below.refl _ _) (dst_eq rfl rfl))
       case s12 => exact StepOk.of (guard_open 10 96 false rfl (by kernel_rfl) (by kernel_rfl) (fun v w h => h)) fun b w' hsz hW hl K hK => ld7 (keep_heap hW qY.out) 12 rfl (look hl 12 (by kernel_rfl)) (hK _ _ (Below.refl _ _) (dst_eq rfl rfl))
       case s13 => exact step_call2 21 97 98 99 _ (by kernel_rfl) rfl rfl (guard_open 10 96 false rfl (by kernel_rfl) (by kernel_rfl) (fun v w h => h)) (by kernel_rfl) (by kernel_rfl) (fun u v w' hB' hu hv => by have hu : u = .agg #[.int .i64 3, .bool false, .string ⟨#[]⟩, .bool nX, .slice xX lX cX, .bool mX, .slice yX kX dX] := hu; have hv : v = .agg #[.int .i64 3, .bool false, .string ⟨#[]⟩, .bool nY, .slice xY lY cY, .bool mY, .slice yY kY dY] := hv; subst hu; subst hv; exact (Eq_int (CI.next hX.out hB') (CI.next hY.out hB') (by decide)).mono fun e w'' h => ⟨_, h.1, congrArg Value.bool (decide_eq_true (Int.add_comm z z')), h.2⟩)
       case s14 =>
        refine StepOk.of (guard_open 10 96 false rfl (by kernel_rfl) (by kernel_rfl) (fun v w h => h)) fun b w' hsz hW hl K hK => ?_
        clear hsz
        unfold Oper.wp
        have e99 : b.tmps[99]?.getD undef = .bool true := getD' (look hl 99 (by kernel_rfl))
        go_simp
        exact hK _ _ (Below.refl _ _) (dst_eq rfl (by first | rfl | decide))
       case s15 => exact step_pickE 96 100 101 (.const (.bool true)) rfl rfl (guard_none rfl) (by kernel_rfl) (by kernel_rfl) (fun v w h => h) (fun v w h => h)
       case s16 => exact step_move 101 102 rfl rfl (guard_none rfl) (by kernel_rfl) (fun v w h => h)
       case s17 => exact StepOk.of (guard_open 16 102 false rfl (by kernel_rfl) (by kernel_rfl) (fun v w h => h)) fun b w' hsz hW hl K hK => ld7 (keep_heap hW qZ.out) 14 rfl (look hl 14 (by kernel_rfl)) (hK _ _ (Below.refl _ _) (dst_eq rfl rfl))
       case s18 => exact step_callc 31 (.int .i64 (0)) 104 _ (by kernel_rfl) rfl rfl (guard_open 16 102 false rfl (by kernel_rfl) (by kernel_rfl) (fun v w h => h)) (fun w' hB' => (whole_any (0) w' (by decide) (by decide)).mono fun e w'' ⟨t, h1, h2, h3⟩ => ⟨t, h1, h2, h3⟩)
       case s19 => exact step_call2 21 103 104 105 _ (by kernel_rfl) rfl rfl (guard_open 16 102 false rfl (by kernel_rfl) (by kernel_rfl) (fun v w h => h)) (by kernel_rfl) (by kernel_rfl) (fun u v w' hB' hu hv => by have hu : u = .agg #[.int .i64 3, .bool false, .string ⟨#[]⟩, .bool nZ, .slice xZ lZ cZ, .bool mZ, .slice yZ kZ dZ] := hu; subst hu; exact (Eq_int (CI.next hZ.out hB') (CI.more (m' := 64) (show CI w' v 0 6 from hv) (by decide)) (by decide)).mono fun e w'' h => ⟨_, h.1, rfl, h.2⟩)
       case s20 =>
        refine StepOk.of (guard_open 16 102 false rfl (by kernel_rfl) (by kernel_rfl) (fun v w h => h)) fun b w' hsz hW hl K hK => ?_
        clear hsz
        unfold Oper.wp
        have e105 : b.tmps[105]?.getD undef = .bool true := getD' (look hl 105 (by kernel_rfl))
        go_simp
        exact hK _ _ (Below.refl _ _) (dst_eq rfl (by first | rfl | decide))
       case s21 => exact step_pickE 102 106 107 (.const (.bool true)) rfl rfl (guard_none rfl) (by kernel_rfl) (by kernel_rfl) (fun v w h => h) (fun v w h => h)
       case s22 => exact step_move 107 108 rfl rfl (guard_none rfl) (by kernel_rfl) (fun v w h => h)
       case s23 => exact step_move 17 109 rfl rfl (guard_open 22 108 false rfl (by kernel_rfl) (by kernel_rfl) (fun v w h => h)) (by kernel_rfl) (fun v w h => h)
       case s24 => exact step_move 19 110 rfl rfl (guard_open 22 108 false rfl (by kernel_rfl) (by kernel_rfl) (fun v w h => h)) (by kernel_rfl) (fun v w h => h)
       case s25 =>
        refine StepOk.of (guard_open 22 108 false rfl (by kernel_rfl) (by kernel_rfl) (fun v w h => h)) fun b w' hsz hW hl K hK => ?_
        clear hsz
        unfold Oper.wp
        have e109 : b.tmps[109]?.getD undef = .bool true := getD' (look hl 109 (by kernel_rfl))
        have e110 : b.tmps[110]?.getD undef = .bool true := getD' (look hl 110 (by kernel_rfl))
        go_simp
        exact hK _ _ (Below.refl _ _) (dst_eq rfl rfl)
       case s26 => exact step_pickE 108 111 112 (.const (.bool true)) rfl rfl (guard_none rfl) (by kernel_rfl) (by kernel_rfl) (fun v w h => h) (fun v w h => h)
      case hend =>
       rintro ⟨tm, df⟩ w' hs hd hW hv hfr
       have e112 : tm.getD 112 undef = .bool false := hv 112 (.inr ⟨26, _, rfl, rfl⟩)
       obtain ⟨xs', htm, hxs⟩ := frame_mixed hfr hs
       have x112 : xs'.getD 112 undef = .bool false := (hxs 112).trans e112
       clear hxs hv hfr e112
       subst htm
       obtain rfl := hd
       refine hK' _ _ (Met.intro (hJ _ _ ?_))
       (repeat apply Exists.intro)
       refine ⟨?rel, rfl⟩
       case rel => exact ⟨x112, hW⟩
     case rest =>
      obtain ⟨rfl, hkk⟩ := hcut
      replace hA : Hid (CI wc (.agg #[.int .i64 3, .bool false, .string ⟨#[]⟩, .bool n1, .slice x1 lx c1, .bool n2, .slice x2 ly c2]) z 6) := CI.next hA.out hkk.out
      replace qA : Hid _ := keep_heap hkk.out qA.out
      replace hB : Hid (CI wc (.agg #[.int .i64 3, .bool false, .string ⟨#[]⟩, .bool n3, .slice x3 lz c3, .bool n4, .slice x4 lu c4]) z' 6) := CI.next hB.out hkk.out
      replace qB : Hid _ := keep_heap hkk.out qB.out
      replace hQ : Hid (CI wc (.agg #[.int .i64 3, .bool false, .string ⟨#[]⟩, .bool nQ, .slice xQ lQ cQ, .bool mQ, .slice yQ kQ dQ]) (z.tdiv z') (6 + 4 + 4)) := CI.next hQ.out hkk.out
      replace qQ : Hid _ := keep_heap hkk.out qQ.out
      replace hR : Hid (CI wc (.agg #[.int .i64 3, .bool false, .string ⟨#[]⟩, .bool nR, .slice xR lR cR, .bool mR, .slice yR kR dR]) (z.tmod z') (6 + 3 + (6 + 3) + 4)) := CI.next hR.out hkk.out
      replace qR : Hid _ := keep_heap hkk.out qR.out
      replace zz : Hid _ := bthen zz.out hkk.out
      go_upto_region 16 with fail
      obtain ⟨⟨q0, q1, q2, q3, q4, q5, q6⟩, _, _⟩ := cells7 qQ.out
      obtain ⟨⟨b0, b1, b2, b3, b4, b5, b6⟩, _, _⟩ := cells7 qB.out
      go_wp2_with fail
      refine Calls.mono (Bin_mul (m := 14) (CI.more hQ.out (by decide)) (CI.more hB.out (by decide)) (by decide)) ?_
      clear q0 q1 q2 q3 q4 q5 q6 b0 b1 b2 b3 b4 b5 b6
      rintro e w10 ⟨tM, rfl, hM, bb⟩
      obtain ⟨nM, xM, lM, cM, mM, yM, kM, dM, rfl⟩ := hM.form
      obtain ⟨W10, hW10⟩ : ∃ W10, W10 = w10.alloc (.cells #[.int .i64 3, .bool false, .string ⟨#[]⟩, .bool nM, .slice xM lM cM, .bool mM, .slice yM kM dM] 32) := ⟨_, rfl⟩
      have k : Below w10.heap.size w10 W10 := by rw [hW10]; exact (Below.refl _ _).alloc (Nat.le_refl _) _
      have qM : Hid (W10.heap[w10.heap.size]? = some (.cells #[.int .i64 3, .bool false, .string ⟨#[]⟩, .bool nM, .slice xM lM cM, .bool mM, .slice yM kM dM] 32 (0, 0))) := by show _ = _; rw [hW10]; exact newAt _ _
      have kk := bthen bb k
      replace hM : Hid (CI W10 (.agg #[.int .i64 3, .bool false, .string ⟨#[]⟩, .bool nM, .slice xM lM cM, .bool mM, .slice yM kM dM]) (z.tdiv z' * z') (14 + 3 + (14 + 3) + 4)) := CI.next hM k
      replace hA : Hid (CI W10 (.agg #[.int .i64 3, .bool false, .string ⟨#[]⟩, .bool n1, .slice x1 lx c1, .bool n2, .slice x2 ly c2]) z 6) := CI.next hA.out kk
      replace qA : Hid _ := keep_heap kk qA.out
      replace hB : Hid (CI W10 (.agg #[.int .i64 3, .bool false, .string ⟨#[]⟩, .bool n3, .slice x3 lz c3, .bool n4, .slice x4 lu c4]) z' 6) := CI.next hB.out kk
      replace qB : Hid _ := keep_heap kk qB.out
      replace hQ : Hid (CI W10 (.agg #[.int .i64 3, .bool false, .string ⟨#[]⟩, .bool nQ, .slice xQ lQ cQ, .bool mQ, .slice yQ kQ dQ]) (z.tdiv z') (6 + 4 + 4)) := CI.next hQ.out kk
      replace qQ : Hid _ := keep_heap kk qQ.out
      replace hR : Hid (CI W10 (.agg #[.int .i64 3, .bool false, .string ⟨#[]⟩, .bool nR, .slice xR lR cR, .bool mR, .slice yR kR dR]) (z.tmod z') (6 + 3 + (6 + 3) + 4)) := CI.next hR.out kk
      replace qR : Hid _ := keep_heap kk qR.out
      replace zz : Hid _ := bthen zz.out kk
      go_upto_region 17 with fail
      rw [← hW10]
      clear hW10 k kk bb
      generalize w10.heap.size = pM at *
      obtain ⟨⟨m0, m1, m2, m3, m4, m5, m6⟩, _, _⟩ := cells7 qM.out
      obtain ⟨⟨r0, r1, r2, r3, r4, r5, r6⟩, _, _⟩ := cells7 qR.out
      go_wp2_with fail
      refine Calls.mono (Bin_add (m := 38) (CI.more hM.out (by decide)) (CI.more hR.out (by decide)) (by decide)) ?_
      clear m0 m1 m2 m3 m4 m5 m6 r0 r1 r2 r3 r4 r5 r6
      rintro e w11 ⟨tS, rfl, hS, bb⟩
      obtain ⟨nS, xS, lS, cS, mS, yS, kS, dS, rfl⟩ := hS.form
      obtain ⟨W11, hW11⟩ : ∃ W11, W11 = w11.alloc (.cells #[.int .i64 3, .bool false, .string ⟨#[]⟩, .bool nS, .slice xS lS cS, .bool mS, .slice yS kS dS] 32) := ⟨_, rfl⟩
      have k : Below w11.heap.size w11 W11 := by rw [hW11]; exact (Below.refl _ _).alloc (Nat.le_refl _) _
      have qS : Hid (W11.heap[w11.heap.size]? = some (.cells #[.int .i64 3, .bool false, .string ⟨#[]⟩, .bool nS, .slice xS lS cS, .bool mS, .slice yS kS dS] 32 (0, 0))) := by show _ = _; rw [hW11]; exact newAt _ _
      have kk := bthen bb k
      replace hS : Hid (CI W11 (.agg #[.int .i64 3, .bool false, .string ⟨#[]⟩, .bool nS, .slice xS lS cS, .bool mS, .slice yS kS dS]) (z.tdiv z' * z' + z.tmod z') (38 + 4 + 4)) := CI.next hS k
      replace hA : Hid (CI W11 (.agg #[.int .i64 3, .bool false, .string ⟨#[]⟩, .bool n1, .slice x1 lx c1, .bool n2, .slice x2 ly c2]) z 6) := CI.next hA.out kk
      replace qA : Hid _ := keep_heap kk qA.out
      replace zz : Hid _ := bthen zz.out kk
      go_upto_region 18 with fail
      rw [← hW11]
      clear hW11 k kk bb
      generalize w11.heap.size = pS at *
      have kE : Hid (Calls Tryz.prog 21 #[.agg #[.int .i64 3, .bool false, .string ⟨#[]⟩, .bool nS, .slice xS lS cS, .bool mS, .slice yS kS dS], .agg #[.int .i64 3, .bool false, .string ⟨#[]⟩, .bool n1, .slice x1 lx c1, .bool n2, .slice x2 ly c2]] W11 fun e w' => e = .returned (.bool true) ∧ Below W11.heap.size W11 w') := by
        have hE := Eq_int hS.out (CI.more (m' := 46) hA.out (by decide)) (by decide)
        rw [decide_eq_true (show z.tdiv z' * z' + z.tmod z' = z from by rw [Int.mul_comm]; exact Int.mul_tdiv_add_tmod z z')] at hE
        exact hE
      obtain ⟨⟨s0, s1, s2, s3, s4, s5, s6⟩, _, _⟩ := cells7 qS.out
      obtain ⟨⟨a0, a1, a2, a3, a4, a5, a6⟩, _, _⟩ := cells7 qA.out
      go_wp2_with fail
      refine Calls.mono kE.out ?_
      rintro e w12 ⟨rfl, b12⟩
      go_wp2
      exact bodyPost_ret (v := .bool true) (by simp [results, Tryz.results7, go_sem]) rfl ⟨rfl, bthen zz.out b12⟩
end Go.Proofs.YtclokcoimdjaeaaGreatDoor
