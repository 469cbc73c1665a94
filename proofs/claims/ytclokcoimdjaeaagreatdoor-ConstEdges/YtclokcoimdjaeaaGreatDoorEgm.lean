/- constants: what fits at the four integer types, by both roads. -/
import Derived.Test.YtclokcoimdjaeaaGreatDoorZhm
import Derived.Test.YtclokcoimdjaeaaGreatDoorZi
import Derived.Test.YtclokcoimdjaeaaGreatDoorZj
import Derived.Test.YtclokcoimdjaeaaGreatDoorZd
import Derived.Test.YtclokcoimdjaeaaGreatDoorZcm
import Derived.Test.YtclokcoimdjaeaaGreatDoorEfm
import Derived.Deep.CutRange
import Derived.Deep.RegionWith
import Derived.Test.YtclokcoimdjaeaaGreatDoorYc
import Derived.Deep.DeepCutAuto
import Derived.Deep.LoopGhost
namespace Go.Proofs.YtclokcoimdjaeaaGreatDoor
open Go.RowKit
/-- The four integer types' names and ends. -/
def nameI : Nat → ByteArray
  | 0 => ⟨#[105, 110, 116]⟩
  | 1 => ⟨#[105, 110, 116, 56]⟩
  | 2 => ⟨#[117, 105, 110, 116, 56]⟩
  | _ => ⟨#[117, 105, 110, 116]⟩
def loI : Nat → Int
  | 0 => -9223372036854775808
  | 1 => -128
  | _ => 0
def hiI : Nat → Int
  | 0 => 9223372036854775807
  | 1 => 127
  | 2 => 255
  | _ => 18446744073709551615
theorem nameI_int (i : Nat) : IntName (nameI i) := by
  match i with
  | 0 => exact ⟨by kernel_rfl, by kernel_rfl, by kernel_rfl, by kernel_rfl⟩
  | 1 => exact ⟨by kernel_rfl, by kernel_rfl, by kernel_rfl, by kernel_rfl⟩
  | 2 => exact ⟨by kernel_rfl, by kernel_rfl, by kernel_rfl, by kernel_rfl⟩
  | _ + 3 => exact ⟨by kernel_rfl, by kernel_rfl, by kernel_rfl, by kernel_rfl⟩
theorem rangeI (i : Nat) : RangeIs (nameI i) (loI i) (hiI i) := by
  match i with
  | 0 => exact fun X => range_int X
  | 1 => exact fun X => range_int8 X
  | 2 => exact fun X => range_uint8 X
  | _ + 3 => exact fun X => range_uint X
theorem endsI (i : Nat) (X : World) : Calls Tryz.prog 182 #[.string (nameI i)] X fun e w' => ∃ u v, e = .returned (.tuple #[u, v, .bool true]) ∧ Num w' u (loI i) 2 ∧ Num w' v (hiI i) 2 ∧ Below X.heap.size X w' := by
  match i with
  | 0 => exact ends_int X
  | 1 => exact ends_int8 X
  | 2 => exact ends_uint8 X
  | _ + 3 => exact ends_uint X
/-- What a number that is p over q is at the i-th type. -/
def fitZ (i : Nat) (p q : Int) : Option Int := if q = 1 ∧ loI i ≤ p ∧ p ≤ hiI i then some p else none
def FitR (z : Option Int) (m : Nat) (w : World) (t : Value) (B : Bool) : Prop := match z with
  | some z => B = true ∧ CRn w t 3 z 1 m
  | none => B = false ∧ t = cNone
theorem cmpI_neg {a b : Int} : cmpI a b < 0 ↔ a < b := by unfold cmpI; repeat' split <;> omega
theorem cmpI_pos {a b : Int} : cmpI a b > 0 ↔ b < a := by unfold cmpI; repeat' split <;> omega
theorem ref_fit (i : Nat) {w : World} {u : Value} {k p q : Int} {m : Nat} (hu : CRn w u k p q m) (hk : (decide (k = 3) || decide (k = 4)) = true) (hq : 0 < q) (hm : m ≤ 300) :
    Calls Tryz.prog 25 #[u, .string (nameI i)] w fun e w' => ∃ t B, e = .returned (.tuple #[t, .bool B]) ∧ FitR (fitZ i p q) m w' t B ∧ Below w.heap.size w w' := by
  by_cases h1 : q = 1
  case neg =>
    have e : fitZ i p q = none := if_neg (by omega)
    rw [e]
    exact (Fits25_frac (nameI_int i) (rangeI i) hu hk hq hm h1).mono fun e w' ⟨h, hb⟩ => ⟨_, _, h, ⟨rfl, rfl⟩, hb⟩
  by_cases h2 : cmpI p (loI i) < 0
  case pos =>
    have e : fitZ i p q = none := if_neg (by rw [cmpI_neg] at h2; omega)
    rw [e]
    exact (Fits25_low (nameI_int i) (rangeI i) hu hk hq hm h1 h2).mono fun e w' ⟨h, hb⟩ => ⟨_, _, h, ⟨rfl, rfl⟩, hb⟩
  by_cases h3 : cmpI p (hiI i) > 0
  case pos =>
    have e : fitZ i p q = none := if_neg (by rw [cmpI_pos] at h3; omega)
    rw [e]
    exact (Fits25_high (nameI_int i) (rangeI i) hu hk hq hm h1 h2 h3).mono fun e w' ⟨h, hb⟩ => ⟨_, _, h, ⟨rfl, rfl⟩, hb⟩
  have e : fitZ i p q = some p := if_pos (by rw [cmpI_neg] at h2; rw [cmpI_pos] at h3; omega)
  rw [e]
  refine (Fits25_yes (nameI_int i) (rangeI i) hu hk hq hm h1 h2 h3).mono fun e w' ⟨t, h, hc, hb⟩ => ⟨t, _, h, ⟨rfl, ?_⟩, hb⟩
  rw [h1] at hc
  exact hc
theorem pN_one (p : Int) : pN p 1 = p := by simp [pN]
theorem pD_one : pD 1 = 1 := by simp [pD]
/-- The program: a whole one. -/
theorem prog_fit (i : Nat) {w : World} {u : Value} {p : Int} {m : Nat} (hu : CNum w u 3 p 1 m) (hm : m ≤ 150) :
    Calls Tryz.prog 23 #[u, .string (nameI i)] w fun e w' => ∃ t B, e = .returned (.tuple #[t, .bool B]) ∧ FitP (fitZ i p 1) (m + 7) w' t B ∧ Below w.heap.size w w' := by
  refine Fits23_whole (fitZ i p 1) (nameI i) (nameI_int i) hu hm (by rw [pD_one]; simp) ?_
  intro n1 a1 l1 c1 n2 a2 l2 c2 X hF
  have hz : pN p 1 = p * pD 1 := by rw [pN_one, pD_one]; omega
  by_cases h2 : p < loI i
  case pos =>
    have e : fitZ i p 1 = none := if_neg (by omega)
    rw [e]
    exact (fitInt_below (nameI i) hm hF hz (endsI i) h2).mono fun e w' ⟨h, hb⟩ => ⟨_, _, h, ⟨rfl, rfl⟩, hb⟩
  by_cases h3 : hiI i < p
  case pos =>
    have e : fitZ i p 1 = none := if_neg (by omega)
    rw [e]
    exact (fitInt_above (nameI i) hm hF hz (endsI i) (by omega) h3).mono fun e w' ⟨h, hb⟩ => ⟨_, _, h, ⟨rfl, rfl⟩, hb⟩
  have e : fitZ i p 1 = some p := if_pos (by omega)
  rw [e]
  exact (fitInt_yesE (nameI i) hm hF hz (endsI i) (by omega) (by omega)).mono fun e w' ⟨t, h, hc, hb⟩ => ⟨t, _, h, ⟨rfl, hc⟩, hb⟩
/-- The program: a fraction that is not whole. -/
theorem prog_frac (i : Nat) {w : World} {u : Value} {p q : Int} {m : Nat} (hu : CNum w u 4 p q m) (hm : m ≤ 150) (hq : q ≠ 1) (hw : ¬ (pN p q).tmod (pD q) = 0) :
    Calls Tryz.prog 23 #[u, .string (nameI i)] w fun e w' => ∃ t B, e = .returned (.tuple #[t, .bool B]) ∧ FitP (fitZ i p q) (m + 7) w' t B ∧ Below w.heap.size w w' := by
  refine Fits23_frac (fitZ i p q) (nameI i) (nameI_int i) hu hm ?_
  intro n1 a1 l1 c1 n2 a2 l2 c2 X hF
  have e : fitZ i p q = none := if_neg (by omega)
  rw [e]
  exact (fitInt_frac (nameI i) hm hF hw (endsI i)).mono fun e w' ⟨h, hb⟩ => ⟨_, _, h, ⟨rfl, rfl⟩, hb⟩
/-- Both answers go together. -/
theorem is_fit {w : World} {zz : Option Int} {m M : Nat} {t t' : Value} {B B' : Bool} (h : FitP zz m w t B) (h' : FitR zz M w t' B') (hm : m ≤ 500) (hM : M ≤ 500) :
    Calls Tryz.prog 12 #[t, .bool B, t', .bool B'] w fun e w' => e = .returned (.bool true) ∧ Below w.heap.size w w' := by
  cases zz with
  | none =>
    obtain ⟨rfl, rfl⟩ := h
    obtain ⟨rfl, rfl⟩ := h'
    exact is12_no w
  | some z =>
    obtain ⟨rfl, hc⟩ := h
    obtain ⟨rfl, hc'⟩ := h'
    exact is12_yes hc hc' hm hM
theorem FitR.next {z : Option Int} {m : Nat} {w w' : World} {t : Value} {B : Bool} (h : FitR z m w t B) (hb : Below w.heap.size w w') : FitR z m w' t B := by
  cases z with
  | none => exact h
  | some z => exact ⟨h.1, h.2.next hb⟩
theorem FitR.form {z : Option Int} {m : Nat} {w : World} {t : Value} {B : Bool} (h : FitR z m w t B) : ∃ (i0 : Int) (i5 : Bool) (i6 : ByteArray) (i1 : Bool) (i2 : Option Addr) (i3 i4 : Nat) (o1 : Bool) (o2 : Option Addr) (o3 o4 : Nat), t = .agg #[.int .i64 i0, .bool i5, .string i6, .bool i1, .slice i2 i3 i4, .bool o1, .slice o2 o3 o4] := by
  cases z with
  | none => exact ⟨_, _, _, _, _, _, _, _, _, _, _, h.2⟩
  | some z => obtain ⟨_, m1, b1, k1, d1, m2, b2, k2, d2, rfl, _⟩ := h; exact ⟨_, _, _, _, _, _, _, _, _, _, _, rfl⟩
end Go.Proofs.YtclokcoimdjaeaaGreatDoor
namespace Go.Proofs.YtclokcoimdjaeaaGreatDoor
open Go.RowKit
attribute [local go_sem ↓] Go.wp_at_zero Go.wp_at_succ
set_option maxRecDepth 20000 in
set_option maxHeartbeats 2000000 in
theorem Bounds28_any (s : ByteArray) (LO HI : Int) (hr : RangeIs s LO HI) (w : World) :
    Calls Tryz.prog 28 #[.string s] w fun e w' => ∃ u v, e = .returned (.tuple #[u, v]) ∧ CRn w' u 3 LO 1 21 ∧ CRn w' v 3 HI 1 21 ∧ Below w.heap.size w w' := by
  obtain ⟨W, hW, hqa, hqb, hbW, hsz⟩ := two_new (w := w) (A := .cells #[.int .i64 0, .bool false, .string ⟨#[]⟩, .bool false, .slice none 0 0, .bool false, .slice none 0 0] 42) (B := .cells #[.int .i64 0, .bool false, .string ⟨#[]⟩, .bool false, .slice none 0 0, .bool false, .slice none 0 0] 42)
  have kR : Hid (Calls Tryz.prog 64 #[.string s] W fun e w' => ∃ u v, e = .returned (.tuple #[u, v, .bool true]) ∧ Rint w' u LO 20 ∧ Rint w' v HI 20 ∧ Below W.heap.size W w') := hr W
  have hall : Hid (Below w.heap.size w W ∧ W.heap.size = w.heap.size + 1 + 1 ∧ W.heap[w.heap.size]? = some (.cells #[.int .i64 0, .bool false, .string ⟨#[]⟩, .bool false, .slice none 0 0, .bool false, .slice none 0 0] 42 (0, 0)) ∧ W.heap[w.heap.size + 1]? = some (.cells #[.int .i64 0, .bool false, .string ⟨#[]⟩, .bool false, .slice none 0 0, .bool false, .slice none 0 0] 42 (0, 0))) := ⟨hbW, hsz, hqa, hqb⟩
  clear hqa hqb hbW hsz
  go_enter Tryz.func28, Tryz.ntmps28
  go_upto_region 1 with fail
  rw [← hW]
  clear hW
  go_wp2_with fail
  refine Calls.mono kR.out ?_
  clear kR
  rintro e w1 ⟨u, v, rfl, hu, hv, hb1⟩
  obtain ⟨g1, f1, e1, h1, rfl⟩ := hu.form
  obtain ⟨g2, f2, e2, h2, rfl⟩ := hv.form
  have hall1 : Hid (Below w.heap.size w w1 ∧ w.heap.size + 1 < w1.heap.size ∧ w1.heap[w.heap.size]? = some (.cells #[.int .i64 0, .bool false, .string ⟨#[]⟩, .bool false, .slice none 0 0, .bool false, .slice none 0 0] 42 (0, 0)) ∧ w1.heap[w.heap.size + 1]? = some (.cells #[.int .i64 0, .bool false, .string ⟨#[]⟩, .bool false, .slice none 0 0, .bool false, .slice none 0 0] 42 (0, 0))) := ⟨bthen hall.out.1 hb1, by have := hall.out.2.1; have := hb1.size; omega, keep_heap hb1 hall.out.2.2.1, keep_heap hb1 hall.out.2.2.2⟩
  obtain ⟨W1, hW1, hq4, hq5, hbW1, hsz1⟩ := two_new (w := w1) (A := .cells #[.bool g1, .slice f1 e1 h1] 38) (B := .cells #[.bool g2, .slice f2 e2 h2] 38)
  have hR : Hid (Rint W1 (.agg #[.bool g1, .slice f1 e1 h1]) LO 20 ∧ Rint W1 (.agg #[.bool g2, .slice f2 e2 h2]) HI 20) := ⟨hu.next hbW1, hv.next hbW1⟩
  have hall2 : Hid (Below w.heap.size w W1 ∧ w.heap.size + 1 < W1.heap.size ∧ W1.heap[w.heap.size]? = some (.cells #[.int .i64 0, .bool false, .string ⟨#[]⟩, .bool false, .slice none 0 0, .bool false, .slice none 0 0] 42 (0, 0)) ∧ W1.heap[w.heap.size + 1]? = some (.cells #[.int .i64 0, .bool false, .string ⟨#[]⟩, .bool false, .slice none 0 0, .bool false, .slice none 0 0] 42 (0, 0))) := ⟨bthen hall1.out.1 hbW1, by have := hall1.out.2.1; have := hbW1.size; omega, keep_heap hbW1 hall1.out.2.2.1, keep_heap hbW1 hall1.out.2.2.2⟩
  clear hu hv hb1 hall hall1 hbW1 hsz1
  go_upto_region 2 with fail
  rw [← hW1]
  clear hW1
  generalize w1.heap.size = p4 at *
  obtain ⟨⟨x0, x1⟩, _, _⟩ := cells2 hq4
  obtain ⟨⟨y0, y1⟩, _, _⟩ := cells2 hq5
  have kA : Hid (∀ X, Below W1.heap.size W1 X → Calls Tryz.prog 67 #[.agg #[.bool g1, .slice f1 e1 h1]] X fun e w' => ∃ t, e = .returned t ∧ RatR w' t LO 1 21 ∧ Below X.heap.size X w') := fun X hX => rWhole_num (hR.out.1.next hX)
  have kB : Hid (∀ X, Below W1.heap.size W1 X → Calls Tryz.prog 67 #[.agg #[.bool g2, .slice f2 e2 h2]] X fun e w' => ∃ t, e = .returned t ∧ RatR w' t HI 1 21 ∧ Below X.heap.size X w') := fun X hX => rWhole_num (hR.out.2.next hX)
  have hdh : Hid (Below W1.heap.size W1 W1.drew) := (Below.refl _ _).drew
  clear hq4 hq5 hR
  go_region_with (first
    | (go_at_call 67; refine Calls.mono (kA.out _ hdh.out) ?_; rintro e w5 ⟨t5, rfl, hR5, hb5⟩; clear kA
       obtain ⟨m1, b1, k1, d1, m2, b2, k2, d2, rfl⟩ := hR5.form
       replace hb5 : Below W1.heap.size W1 w5 := hdh.out.trans hb5
       replace x0 := keep_cell hb5 x0; replace x1 := keep_cell hb5 x1; replace y0 := keep_cell hb5 y0; replace y1 := keep_cell hb5 y1
       have hb5h : Hid (Below W1.heap.size W1 w5) := hb5
       have hR5h : Hid (RatR w5 (.agg #[.bool m1, .slice b1 k1 d1, .bool m2, .slice b2 k2 d2]) LO 1 21) := hR5
       clear hb5 hR5)
    | (go_at_call 67; refine Calls.mono (kB.out _ hb5h.out) ?_; rintro e w6 ⟨t6, rfl, hR6, hb6⟩; clear kB
       obtain ⟨m3, b3, k3, d3, m4, b4, k4, d4, rfl⟩ := hR6.form
       have hR5i : Hid (RatR w6 (.agg #[.bool m1, .slice b1 k1 d1, .bool m2, .slice b2 k2 d2]) LO 1 21) := hR5h.out.next hb6
       have hR6i : Hid (RatR w6 (.agg #[.bool m3, .slice b3 k3 d3, .bool m4, .slice b4 k4 d4]) HI 1 21) := hR6
       have hb6h : Hid (Below W1.heap.size W1 w6) := bthen hb5h.out hb6
       have hqA : w6.heap[w.heap.size]? = _ := keep_heap hb6h.out hall2.out.2.2.1
       have hqB : w6.heap[w.heap.size + 1]? = _ := keep_heap hb6h.out hall2.out.2.2.2
       obtain ⟨⟨u0, u1, u2, u3, u4, u5, u6⟩, uf, _⟩ := cells7 hqA
       obtain ⟨⟨v0, v1, v2, v3, v4, v5, v6⟩, vf, _⟩ := cells7 hqB
       have uf0 := uf 0; have uf1 := uf 1; have uf2 := uf 2; have uf3 := uf 3; have uf4 := uf 4; have uf5 := uf 5; have uf6 := uf 6
       have vf0 := vf 0; have vf1 := vf 1; have vf2 := vf 2; have vf3 := vf 3; have vf4 := vf 4; have vf5 := vf 5; have vf6 := vf 6
       clear hb6 hqA hqB uf vf hR6))
  all_goals
    have h6 := hb6h.out
    have hqA : w6.heap[w.heap.size]? = _ := keep_heap h6 hall2.out.2.2.1
    have hqB : w6.heap[w.heap.size + 1]? = _ := keep_heap h6 hall2.out.2.2.2
    obtain ⟨W8, hW8⟩ : ∃ W8, W8 = put7 (put7 w6 w.heap.size (.int .i64 3) (.bool false) (.string ⟨#[]⟩) (.bool m1) (.slice b1 k1 d1) (.bool m2) (.slice b2 k2 d2)) (w.heap.size + 1) (.int .i64 3) (.bool false) (.string ⟨#[]⟩) (.bool m3) (.slice b3 k3 d3) (.bool m4) (.slice b4 k4 d4) := ⟨_, rfl⟩
    have hT : Hid (W8.heap[w.heap.size]? = some (.cells #[.int .i64 3, .bool false, .string ⟨#[]⟩, .bool m1, .slice b1 k1 d1, .bool m2, .slice b2 k2 d2] 42 (0, 0)) ∧ W8.heap[w.heap.size + 1]? = some (.cells #[.int .i64 3, .bool false, .string ⟨#[]⟩, .bool m3, .slice b3 k3 d3, .bool m4, .slice b4 k4 d4] 42 (0, 0)) ∧ CRn W8 (.agg #[.int .i64 3, .bool false, .string ⟨#[]⟩, .bool m1, .slice b1 k1 d1, .bool m2, .slice b2 k2 d2]) 3 LO 1 21 ∧ CRn W8 (.agg #[.int .i64 3, .bool false, .string ⟨#[]⟩, .bool m3, .slice b3 k3 d3, .bool m4, .slice b4 k4 d4]) 3 HI 1 21 ∧ Below w.heap.size w W8) := by
      show _ ∧ _
      rw [hW8]
      have zA : ZBox w6 w.heap.size := ⟨_, _, _, _, _, _, _, _, _, _, _, hqA⟩
      have zB : ∀ {x0 x1 x2 x3 x4 x5 x6 : Value}, ZBox (put7 w6 w.heap.size x0 x1 x2 x3 x4 x5 x6) (w.heap.size + 1) := ⟨_, _, _, _, _, _, _, _, _, _, _, (put7_same (by omega)).trans hqB⟩
      exact ⟨(put7_same (by omega)).trans (put7_at hqA), put7_at ((put7_same (by omega)).trans hqB), (CRn.put7 ⟨_, _, _, _, _, _, _, _, rfl, hR5i.out⟩ zA).put7 zB, (CRn.put7 ⟨_, _, _, _, _, _, _, _, rfl, hR6i.out⟩ zA).put7 zB, put7_below (put7_below (bthen hall2.out.1 h6) (Nat.le_refl _)) (by omega)⟩
    unfold put7 at hW8
    clear hqA hqB h6
    go_wp2_with fail
    rw [← hW8]
    obtain ⟨⟨j0, j1, j2, j3, j4, j5, j6⟩, _, _⟩ := cells7 hT.out.1
    obtain ⟨⟨i0, i1, i2, i3, i4, i5, i6⟩, _, _⟩ := cells7 hT.out.2.1
    exact bodyPost_ret (v := .tuple #[.agg #[.int .i64 3, .bool false, .string ⟨#[]⟩, .bool m1, .slice b1 k1 d1, .bool m2, .slice b2 k2 d2], .agg #[.int .i64 3, .bool false, .string ⟨#[]⟩, .bool m3, .slice b3 k3 d3, .bool m4, .slice b4 k4 d4]]) (by simp [results, Tryz.results28, go_sem, j0, j1, j2, j3, j4, j5, j6, i0, i1, i2, i3, i4, i5, i6]) rfl ⟨_, _, rfl, hT.out.2.2⟩
end Go.Proofs.YtclokcoimdjaeaaGreatDoor
namespace Go.Proofs.YtclokcoimdjaeaaGreatDoor
open Go.RowKit
theorem put7_cell_int {w : World} {b T : Nat} {k : Int} {x1 : Bool} {x2 : ByteArray} {x3 : Bool} {y1 : Option Addr} {z1 u1 : Nat} {x4 : Bool} {y2 : Option Addr} {z2 u2 : Nat} (hq : w.heap[b]? = some (.cells #[.int .i64 k, .bool x1, .string x2, .bool x3, .slice y1 z1 u1, .bool x4, .slice y2 z2 u2] T (0, 0))) {v1 v2 v3 v4 v5 v6 : Value} {p : Addr} {kk : IntKind} {z : Int} (h : w.cell? p = some (.int kk z)) : (put7 w b (.int .i64 k) v1 v2 v3 v4 v5 v6).cell? p = some (.int kk z) := by
  by_cases e : p.block = b
  · have hq' := put7_at hq (v0 := .int .i64 k) (v1 := v1) (v2 := v2) (v3 := v3) (v4 := v4) (v5 := v5) (v6 := v6)
    obtain ⟨pb, off, sp⟩ := p
    dsimp only at e
    subst e
    simp only [World.cell?, hq] at h
    simp only [World.cell?, hq']
    match off with
    | 0 => simpa using h
    | 1 => simp at h
    | 2 => simp at h
    | 3 => simp at h
    | 4 => simp at h
    | 5 => simp at h
    | 6 => simp at h
    | n + 7 => simp at h
  · rw [World.cell?_of_block (put7_same e)]
    exact h
theorem Rint.rows {w w' : World} {v : Value} {z : Int} {n : Nat} (hr : ∀ (p : Addr) (y : Int), w.cell? p = some (.int .i64 y) → w'.cell? p = some (.int .i64 y)) (h : Rint w v z n) : Rint w' v z n := by
  obtain ⟨neg, a, cap, ds, hv, h1, h2⟩ := h
  exact ⟨neg, a, cap, ds, hv, ⟨h1.le, h1.max, h1.nil, fun x hx i hi => hr _ _ (h1.cell x hx i hi), h1.words⟩, h2⟩
theorem CRn.rows {w w' : World} {v : Value} {k p q : Int} {m : Nat} (hr : ∀ (p : Addr) (y : Int), w.cell? p = some (.int .i64 y) → w'.cell? p = some (.int .i64 y)) (h : CRn w v k p q m) : CRn w' v k p q m := by
  obtain ⟨m1, b1, k1, d1, m2, b2, k2, d2, e, n1, a1, l1, c1, n2, a2, l2, c2, e', h1, h2⟩ := h
  exact ⟨m1, b1, k1, d1, m2, b2, k2, d2, e, n1, a1, l1, c1, n2, a2, l2, c2, e', h1.rows hr, h2.rows hr⟩
theorem row_farput {w : World} {b B : Nat} {a : Option Addr} {cap : Nat} {ds : List Int} {v0 v1 v2 v3 v4 v5 v6 : Value} (h : Row w .i64 65536 a cap ds) (hf : ∀ x, a = some x → B ≤ x.block) (hb : b < B) : Row (put7 w b v0 v1 v2 v3 v4 v5 v6) .i64 65536 a cap ds :=
  ⟨h.le, h.max, h.nil, fun x hx i hi => (World.cell?_of_block (put7_same (by rw [add_block]; have := hf x hx; omega))).trans (h.cell x hx i hi), h.words⟩
theorem rint_farput {w : World} {b B : Nat} {n : Bool} {a : Option Addr} {l c : Nat} {z : Int} {m : Nat} {v0 v1 v2 v3 v4 v5 v6 : Value} (h : Rint w (.agg #[.bool n, .slice a l c]) z m) (hf : ∀ x, a = some x → B ≤ x.block) (hb : b < B) : Rint (put7 w b v0 v1 v2 v3 v4 v5 v6) (.agg #[.bool n, .slice a l c]) z m := by
  obtain ⟨neg, a', cap, ds, hv, h1, h2⟩ := h
  simp at hv
  obtain ⟨rfl, rfl, rfl, rfl⟩ := hv
  exact ⟨_, _, _, ds, rfl, row_farput h1 hf hb, h2⟩
theorem crn_farput {w : World} {b B : Nat} {v : Value} {k p q : Int} {m : Nat} {v0 v1 v2 v3 v4 v5 v6 : Value} (h : CRn w v k p q m) (hf : FarC B v) (hb : b < B) : CRn (put7 w b v0 v1 v2 v3 v4 v5 v6) v k p q m := by
  obtain ⟨m1, b1, k1, d1, m2, b2, k2, d2, rfl, hR⟩ := h
  obtain ⟨f1, f2⟩ := hf _ _ _ _ _ _ _ _ _ _ _ rfl
  obtain ⟨h1, h2⟩ := hR.parts
  exact ⟨m1, b1, k1, d1, m2, b2, k2, d2, rfl, _, _, _, _, _, _, _, _, rfl, rint_farput h1 f1 hb, rint_farput h2 f2 hb⟩
theorem CRn.kind {w : World} {k k' p q : Int} {m : Nat} {m1 : Bool} {b1 : Option Addr} {k1 d1 : Nat} {n1 : Bool} {c1 : Option Addr} {l1 e1 : Nat} (h : CRn w (.agg #[.int .i64 k, .bool false, .string ⟨#[]⟩, .bool m1, .slice b1 k1 d1, .bool n1, .slice c1 l1 e1]) k p q m) : CRn w (.agg #[.int .i64 k', .bool false, .string ⟨#[]⟩, .bool m1, .slice b1 k1 d1, .bool n1, .slice c1 l1 e1]) k' p q m := by
  obtain ⟨_, _, _, _, _, _, _, _, e, hR⟩ := h
  simp at e
  obtain ⟨rfl, ⟨rfl, rfl, rfl⟩, rfl, rfl, rfl, rfl⟩ := e
  exact ⟨_, _, _, _, _, _, _, _, rfl, hR⟩
theorem CRn.form {w : World} {v : Value} {k p q : Int} {m : Nat} (h : CRn w v k p q m) : ∃ m1 b1 k1 d1 n1 c1 l1 e1, v = .agg #[.int .i64 k, .bool false, .string ⟨#[]⟩, .bool m1, .slice b1 k1 d1, .bool n1, .slice c1 l1 e1] := by
  obtain ⟨m1, b1, k1, d1, m2, b2, k2, d2, e, _⟩ := h
  exact ⟨m1, b1, k1, d1, m2, b2, k2, d2, e⟩
/-- The block of the four names. -/
def Names (w : World) (p : Nat) : Prop := w.heap[p]? = some (.cells #[.string ⟨#[105, 110, 116]⟩, .string ⟨#[105, 110, 116, 56]⟩, .string ⟨#[117, 105, 110, 116, 56]⟩, .string ⟨#[117, 105, 110, 116]⟩] 9 (0, 0))
theorem Names.next {w w' : World} {p : Nat} (h : Names w p) (hb : Below w.heap.size w w') : Names w' p := keep_heap hb h
theorem Names.cell {w : World} {p : Nat} (h : Names w p) (j : Nat) (hj : j < 4) : w.cell? ⟨p, j, none⟩ = some (.string (nameI j)) := by
  unfold Names at h
  match j, hj with
  | 0, _ => simp [World.cell?, h]; rfl
  | 1, _ => simp [World.cell?, h]; rfl
  | 2, _ => simp [World.cell?, h]; rfl
  | 3, _ => simp [World.cell?, h]; rfl
/-- The variable c holds a number, the names stand. -/
def EdgeW (w : World) (pN pc : Nat) (k p q : Int) (m : Nat) (wx : World) : Prop :=
  (∃ m1 b1 k1 d1 n1 c1 l1 e1, wx.heap[pc]? = some (.cells #[.int .i64 k, .bool false, .string ⟨#[]⟩, .bool m1, .slice b1 k1 d1, .bool n1, .slice c1 l1 e1] 42 (0, 0)) ∧ CRn wx (.agg #[.int .i64 k, .bool false, .string ⟨#[]⟩, .bool m1, .slice b1 k1 d1, .bool n1, .slice c1 l1 e1]) k p q m) ∧ Names wx pN ∧ Below w.heap.size w wx
theorem EdgeW.next {w : World} {pN pc : Nat} {k p q : Int} {m : Nat} {wx wy : World} (h : EdgeW w pN pc k p q m wx) (hb : Below wx.heap.size wx wy) : EdgeW w pN pc k p q m wy := by
  obtain ⟨⟨m1, b1, k1, d1, n1, c1, l1, e1, hq, hc⟩, hn, hB⟩ := h
  exact ⟨⟨m1, b1, k1, d1, n1, c1, l1, e1, keep_heap hb hq, hc.next hb⟩, hn.next hb, bthen hB hb⟩
theorem EdgeW.more {w : World} {pN pc : Nat} {k p q : Int} {m m' : Nat} {wx : World} (h : EdgeW w pN pc k p q m wx) (hm : m ≤ m') : EdgeW w pN pc k p q m' wx := by
  obtain ⟨⟨m1, b1, k1, d1, n1, c1, l1, e1, hq, hc⟩, hn, hB⟩ := h
  exact ⟨⟨m1, b1, k1, d1, n1, c1, l1, e1, hq, hc.more hm⟩, hn, hB⟩
theorem EdgeW.ne {w : World} {pN pc : Nat} {k p q : Int} {m : Nat} {wx : World} (h : EdgeW w pN pc k p q m wx) : pN ≠ pc := by
  rintro rfl
  obtain ⟨⟨m1, b1, k1, d1, n1, c1, l1, e1, hq, hc⟩, hn, hB⟩ := h
  unfold Names at hn
  rw [hn] at hq
  simp at hq
/-- A number of the same kind put into c. -/
theorem EdgeW.putSame {w : World} {pN pc : Nat} {k p q p' q' : Int} {m m' : Nat} {wx : World} {m2 : Bool} {b2 : Option Addr} {k2 d2 : Nat} {n2 : Bool} {c2 : Option Addr} {l2 e2 : Nat} (h : EdgeW w pN pc k p q m wx) (hp : w.heap.size ≤ pc) (hc : CRn wx (.agg #[.int .i64 k, .bool false, .string ⟨#[]⟩, .bool m2, .slice b2 k2 d2, .bool n2, .slice c2 l2 e2]) k p' q' m') : EdgeW w pN pc k p' q' m' (put7 wx pc (.int .i64 k) (.bool false) (.string ⟨#[]⟩) (.bool m2) (.slice b2 k2 d2) (.bool n2) (.slice c2 l2 e2)) := by
  have hne := h.ne
  obtain ⟨⟨m1, b1, k1, d1, n1, c1, l1, e1, hq, _⟩, hn, hB⟩ := h
  exact ⟨⟨_, _, _, _, _, _, _, _, put7_at hq, hc.rows fun p y hy => put7_cell_int hq hy⟩, (put7_same hne).trans hn, put7_below hB hp⟩
/-- A number in new memory put into c. -/
theorem EdgeW.putFar {w : World} {pN pc B : Nat} {k k' p q p' q' : Int} {m m' : Nat} {wx : World} {m2 : Bool} {b2 : Option Addr} {k2 d2 : Nat} {n2 : Bool} {c2 : Option Addr} {l2 e2 : Nat} (h : EdgeW w pN pc k p q m wx) (hp : w.heap.size ≤ pc) (hc : CRn wx (.agg #[.int .i64 k', .bool false, .string ⟨#[]⟩, .bool m2, .slice b2 k2 d2, .bool n2, .slice c2 l2 e2]) k' p' q' m') (hf : FarC B (.agg #[.int .i64 k', .bool false, .string ⟨#[]⟩, .bool m2, .slice b2 k2 d2, .bool n2, .slice c2 l2 e2])) (hb : pc < B) : EdgeW w pN pc k' p' q' m' (put7 wx pc (.int .i64 k') (.bool false) (.string ⟨#[]⟩) (.bool m2) (.slice b2 k2 d2) (.bool n2) (.slice c2 l2 e2)) := by
  have hne := h.ne
  obtain ⟨⟨m1, b1, k1, d1, n1, c1, l1, e1, hq, _⟩, hn, hB⟩ := h
  exact ⟨⟨_, _, _, _, _, _, _, _, put7_at hq, crn_farput hc hf hb⟩, (put7_same hne).trans hn, put7_below hB hp⟩
/-- What c is at last: a whole one, or a fraction that is not whole. -/
def EdgeOk (k p q : Int) : Prop := (k = 3 ∧ q = 1) ∨ (k = 4 ∧ 0 < q ∧ q ≠ 1 ∧ ¬ (pN p q).tmod (pD q) = 0)
theorem edge_half {z P Q : Int} (h : Low (z * 2 + 1 * 1) (1 * 2) P Q) : EdgeOk 4 P Q := by
  obtain ⟨h0, _, h2⟩ := h
  refine .inr ⟨rfl, h0, fun e => ?_, fun e => ?_⟩
  · subst e; omega
  · have e1 : pN P Q = P := if_neg (by omega)
    have e2 : pD Q = Q := by unfold pD; rw [if_neg (by omega), if_neg (by omega)]
    rw [e1, e2] at e
    obtain ⟨t, ht⟩ := Int.dvd_of_tmod_eq_zero e
    rw [ht] at h2
    have h3 : Q * (t * 2) = Q * (z * 2 + 1) := by rw [← Int.mul_assoc]; rw [Int.mul_comm Q (z * 2 + 1)]; simpa using h2
    have h4 := Int.eq_of_mul_eq_mul_left (by omega) h3
    omega
theorem EdgeOk.kind {k p q : Int} (h : EdgeOk k p q) : (decide (k = 3) || decide (k = 4)) = true := by
  rcases h with ⟨h, _⟩ | ⟨h, _⟩ <;> simp [h]
theorem EdgeOk.pos {k p q : Int} (h : EdgeOk k p q) : 0 < q := by
  rcases h with ⟨_, h⟩ | ⟨_, h, _⟩ <;> omega
/-- The program's answer at the i-th type. -/
theorem edge_fit (i : Nat) {w : World} {u : Value} {k p q : Int} (hok : EdgeOk k p q) (hu : CNum w u k p q 96) :
    Calls Tryz.prog 23 #[u, .string (nameI i)] w fun e w' => ∃ t B, e = .returned (.tuple #[t, .bool B]) ∧ FitP (fitZ i p q) 103 w' t B ∧ Below w.heap.size w w' := by
  rcases hok with ⟨rfl, rfl⟩ | ⟨rfl, h1, h2, h3⟩
  · exact prog_fit i hu (by decide)
  · exact prog_frac i hu (by decide) h2 h3
/-- What a round of the loop keeps. -/
def LoopW (w : World) (pN pc pa : Nat) (k p q : Int) (A : Array Value) (wr : World) : Prop :=
  EdgeW w pN pc k p q 96 wr ∧ wr.heap[pa]? = some (.cells A 32 (0, 0)) ∧ CNum wr (.agg A) k p q 96
theorem LoopW.next {w : World} {pN pc pa : Nat} {k p q : Int} {A : Array Value} {wr wy : World} (h : LoopW w pN pc pa k p q A wr) (hb : Below wr.heap.size wr wy) : LoopW w pN pc pa k p q A wy := ⟨h.1.next hb, keep_heap hb h.2.1, h.2.2.next hb⟩
theorem fitR_put7 {z : Option Int} {m : Nat} {w : World} {t : Value} {B : Bool} (h : FitR z m w t B) {b : Nat} (hq : ZBox w b) {v0 v1 v2 v3 v4 v5 v6 : Value} : FitR z m (put7 w b v0 v1 v2 v3 v4 v5 v6) t B := by
  unfold FitR at h ⊢
  split at h
  · exact ⟨h.1, CRn.put7 h.2 hq⟩
  · exact h
theorem low_half {P Q : Int} (h : Low (1 * 1) (1 * 2) P Q) : P = 1 ∧ Q = 2 := low_uniq h.1 (by decide) h.2.1 (by decide) (by have := h.2.2; omega)
theorem low_sum1 {y z P Q : Int} (h : Low (y * 1 + z * 1) (1 * 1) P Q) : P = y + z ∧ Q = 1 := by
  have e : Low (y + z) 1 P Q := by simpa using h
  exact low_whole e
end Go.Proofs.YtclokcoimdjaeaaGreatDoor
namespace Go.Proofs.YtclokcoimdjaeaaGreatDoor
open Go.RowKit
attribute [local go_sem ↓] Go.wp_at_zero Go.wp_at_succ
theorem sum33 {w : World} {u v : Value} {y z : Int} {m : Nat} (hu : CRn w u 3 y 1 m) (hv : CRn w v 3 z 1 m) (hm : m ≤ 100) :
    Calls Tryz.prog 19 #[.string ⟨#[43]⟩, u, v] w fun e w' => ∃ t, e = .returned (.tuple #[t, .bool true]) ∧ CRn w' t 3 (y + z) 1 (2 * m + 4) ∧ Below w.heap.size w w' := by
  refine (Binary19_of ⟨#[43]⟩ (fun P Q => Low (y * 1 + z * 1) (1 * 1) P Q) (by omega) hu hv (fun X hX => bin_33_add (hu.next hX) (hv.next hX) hm (by decide) (by decide))).mono ?_
  rintro e w' ⟨t, P, Q, h1, h2, h3, h4⟩
  obtain ⟨rfl, rfl⟩ := low_sum1 h3
  exact ⟨t, h1, h2, h4⟩
theorem half44 {w : World} {u v : Value} {m : Nat} (hu : CRn w u 4 1 1 m) (hv : CRn w v 4 2 1 m) (hm : m ≤ 100) :
    Calls Tryz.prog 19 #[.string ⟨#[47]⟩, u, v] w fun e w' => ∃ t, e = .returned (.tuple #[t, .bool true]) ∧ CRn w' t 4 1 2 (2 * m + 4) ∧ Below w.heap.size w w' := by
  refine (Binary19_of ⟨#[47]⟩ (fun P Q => Low (1 * 1) (1 * 2) P Q) (by omega) hu hv (fun X hX => bin_44_quo (hu.next hX) (hv.next hX) hm (by decide) (by decide) (by decide))).mono ?_
  rintro e w' ⟨t, P, Q, h1, h2, h3, h4⟩
  obtain ⟨rfl, rfl⟩ := low_half h3
  exact ⟨t, h1, h2, h4⟩
theorem sum34 {w : World} {u v : Value} {z : Int} {m : Nat} (hu : CRn w u 3 z 1 m) (hv : CRn w v 4 1 2 m) (hm : m ≤ 100) :
    Calls Tryz.prog 19 #[.string ⟨#[43]⟩, u, v] w fun e w' => ∃ t P Q, e = .returned (.tuple #[t, .bool true]) ∧ CRn w' t 4 P Q (2 * m + 4) ∧ (EdgeOk 4 P Q ∧ FarC w.heap.size t) ∧ Below w.heap.size w w' :=
  Binary19_ofF ⟨#[43]⟩ (fun t P Q => EdgeOk 4 P Q ∧ FarC w.heap.size t) (by omega) hu hv (fun X hX => (bin_34_addF (hu.next hX) (hv.next hX) hm (by decide) (by decide) (by omega)).mono fun e w' h => by
    obtain ⟨t, P, Q, h1, h2, ⟨h3, h5⟩, h4⟩ := h
    exact ⟨t, P, Q, h1, h2, ⟨edge_half h3, fun _ _ _ _ _ _ _ _ _ _ _ e => ⟨fun x hx => Nat.le_trans hX.size ((h5 _ _ _ _ _ _ _ _ _ _ _ e).1 x hx), fun x hx => Nat.le_trans hX.size ((h5 _ _ _ _ _ _ _ _ _ _ _ e).2 x hx)⟩⟩, h4⟩)
set_option maxRecDepth 20000 in
set_option maxHeartbeats 4000000 in
theorem constEdges_in {w : World} (kk : Nat) (by0 : Int) (half : Bool) (hk : kk ≤ 7) (hlo : -2 ≤ by0) (hhi : by0 ≤ 2) (hG : Glob w) (hB2 : 4 < w.heap.size) :
    Calls Tryz.prog 6 #[.int .i64 (kk : Int), .int .i64 by0, .bool half] w fun e w' => e = .returned (.bool true) ∧ Below w.heap.size w w' := by
  have kG : Hid (Calls Tryz.prog 9 #[] w fun e w' => e = .returned (.bool true) ∧ Below w.heap.size w w') := begun_any w hG (by omega)
  have kI : Hid (∀ X, Calls Tryz.prog 29 #[.int .i64 by0] X fun e w' => ∃ t, e = .returned t ∧ CRn w' t 3 by0 1 21 ∧ Below X.heap.size X w') := fun X => (Int29_any by0 X (by omega) (by omega)).mono fun e w' ⟨t, h1, h2, h3⟩ => ⟨t, h1, h2.more (by decide), h3⟩
  clear hG hB2
  go_enter Tryz.func6, Tryz.ntmps6
  go_wp2_with fail
  refine Calls.mono kG.out ?_
  clear kG
  rintro e w1 ⟨rfl, zz0⟩
  have zz : Hid (Below w.heap.size w w1) := zz0
  clear zz0
  obtain ⟨W1, hW1⟩ : ∃ W1, W1 = w1.alloc (.cells #[.string ⟨#[105, 110, 116]⟩, .string ⟨#[105, 110, 116, 56]⟩, .string ⟨#[117, 105, 110, 116, 56]⟩, .string ⟨#[117, 105, 110, 116]⟩] 9) := ⟨_, rfl⟩
  have kk1 : Below w1.heap.size w1 W1 := by rw [hW1]; exact (Below.refl _ _).alloc (Nat.le_refl _) _
  have hN : Hid (Names W1 w1.heap.size) := by show Names _ _; rw [hW1]; exact newAt _ _
  replace zz : Hid (Below w.heap.size w W1) := bthen zz.out kk1
  clear kk1
  go_upto_region 3 with fail
  rw [← hW1]
  clear hW1
  generalize w1.heap.size = pN at *
  have q0 : decide ((kk : Int) < 0) = false := decide_eq_false (by omega)
  have q1 : decide ((kk : Int) > 7) = false := decide_eq_false (by omega)
  have q2 : decide (by0 < -2) = false := decide_eq_false (by omega)
  have q3 : decide (by0 > 2) = false := decide_eq_false (by omega)
  obtain ⟨j, hj⟩ : ∃ j, j = kk % 4 := ⟨_, rfl⟩
  have e1 : (kk : Int).tmod 4 = (j : Int) := by rw [Int.tmod_eq_emod_of_nonneg (by omega)]; omega
  have e2 : (kk : Int) % 4 = (j : Int) := by omega
  have hj4 : j < 4 := by omega
  replace hj : Hid (j = kk % 4) := hj
  have nc := hN.out.cell j hj4
  have kB : Hid (Calls Tryz.prog 28 #[.string (nameI j)] W1 fun e w' => ∃ u v, e = .returned (.tuple #[u, v]) ∧ CRn w' u 3 (loI j) 1 21 ∧ CRn w' v 3 (hiI j) 1 21 ∧ Below W1.heap.size W1 w') := Bounds28_any (nameI j) (loI j) (hiI j) (rangeI j) W1
  have hJ1 : ¬ ((j : Int) < 0) := by omega
  have hJ2 : (j : Int) < 4 := by omega
  go_wp2_with fail
  refine Calls.mono kB.out ?_
  clear kB nc
  rintro e w2 ⟨u, v, rfl, hu, hv, hb2⟩
  obtain ⟨mu, bu, ku, du, nu, cu, lu, eu, rfl⟩ := hu.form
  obtain ⟨mv, bv, kv, dv, nv, cv, lv, ev, rfl⟩ := hv.form
  obtain ⟨W2, hW2, hq9, hq10, hq11, hbW2, hsz2⟩ := three_new (w := w2) (A := .cells #[.int .i64 3, .bool false, .string ⟨#[]⟩, .bool mu, .slice bu ku du, .bool nu, .slice cu lu eu] 42) (B := .cells #[.int .i64 3, .bool false, .string ⟨#[]⟩, .bool mv, .slice bv kv dv, .bool nv, .slice cv lv ev] 42) (C := .cells #[.int .i64 3, .bool false, .string ⟨#[]⟩, .bool mu, .slice bu ku du, .bool nu, .slice cu lu eu] 42)
  obtain ⟨E, hE⟩ : ∃ E, E = if 3 < kk then hiI j else loI j := ⟨_, rfl⟩
  have kk2 := bthen hb2 hbW2
  have hEu : Hid (EdgeW w pN (w2.heap.size + 1 + 1) 3 (loI j) 1 21 W2) := ⟨⟨_, _, _, _, _, _, _, _, hq11, hu.next hbW2⟩, hN.out.next kk2, bthen zz.out kk2⟩
  have hEv : Hid (CRn W2 (.agg #[.int .i64 3, .bool false, .string ⟨#[]⟩, .bool mv, .slice bv kv dv, .bool nv, .slice cv lv ev]) 3 (hiI j) 1 21) := hv.next hbW2
  have hpc : Hid (w.heap.size ≤ w2.heap.size + 1 + 1) := by show _ ≤ _; have := zz.out.size; have := hb2.size; omega
  have hq10h : Hid (W2.heap[w2.heap.size + 1]? = some (.cells #[.int .i64 3, .bool false, .string ⟨#[]⟩, .bool mv, .slice bv kv dv, .bool nv, .slice cv lv ev] 42 (0, 0)) ∧ W2.heap[w2.heap.size + 1 + 1]? = some (.cells #[.int .i64 3, .bool false, .string ⟨#[]⟩, .bool mu, .slice bu ku du, .bool nu, .slice cu lu eu] 42 (0, 0))) := ⟨hq10, hq11⟩
  replace hE : Hid _ := hE
  clear hu hv hb2 hbW2 hsz2 kk2 hN zz hq10 hq11
  obtain ⟨⟨s0, s1, s2, s3, s4, s5, s6⟩, _, _⟩ := cells7 hq9
  clear hq9
  go_upto_if 50 with fail
  rw [← hW2]
  clear hW2
  clear s0 s1 s2 s3 s4 s5 s6
  obtain ⟨p10, hp10⟩ : ∃ p10, p10 = w2.heap.size + 1 := ⟨_, rfl⟩
  obtain ⟨pc, hpcE⟩ : ∃ pc, pc = w2.heap.size + 1 + 1 := ⟨_, rfl⟩
  rw [← hpcE, ← hp10] at hq10h
  rw [← hpcE] at hEu hpc ⊢
  rw [← hp10]
  have hne : p10 ≠ pc := by omega
  replace hp10 : Hid _ := hp10
  replace hpcE : Hid _ := hpcE
  generalize w2.heap.size = p9 at *
  go_cut [51] (fun _ wx => Hid (EdgeW w pN pc 3 E 1 21 wx))
  case first =>
    by_cases h3 : 3 < kk
    case pos =>
      have d3 : decide ((kk : Int) > 3) = true := decide_eq_true (by omega)
      have hT : EdgeW w pN pc 3 (hiI j) 1 21 (put7 W2 pc (.int .i64 3) (.bool false) (.string ⟨#[]⟩) (.bool mv) (.slice bv kv dv) (.bool nv) (.slice cv lv ev)) := hEu.out.putSame hpc.out hEv.out
      have hEE : E = hiI j := by rw [hE.out, if_pos h3]
      rw [← hEE] at hT
      unfold put7 at hT
      replace hT : Hid _ := hT
      obtain ⟨⟨y0, y1, y2, y3, y4, y5, y6⟩, _, _⟩ := cells7 hq10h.out.1
      obtain ⟨⟨z0, z1, z2, z3, z4, z5, z6⟩, fz, _⟩ := cells7 hq10h.out.2
      have fz0 := fz 0
      have fz1 := fz 1
      have fz2 := fz 2
      have fz3 := fz 3
      have fz4 := fz 4
      have fz5 := fz 5
      have fz6 := fz 6
      clear fz
      clear hEE
      go_wp2_with fail
      go_meet
      case rel => exact hT
    case neg =>
      have d3 : decide ((kk : Int) > 3) = false := decide_eq_false (by omega)
      have hEE : E = loI j := by rw [hE.out, if_neg h3]
      rw [← hEE] at hEu
      clear hEE
      go_wp2_with fail
      go_meet
      case rel => exact hEu
  case rest =>
    clear hEu hEv hq10h hE hne
    have hX : Hid (EdgeW w pN pc 3 E 1 21 wc) := hcut
    obtain ⟨⟨m1, b1, k1, d1, n1, c1, l1, e1, hqc, hC⟩, _, _⟩ := hcut.out
    have hCh : Hid (CRn wc (.agg #[.int .i64 3, .bool false, .string ⟨#[]⟩, .bool m1, .slice b1 k1 d1, .bool n1, .slice c1 l1 e1]) 3 E 1 21) := hC
    clear hcut hC
    obtain ⟨⟨x0, x1, x2, x3, x4, x5, x6⟩, _, _⟩ := cells7 hqc
    clear hqc
    generalize hwc : wc = V1 at *
    clear hwc
    have kS : Hid (∀ (X : World) (v : Value), Below V1.heap.size V1 X → CRn X v 3 by0 1 21 → Calls Tryz.prog 19 #[.string ⟨#[43]⟩, .agg #[.int .i64 3, .bool false, .string ⟨#[]⟩, .bool m1, .slice b1 k1 d1, .bool n1, .slice c1 l1 e1], v] X fun e w' => ∃ t, e = .returned (.tuple #[t, .bool true]) ∧ CRn w' t 3 (E + by0) 1 46 ∧ Below X.heap.size X w') := fun X v hX hv => sum33 (hCh.out.next hX) hv (by decide)
    have hdh : Hid (Below V1.heap.size V1 V1.drew) := (Below.refl _ _).drew
    go_upto_region 9 with fail
    go_cut [58] from 52 to 58 (fun _ wx => Hid (EdgeW w pN pc 3 (E + by0) 1 46 wx))
    case first =>
      go_region_with (first
        | (go_at_call 29; refine Calls.mono (kI.out _) ?_; rintro e w5 ⟨t5, rfl, hI, hb5⟩
           obtain ⟨m5, b5, k5, d5, n5, c5, l5, e5, rfl⟩ := hI.form
           replace hb5 : Below V1.heap.size V1 w5 := hdh.out.trans hb5
           replace x0 := keep_cell hb5 x0; replace x1 := keep_cell hb5 x1; replace x2 := keep_cell hb5 x2; replace x3 := keep_cell hb5 x3; replace x4 := keep_cell hb5 x4; replace x5 := keep_cell hb5 x5; replace x6 := keep_cell hb5 x6
           have hb5h : Hid (Below V1.heap.size V1 w5) := hb5
           have hIh : Hid (CRn w5 (.agg #[.int .i64 3, .bool false, .string ⟨#[]⟩, .bool m5, .slice b5 k5 d5, .bool n5, .slice c5 l5 e5]) 3 by0 1 21) := hI
           clear hb5 hI)
        | (go_at_call 19; refine Calls.mono (kS.out _ _ hb5h.out hIh.out) ?_; rintro e w6 ⟨t6, rfl, hS, hb6⟩
           obtain ⟨m6, b6, k6, d6, n6, c6, l6, e6, rfl⟩ := hS.form
           have hX6 : EdgeW w pN pc 3 E 1 21 w6 := hX.out.next (bthen hb5h.out hb6)
           have hT : EdgeW w pN pc 3 (E + by0) 1 46 (put7 w6 pc (.int .i64 3) (.bool false) (.string ⟨#[]⟩) (.bool m6) (.slice b6 k6 d6) (.bool n6) (.slice c6 l6 e6)) := hX6.putSame hpc.out hS
           obtain ⟨⟨m7, b7, k7, d7, n7, c7, l7, e7, hq7, _⟩, _, _⟩ := hX6
           obtain ⟨⟨y0, y1, y2, y3, y4, y5, y6⟩, fy, _⟩ := cells7 hq7
           have fy0 := fy 0; have fy1 := fy 1; have fy2 := fy 2; have fy3 := fy 3; have fy4 := fy 4; have fy5 := fy 5; have fy6 := fy 6
           unfold put7 at hT
           have hTh : Hid _ := hT
           clear hT hb6 hS hq7 fy))
      all_goals
        go_wp2_with fail
        go_meet
        case rel => exact hTh
    case rest =>
      obtain ⟨Z, hZ⟩ : ∃ Z, Z = E + by0 := ⟨_, rfl⟩
      rw [← hZ] at hcut
      clear hX hCh kS hdh hZ kI
      clear x0 x1 x2 x3 x4 x5 x6
      have hX : Hid (EdgeW w pN pc 3 Z 1 46 wc) := hcut
      clear hcut
      generalize hwc : wc = V2 at *
      clear hwc
      go_upto_if 59 with fail
      go_cut [12, 13, 14, 15] (fun _ _ _ _ wx => ∃ k p q, Hid (EdgeW w pN pc k p q 96 wx) ∧ Hid (EdgeOk k p q))
      case first =>
        cases half with
        | false =>
          go_wp2_with fail
          go_meet
          case rel => exact ⟨3, Z, 1, hX.out.more (by decide), .inl ⟨rfl, rfl⟩⟩
        | true =>
          have k2 : Hid (Calls Tryz.prog 29 #[.int .i64 2] V2 _) := Int29_any 2 V2 (by decide) (by decide)
          go_wp2_with fail
          refine Calls.mono k2.out ?_
          clear k2
          rintro e w3 ⟨t3, rfl, h3, hb3⟩
          obtain ⟨m3, b3, k3, d3, n3, c3, l3, e3, rfl⟩ := h3.form
          obtain ⟨W3, hW3⟩ : ∃ W3, W3 = w3.alloc (.cells #[.int .i64 4, .bool false, .string ⟨#[]⟩, .bool m3, .slice b3 k3 d3, .bool n3, .slice c3 l3 e3] 42) := ⟨_, rfl⟩
          have j3 : Below w3.heap.size w3 W3 := by rw [hW3]; exact (Below.refl _ _).alloc (Nat.le_refl _) _
          have hq3 : Hid (W3.heap[w3.heap.size]? = some (.cells #[.int .i64 4, .bool false, .string ⟨#[]⟩, .bool m3, .slice b3 k3 d3, .bool n3, .slice c3 l3 e3] 42 (0, 0))) := by show _ = _; rw [hW3]; exact newAt _ _
          have hC3 : Hid (CRn W3 (.agg #[.int .i64 4, .bool false, .string ⟨#[]⟩, .bool m3, .slice b3 k3 d3, .bool n3, .slice c3 l3 e3]) 4 2 1 20) := ((h3.next j3).kind).more (by decide)
          replace hX : Hid (EdgeW w pN pc 3 Z 1 46 W3) := hX.out.next (bthen hb3 j3)
          clear h3 hb3 j3
          go_upto_region 13 with fail
          rw [← hW3]
          clear hW3
          generalize w3.heap.size = p12 at *
          have k1 : Hid (Calls Tryz.prog 29 #[.int .i64 1] W3 _) := Int29_any 1 W3 (by decide) (by decide)
          go_wp2_with fail
          refine Calls.mono k1.out ?_
          clear k1
          rintro e w4 ⟨t4, rfl, h4, hb4⟩
          obtain ⟨m4, b4, k4, d4, n4, c4, l4, e4, rfl⟩ := h4.form
          obtain ⟨W4, hW4⟩ : ∃ W4, W4 = w4.alloc (.cells #[.int .i64 4, .bool false, .string ⟨#[]⟩, .bool m4, .slice b4 k4 d4, .bool n4, .slice c4 l4 e4] 42) := ⟨_, rfl⟩
          have j4 : Below w4.heap.size w4 W4 := by rw [hW4]; exact (Below.refl _ _).alloc (Nat.le_refl _) _
          have hq4 : Hid (W4.heap[w4.heap.size]? = some (.cells #[.int .i64 4, .bool false, .string ⟨#[]⟩, .bool m4, .slice b4 k4 d4, .bool n4, .slice c4 l4 e4] 42 (0, 0))) := by show _ = _; rw [hW4]; exact newAt _ _
          have hC4 : Hid (CRn W4 (.agg #[.int .i64 4, .bool false, .string ⟨#[]⟩, .bool m4, .slice b4 k4 d4, .bool n4, .slice c4 l4 e4]) 4 1 1 20) := ((h4.next j4).kind).more (by decide)
          have jj := bthen hb4 j4
          replace hX : Hid (EdgeW w pN pc 3 Z 1 46 W4) := hX.out.next jj
          replace hq3 : Hid (W4.heap[p12]? = some (.cells #[.int .i64 4, .bool false, .string ⟨#[]⟩, .bool m3, .slice b3 k3 d3, .bool n3, .slice c3 l3 e3] 42 (0, 0))) := keep_heap jj hq3.out
          replace hC3 : Hid (CRn W4 (.agg #[.int .i64 4, .bool false, .string ⟨#[]⟩, .bool m3, .slice b3 k3 d3, .bool n3, .slice c3 l3 e3]) 4 2 1 20) := hC3.out.next jj
          clear h4 hb4 j4 jj
          go_upto_region 15 with fail
          rw [← hW4]
          clear hW4
          generalize w4.heap.size = p13 at *
          have kQ : Hid (Calls Tryz.prog 19 #[.string ⟨#[47]⟩, .agg #[.int .i64 4, .bool false, .string ⟨#[]⟩, .bool m4, .slice b4 k4 d4, .bool n4, .slice c4 l4 e4], .agg #[.int .i64 4, .bool false, .string ⟨#[]⟩, .bool m3, .slice b3 k3 d3, .bool n3, .slice c3 l3 e3]] W4 fun e w' => ∃ t, e = .returned (.tuple #[t, .bool true]) ∧ CRn w' t 4 1 2 44 ∧ Below W4.heap.size W4 w') := half44 hC4.out hC3.out (by decide)
          obtain ⟨⟨s0, s1, s2, s3, s4, s5, s6⟩, _, _⟩ := cells7 hq3.out
          obtain ⟨⟨t0, t1, t2, t3, t4, t5, t6⟩, _, _⟩ := cells7 hq4.out
          go_wp2_with fail
          refine Calls.mono kQ.out ?_
          clear kQ hC3 hC4 hq3 hq4
          clear s0 s1 s2 s3 s4 s5 s6 t0 t1 t2 t3 t4 t5 t6
          rintro e w5 ⟨t5, rfl, h5, hb5⟩
          obtain ⟨m5, b5, k5, d5, n5, c5, l5, e5, rfl⟩ := h5.form
          obtain ⟨W5, hW5⟩ : ∃ W5, W5 = w5.alloc (.cells #[.int .i64 4, .bool false, .string ⟨#[]⟩, .bool m5, .slice b5 k5 d5, .bool n5, .slice c5 l5 e5] 42) := ⟨_, rfl⟩
          have j5 : Below w5.heap.size w5 W5 := by rw [hW5]; exact (Below.refl _ _).alloc (Nat.le_refl _) _
          have hq5 : Hid (W5.heap[w5.heap.size]? = some (.cells #[.int .i64 4, .bool false, .string ⟨#[]⟩, .bool m5, .slice b5 k5 d5, .bool n5, .slice c5 l5 e5] 42 (0, 0))) := by show _ = _; rw [hW5]; exact newAt _ _
          have hC5 : Hid (CRn W5 (.agg #[.int .i64 4, .bool false, .string ⟨#[]⟩, .bool m5, .slice b5 k5 d5, .bool n5, .slice c5 l5 e5]) 4 1 2 46) := (h5.next j5).more (by decide)
          replace hX : Hid (EdgeW w pN pc 3 Z 1 46 W5) := hX.out.next (bthen hb5 j5)
          clear h5 hb5 j5
          go_upto_region 16 with fail
          rw [← hW5]
          clear hW5
          generalize w5.heap.size = p14 at *
          obtain ⟨⟨m1, b1, k1, d1, n1, c1, l1, e1, hqc, hC⟩, _, _⟩ := hX.out
          have hpB : Hid (pc < W5.heap.size) := (Array.getElem?_eq_some_iff.1 hqc).1
          have kS : Hid (Calls Tryz.prog 19 #[.string ⟨#[43]⟩, .agg #[.int .i64 3, .bool false, .string ⟨#[]⟩, .bool m1, .slice b1 k1 d1, .bool n1, .slice c1 l1 e1], .agg #[.int .i64 4, .bool false, .string ⟨#[]⟩, .bool m5, .slice b5 k5 d5, .bool n5, .slice c5 l5 e5]] W5 fun e w' => ∃ t P Q, e = .returned (.tuple #[t, .bool true]) ∧ CRn w' t 4 P Q 96 ∧ (EdgeOk 4 P Q ∧ FarC W5.heap.size t) ∧ Below W5.heap.size W5 w') := sum34 hC hC5.out (by decide)
          obtain ⟨⟨s0, s1, s2, s3, s4, s5, s6⟩, _, _⟩ := cells7 hqc
          obtain ⟨⟨t0, t1, t2, t3, t4, t5, t6⟩, _, _⟩ := cells7 hq5.out
          clear hqc hC
          go_wp2_with fail
          refine Calls.mono kS.out ?_
          clear kS hC5 hq5
          clear s0 s1 s2 s3 s4 s5 s6 t0 t1 t2 t3 t4 t5 t6
          rintro e w6 ⟨t6, P, Q, rfl, h6, ⟨hok, hfar⟩, hb6⟩
          obtain ⟨m6, b6, k6, d6, n6, c6, l6, e6, rfl⟩ := h6.form
          have hX6 : EdgeW w pN pc 3 Z 1 46 w6 := hX.out.next hb6
          have hT : EdgeW w pN pc 4 P Q 96 (put7 w6 pc (.int .i64 4) (.bool false) (.string ⟨#[]⟩) (.bool m6) (.slice b6 k6 d6) (.bool n6) (.slice c6 l6 e6)) := hX6.putFar hpc.out h6 hfar hpB.out
          obtain ⟨⟨m7, b7, k7, d7, n7, c7, l7, e7, hq7, _⟩, _, _⟩ := hX6
          obtain ⟨⟨y0, y1, y2, y3, y4, y5, y6⟩, fy, _⟩ := cells7 hq7
          have fy0 := fy 0
          have fy1 := fy 1
          have fy2 := fy 2
          have fy3 := fy 3
          have fy4 := fy 4
          have fy5 := fy 5
          have fy6 := fy 6
          clear fy
          unfold put7 at hT
          have hTh : Hid _ := hT
          have hoh : Hid (EdgeOk 4 P Q) := hok
          clear hT hb6 h6 hq7 hfar hok
          go_wp2_with fail
          go_meet
          case rel => exact ⟨4, P, Q, hTh, hoh⟩
      case rest =>
        obtain ⟨k, p, q, hX', hok⟩ := hcut
        replace hX := hX'
        clear hX'
        replace hX : Hid (EdgeW w pN pc k p q 96 wc) := hX
        generalize hwc : wc = V3 at *
        clear hwc
        obtain ⟨⟨m1, b1, k1, d1, n1, c1, l1, e1, hqc, hC⟩, _, _⟩ := hX.out
        have hk34 : k = 3 ∨ k = 4 := by rcases hok.out with ⟨h, _⟩ | ⟨h, _⟩ <;> omega
        have kT : Hid (Calls Tryz.prog 30 #[.agg #[.int .i64 k, .bool false, .string ⟨#[]⟩, .bool m1, .slice b1 k1 d1, .bool n1, .slice c1 l1 e1]] V3 fun e w' => ∃ t, e = .returned t ∧ CNum w' t k p q 96 ∧ Below V3.heap.size V3 w') := To30_num hC (by decide) hk34
        obtain ⟨⟨s0, s1, s2, s3, s4, s5, s6⟩, _, _⟩ := cells7 hqc
        clear hqc hC hk34
        go_wp2_with fail
        refine Calls.mono kT.out ?_
        clear kT
        clear s0 s1 s2 s3 s4 s5 s6
        rintro e w6 ⟨t6, rfl, h6, hb6⟩
        obtain ⟨n1', a1', l1', c1', n2', a2', l2', c2', rfl, hF6⟩ := h6
        obtain ⟨W6, hW6⟩ : ∃ W6, W6 = w6.alloc (.cells #[.int .i64 k, .bool false, .string ⟨#[]⟩, .bool n1', .slice a1' l1' c1', .bool n2', .slice a2' l2' c2'] 32) := ⟨_, rfl⟩
        have j6 : Below w6.heap.size w6 W6 := by rw [hW6]; exact (Below.refl _ _).alloc (Nat.le_refl _) _
        have hq6 : W6.heap[w6.heap.size]? = some (.cells #[.int .i64 k, .bool false, .string ⟨#[]⟩, .bool n1', .slice a1' l1' c1', .bool n2', .slice a2' l2' c2'] 32 (0, 0)) := by rw [hW6]; exact newAt _ _
        have hL : Hid (LoopW w pN pc w6.heap.size k p q #[.int .i64 k, .bool false, .string ⟨#[]⟩, .bool n1', .slice a1' l1' c1', .bool n2', .slice a2' l2' c2'] W6) := ⟨hX.out.next (bthen hb6 j6), hq6, ⟨_, _, _, _, _, _, _, _, rfl, hF6.next j6⟩⟩
        clear hX hF6 hb6 j6 hq6
        go_upto_region 18 with fail
        rw [← hW6]
        clear hW6
        generalize w6.heap.size = pa at *
        go_wp2_with fail
        go_loopg [17, 18, 19, 20, 21] 4 (fun g i _ _ _ _ wr => ∃ n : Nat, n + g = 4 ∧ i = .int .i64 n ∧ Hid (LoopW w pN pc pa k p q #[.int .i64 k, .bool false, .string ⟨#[]⟩, .bool n1', .slice a1' l1' c1', .bool n2', .slice a2' l2' c2'] wr))
        case atStart => exact ⟨0, rfl, rfl, hL⟩
        case round =>
          clear hL
          obtain ⟨n, hn, rfl, hL⟩ := hrel
          cases gk with
          | zero =>
            have d4 : decide ((n : Int) < 4) = false := decide_eq_false (by omega)
            go_wp2
            exact bodyPost_ret (v := .bool true) (by simp [results, Tryz.results6, go_sem]) rfl ⟨rfl, hL.out.1.2.2⟩
          | succ g =>
            have d4 : decide ((n : Int) < 4) = true := decide_eq_true (by omega)
            have hn4 : n < 4 := by omega
            have hi1 : ¬ ((n : Int) < 0) := by omega
            have hi2 : (n : Int) < 4 := by omega
            obtain ⟨⟨⟨m1, b1, k1, d1, n1, c1, l1, e1, hqc, hC⟩, hNm, hBw⟩, hqa, hCN⟩ := hL.out
            have nc := hNm.cell n hn4
            have hdh : Hid (Below wr.heap.size wr wr.drew) := (Below.refl _ _).drew
            have hda : Hid (Below wr.heap.size wr (wr.drew.alloc (.cells #[.int .i64 0, .bool false, .string ⟨#[]⟩, .bool false, .slice none 0 0, .bool false, .slice none 0 0] 32))) := (Below.refl _ _).drew.alloc (Nat.le_refl _) _
            have kP : Hid (∀ X, Below wr.heap.size wr X → Calls Tryz.prog 23 #[.agg #[.int .i64 k, .bool false, .string ⟨#[]⟩, .bool n1', .slice a1' l1' c1', .bool n2', .slice a2' l2' c2'], .string (nameI n)] X fun e w' => ∃ t B, e = .returned (.tuple #[t, .bool B]) ∧ FitP (fitZ n p q) 103 w' t B ∧ Below X.heap.size X w') := fun X hX => edge_fit n hok.out (hCN.next hX)
            have hza : Hid ((wr.drew.alloc (.cells #[.int .i64 0, .bool false, .string ⟨#[]⟩, .bool false, .slice none 0 0, .bool false, .slice none 0 0] 32)).heap[wr.heap.size]? = some (.cells #[.int .i64 0, .bool false, .string ⟨#[]⟩, .bool false, .slice none 0 0, .bool false, .slice none 0 0] 32 (0, 0))) := newAt _ _
            obtain ⟨⟨s0, s1, s2, s3, s4, s5, s6⟩, _, _⟩ := cells7 hqa
            have lN : pN < wr.heap.size := cell_lt nc
            have lA : pa < wr.heap.size := cell_lt s0
            have nN : pN ≠ wr.heap.size := by omega
            have nA : pa ≠ wr.heap.size := by omega
            have nca := keep_cell hda.out nc
            have sa0 := keep_cell hda.out s0
            have sa1 := keep_cell hda.out s1
            have sa2 := keep_cell hda.out s2
            have sa3 := keep_cell hda.out s3
            have sa4 := keep_cell hda.out s4
            have sa5 := keep_cell hda.out s5
            have sa6 := keep_cell hda.out s6
            clear hqc hC hNm hBw hqa hCN
            go_upto_region 21 with fail
            go_cut [18, 19] from 78 to 105 (fun a b wx => ∃ (pu : Nat) (B : Bool) (i0 : Int) (i5 : Bool) (i6 : ByteArray) (i1 : Bool) (i2 : Option Addr) (i3 i4 : Nat) (o1 : Bool) (o2 : Option Addr) (o3 o4 : Nat), a = .pointer (some ⟨pu, 0, none⟩) ∧ b = .bool B ∧ Hid (wx.heap[pu]? = some (.cells #[.int .i64 i0, .bool i5, .string i6, .bool i1, .slice i2 i3 i4, .bool o1, .slice o2 o3 o4] 32 (0, 0)) ∧ FitP (fitZ n p q) 103 wx (.agg #[.int .i64 i0, .bool i5, .string i6, .bool i1, .slice i2 i3 i4, .bool o1, .slice o2 o3 o4]) B ∧ LoopW w pN pc pa k p q #[.int .i64 k, .bool false, .string ⟨#[]⟩, .bool n1', .slice a1' l1' c1', .bool n2', .slice a2' l2' c2'] wx))
            case first =>
              go_region_with (first
                | (go_at_call 23; refine Calls.mono (kP.out _ hda.out) ?_; rintro e w7 ⟨t7, B7, rfl, hP, hb7⟩
                   obtain ⟨i0, i5, i6, i1, i2, i3, i4, o1, o2, o3, o4, rfl⟩ := hP.form
                   have hq7 := keep_heap hb7 hza.out
                   obtain ⟨⟨y0, y1, y2, y3, y4, y5, y6⟩, fy, _⟩ := cells7 hq7
                   have fy0 := fy 0; have fy1 := fy 1; have fy2 := fy 2; have fy3 := fy 3; have fy4 := fy 4; have fy5 := fy 5; have fy6 := fy 6
                   have hT : (put7 w7 wr.heap.size (.int .i64 i0) (.bool i5) (.string i6) (.bool i1) (.slice i2 i3 i4) (.bool o1) (.slice o2 o3 o4)).heap[wr.heap.size]? = some (.cells #[.int .i64 i0, .bool i5, .string i6, .bool i1, .slice i2 i3 i4, .bool o1, .slice o2 o3 o4] 32 (0, 0)) ∧ FitP (fitZ n p q) 103 (put7 w7 wr.heap.size (.int .i64 i0) (.bool i5) (.string i6) (.bool i1) (.slice i2 i3 i4) (.bool o1) (.slice o2 o3 o4)) (.agg #[.int .i64 i0, .bool i5, .string i6, .bool i1, .slice i2 i3 i4, .bool o1, .slice o2 o3 o4]) B7 ∧ LoopW w pN pc pa k p q #[.int .i64 k, .bool false, .string ⟨#[]⟩, .bool n1', .slice a1' l1' c1', .bool n2', .slice a2' l2' c2'] (put7 w7 wr.heap.size (.int .i64 i0) (.bool i5) (.string i6) (.bool i1) (.slice i2 i3 i4) (.bool o1) (.slice o2 o3 o4)) := ⟨put7_at hq7, fitP_put7 hP hq7, hL.out.next (put7_below (bthen hda.out hb7) (Nat.le_refl _))⟩
                   unfold put7 at hT
                   have hTh : Hid _ := hT
                   clear hT hq7 fy hP hb7)
                | (go_at_call 23; refine Calls.mono (kP.out _ hdh.out) ?_; rintro e w7 ⟨t7, B7, rfl, hP, hb7⟩
                   obtain ⟨i0, i5, i6, i1, i2, i3, i4, o1, o2, o3, o4, rfl⟩ := hP.form
                   have hbb : Below w7.heap.size w7 (w7.alloc (.cells #[.int .i64 i0, .bool i5, .string i6, .bool i1, .slice i2 i3 i4, .bool o1, .slice o2 o3 o4] 32)) := (Below.refl _ _).alloc (Nat.le_refl _) _
                   have hTh : Hid ((w7.alloc (.cells #[.int .i64 i0, .bool i5, .string i6, .bool i1, .slice i2 i3 i4, .bool o1, .slice o2 o3 o4] 32)).heap[w7.heap.size]? = some (.cells #[.int .i64 i0, .bool i5, .string i6, .bool i1, .slice i2 i3 i4, .bool o1, .slice o2 o3 o4] 32 (0, 0)) ∧ FitP (fitZ n p q) 103 (w7.alloc (.cells #[.int .i64 i0, .bool i5, .string i6, .bool i1, .slice i2 i3 i4, .bool o1, .slice o2 o3 o4] 32)) (.agg #[.int .i64 i0, .bool i5, .string i6, .bool i1, .slice i2 i3 i4, .bool o1, .slice o2 o3 o4]) B7 ∧ LoopW w pN pc pa k p q #[.int .i64 k, .bool false, .string ⟨#[]⟩, .bool n1', .slice a1' l1' c1', .bool n2', .slice a2' l2' c2'] (w7.alloc (.cells #[.int .i64 i0, .bool i5, .string i6, .bool i1, .slice i2 i3 i4, .bool o1, .slice o2 o3 o4] 32))) := ⟨newAt _ _, hP.next hbb, hL.out.next (bthen (bthen hdh.out hb7) hbb)⟩
                   clear hbb hP hb7))
              all_goals
                go_wp2_with fail
                go_meet
                case rel => exact ⟨_, _, _, _, _, _, _, _, _, _, _, _, _, rfl, rfl, hTh⟩
            case rest =>
              obtain ⟨pu, B7, i0, i5, i6, i1, i2, i3, i4, o1, o2, o3, o4, rfl, rfl, hc1⟩ := hcut
              clear hL kP hdh hda hza lN lA nN nA nc nca s0 s1 s2 s3 s4 s5 s6 sa0 sa1 sa2 sa3 sa4 sa5 sa6
              generalize hwc : wc = V4 at *
              clear hwc
              obtain ⟨⟨⟨m1, b1, k1, d1, n1, c1, l1, e1, hqc, hC⟩, hNm, hBw⟩, hqa, hCN⟩ := hc1.out.2.2
              have nc := hNm.cell n hn4
              have hdh : Hid (Below V4.heap.size V4 V4.drew) := (Below.refl _ _).drew
              have hda : Hid (Below V4.heap.size V4 (V4.drew.alloc (.cells #[.int .i64 0, .bool false, .string ⟨#[]⟩, .bool false, .slice none 0 0, .bool false, .slice none 0 0] 42))) := (Below.refl _ _).drew.alloc (Nat.le_refl _) _
              have kP : Hid (∀ X, Below V4.heap.size V4 X → Calls Tryz.prog 25 #[.agg #[.int .i64 k, .bool false, .string ⟨#[]⟩, .bool m1, .slice b1 k1 d1, .bool n1, .slice c1 l1 e1], .string (nameI n)] X fun e w' => ∃ t B, e = .returned (.tuple #[t, .bool B]) ∧ FitR (fitZ n p q) 96 w' t B ∧ Below X.heap.size X w') := fun X hX => ref_fit n (hC.next hX) hok.out.kind hok.out.pos (by decide)
              have hza : Hid ((V4.drew.alloc (.cells #[.int .i64 0, .bool false, .string ⟨#[]⟩, .bool false, .slice none 0 0, .bool false, .slice none 0 0] 42)).heap[V4.heap.size]? = some (.cells #[.int .i64 0, .bool false, .string ⟨#[]⟩, .bool false, .slice none 0 0, .bool false, .slice none 0 0] 42 (0, 0))) := newAt _ _
              obtain ⟨⟨s0, s1, s2, s3, s4, s5, s6⟩, _, _⟩ := cells7 hqc
              have lN : pN < V4.heap.size := cell_lt nc
              have lA : pc < V4.heap.size := cell_lt s0
              have nN : pN ≠ V4.heap.size := by omega
              have nA : pc ≠ V4.heap.size := by omega
              have nca := keep_cell hda.out nc
              have sa0 := keep_cell hda.out s0
              have sa1 := keep_cell hda.out s1
              have sa2 := keep_cell hda.out s2
              have sa3 := keep_cell hda.out s3
              have sa4 := keep_cell hda.out s4
              have sa5 := keep_cell hda.out s5
              have sa6 := keep_cell hda.out s6
              clear hqc hC hNm hBw hqa hCN
              go_upto_region 22 with fail
              go_cut [20, 21] from 78 to 105 (fun a b wx => ∃ (pv : Nat) (B : Bool) (g0 : Int) (g5 : Bool) (g6 : ByteArray) (g1 : Bool) (g2 : Option Addr) (g3 g4 : Nat) (h1 : Bool) (h2 : Option Addr) (h3 h4 : Nat), a = .pointer (some ⟨pv, 0, none⟩) ∧ b = .bool B ∧ Hid (wx.heap[pv]? = some (.cells #[.int .i64 g0, .bool g5, .string g6, .bool g1, .slice g2 g3 g4, .bool h1, .slice h2 h3 h4] 42 (0, 0)) ∧ FitR (fitZ n p q) 96 wx (.agg #[.int .i64 g0, .bool g5, .string g6, .bool g1, .slice g2 g3 g4, .bool h1, .slice h2 h3 h4]) B ∧ (wx.heap[pu]? = some (.cells #[.int .i64 i0, .bool i5, .string i6, .bool i1, .slice i2 i3 i4, .bool o1, .slice o2 o3 o4] 32 (0, 0)) ∧ FitP (fitZ n p q) 103 wx (.agg #[.int .i64 i0, .bool i5, .string i6, .bool i1, .slice i2 i3 i4, .bool o1, .slice o2 o3 o4]) B7 ∧ LoopW w pN pc pa k p q #[.int .i64 k, .bool false, .string ⟨#[]⟩, .bool n1', .slice a1' l1' c1', .bool n2', .slice a2' l2' c2'] wx)))
              case first =>
                have hnx : Hid (∀ Y, Below V4.heap.size V4 Y → Y.heap[pu]? = some (.cells #[.int .i64 i0, .bool i5, .string i6, .bool i1, .slice i2 i3 i4, .bool o1, .slice o2 o3 o4] 32 (0, 0)) ∧ FitP (fitZ n p q) 103 Y (.agg #[.int .i64 i0, .bool i5, .string i6, .bool i1, .slice i2 i3 i4, .bool o1, .slice o2 o3 o4]) B7 ∧ LoopW w pN pc pa k p q #[.int .i64 k, .bool false, .string ⟨#[]⟩, .bool n1', .slice a1' l1' c1', .bool n2', .slice a2' l2' c2'] Y) := fun Y hY => ⟨keep_heap hY hc1.out.1, hc1.out.2.1.next hY, hc1.out.2.2.next hY⟩
                go_region_with (first
                  | (go_at_call 25; refine Calls.mono (kP.out _ hda.out) ?_; rintro e w7 ⟨t7, B8, rfl, hP, hb7⟩
                     obtain ⟨g0, g5, g6, g1, g2, g3, g4, h1, h2, h3, h4, rfl⟩ := hP.form
                     have hq7 := keep_heap hb7 hza.out
                     obtain ⟨⟨y0, y1, y2, y3, y4, y5, y6⟩, fy, _⟩ := cells7 hq7
                     have fy0 := fy 0; have fy1 := fy 1; have fy2 := fy 2; have fy3 := fy 3; have fy4 := fy 4; have fy5 := fy 5; have fy6 := fy 6
                     have hT : (put7 w7 V4.heap.size (.int .i64 g0) (.bool g5) (.string g6) (.bool g1) (.slice g2 g3 g4) (.bool h1) (.slice h2 h3 h4)).heap[V4.heap.size]? = some (.cells #[.int .i64 g0, .bool g5, .string g6, .bool g1, .slice g2 g3 g4, .bool h1, .slice h2 h3 h4] 42 (0, 0)) ∧ FitR (fitZ n p q) 96 (put7 w7 V4.heap.size (.int .i64 g0) (.bool g5) (.string g6) (.bool g1) (.slice g2 g3 g4) (.bool h1) (.slice h2 h3 h4)) (.agg #[.int .i64 g0, .bool g5, .string g6, .bool g1, .slice g2 g3 g4, .bool h1, .slice h2 h3 h4]) B8 ∧ ((put7 w7 V4.heap.size (.int .i64 g0) (.bool g5) (.string g6) (.bool g1) (.slice g2 g3 g4) (.bool h1) (.slice h2 h3 h4)).heap[pu]? = some (.cells #[.int .i64 i0, .bool i5, .string i6, .bool i1, .slice i2 i3 i4, .bool o1, .slice o2 o3 o4] 32 (0, 0)) ∧ FitP (fitZ n p q) 103 (put7 w7 V4.heap.size (.int .i64 g0) (.bool g5) (.string g6) (.bool g1) (.slice g2 g3 g4) (.bool h1) (.slice h2 h3 h4)) (.agg #[.int .i64 i0, .bool i5, .string i6, .bool i1, .slice i2 i3 i4, .bool o1, .slice o2 o3 o4]) B7 ∧ LoopW w pN pc pa k p q #[.int .i64 k, .bool false, .string ⟨#[]⟩, .bool n1', .slice a1' l1' c1', .bool n2', .slice a2' l2' c2'] (put7 w7 V4.heap.size (.int .i64 g0) (.bool g5) (.string g6) (.bool g1) (.slice g2 g3 g4) (.bool h1) (.slice h2 h3 h4))) := ⟨put7_at hq7, fitR_put7 hP ⟨_, _, _, _, _, _, _, _, _, _, _, hq7⟩, hnx.out _ (put7_below (bthen hda.out hb7) (Nat.le_refl _))⟩
                     unfold put7 at hT
                     have hTh : Hid _ := hT
                     clear hT hq7 fy hP hb7)
                  | (go_at_call 25; refine Calls.mono (kP.out _ hdh.out) ?_; rintro e w7 ⟨t7, B8, rfl, hP, hb7⟩
                     obtain ⟨g0, g5, g6, g1, g2, g3, g4, h1, h2, h3, h4, rfl⟩ := hP.form
                     have hbb : Below w7.heap.size w7 (w7.alloc (.cells #[.int .i64 g0, .bool g5, .string g6, .bool g1, .slice g2 g3 g4, .bool h1, .slice h2 h3 h4] 42)) := (Below.refl _ _).alloc (Nat.le_refl _) _
                     have hTh : Hid ((w7.alloc (.cells #[.int .i64 g0, .bool g5, .string g6, .bool g1, .slice g2 g3 g4, .bool h1, .slice h2 h3 h4] 42)).heap[w7.heap.size]? = some (.cells #[.int .i64 g0, .bool g5, .string g6, .bool g1, .slice g2 g3 g4, .bool h1, .slice h2 h3 h4] 42 (0, 0)) ∧ FitR (fitZ n p q) 96 (w7.alloc (.cells #[.int .i64 g0, .bool g5, .string g6, .bool g1, .slice g2 g3 g4, .bool h1, .slice h2 h3 h4] 42)) (.agg #[.int .i64 g0, .bool g5, .string g6, .bool g1, .slice g2 g3 g4, .bool h1, .slice h2 h3 h4]) B8 ∧ ((w7.alloc (.cells #[.int .i64 g0, .bool g5, .string g6, .bool g1, .slice g2 g3 g4, .bool h1, .slice h2 h3 h4] 42)).heap[pu]? = some (.cells #[.int .i64 i0, .bool i5, .string i6, .bool i1, .slice i2 i3 i4, .bool o1, .slice o2 o3 o4] 32 (0, 0)) ∧ FitP (fitZ n p q) 103 (w7.alloc (.cells #[.int .i64 g0, .bool g5, .string g6, .bool g1, .slice g2 g3 g4, .bool h1, .slice h2 h3 h4] 42)) (.agg #[.int .i64 i0, .bool i5, .string i6, .bool i1, .slice i2 i3 i4, .bool o1, .slice o2 o3 o4]) B7 ∧ LoopW w pN pc pa k p q #[.int .i64 k, .bool false, .string ⟨#[]⟩, .bool n1', .slice a1' l1' c1', .bool n2', .slice a2' l2' c2'] (w7.alloc (.cells #[.int .i64 g0, .bool g5, .string g6, .bool g1, .slice g2 g3 g4, .bool h1, .slice h2 h3 h4] 42)))) := ⟨newAt _ _, hP.next hbb, hnx.out _ (bthen (bthen hdh.out hb7) hbb)⟩
                     clear hbb hP hb7))
                all_goals
                  go_wp2_with fail
                  go_meet
                  case rel => exact ⟨_, _, _, _, _, _, _, _, _, _, _, _, _, rfl, rfl, hTh⟩
              case rest =>
                obtain ⟨pv, B8, g0, g5, g6, g1, g2, g3, g4, h1, h2, h3, h4, rfl, rfl, hc2⟩ := hcut
                clear hc1 kP hdh hda hza lN lA nN nA nc nca s0 s1 s2 s3 s4 s5 s6 sa0 sa1 sa2 sa3 sa4 sa5 sa6
                generalize hwc : wc = V5 at *
                clear hwc
                obtain ⟨hqv, hR, hqu, hP, hLL⟩ := hc2.out
                have kI : Hid (Calls Tryz.prog 12 #[.agg #[.int .i64 i0, .bool i5, .string i6, .bool i1, .slice i2 i3 i4, .bool o1, .slice o2 o3 o4], .bool B7, .agg #[.int .i64 g0, .bool g5, .string g6, .bool g1, .slice g2 g3 g4, .bool h1, .slice h2 h3 h4], .bool B8] V5 fun e w' => e = .returned (.bool true) ∧ Below V5.heap.size V5 w') := is_fit hP hR (by decide) (by decide)
                have hLh : Hid (LoopW w pN pc pa k p q #[.int .i64 k, .bool false, .string ⟨#[]⟩, .bool n1', .slice a1' l1' c1', .bool n2', .slice a2' l2' c2'] V5) := hLL
                obtain ⟨⟨s0, s1, s2, s3, s4, s5, s6⟩, _, _⟩ := cells7 hqu
                obtain ⟨⟨t0, t1, t2, t3, t4, t5, t6⟩, _, _⟩ := cells7 hqv
                clear hqv hR hqu hP hLL hc2
                go_wp2_with fail
                refine Calls.mono kI.out ?_
                clear kI
                rintro e w8 ⟨rfl, hb8⟩
                have hL8 : Hid (LoopW w pN pc pa k p q #[.int .i64 k, .bool false, .string ⟨#[]⟩, .bool n1', .slice a1' l1' c1', .bool n2', .slice a2' l2' c2'] w8) := hLh.out.next hb8
                clear hLh hb8
                clear s0 s1 s2 s3 s4 s5 s6 t0 t1 t2 t3 t4 t5 t6
                go_wp2
                go_roundg g
                case measure => omega
                case rel => exact ⟨n + 1, by omega, rfl, hL8⟩
end Go.Proofs.YtclokcoimdjaeaaGreatDoor
namespace Go.Proofs.YtclokcoimdjaeaaGreatDoor
open Go.RowKit
attribute [local go_sem ↓] Go.wp_at_zero Go.wp_at_succ
set_option maxRecDepth 20000 in
set_option maxHeartbeats 4000000 in
theorem constEdges_any {w : World} (k by0 : Int) (half : Bool) (hG : Glob w) (hB2 : 4 < w.heap.size) :
    Calls Tryz.prog 6 #[.int .i64 k, .int .i64 by0, .bool half] w fun e w' => e = .returned (.bool true) ∧ Below w.heap.size w w' := by
  have kG : Hid (Calls Tryz.prog 9 #[] w fun e w' => e = .returned (.bool true) ∧ Below w.heap.size w w') := begun_any w hG (by omega)
  by_cases h0 : k < 0
  case pos =>
    clear hG hB2
    have q0 : decide (k < 0) = true := decide_eq_true (by omega)
    go_enter Tryz.func6, Tryz.ntmps6
    go_wp2_with fail
    refine Calls.mono kG.out ?_
    clear kG
    rintro e w1 ⟨rfl, zz0⟩
    have zz : Hid (∀ o, Below w.heap.size w (w1.alloc o)) := fun o => bthen zz0 ((Below.refl _ _).alloc (Nat.le_refl _) o)
    clear zz0
    go_wp2
    exact bodyPost_ret (v := .bool true) (by simp [results, Tryz.results6, go_sem]) rfl ⟨rfl, zz.out _⟩
  by_cases h1 : k > 7
  case pos =>
    clear hG hB2
    have q0 : decide (k < 0) = false := decide_eq_false (by omega)
    have q1 : decide (k > 7) = true := decide_eq_true (by omega)
    go_enter Tryz.func6, Tryz.ntmps6
    go_wp2_with fail
    refine Calls.mono kG.out ?_
    clear kG
    rintro e w1 ⟨rfl, zz0⟩
    have zz : Hid (∀ o, Below w.heap.size w (w1.alloc o)) := fun o => bthen zz0 ((Below.refl _ _).alloc (Nat.le_refl _) o)
    clear zz0
    go_wp2
    exact bodyPost_ret (v := .bool true) (by simp [results, Tryz.results6, go_sem]) rfl ⟨rfl, zz.out _⟩
  by_cases h2 : by0 < -2
  case pos =>
    clear hG hB2
    have q0 : decide (k < 0) = false := decide_eq_false (by omega)
    have q1 : decide (k > 7) = false := decide_eq_false (by omega)
    have q2 : decide (by0 < -2) = true := decide_eq_true (by omega)
    go_enter Tryz.func6, Tryz.ntmps6
    go_wp2_with fail
    refine Calls.mono kG.out ?_
    clear kG
    rintro e w1 ⟨rfl, zz0⟩
    have zz : Hid (∀ o, Below w.heap.size w (w1.alloc o)) := fun o => bthen zz0 ((Below.refl _ _).alloc (Nat.le_refl _) o)
    clear zz0
    go_wp2
    exact bodyPost_ret (v := .bool true) (by simp [results, Tryz.results6, go_sem]) rfl ⟨rfl, zz.out _⟩
  by_cases h3 : by0 > 2
  case pos =>
    clear hG hB2
    have q0 : decide (k < 0) = false := decide_eq_false (by omega)
    have q1 : decide (k > 7) = false := decide_eq_false (by omega)
    have q2 : decide (by0 < -2) = false := decide_eq_false (by omega)
    have q3 : decide (by0 > 2) = true := decide_eq_true (by omega)
    go_enter Tryz.func6, Tryz.ntmps6
    go_wp2_with fail
    refine Calls.mono kG.out ?_
    clear kG
    rintro e w1 ⟨rfl, zz0⟩
    have zz : Hid (∀ o, Below w.heap.size w (w1.alloc o)) := fun o => bthen zz0 ((Below.refl _ _).alloc (Nat.le_refl _) o)
    clear zz0
    go_wp2
    exact bodyPost_ret (v := .bool true) (by simp [results, Tryz.results6, go_sem]) rfl ⟨rfl, zz.out _⟩
  obtain ⟨kk, rfl⟩ : ∃ kk : Nat, k = kk := ⟨k.toNat, by omega⟩
  exact constEdges_in kk by0 half (by omega) (by omega) (by omega) hG hB2
end Go.Proofs.YtclokcoimdjaeaaGreatDoor
