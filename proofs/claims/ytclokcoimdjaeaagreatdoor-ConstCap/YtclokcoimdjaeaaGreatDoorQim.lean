/- constants: calculateInt. -/
import Derived.Test.YtclokcoimdjaeaaGreatDoorQdm
namespace Go.Proofs.YtclokcoimdjaeaaGreatDoor
open Go.RowKit
attribute [local go_sem ↓] Go.wp_at_zero Go.wp_at_succ
set_option maxRecDepth 20000 in
set_option maxHeartbeats 2000000 in
theorem calc_mul {w : World} {u v : Value} {y z : Int} {m n : Nat} (hu : Num w u y m) (hv : Num w v z n) (hm : m ≤ 250) (hn : n ≤ 250) :
    Calls Tryz.prog 89 #[.string ⟨#[42]⟩, u, v] w fun e w' => ∃ t, e = .returned (.tuple #[t, .bool true]) ∧ OutE w' t (y * z) (m + n) ∧ Below w.heap.size w w' := by
  obtain ⟨nu, xu, lu, cu, rfl⟩ := hu.form
  obtain ⟨nv, xv, lv, cv, rfl⟩ := hv.form
  obtain ⟨W0, hW0⟩ : ∃ W0, W0 = w.alloc (.cells #[.bool nu, .slice xu lu cu] 28) := ⟨_, rfl⟩
  obtain ⟨W1, hW1⟩ : ∃ W1, W1 = W0.alloc (.cells #[.bool nv, .slice xv lv cv] 28) := ⟨_, rfl⟩
  obtain ⟨W, hW⟩ : ∃ W, W = W1.alloc (.cells #[.bool false, .slice none 0 0] 28) := ⟨_, rfl⟩
  have hs0 : W0.heap.size = w.heap.size + 1 := by rw [hW0]; simp
  have hs1 : W1.heap.size = w.heap.size + 1 + 1 := by rw [hW1]; simp [hs0]
  have hb0 : Below w.heap.size w W0 := by rw [hW0]; exact (Below.refl _ _).alloc (Nat.le_refl _) _
  have hb1 : Below W0.heap.size W0 W1 := by rw [hW1]; exact (Below.refl _ _).alloc (Nat.le_refl _) _
  have hb2 : Below W1.heap.size W1 W := by rw [hW]; exact (Below.refl _ _).alloc (Nat.le_refl _) _
  have hq0 : W.heap[w.heap.size]? = some (.cells #[.bool nu, .slice xu lu cu] 28 (0, 0)) := by rw [hb2.block _ (by omega), hb1.block _ (by omega), hW0]; exact newAt _ _
  have hq1 : W.heap[w.heap.size + 1]? = some (.cells #[.bool nv, .slice xv lv cv] 28 (0, 0)) := by rw [hb2.block _ (by omega), hW1, ← hs0]; exact newAt _ _
  have hq2 : W.heap[w.heap.size + 1 + 1]? = some (.cells #[.bool false, .slice none 0 0] 28 (0, 0)) := by rw [hW, ← hs1]; exact newAt _ _
  have hB : Hid (Below w.heap.size w W) := hb0.trans ((hb1.mono (by omega)).trans (hb2.mono (by omega)))
  obtain ⟨⟨p0, p1⟩, _, _⟩ := cells2 hq0
  obtain ⟨⟨q0, q1⟩, _, _⟩ := cells2 hq1
  have hsW : Hid (w.heap.size + 1 + 1 < W.heap.size) := (Array.getElem?_eq_some_iff.1 hq2).1
  have hqh : Hid (W.heap[w.heap.size + 1 + 1]? = some (.cells #[.bool false, .slice none 0 0] 28 (0, 0))) := hq2
  have huW := hu.next hB.out
  have hvW := hv.next hB.out
  have kA : Hid (Calls Tryz.prog 160 #[.agg #[.bool nu, .slice xu lu cu], .agg #[.bool nv, .slice xv lv cv]] W _) := Mul_num huW hvW (by omega) (by omega)
  clear hu hv huW hvW hq0 hq1 hq2 hb0 hb1 hb2 hs0 hs1
  obtain ⟨Z, hZ⟩ : ∃ Z, Z = y * z := ⟨_, rfl⟩
  obtain ⟨K, hK⟩ : ∃ K, K = m + n := ⟨_, rfl⟩
  rw [← hZ, ← hK]
  have hZh : Hid (Z = y * z ∧ K = m + n) := ⟨hZ, hK⟩
  clear hZ hK
  go_enter Tryz.func89, Tryz.ntmps89
  go_upto_region 1 with fail
  rw [← hW0, ← hW1, ← hW]
  clear hW hW1 hW0
  go_wp2_with fail
  refine Calls.mono kA.out ?_
  clear kA
  rintro e X ⟨t, rfl, hOt, hX⟩
  obtain ⟨ng, a, l, c, rfl⟩ := hOt.form
  have hO : OutE X (.agg #[.bool ng, .slice a l c]) Z K := by rw [hZh.out.1, hZh.out.2]; exact ⟨_, hOt⟩
  clear hOt p0 p1 q0 q1
  have hq8a := (hX.block _ hsW.out).trans hqh.out
  obtain ⟨⟨r0, r1⟩, rf, rl⟩ := cells2 hq8a
  have rf0 := rf 0
  have rf1 := rf 1
  have hnb : NoInt X (w.heap.size + 1 + 1) := ⟨_, _, _, hq8a, by decide, two_notInt (notInt_bool _) (notInt_slice _ _ _)⟩
  obtain ⟨W8, hW8⟩ : ∃ W8, W8 = (X.setCell ⟨w.heap.size + 1 + 1, 0, none⟩ (.bool ng)).setCell ⟨w.heap.size + 1 + 1, 1, none⟩ (.slice a l c) := ⟨_, rfl⟩
  have hq8 : Hid (W8.heap[w.heap.size + 1 + 1]? = some (.cells #[.bool ng, .slice a l c] 28 (0, 0))) := by show _ = _; rw [hW8]; simp [World.setCell, Array.getElem?_modify, hq8a]
  have hB8 : Hid (Below w.heap.size w W8) := by
    show Below _ _ _
    rw [hW8]
    exact ((hB.out.trans (hX.mono (by have := hsW.out; omega))).setCell (by show w.heap.size ≤ w.heap.size + 1 + 1; omega) _).setCell (by show w.heap.size ≤ w.heap.size + 1 + 1; omega) _
  have hO8 : Hid (OutE W8 (.agg #[.bool ng, .slice a l c]) Z K) := by
    show OutE _ _ _ _
    rw [hW8]
    have h1 := hO.noint (p := ⟨w.heap.size + 1 + 1, 0, none⟩) hnb (.bool ng)
    exact h1.noint (p := ⟨w.heap.size + 1 + 1, 1, none⟩) (hnb.set _ _ _ (notInt_bool _)) (.slice a l c)
  clear hO hnb hq8a rf hqh hB hX
  go_wp2
  rw [← hW8]
  obtain ⟨⟨j0, j1⟩, _, _⟩ := cells2 hq8.out
  exact bodyPost_ret (v := .tuple #[.agg #[.bool ng, .slice a l c], .bool true]) (by simp [results, Tryz.results89, go_sem, j0, j1]) rfl ⟨_, rfl, hO8.out, hB8.out⟩
set_option maxRecDepth 20000 in
set_option maxHeartbeats 2000000 in
theorem calc_quo {w : World} {u v : Value} {y z : Int} {m n : Nat} (hu : Num w u y m) (hv : Num w v z n) (hm : m ≤ 150) (hn : n ≤ 150) (hz : z ≠ 0) :
    Calls Tryz.prog 89 #[.string ⟨#[47]⟩, u, v] w fun e w' => ∃ t, e = .returned (.tuple #[t, .bool true]) ∧ OutE w' t (y.tdiv z) (m + 1) ∧ Below w.heap.size w w' := by
  obtain ⟨nu, xu, lu, cu, rfl⟩ := hu.form
  obtain ⟨nv, xv, lv, cv, rfl⟩ := hv.form
  obtain ⟨W0, hW0⟩ : ∃ W0, W0 = w.alloc (.cells #[.bool nu, .slice xu lu cu] 28) := ⟨_, rfl⟩
  obtain ⟨W1, hW1⟩ : ∃ W1, W1 = W0.alloc (.cells #[.bool nv, .slice xv lv cv] 28) := ⟨_, rfl⟩
  obtain ⟨W, hW⟩ : ∃ W, W = W1.alloc (.cells #[.bool false, .slice none 0 0] 28) := ⟨_, rfl⟩
  have hs0 : W0.heap.size = w.heap.size + 1 := by rw [hW0]; simp
  have hs1 : W1.heap.size = w.heap.size + 1 + 1 := by rw [hW1]; simp [hs0]
  have hb0 : Below w.heap.size w W0 := by rw [hW0]; exact (Below.refl _ _).alloc (Nat.le_refl _) _
  have hb1 : Below W0.heap.size W0 W1 := by rw [hW1]; exact (Below.refl _ _).alloc (Nat.le_refl _) _
  have hb2 : Below W1.heap.size W1 W := by rw [hW]; exact (Below.refl _ _).alloc (Nat.le_refl _) _
  have hq0 : W.heap[w.heap.size]? = some (.cells #[.bool nu, .slice xu lu cu] 28 (0, 0)) := by rw [hb2.block _ (by omega), hb1.block _ (by omega), hW0]; exact newAt _ _
  have hq1 : W.heap[w.heap.size + 1]? = some (.cells #[.bool nv, .slice xv lv cv] 28 (0, 0)) := by rw [hb2.block _ (by omega), hW1, ← hs0]; exact newAt _ _
  have hq2 : W.heap[w.heap.size + 1 + 1]? = some (.cells #[.bool false, .slice none 0 0] 28 (0, 0)) := by rw [hW, ← hs1]; exact newAt _ _
  have hB : Hid (Below w.heap.size w W) := hb0.trans ((hb1.mono (by omega)).trans (hb2.mono (by omega)))
  obtain ⟨⟨p0, p1⟩, _, _⟩ := cells2 hq0
  obtain ⟨⟨q0, q1⟩, _, _⟩ := cells2 hq1
  have hsW : Hid (w.heap.size + 1 + 1 < W.heap.size) := (Array.getElem?_eq_some_iff.1 hq2).1
  have hqh : Hid (W.heap[w.heap.size + 1 + 1]? = some (.cells #[.bool false, .slice none 0 0] 28 (0, 0))) := hq2
  have huW := hu.next hB.out
  have hvW := hv.next hB.out
  have kA : Hid (Calls Tryz.prog 161 #[.agg #[.bool nu, .slice xu lu cu], .agg #[.bool nv, .slice xv lv cv]] W _) := Quo_num huW hvW (by omega) (by omega) hz
  clear hu hv huW hvW hq0 hq1 hq2 hb0 hb1 hb2 hs0 hs1
  obtain ⟨Z, hZ⟩ : ∃ Z, Z = y.tdiv z := ⟨_, rfl⟩
  obtain ⟨K, hK⟩ : ∃ K, K = m + 1 := ⟨_, rfl⟩
  rw [← hZ, ← hK]
  have hZh : Hid (Z = y.tdiv z ∧ K = m + 1) := ⟨hZ, hK⟩
  clear hZ hK
  go_enter Tryz.func89, Tryz.ntmps89
  go_upto_region 1 with fail
  rw [← hW0, ← hW1, ← hW]
  clear hW hW1 hW0
  go_wp2_with fail
  refine Calls.mono kA.out ?_
  clear kA
  rintro e w1 ⟨t, t', rfl, hOt, hOt', hX1⟩
  obtain ⟨g1, x1, k1, d1, rfl⟩ := hOt.form
  obtain ⟨g2, x2, k2, d2, rfl⟩ := hOt'.form
  obtain ⟨Y, hY⟩ : ∃ Y, Y = w1.alloc (.cells #[.bool g1, .slice x1 k1 d1] 28) := ⟨_, rfl⟩
  obtain ⟨X, hXe⟩ : ∃ X, X = Y.alloc (.cells #[.bool g2, .slice x2 k2 d2] 28) := ⟨_, rfl⟩
  have hsY : Y.heap.size = w1.heap.size + 1 := by rw [hY]; simp
  have hbY : Below w1.heap.size w1 Y := by rw [hY]; exact (Below.refl _ _).alloc (Nat.le_refl _) _
  have hbX : Below Y.heap.size Y X := by rw [hXe]; exact (Below.refl _ _).alloc (Nat.le_refl _) _
  have hqa : X.heap[w1.heap.size]? = some (.cells #[.bool g1, .slice x1 k1 d1] 28 (0, 0)) := by rw [hbX.block _ (by omega), hY]; exact newAt _ _
  have hqb : X.heap[w1.heap.size + 1]? = some (.cells #[.bool g2, .slice x2 k2 d2] 28 (0, 0)) := by rw [hXe, ← hsY]; exact newAt _ _
  obtain ⟨⟨y0, y1⟩, _, _⟩ := cells2 hqa
  obtain ⟨⟨z0, z1⟩, _, _⟩ := cells2 hqb
  have hX : Below W.heap.size W X := hX1.trans ((hbY.mono hX1.size).trans (hbX.mono (by have := hX1.size; omega)))
  have hO : OutE X (.agg #[.bool g1, .slice x1 k1 d1]) Z K := by rw [hZh.out.1, hZh.out.2]; exact (OutE.next ⟨_, hOt⟩ hbY).next hbX
  clear hOt hOt' hqa hqb hbY hbX hX1 p0 p1 q0 q1 hsY
  have hq8a := (hX.block _ hsW.out).trans hqh.out
  obtain ⟨⟨r0, r1⟩, rf, rl⟩ := cells2 hq8a
  have rf0 := rf 0
  have rf1 := rf 1
  have hnb : NoInt X (w.heap.size + 1 + 1) := ⟨_, _, _, hq8a, by decide, two_notInt (notInt_bool _) (notInt_slice _ _ _)⟩
  obtain ⟨W8, hW8⟩ : ∃ W8, W8 = (X.setCell ⟨w.heap.size + 1 + 1, 0, none⟩ (.bool g1)).setCell ⟨w.heap.size + 1 + 1, 1, none⟩ (.slice x1 k1 d1) := ⟨_, rfl⟩
  have hq8 : Hid (W8.heap[w.heap.size + 1 + 1]? = some (.cells #[.bool g1, .slice x1 k1 d1] 28 (0, 0))) := by show _ = _; rw [hW8]; simp [World.setCell, Array.getElem?_modify, hq8a]
  have hB8 : Hid (Below w.heap.size w W8) := by
    show Below _ _ _
    rw [hW8]
    exact ((hB.out.trans (hX.mono (by have := hsW.out; omega))).setCell (by show w.heap.size ≤ w.heap.size + 1 + 1; omega) _).setCell (by show w.heap.size ≤ w.heap.size + 1 + 1; omega) _
  have hO8 : Hid (OutE W8 (.agg #[.bool g1, .slice x1 k1 d1]) Z K) := by
    show OutE _ _ _ _
    rw [hW8]
    have h1 := hO.noint (p := ⟨w.heap.size + 1 + 1, 0, none⟩) hnb (.bool g1)
    exact h1.noint (p := ⟨w.heap.size + 1 + 1, 1, none⟩) (hnb.set _ _ _ (notInt_bool _)) (.slice x1 k1 d1)
  clear hO hnb hq8a rf hqh hB hX
  go_upto_region 10 with fail
  rw [← hY, ← hXe]
  clear hXe hY
  obtain ⟨bx, hbx⟩ : ∃ bx, bx = w1.heap.size := ⟨_, rfl⟩
  rw [← hbx] at y0 y1 z0 z1 ⊢
  clear hbx
  go_wp2
  rw [← hW8]
  obtain ⟨⟨j0, j1⟩, _, _⟩ := cells2 hq8.out
  exact bodyPost_ret (v := .tuple #[.agg #[.bool g1, .slice x1 k1 d1], .bool true]) (by simp [results, Tryz.results89, go_sem, j0, j1]) rfl ⟨_, rfl, hO8.out, hB8.out⟩
end Go.Proofs.YtclokcoimdjaeaaGreatDoor
namespace Go.Proofs.YtclokcoimdjaeaaGreatDoor
open Go.RowKit
attribute [local go_sem ↓] Go.wp_at_zero Go.wp_at_succ
/-- A whole constant, by its worth. -/
def CI (w : World) (v : Value) (z : Int) (m : Nat) : Prop := ∃ n d, CNum w v 3 n d m ∧ pN n d = z * pD d
theorem CI.next {w w' : World} {v : Value} {z : Int} {m : Nat} (h : CI w v z m) (hb : Below w.heap.size w w') : CI w' v z m := by
  obtain ⟨n, d, h1, h2⟩ := h
  exact ⟨n, d, h1.next hb, h2⟩
theorem CI.more {w : World} {v : Value} {z : Int} {m m' : Nat} (h : CI w v z m) (hm : m ≤ m') : CI w v z m' := by
  obtain ⟨n, d, h1, h2⟩ := h
  exact ⟨n, d, h1.more hm, h2⟩
theorem low_one {z p q : Int} (h : Low z 1 p q) : pN p q = z * pD q := by
  obtain ⟨h0, _, h2⟩ := h
  rw [pN_pos h0, pD_of h0]
  omega
/-- A constant's box. -/
def CBox (w : World) (b : Nat) : Prop := ∃ (k0 : Int) (b0 : Bool) (s0 : ByteArray) (x1 : Bool) (y1 : Option Addr) (z1 u1 : Nat) (x2 : Bool) (y2 : Option Addr) (z2 u2 : Nat), w.heap[b]? = some (.cells #[.int .i64 k0, .bool b0, .string s0, .bool x1, .slice y1 z1 u1, .bool x2, .slice y2 z2 u2] 32 (0, 0))
theorem CBox.apart {w : World} {b : Nat} (h : CBox w b) {B : Int} {x : Addr} {cap : Nat} {ds : List Int} (hr : Row w .u32 B (some x) cap ds) (hne : ds ≠ []) : x.block ≠ b := by
  obtain ⟨k0, b0, s0, x1, y1, z1, u1, x2, y2, z2, u2, h⟩ := h
  intro e
  have h1 := hr.cell x rfl 0 (List.length_pos_iff.2 hne)
  unfold World.cell? at h1
  rw [add_block, e, h] at h1
  simp only at h1
  split at h1
  · cases h1
  · generalize (x.add 0).off = o at h1
    match o, h1 with
    | 0, h1 => simp at h1
    | 1, h1 => simp at h1
    | 2, h1 => simp at h1
    | 3, h1 => simp at h1
    | 4, h1 => simp at h1
    | 5, h1 => simp at h1
    | 6, h1 => simp at h1
    | o + 7, h1 => simp at h1
/-- A row of digits lies in no constant's box. -/
theorem row_put7 {w : World} {b : Nat} {v0 v1 v2 v3 v4 v5 v6 : Value} (h : CBox w b) {x : Option Addr} {cp : Nat} {ds : List Int} (hr : Row w .u32 4294967296 x cp ds) : Row (put7 w b v0 v1 v2 v3 v4 v5 v6) .u32 4294967296 x cp ds := by
  refine ⟨hr.le, hr.max, hr.nil, fun y hy i hi => ?_, hr.words⟩
  subst hy
  have hne := h.apart hr (by intro e; subst e; simp at hi)
  rw [World.cell?_of_block (w := w) (put7_same (by rw [add_block]; exact hne))]
  exact hr.cell y rfl i hi
theorem frac_put7 {w : World} {b : Nat} {v0 v1 v2 v3 v4 v5 v6 : Value} (h : CBox w b) {v : Value} {n d : Int} {m : Nat} (hf : Frac w v n d m) : Frac (put7 w b v0 v1 v2 v3 v4 v5 v6) v n d m := by
  obtain ⟨_, _, _, _, _, _, _, _, ev, ⟨u1, u2, u3, u4, eu, hr1, hz1, hl1⟩, ⟨v1, v2, v3, v4, ew, hr2, hz2, hl2⟩⟩ := hf
  exact ⟨_, _, _, _, _, _, _, _, ev, ⟨u1, u2, u3, u4, eu, row_put7 h hr1, hz1, hl1⟩, ⟨v1, v2, v3, v4, ew, row_put7 h hr2, hz2, hl2⟩⟩
set_option maxRecDepth 20000 in
set_option maxHeartbeats 2000000 in
/-- binaryInt, given what calculateInt answers. -/
theorem binaryInt_any {w : World} {u v : Value} {y z : Int} {m n : Nat} (s : ByteArray) (P : Int → Prop) (K : Nat) (hK : K ≤ 180) (hu : Num w u y m) (hv : Num w v z n)
    (hc : ∀ X, Below w.heap.size w X → Calls Tryz.prog 89 #[.string s, u, v] X fun e w' => ∃ t Z, e = .returned (.tuple #[t, .bool true]) ∧ P Z ∧ OutE w' t Z K ∧ Below X.heap.size X w') :
    Calls Tryz.prog 43 #[.string s, u, v] w fun e w' => ∃ t Z, e = .returned (.tuple #[t, .bool true]) ∧ P Z ∧ CI w' t Z (K + 4) ∧ Below w.heap.size w w' := by
  obtain ⟨nu, xu, lu, cu, rfl⟩ := hu.form
  obtain ⟨nv, xv, lv, cv, rfl⟩ := hv.form
  obtain ⟨W0, hW0⟩ : ∃ W0, W0 = w.alloc (.cells #[.bool nu, .slice xu lu cu] 28) := ⟨_, rfl⟩
  obtain ⟨W1, hW1⟩ : ∃ W1, W1 = W0.alloc (.cells #[.bool nv, .slice xv lv cv] 28) := ⟨_, rfl⟩
  obtain ⟨W, hW⟩ : ∃ W, W = W1.alloc (.cells #[.int .i64 0, .bool false, .string ⟨#[]⟩, .bool false, .slice none 0 0, .bool false, .slice none 0 0] 32) := ⟨_, rfl⟩
  have hs0 : W0.heap.size = w.heap.size + 1 := by rw [hW0]; simp
  have hs1 : W1.heap.size = w.heap.size + 1 + 1 := by rw [hW1]; simp [hs0]
  have hb0 : Below w.heap.size w W0 := by rw [hW0]; exact (Below.refl _ _).alloc (Nat.le_refl _) _
  have hb1 : Below W0.heap.size W0 W1 := by rw [hW1]; exact (Below.refl _ _).alloc (Nat.le_refl _) _
  have hb2 : Below W1.heap.size W1 W := by rw [hW]; exact (Below.refl _ _).alloc (Nat.le_refl _) _
  have hq0 : W.heap[w.heap.size]? = some (.cells #[.bool nu, .slice xu lu cu] 28 (0, 0)) := by rw [hb2.block _ (by omega), hb1.block _ (by omega), hW0]; exact newAt _ _
  have hq1 : W.heap[w.heap.size + 1]? = some (.cells #[.bool nv, .slice xv lv cv] 28 (0, 0)) := by rw [hb2.block _ (by omega), hW1, ← hs0]; exact newAt _ _
  have hq2 : W.heap[w.heap.size + 1 + 1]? = some (.cells #[.int .i64 0, .bool false, .string ⟨#[]⟩, .bool false, .slice none 0 0, .bool false, .slice none 0 0] 32 (0, 0)) := by rw [hW, ← hs1]; exact newAt _ _
  have hB : Hid (Below w.heap.size w W) := hb0.trans ((hb1.mono (by omega)).trans (hb2.mono (by omega)))
  obtain ⟨⟨p0, p1⟩, _, _⟩ := cells2 hq0
  obtain ⟨⟨q0, q1⟩, _, _⟩ := cells2 hq1
  have hsW : Hid (w.heap.size + 1 + 1 < W.heap.size) := (Array.getElem?_eq_some_iff.1 hq2).1
  have hqh : Hid (W.heap[w.heap.size + 1 + 1]? = some (.cells #[.int .i64 0, .bool false, .string ⟨#[]⟩, .bool false, .slice none 0 0, .bool false, .slice none 0 0] 32 (0, 0))) := hq2
  have huW := hu.next hB.out
  have hvW := hv.next hB.out
  have kA : Hid (Calls Tryz.prog 89 #[.string s, .agg #[.bool nu, .slice xu lu cu], .agg #[.bool nv, .slice xv lv cv]] W _) := hc W hB.out
  clear hu hv huW hvW hq0 hq1 hq2 hb0 hb1 hb2 hs0 hs1 hc
  go_enter Tryz.func43, Tryz.ntmps43
  go_upto_region 1 with fail
  rw [← hW0, ← hW1, ← hW]
  clear hW hW1 hW0
  go_wp2_with fail
  refine Calls.mono kA.out ?_
  clear kA
  rintro e w1 ⟨t, Z, rfl, hPZ, hO, hX1⟩
  obtain ⟨ng, a, l, c, rfl⟩ := hO.num.form
  obtain ⟨X, hXe⟩ : ∃ X, X = w1.alloc (.cells #[.bool ng, .slice a l c] 28) := ⟨_, rfl⟩
  have hbX : Below w1.heap.size w1 X := by rw [hXe]; exact (Below.refl _ _).alloc (Nat.le_refl _) _
  have hqX : X.heap[w1.heap.size]? = some (.cells #[.bool ng, .slice a l c] 28 (0, 0)) := by rw [hXe]; exact newAt _ _
  obtain ⟨⟨x0, x1⟩, _, xl⟩ := cells2 hqX
  have hbWX : Hid (Below W.heap.size W X) := hX1.trans (hbX.mono hX1.size)
  have kB : Hid (Calls Tryz.prog 70 #[.agg #[.bool ng, .slice a l c]] X _) := Whole_num (hO.num.next hbX) (by omega)
  have hPh : Hid (P Z) := hPZ
  clear hO hPZ hX1 hbX hqX p0 p1 q0 q1
  go_upto_region 2 with fail
  rw [← hXe]
  clear hXe
  obtain ⟨bx, hbx⟩ : ∃ bx, bx = w1.heap.size := ⟨_, rfl⟩
  rw [← hbx] at x0 x1 xl ⊢
  clear hbx
  go_wp2_with fail
  refine Calls.mono kB.out ?_
  clear kB
  rintro e w2 ⟨t, rfl, hL, hb2⟩
  obtain ⟨pp, qq, hF, hlow⟩ := hL
  have hF' := hF
  obtain ⟨n1, a1, l1, c1, n2, a2, l2, c2, rfl, _, _⟩ := hF'
  have kC : Hid (Calls Tryz.prog 48 #[.int .i64 3, .agg #[.bool n1, .slice a1 l1 c1, .bool n2, .slice a2 l2 c2], .bool true] w2 _) := ofNumber_ok (k := 3) hF.frac (by omega)
  have hlowh : Hid (pN pp qq = Z * pD qq) := low_one hlow
  have hb2h : Hid (Below X.heap.size X w2) := hb2
  clear hF hlow hb2 x0 x1
  go_wp2_with fail
  refine Calls.mono kC.out ?_
  clear kC
  rintro e w3 ⟨t, rfl, hCN, hb3⟩
  obtain ⟨e1, f1, g1, h1, e2, f2, g2, h2, rfl, hFr⟩ := hCN
  have hX : Below W.heap.size W w3 := hbWX.out.trans ((hb2h.out.mono hbWX.out.size).trans (hb3.mono (by have := hbWX.out.size; have := hb2h.out.size; omega)))
  have hq1 := (hX.block _ hsW.out).trans hqh.out
  have hB1 : Hid (Below w.heap.size w w3) := hB.out.trans (hX.mono (by have := hsW.out; omega))
  obtain ⟨⟨r0, r1, r2, r3, r4, r5, r6⟩, rf, rl⟩ := cells7 hq1
  have rf0 := rf 0
  have rf1 := rf 1
  have rf2 := rf 2
  have rf3 := rf 3
  have rf4 := rf 4
  have rf5 := rf 5
  have rf6 := rf 6
  obtain ⟨W8, hW8⟩ : ∃ W8, W8 = put7 w3 (w.heap.size + 1 + 1) (.int .i64 3) (.bool false) (.string ⟨#[]⟩) (.bool e1) (.slice f1 g1 h1) (.bool e2) (.slice f2 g2 h2) := ⟨_, rfl⟩
  have hqW8 : Hid (W8.heap[w.heap.size + 1 + 1]? = some (.cells #[.int .i64 3, .bool false, .string ⟨#[]⟩, .bool e1, .slice f1 g1 h1, .bool e2, .slice f2 g2 h2] 32 (0, 0))) := by show _ = _; rw [hW8]; exact put7_at hq1
  have hBW8 : Hid (Below w.heap.size w W8) := by
    show Below _ _ _
    rw [hW8]
    exact put7_below hB1.out (by omega)
  have hC8 : Hid (CNum W8 (.agg #[.int .i64 3, .bool false, .string ⟨#[]⟩, .bool e1, .slice f1 g1 h1, .bool e2, .slice f2 g2 h2]) 3 pp qq (K + 4)) := by
    refine ⟨_, _, _, _, _, _, _, _, rfl, ?_⟩
    rw [hW8]
    exact frac_put7 ⟨_, _, _, _, _, _, _, _, _, _, _, hq1⟩ hFr
  clear hq1 rf hb3 hX hFr hqh hB hB1 hb2h hbWX
  go_wp2
  unfold put7 at hW8
  rw [← hW8]
  obtain ⟨⟨j0, j1, j2, j3, j4, j5, j6⟩, _, _⟩ := cells7 hqW8.out
  exact bodyPost_ret (v := .tuple #[.agg #[.int .i64 3, .bool false, .string ⟨#[]⟩, .bool e1, .slice f1 g1 h1, .bool e2, .slice f2 g2 h2], .bool true]) (by simp [results, Tryz.results43, go_sem, j0, j1, j2, j3, j4, j5, j6]) rfl ⟨_, Z, rfl, hPh.out, ⟨pp, qq, hC8.out, hlowh.out⟩, hBW8.out⟩
end Go.Proofs.YtclokcoimdjaeaaGreatDoor
