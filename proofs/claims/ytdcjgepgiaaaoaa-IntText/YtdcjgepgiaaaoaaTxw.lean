/- The walk of IntText. -/
import Derived.Test.YtdcjgepgiaaaoaaTh
import Derived.Test.YtdcjgepgiaaaoaaRgc
import Derived.Test.YtdcjgepgiaaaoaaStp
namespace Go.Proofs.Ytdcjgepgiaaaoaa
open Go.RowKit
attribute [local go_sem ↓] Go.wp_at_zero Go.wp_at_succ
theorem nbox1 (w : World) (m : Bool) (a : Option Addr) (l c : Nat) (T : TypeId) (hT : T ≠ 61) : ∃ W, W = w.alloc (.cells #[.bool m, .slice a l c] T) ∧ Below w.heap.size w W ∧ w.heap.size < W.heap.size ∧ W.cell? ⟨w.heap.size, 0, none⟩ = some (.bool m) ∧ W.cell? ⟨w.heap.size, 1, none⟩ = some (.slice a l c) ∧ NBox W w.heap.size ∧ W.frozen? ⟨w.heap.size, 0, none⟩ = false :=
  ⟨_, rfl, (Below.refl _ _).alloc (Nat.le_refl _) _, by simp, by simp [go_sem], by simp [go_sem], NBox.new _ _ _ _ _ _ hT, by simp [go_sem]⟩
theorem cut_string (s : ByteArray) : (s.extract 0 100).size ≤ 100 := by simp [ByteArray.size_extract]; omega
theorem txt_true_pos (ds : List Int) : (1 : Int) ≤ ((txt true ds).size : Int) := by simp [txt, ByteArray.size, u8s, asc]; omega
theorem txt_cut (ds : List Int) : (txt true ds).extract 1 (txt true ds).size = txt false ds := by
  apply ByteArray.ext
  rw [ByteArray.data_extract]
  simp [txt, ByteArray.size, u8s]
  rw [List.take_of_length_le (by simp)]
def textV (pa gx gb gp gq : Nat) (A X B P Q : Value) (T : ByteArray) (okp ff : Bool) (mm n za : Int) (t : Nat) (v : Value) (w : World) : Prop := match t with
  | 3 => v = .int .i64 n
  | 4 => v = .pointer (some ⟨pa, 0, none⟩)
  | 8 => v = .bool true
  | 9 => v = .bool true
  | 10 => v = .pointer (some ⟨gx, 0, none⟩)
  | 12 => v = .pointer (some ⟨gb, 0, none⟩)
  | 13 => v = .bool true
  | 14 => v = .pointer (some ⟨gp, 0, none⟩)
  | 15 => v = .bool okp
  | 16 => v = .pointer (some ⟨gq, 0, none⟩)
  | 17 => v = .bool okp
  | 18 => v = .int .i64 mm
  | 19 => v = .bool ff
  | 20 => v = .int .i64 mm
  | 21 => v = .bool ff
  | 22 => v = .int .i64 n
  | 23 => v = .bool true
  | 74 => v = .bool true
  | 75 => v = .bool true
  | 76 => v = A
  | 77 => v = .string T
  | 78 => v = A
  | 79 => Rint w v za 24
  | 80 => v = .string T
  | 81 => v = .bool true
  | 82 => v = .bool true
  | 83 => v = .bool true
  | 84 => v = .bool true
  | 85 => v = .bool true
  | 86 => v = .bool true
  | 87 => v = B
  | 88 => v = X
  | 89 => v = .bool true
  | 90 => v = .bool true
  | 91 => v = .bool true
  | 92 => v = .bool okp
  | 93 => v = .bool okp
  | 94 => v = .bool true
  | 95 => v = .bool true
  | 96 => v = .bool true
  | 97 => v = P
  | 98 => v = Q
  | 99 => v = .bool true
  | 100 => v = .bool true
  | 101 => v = .bool true
  | 102 => v = .int .i64 mm
  | 103 => v = .int .i64 mm
  | 104 => v = .bool true
  | 105 => v = .bool true
  | 106 => v = .bool true
  | 107 => v = .bool ff
  | 108 => v = .bool ff
  | 109 => v = .bool true
  | 110 => v = .bool true
  | 111 => v = .bool true
  | 112 => v = .bool true
  | 113 => v = .bool true
  | 114 => v = .bool true
  | 115 => v = .int .i64 n
  | 116 => v = .int .i64 n
  | 117 => v = .bool true
  | 118 => v = .bool true
  | 119 => v = .bool true
  | 120 => v = .int .i64 n
  | 121 => OutE w v n 2
  | 122 => v = .int .i64 n
  | 123 => Rint w v n 4
  | 124 => v = .bool true
  | 125 => v = .bool true
  | _ => True
theorem textV_next {pa gx gb gp gq : Nat} {A X B P Q : Value} {T : ByteArray} {okp ff : Bool} {mm n za : Int} (t : Nat) (v : Value) (w w' : World) (hb : Below w.heap.size w w') (h : textV pa gx gb gp gq A X B P Q T okp ff mm n za t v w) : textV pa gx gb gp gq A X B P Q T okp ff mm n za t v w' := by
  unfold textV at h ⊢
  split at h <;> first | exact h | exact OutE.next h hb | exact Rint.next h hb
theorem eq9s {w : World} {T : ByteArray} {o : Oper} {b : Act} {K : Act → World → Prop} {Q : Exit → Act → World → Prop} (s t : Nat) (ho : o.op = .binOp .eql 9 (.tmp s) (.tmp t) 9) (hs : b.tmps.getD s undef = .string T) (ht : b.tmps.getD t undef = .string T) (h : K (b.put o.dst (.bool true)) w) : o.wp Try.prog b w K Q := by
  obtain ⟨dst, op, type, pos, after, guard⟩ := o
  dsimp only at ho
  subst ho
  unfold Oper.wp
  have e : b.eval (.tmp s) = .string T := hs
  have e' : b.eval (.tmp t) = .string T := ht
  have hT : (T.toList == T.toList) = true := by simp
  go_simp
  exact h
theorem eq4b {w : World} {T : Bool} {o : Oper} {b : Act} {K : Act → World → Prop} {Q : Exit → Act → World → Prop} (s t : Nat) (ho : o.op = .binOp .eql 4 (.tmp s) (.tmp t) 4) (hs : b.tmps.getD s undef = .bool T) (ht : b.tmps.getD t undef = .bool T) (h : K (b.put o.dst (.bool true)) w) : o.wp Try.prog b w K Q := by
  obtain ⟨dst, op, type, pos, after, guard⟩ := o
  dsimp only at ho
  subst ho
  unfold Oper.wp
  have e : b.eval (.tmp s) = .bool T := hs
  have e' : b.eval (.tmp t) = .bool T := ht
  have hT : (T == T) = true := by simp
  go_simp
  exact h
theorem eq2i {w : World} {m : Int} {o : Oper} {b : Act} {K : Act → World → Prop} {Q : Exit → Act → World → Prop} (s t : Nat) (ho : o.op = .binOp .eql 2 (.tmp s) (.tmp t) 2) (hs : b.tmps.getD s undef = .int .i64 m) (ht : b.tmps.getD t undef = .int .i64 m) (h : K (b.put o.dst (.bool true)) w) : o.wp Try.prog b w K Q := by
  obtain ⟨dst, op, type, pos, after, guard⟩ := o
  dsimp only at ho
  subst ho
  unfold Oper.wp
  have e : b.eval (.tmp s) = .int .i64 m := hs
  have e' : b.eval (.tmp t) = .int .i64 m := ht
  have hT : (m == m) = true := by simp
  go_simp
  exact h
theorem Rint.abs {w : World} {m : Bool} {a : Option Addr} {l c : Nat} {z : Int} {n : Nat} (h : Rint w (.agg #[.bool m, .slice a l c]) z n) : Rint w (.agg #[.bool false, .slice a l c]) (z.natAbs : Int) n := by
  obtain ⟨neg, a', cap, ds, hv, hr, hn, hz, hl⟩ := h
  simp at hv
  obtain ⟨rfl, rfl, rfl, rfl⟩ := hv
  refine ⟨false, a, c, ds, rfl, hr, ⟨hn.1, fun h => by cases h⟩, ?_, hl⟩
  rw [← hz]
  exact val_abs (by decide) hr.words
set_option maxRecDepth 20000 in
set_option maxHeartbeats 8000000 in
theorem text_law (hbeg : BegunSaid) (na : Bool) (x : Option Addr) (ca : Nat) (xs : List Int) (s : ByteArray) (bs n : Int) (w : World) (ha : Row w .u32 4294967296 x ca xs) (hs : s.size ≤ maxLen) (hn0 : -9223372036854775808 ≤ n) (hn1 : n ≤ 9223372036854775807) :
    Calls Try.prog 6 #[.agg #[.bool na, .slice x xs.length ca], .string s, .int .i64 bs, .int .i64 n] w fun e w' => e = .returned (.bool true) ∧ Below w.heap.size w w' := by
  obtain ⟨W, hW, hbW, hlt, c0, c1, f0, f1⟩ := box1r w (.bool na) (.slice x xs.length ca) 24
  unfold maxLen at hs
  go_enter Try.func6, Try.ntmps6
  go_wp2_with fail
  rw [← hW]
  clear hW
  refine (hbeg _).mono ?_
  rintro e w1 ⟨rfl, hb1⟩
  have d0 := keep_cell hb1 c0
  have d1 := keep_cell hb1 c1
  have g0 := keep_frozen hb1 c0 f0
  have g1 := keep_frozen hb1 c1 f1
  have hx := (ha.next hbW).next hb1
  have hw1 := bthen hbW hb1
  have l0 : w.heap.size < w1.heap.size := cell_lt d0
  clear c0 c1 f0 f1 hbW hb1
  have kc := Cut_exact na x ca 12 xs w1 hx (by decide)
  replace kc : Hid _ := kc
  go_wp2_with fail
  refine Calls.mono kc.out ?_
  rintro e w2' ⟨rfl, o1, o2, rfl⟩
  clear kc
  have lx : (xs.take 12).length ≤ 12 := by rw [List.length_take]; omega
  have take3 : ∀ w', Below w.heap.size w w' → Row w' .u32 4294967296 x ca (xs.take 12) := fun w' h => (ha.next h).take' 12
  generalize xs.take 12 = xt at *
  have hal : Below w1.heap.size w1 ((w1.alloc o1).alloc o2) := ((Below.refl _ _).alloc (Nat.le_refl _) _).alloc (by simp) _
  have y0 := keep_cell hal d0
  have y1 := keep_cell hal d1
  have z0 := keep_frozen hal d0 g0
  have z1 := keep_frozen hal d1 g1
  have hw2 := bthen hw1 hal
  generalize (w1.alloc o1).alloc o2 = w2 at *
  obtain ⟨Wc, hWc, a0, a1, _, _, hsz, hbl⟩ : ∃ W, W = (w2.setCell ⟨w.heap.size, 0, none⟩ (.bool na)).setCell ⟨w.heap.size, 1, none⟩ (.slice x xt.length ca) ∧ W.cell? ⟨w.heap.size, 0, none⟩ = some (.bool na) ∧ W.cell? ⟨w.heap.size, 1, none⟩ = some (.slice x xt.length ca) ∧ True ∧ True ∧ W.heap.size = w2.heap.size ∧ Below w.heap.size w W :=
    ⟨_, rfl, by simp [go_sem, y0], by simp [go_sem, y1], trivial, trivial, by simp [World.setCell], (hw2.setCell (Nat.le_refl _) _).setCell (Nat.le_refl _) _⟩
  have rx := take3 _ hbl
  have nA : Num Wc (.agg #[.bool na, .slice x xt.length ca]) (num 4294967296 na xt) 12 := ⟨na, x, ca, xt, rfl, rx, rfl, lx⟩
  generalize num 4294967296 na xt = za at *
  have hB := hbl
  clear hbl d0 d1 g0 g1 hx hw1 hal hw2 take3 rx hsz ha lx
  go_upto_if 29 with fail
  rw [← hWc]
  clear hWc y0 y1 z0 z1
  go_cut [1] from 24 (fun sv wc => ∃ s', sv = .string s' ∧ s'.size ≤ 100 ∧ wc = Wc)
  case first =>
    by_cases hlen : (s.size : Int) > 100
    · go_wp2_with fail
      go_meet
      case rel => exact ⟨_, rfl, by first | exact cut_string s | (simp [ByteArray.size_extract]; omega), rfl⟩
    · go_wp2_with fail
      go_meet
      case rel => exact ⟨s, rfl, by omega, rfl⟩
  case rest =>
    obtain ⟨s', rfl, hs', rfl⟩ := hcut
    clear hs
    generalize wc = Wc at *
    obtain ⟨okp, rp, kP, kQ⟩ := parse_pair s' bs hs'
    obtain ⟨ds, hds⟩ := decs_of za
    have hdl := decs_len hds nA
    replace kP : Hid _ := kP
    replace kQ : Hid _ := kQ
    replace hds : Hid _ := hds
    have k1 := From_num nA (by decide)
    replace k1 : Hid _ := k1
    go_wp2_with fail
    refine Calls.mono k1.out ?_
    rintro e w3 ⟨t, rfl, hT, hb3⟩
    obtain ⟨mx, ax, kx, cx, rfl⟩ := hT.rint.form
    clear k1
    obtain ⟨W3, hW3, hbW3, hlW3, x0, x1, bX, fX⟩ := nbox1 w3 mx ax kx cx 30 (by decide)
    have e0 := keep_cell hb3 a0
    have e1 := keep_cell hb3 a1
    have q0 : w.heap.size < w3.heap.size := cell_lt e0
    have hbx := bthen hb3 hbW3
    have a0' := keep_cell hbx a0
    have a1' := keep_cell hbx a1
    have nA' := nA.next hbx
    have hX := hT.rint.next hbW3
    have hsg := hX.sign
    have hB' := bthen hB hbx
    have k2 := Text_num hds.out nA' (by decide)
    replace k2 : Hid _ := k2
    replace hsg : Hid _ := hsg
    clear a0 a1 nA hT hB
    go_wp2_with fail
    rw [← hW3]
    clear hW3 e0 e1 hb3 hbW3 hbx
    obtain ⟨gx, hgx⟩ : ∃ g, w3.heap.size = g := ⟨_, rfl⟩
    rw [hgx] at x0 x1 bX fX hlW3 q0 ⊢
    have hag : w.heap.size ≠ gx := by omega
    have hag2 : w.heap.size ≤ gx := by omega
    clear q0
    refine Calls.mono k2.out ?_
    rintro e w4 ⟨rfl, hb4⟩
    clear k2
    have a0 := keep_cell hb4 a0'
    have a1 := keep_cell hb4 a1'
    have x0' := keep_cell hb4 x0
    have x1' := keep_cell hb4 x1
    have fX' := keep_frozen hb4 x0 fX
    have bX' := bX.next hb4
    have nA := nA'.next hb4
    have hX' := hX.next hb4
    have hB := bthen hB' hb4
    clear a0' a1' x0 x1 bX fX nA' hX hB' hb4 hgx hlW3
    go_upto_if 37 with fail
    go_cut [11] from 24 (fun tv wc => tv = .string (txt false ds) ∧ wc = w4)
    case first =>
      by_cases hneg : za < 0
      · have hm : mx = true := by rw [hsg.out]; simpa using hneg
        subst hm
        have hd : decide (za < 0) = true := by simpa using hneg
        rw [hd]
        have hts := txt_true_pos ds
        have hte := txt_cut ds
        replace hte : Hid _ := hte
        go_wp2_with fail
        go_meet
        case rel => exact ⟨by rw [hte.out], rfl⟩
      · have hm : mx = false := by rw [hsg.out]; simpa using hneg
        subst hm
        have hd : decide (za < 0) = false := by simpa using hneg
        rw [hd]
        go_wp2_with fail
        go_meet
        case rel => exact ⟨rfl, rfl⟩
    case rest =>
      obtain ⟨rfl, rfl⟩ := hcut
      generalize wc = w4 at *
      have k1 := Parse_txt (w := w4) hds.out.1 hds.out.2.1 (by omega)
      rw [hds.out.2.2.1] at k1
      replace k1 : Hid _ := k1
      clear hsg
      go_wp2_with fail
      refine Calls.mono k1.out ?_
      rintro e w5 ⟨t, rfl, hO5, hb5⟩
      clear k1
      obtain ⟨_, hO5⟩ := hO5
      obtain ⟨mb, ab, kb, cb, rfl⟩ := hO5.form
      obtain ⟨W5, hW5, hbW5, hlW5, b0, b1, bB, _⟩ := nbox1 w5 mb ab kb cb 24 (by decide)
      have k2 := kP.out W5
      replace k2 : Hid _ := k2
      go_wp2_with fail
      rw [← hW5]
      clear hW5
      have hb45 := bthen hb5 hbW5
      have oB : OutE W5 (.agg #[.bool mb, .slice ab kb cb]) (za.natAbs : Int) 501 := ⟨_, hO5.next hbW5⟩
      obtain ⟨gb, hgb⟩ : ∃ g, w5.heap.size = g := ⟨_, rfl⟩
      rw [hgb] at b0 b1 bB hlW5 ⊢
      have hx4 : gx < w4.heap.size := cell_lt x0'
      have hxb : gx < gb := by have := hb5.size; omega
      refine Calls.mono k2.out ?_
      rintro e w6 ⟨t, rfl, hO6, hb6⟩
      clear k2 kP
      obtain ⟨_, hO6⟩ := hO6
      obtain ⟨mp, ap, kp, cp, rfl⟩ := hO6.form
      obtain ⟨W6, hW6, hbW6, hlW6, p0, p1, bP, _⟩ := nbox1 w6 mp ap kp cp 24 (by decide)
      have k3 := kQ.out W6
      replace k3 : Hid _ := k3
      go_wp2_with fail
      rw [← hW6]
      clear hW6
      have hb56 := bthen hb6 hbW6
      have hb46 := bthen hb45 hb56
      have oP : OutE W6 (.agg #[.bool mp, .slice ap kp cp]) rp 101 := ⟨_, hO6.next hbW6⟩
      obtain ⟨gp, hgp⟩ : ∃ g, w6.heap.size = g := ⟨_, rfl⟩
      rw [hgp] at p0 p1 bP hlW6 ⊢
      have hxp : gx < gp := by have := hb6.size; omega
      refine Calls.mono k3.out ?_
      rintro e w7 ⟨t, rfl, hQ7, hb7⟩
      clear k3 kQ
      obtain ⟨mq, aq, kq, cq, rfl⟩ := hQ7.form
      obtain ⟨W7, hW7, hbW7, hlW7, q0, q1, bQ, _⟩ := nbox1 w7 mq aq kq cq 30 (by decide)
      have hb67 := bthen hb7 hbW7
      have hb57 := bthen hb56 hb67
      have hb47 := bthen hb46 hb67
      have i0 := keep_cell (bthen hb46 hb7) a0
      have i1 := keep_cell (bthen hb46 hb7) a1
      have i2 : w.heap.size < w7.heap.size := cell_lt i0
      have hA7 := nA.next hb47
      have k4 := Int64_num hA7
      replace k4 : Hid _ := k4
      go_wp2_with fail
      rw [← hW7]
      clear hW7 i0 i1 i2
      have hQ := hQ7.next hbW7
      obtain ⟨gq, hgq⟩ : ∃ g, w7.heap.size = g := ⟨_, rfl⟩
      rw [hgq] at q0 q1 bQ hlW7 ⊢
      have hxq : gx < gq := by have := hb7.size; omega
      refine Calls.mono k4.out ?_
      rintro e w8 ⟨rfl, hb8⟩
      clear k4
      have hb48 := bthen hb47 hb8
      have hb58 := bthen hb57 hb8
      have hb68 := bthen hb67 hb8
      have x0 := keep_cell hb48 x0'
      have x1 := keep_cell hb48 x1'
      have hX8 := hX'.next hb48
      have k5 := rInt64_num hX8 (by decide)
      replace k5 : Hid _ := k5
      go_wp2_with fail
      refine Calls.mono k5.out ?_
      rintro e w9 ⟨rfl, hb9⟩
      clear k5
      have k6 := Of_any n w9 hn0 hn1
      replace k6 : Hid _ := k6
      go_wp2_with fail
      refine Calls.mono k6.out ?_
      rintro e w10 ⟨t, rfl, hO10, hb10⟩
      clear k6
      obtain ⟨mo, ao, ko, co, rfl⟩ := hO10.form
      have k7 := Int64_num hO10.num
      rw [(fits64_yes ⟨hn0, hn1⟩).1, (fits64_yes ⟨hn0, hn1⟩).2] at k7
      replace k7 : Hid _ := k7
      go_wp2_with fail
      refine Calls.mono k7.out ?_
      rintro e w11 ⟨rfl, hb11⟩
      clear k7
      have hb811 := bthen (bthen hb9 hb10) hb11
      have h4 := bthen hb48 hb811
      have h5 := bthen hb58 hb811
      have h6 := bthen hb68 hb811
      have h7 := bthen hb8 hb811
      have fa0 := keep_cell h4 a0
      have fa1 := keep_cell h4 a1
      have fx0 := keep_cell h4 x0'
      have fx1 := keep_cell h4 x1'
      have ffx := keep_frozen h4 x0' fX'
      have fbx := bX'.next h4
      have fb0 := keep_cell h5 b0
      have fb1 := keep_cell h5 b1
      have fp0 := keep_cell h6 p0
      have fp1 := keep_cell h6 p1
      have fq0 := keep_cell h7 q0
      have fq1 := keep_cell h7 q1
      have fnA := nA.next h4
      have fX := hX'.next h4
      have foB := oB.next h5
      have foP := oP.next h6
      have fQ := hQ.next h7
      have hBf := bthen hB h4
      clear a0 a1 x0 x1 x0' x1' fX' bX' b0 b1 p0 p1 q0 q1 nA hX' oB oP hQ hB h4 h5 h6 h7 hb811 hb8 hb9 hb10 hb11 hb48 hb58 hb68 hb47 hb57 hb67 hb46 hb56 hb45 hb5 hb6 hb7 hbW5 hbW6 hbW7 hX8 hO5 hO6 hQ7 hO10 hA7
      obtain ⟨W12, hW12⟩ : ∃ W, W = w11.setCell ⟨gx, 0, none⟩ (.bool false) := ⟨_, rfl⟩
      have hch : Chg gx w11 W12 := by rw [hW12]; exact Chg.set _ _ _ _
      have c0 : W12.cell? ⟨w.heap.size, 0, none⟩ = some (.bool na) := by rw [hW12]; exact keep_set fa0 (Ne.symm hag)
      have c1 : W12.cell? ⟨w.heap.size, 1, none⟩ = some (.slice x xt.length ca) := by rw [hW12]; exact keep_set fa1 (Ne.symm hag)
      have x0 : W12.cell? ⟨gx, 0, none⟩ = some (.bool false) := by rw [hW12]; simp [go_sem, fx0]
      have x1 : W12.cell? ⟨gx, 1, none⟩ = some (.slice ax kx cx) := by rw [hW12]; simp [go_sem, fx1]
      have b0 : W12.cell? ⟨gb, 0, none⟩ = some (.bool mb) := by rw [hW12]; exact keep_set fb0 (by simp; omega)
      have b1 : W12.cell? ⟨gb, 1, none⟩ = some (.slice ab kb cb) := by rw [hW12]; exact keep_set fb1 (by simp; omega)
      have p0 : W12.cell? ⟨gp, 0, none⟩ = some (.bool mp) := by rw [hW12]; exact keep_set fp0 (by simp; omega)
      have p1 : W12.cell? ⟨gp, 1, none⟩ = some (.slice ap kp cp) := by rw [hW12]; exact keep_set fp1 (by simp; omega)
      have q0 : W12.cell? ⟨gq, 0, none⟩ = some (.bool mq) := by rw [hW12]; exact keep_set fq0 (by simp; omega)
      have q1 : W12.cell? ⟨gq, 1, none⟩ = some (.slice aq kq cq) := by rw [hW12]; exact keep_set fq1 (by simp; omega)
      have hA := fnA.chg hch fbx
      have hX := fX.abs.chg hch fbx
      have oB := foB.chg hch fbx
      have oP := foP.chg hch fbx
      have hQ := fQ.chg hch fbx
      have hBg : Below w.heap.size w W12 := hBf.trans (hch.below _ hag2)
      go_wp2
      rw [← hW12]
      clear hW12 hch fa0 fa1 fx0 fx1 ffx fbx fb0 fb1 fp0 fp1 fq0 fq1 fnA fX foB foP fQ hBf
      refine wp_region_typed (textV w.heap.size gx gb gp gq (.agg #[.bool na, .slice x xt.length ca]) (.agg #[.bool false, .slice ax kx cx]) (.agg #[.bool mb, .slice ab kb cb]) (.agg #[.bool mp, .slice ap kp cp]) (.agg #[.bool mq, .slice aq kq cq]) (txt (decide (za < 0)) ds) okp (fits64 za) (pick64 za) n za) [3, 4, 9, 10, 12, 13, 14, 15, 16, 17, 18, 19, 20, 21, 22, 23] 126 (by kernel_rfl) (by kernel_rfl) rfl textV_next ?hstart ?hstep ?hend
      case hstart =>
        intro t ht
        simp only [List.mem_cons, List.not_mem_nil, or_false] at ht
        rcases ht with rfl | rfl | rfl | rfl | rfl | rfl | rfl | rfl | rfl | rfl | rfl | rfl | rfl | rfl | rfl | rfl <;> rfl
      case hstep =>
        refine steps_cons ?s0 (steps_cons ?s1 (steps_cons ?s2 (steps_cons ?s3 (steps_cons ?s4 (steps_cons ?s5 (steps_cons ?s6 (steps_cons ?s7 (steps_cons ?s8 (steps_cons ?s9 (steps_cons ?s10 (steps_cons ?s11 (steps_cons ?s12 (steps_cons ?s13 (steps_cons ?s14 (steps_cons ?s15 (steps_cons ?s16 (steps_cons ?s17 (steps_cons ?s18 (steps_cons ?s19 (steps_cons ?s20 (steps_cons ?s21 (steps_cons ?s22 (steps_cons ?s23 (steps_cons ?s24 (steps_cons ?s25 (steps_cons ?s26 (steps_cons ?s27 (steps_cons ?s28 (steps_cons ?s29 (steps_cons ?s30 (steps_cons ?s31 (steps_cons ?s32 (steps_cons ?s33 (steps_cons ?s34 (steps_cons ?s35 (steps_cons ?s36 (steps_cons ?s37 (steps_cons ?s38 (steps_cons ?s39 (steps_cons ?s40 (steps_cons ?s41 (steps_cons ?s42 (steps_cons ?s43 (steps_cons ?s44 (steps_cons ?s45 (steps_cons ?s46 (steps_cons ?s47 (steps_cons ?s48 (steps_cons ?s49 (steps_cons ?s50 (steps_cons ?s51 (steps_cons ?s52 steps_nil))))))))))))))))))))))))))))))))))))))))))))))))))))
        case s0 => exact step_move 9 74 rfl rfl (guard_none rfl) (by kernel_rfl) (fun v w h => h)
        case s1 => exact step_move 74 75 rfl rfl (guard_none rfl) (by kernel_rfl) (fun v w h => h)
        case s2 => exact StepOk.of (guard_true 1 75 rfl (by kernel_rfl) (by kernel_rfl) (fun v w h => h)) fun b w' _ hW hl K hK => ld24 (keep_cell hW c0) (keep_cell hW c1) 4 rfl (look hl 4 (by kernel_rfl)) (hK _ _ (Below.refl _ _) (dst_eq rfl rfl))
        case s3 => exact step_call1 29 76 77 _ (by kernel_rfl) rfl rfl (guard_true 1 75 rfl (by kernel_rfl) (by kernel_rfl) (fun v w h => h)) (by kernel_rfl) (fun u w' hW hu => by subst hu; exact (Text_num hds.out (hA.next hW) (by decide)).mono fun e w'' h => ⟨_, h.1, rfl, h.2⟩)
        case s4 => exact StepOk.of (guard_true 1 75 rfl (by kernel_rfl) (by kernel_rfl) (fun v w h => h)) fun b w' _ hW hl K hK => ld24 (keep_cell hW c0) (keep_cell hW c1) 4 rfl (look hl 4 (by kernel_rfl)) (hK _ _ (Below.refl _ _) (dst_eq rfl rfl))
        case s5 => exact step_call1 11 78 79 _ (by kernel_rfl) rfl rfl (guard_true 1 75 rfl (by kernel_rfl) (by kernel_rfl) (fun v w h => h)) (by kernel_rfl) (fun u w' hW hu => by subst hu; exact (From_num (hA.next hW) (by decide)).mono fun e w'' h => by obtain ⟨t, h1, h2, h3⟩ := h; exact ⟨t, h1, h2.rint, h3⟩)
        case s6 => exact step_call1 35 79 80 _ (by kernel_rfl) rfl rfl (guard_true 1 75 rfl (by kernel_rfl) (by kernel_rfl) (fun v w h => h)) (by kernel_rfl) (fun u w' hW hu => (rText_num hds.out hu (by decide)).mono fun e w'' h => ⟨_, h.1, rfl, h.2⟩)
        case s7 => exact StepOk.of (guard_true 1 75 rfl (by kernel_rfl) (by kernel_rfl) (fun v w h => h)) fun b w' _ hW hl K hK => eq9s 77 80 rfl (look hl 77 (by kernel_rfl)) (look hl 80 (by kernel_rfl)) (hK _ _ (Below.refl _ _) (dst_eq rfl rfl))
        case s8 => exact step_pick 75 81 82 _ rfl rfl (guard_none rfl) (by kernel_rfl) (by kernel_rfl) (fun v w h => h) (fun v w h => h)
        case s9 => exact step_move 82 83 rfl rfl (guard_none rfl) (by kernel_rfl) (fun v w h => h)
        case s10 => exact step_move 13 84 rfl rfl (guard_true 9 83 rfl (by kernel_rfl) (by kernel_rfl) (fun v w h => h)) (by kernel_rfl) (fun v w h => h)
        case s11 => exact step_pick 83 84 85 _ rfl rfl (guard_none rfl) (by kernel_rfl) (by kernel_rfl) (fun v w h => h) (fun v w h => h)
        case s12 => exact step_move 85 86 rfl rfl (guard_none rfl) (by kernel_rfl) (fun v w h => h)
        case s13 => exact StepOk.of (guard_true 12 86 rfl (by kernel_rfl) (by kernel_rfl) (fun v w h => h)) fun b w' _ hW hl K hK => ld24 (keep_cell hW b0) (keep_cell hW b1) 12 rfl (look hl 12 (by kernel_rfl)) (hK _ _ (Below.refl _ _) (dst_eq rfl rfl))
        case s14 => exact StepOk.of (guard_true 12 86 rfl (by kernel_rfl) (by kernel_rfl) (fun v w h => h)) fun b w' _ hW hl K hK => ld30 (keep_cell hW x0) (keep_cell hW x1) 10 rfl (look hl 10 (by kernel_rfl)) (hK _ _ (Below.refl _ _) (dst_eq rfl rfl))
        case s15 => exact step_call2 12 87 88 89 _ (by kernel_rfl) rfl rfl (guard_true 12 86 rfl (by kernel_rfl) (by kernel_rfl) (fun v w h => h)) (by kernel_rfl) (by kernel_rfl) (fun u v w' hW hu hv => by subst hu; subst hv; exact (Is_num (oB.next hW) (hX.next hW) (by decide) (by decide)).mono fun e w'' h => ⟨_, h.1, by rw [decide_eq_true rfl]; rfl, h.2⟩)
        case s16 => exact step_pick 86 89 90 _ rfl rfl (guard_none rfl) (by kernel_rfl) (by kernel_rfl) (fun v w h => h) (fun v w h => h)
        case s17 => exact step_move 90 91 rfl rfl (guard_none rfl) (by kernel_rfl) (fun v w h => h)
        case s18 => exact step_move 15 92 rfl rfl (guard_true 17 91 rfl (by kernel_rfl) (by kernel_rfl) (fun v w h => h)) (by kernel_rfl) (fun v w h => h)
        case s19 => exact step_move 17 93 rfl rfl (guard_true 17 91 rfl (by kernel_rfl) (by kernel_rfl) (fun v w h => h)) (by kernel_rfl) (fun v w h => h)
        case s20 => exact StepOk.of (guard_true 17 91 rfl (by kernel_rfl) (by kernel_rfl) (fun v w h => h)) fun b w' _ hW hl K hK => eq4b 92 93 rfl (look hl 92 (by kernel_rfl)) (look hl 93 (by kernel_rfl)) (hK _ _ (Below.refl _ _) (dst_eq rfl rfl))
        case s21 => exact step_pick 91 94 95 _ rfl rfl (guard_none rfl) (by kernel_rfl) (by kernel_rfl) (fun v w h => h) (fun v w h => h)
        case s22 => exact step_move 95 96 rfl rfl (guard_none rfl) (by kernel_rfl) (fun v w h => h)
        case s23 => exact StepOk.of (guard_true 22 96 rfl (by kernel_rfl) (by kernel_rfl) (fun v w h => h)) fun b w' _ hW hl K hK => ld24 (keep_cell hW p0) (keep_cell hW p1) 14 rfl (look hl 14 (by kernel_rfl)) (hK _ _ (Below.refl _ _) (dst_eq rfl rfl))
        case s24 => exact StepOk.of (guard_true 22 96 rfl (by kernel_rfl) (by kernel_rfl) (fun v w h => h)) fun b w' _ hW hl K hK => ld30 (keep_cell hW q0) (keep_cell hW q1) 16 rfl (look hl 16 (by kernel_rfl)) (hK _ _ (Below.refl _ _) (dst_eq rfl rfl))
        case s25 => exact step_call2 12 97 98 99 _ (by kernel_rfl) rfl rfl (guard_true 22 96 rfl (by kernel_rfl) (by kernel_rfl) (fun v w h => h)) (by kernel_rfl) (by kernel_rfl) (fun u v w' hW hu hv => by subst hu; subst hv; exact (Is_num (oP.next hW) (hQ.next hW) (by decide) (by decide)).mono fun e w'' h => ⟨_, h.1, by rw [decide_eq_true rfl]; rfl, h.2⟩)
        case s26 => exact step_pick 96 99 100 _ rfl rfl (guard_none rfl) (by kernel_rfl) (by kernel_rfl) (fun v w h => h) (fun v w h => h)
        case s27 => exact step_move 100 101 rfl rfl (guard_none rfl) (by kernel_rfl) (fun v w h => h)
        case s28 => exact step_move 18 102 rfl rfl (guard_true 27 101 rfl (by kernel_rfl) (by kernel_rfl) (fun v w h => h)) (by kernel_rfl) (fun v w h => h)
        case s29 => exact step_move 20 103 rfl rfl (guard_true 27 101 rfl (by kernel_rfl) (by kernel_rfl) (fun v w h => h)) (by kernel_rfl) (fun v w h => h)
        case s30 => exact StepOk.of (guard_true 27 101 rfl (by kernel_rfl) (by kernel_rfl) (fun v w h => h)) fun b w' _ hW hl K hK => eq2i 102 103 rfl (look hl 102 (by kernel_rfl)) (look hl 103 (by kernel_rfl)) (hK _ _ (Below.refl _ _) (dst_eq rfl rfl))
        case s31 => exact step_pick 101 104 105 _ rfl rfl (guard_none rfl) (by kernel_rfl) (by kernel_rfl) (fun v w h => h) (fun v w h => h)
        case s32 => exact step_move 105 106 rfl rfl (guard_none rfl) (by kernel_rfl) (fun v w h => h)
        case s33 => exact step_move 19 107 rfl rfl (guard_true 32 106 rfl (by kernel_rfl) (by kernel_rfl) (fun v w h => h)) (by kernel_rfl) (fun v w h => h)
        case s34 => exact step_move 21 108 rfl rfl (guard_true 32 106 rfl (by kernel_rfl) (by kernel_rfl) (fun v w h => h)) (by kernel_rfl) (fun v w h => h)
        case s35 => exact StepOk.of (guard_true 32 106 rfl (by kernel_rfl) (by kernel_rfl) (fun v w h => h)) fun b w' _ hW hl K hK => eq4b 107 108 rfl (look hl 107 (by kernel_rfl)) (look hl 108 (by kernel_rfl)) (hK _ _ (Below.refl _ _) (dst_eq rfl rfl))
        case s36 => exact step_pick 106 109 110 _ rfl rfl (guard_none rfl) (by kernel_rfl) (by kernel_rfl) (fun v w h => h) (fun v w h => h)
        case s37 => exact step_move 110 111 rfl rfl (guard_none rfl) (by kernel_rfl) (fun v w h => h)
        case s38 => exact step_move 23 112 rfl rfl (guard_true 37 111 rfl (by kernel_rfl) (by kernel_rfl) (fun v w h => h)) (by kernel_rfl) (fun v w h => h)
        case s39 => exact step_pick 111 112 113 _ rfl rfl (guard_none rfl) (by kernel_rfl) (by kernel_rfl) (fun v w h => h) (fun v w h => h)
        case s40 => exact step_move 113 114 rfl rfl (guard_none rfl) (by kernel_rfl) (fun v w h => h)
        case s41 => exact step_move 22 115 rfl rfl (guard_true 40 114 rfl (by kernel_rfl) (by kernel_rfl) (fun v w h => h)) (by kernel_rfl) (fun v w h => h)
        case s42 => exact step_move 3 116 rfl rfl (guard_true 40 114 rfl (by kernel_rfl) (by kernel_rfl) (fun v w h => h)) (by kernel_rfl) (fun v w h => h)
        case s43 => exact StepOk.of (guard_true 40 114 rfl (by kernel_rfl) (by kernel_rfl) (fun v w h => h)) fun b w' _ hW hl K hK => eq2i 115 116 rfl (look hl 115 (by kernel_rfl)) (look hl 116 (by kernel_rfl)) (hK _ _ (Below.refl _ _) (dst_eq rfl rfl))
        case s44 => exact step_pick 114 117 118 _ rfl rfl (guard_none rfl) (by kernel_rfl) (by kernel_rfl) (fun v w h => h) (fun v w h => h)
        case s45 => exact step_move 118 119 rfl rfl (guard_none rfl) (by kernel_rfl) (fun v w h => h)
        case s46 => exact step_move 3 120 rfl rfl (guard_true 45 119 rfl (by kernel_rfl) (by kernel_rfl) (fun v w h => h)) (by kernel_rfl) (fun v w h => h)
        case s47 => exact step_call1 34 120 121 _ (by kernel_rfl) rfl rfl (guard_true 45 119 rfl (by kernel_rfl) (by kernel_rfl) (fun v w h => h)) (by kernel_rfl) (fun u w' hW hu => by subst hu; exact (Of_any n w' hn0 hn1).mono fun e w'' h => by obtain ⟨t, h1, h2, h3⟩ := h; exact ⟨t, h1, ⟨_, h2⟩, h3⟩)
        case s48 => exact step_move 3 122 rfl rfl (guard_true 45 119 rfl (by kernel_rfl) (by kernel_rfl) (fun v w h => h)) (by kernel_rfl) (fun v w h => h)
        case s49 => exact step_call1 36 122 123 _ (by kernel_rfl) rfl rfl (guard_true 45 119 rfl (by kernel_rfl) (by kernel_rfl) (fun v w h => h)) (by kernel_rfl) (fun u w' hW hu => by subst hu; exact (rOf_any n w' hn0 hn1).mono fun e w'' h => by obtain ⟨t, h1, h2, h3⟩ := h; exact ⟨t, h1, h2.rint, h3⟩)
        case s50 => exact step_call2 12 121 123 124 _ (by kernel_rfl) rfl rfl (guard_true 45 119 rfl (by kernel_rfl) (by kernel_rfl) (fun v w h => h)) (by kernel_rfl) (by kernel_rfl) (fun u v w' hW hu hv => (Is_num hu hv (by decide) (by decide)).mono fun e w'' h => ⟨_, h.1, by rw [decide_eq_true rfl]; rfl, h.2⟩)
        case s51 => exact step_pick 119 124 125 _ rfl rfl (guard_none rfl) (by kernel_rfl) (by kernel_rfl) (fun v w h => h) (fun v w h => h)
        case s52 => exact step_assign 125 8 rfl rfl (guard_none rfl) (by kernel_rfl) (fun v w h => h)
      case hend =>
        intro b w' hs hd hW hv
        have h8 : b.tmps.getD 8 undef = .bool true := hv 8 (.inr ⟨52, _, rfl, rfl⟩)
        rw [Array.getD_eq_getD_getElem?] at h8
        go_wp2
        exact bodyPost_ret (v := .bool true) (by simp [results, Try.results6, go_sem, h8]) hd ⟨rfl, bthen hBg hW⟩
end Go.Proofs.Ytdcjgepgiaaaoaa
