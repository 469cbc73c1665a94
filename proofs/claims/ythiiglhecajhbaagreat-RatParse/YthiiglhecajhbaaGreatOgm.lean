/- the second road: Number, what is none. -/
import Derived.Test.YthiiglhecajhbaaGreatOcm
import Derived.Test.YthiiglhecajhbaaGreatOem
import Derived.Lib.BufferRead
import Derived.Lib.ConvBytes
import Derived.Lib.AtoiErrMem
import Derived.Laws.OwnMore
namespace Go.Proofs.YthiiglhecajhbaaGreat
namespace Nn
open Go.RowKit
attribute [local go_sem ↓] Go.wp_at_zero Go.wp_at_succ
theorem Rint.zero (w : World) (m : Nat) : Rint w (.agg #[.bool false, .slice none 0 0]) 0 m := ⟨false, none, 0, [], rfl, Row.empty _ _ _, ⟨trivial, fun h => by cases h⟩, by simp [num, val], by simp⟩
theorem Boxed.ratR {base : Nat} {w w' : World} (h : Boxed base w w') {v : Value} {p q : Int} {m : Nat} (hb : RatR w v p q m) : RatR w' v p q m := by
  obtain ⟨n1, a1, l1, c1, n2, a2, l2, c2, hv, h1, h2⟩ := hb
  exact ⟨n1, a1, l1, c1, n2, a2, l2, c2, hv, h.rint h1, h.rint h2⟩
theorem ratR_form {w : World} {v : Value} {p q : Int} {m : Nat} (h : RatR w v p q m) : ∃ n1 a1 l1 c1 n2 a2 l2 c2, v = .agg #[.bool n1, .slice a1 l1 c1, .bool n2, .slice a2 l2 c2] := by
  obtain ⟨n1, a1, l1, c1, n2, a2, l2, c2, hv, _⟩ := h
  exact ⟨n1, a1, l1, c1, n2, a2, l2, c2, hv⟩
theorem ratR_more {w : World} {v : Value} {p q : Int} {m k : Nat} (h : RatR w v p q m) (hk : m ≤ k) : RatR w v p q k := by
  obtain ⟨n1, a1, l1, c1, n2, a2, l2, c2, hv, h1, h2⟩ := h
  exact ⟨n1, a1, l1, c1, n2, a2, l2, c2, hv, h1.mono hk, h2.mono hk⟩
theorem toList_len (s : ByteArray) : s.toList.length = s.size := by rw [ByteArray.toList_eq]; simp
theorem byteAt_lt (s : ByteArray) {k : Nat} (h : k < s.size) : byteAt s.toList k = ((s[k]'h).toNat : Int) := by
  have hl : k < s.toList.length := by rw [toList_len]; exact h
  have h' : k < s.data.toList.length := by simpa using h
  rw [byteAt_get _ _ hl]
  congr 2
  rw [ByteArray.toList_eq]
  simp [List.getD, List.getElem?_eq_getElem h']
  rfl
theorem getD_byte (s : ByteArray) {k : Nat} (h : k < s.size) : (s.toList.getD k 0).toNat = (s[k]'h).toNat := by
  have h1 := byteAt_lt s h
  rw [byteAt_get _ _ (by rw [toList_len]; exact h)] at h1
  exact Int.ofNat.inj h1
/-- The zero answer lies in its box. -/
def ZeroAt (b : Nat) (w : World) : Prop := ∃ n1 a1 l1 c1 n2 a2 l2 c2, w.cell? ⟨b, 0, none⟩ = some (.bool n1) ∧ w.cell? ⟨b, 1, none⟩ = some (.slice a1 l1 c1) ∧ w.cell? ⟨b, 2, none⟩ = some (.bool n2) ∧ w.cell? ⟨b, 3, none⟩ = some (.slice a2 l2 c2) ∧ RatR w (.agg #[.bool n1, .slice a1 l1 c1, .bool n2, .slice a2 l2 c2]) 0 1 2
theorem zero_next {b : Nat} {w w' : World} (h : ZeroAt b w) (hb : Below w.heap.size w w') : ZeroAt b w' := by
  obtain ⟨n1, a1, l1, c1, n2, a2, l2, c2, h0, h1, h2, h3, h4⟩ := h
  exact ⟨n1, a1, l1, c1, n2, a2, l2, c2, keep_cell hb h0, keep_cell hb h1, keep_cell hb h2, keep_cell hb h3, h4.next hb⟩
set_option maxRecDepth 20000 in
set_option maxHeartbeats 4000000 in
theorem Number_no (s : ByteArray) (w : World) (hs : s.size ≤ 60) (hno : ¬ acc2 s.toList) : Calls Tryz.prog 34 #[.string s] w fun e w' => ∃ t, e = .returned (.tuple #[t, .bool false]) ∧ RatR w' t 0 1 2 ∧ Below w.heap.size w w' := by
  by_cases h0 : s.size = 0
  · have he : s.toList = [] := List.length_eq_zero_iff.1 (by rw [toList_len]; exact h0)
    have d0 : (s.toList == []) = true := by rw [he]; rfl
    have d0' : s.toList.isEmpty = true := by rw [he]; rfl
    clear hno he
    have x0 := Box4.new w false none 0 0 false none 0 0 34 (by decide)
    have hbW : Below w.heap.size w (w.alloc (.cells #[.bool false, .slice none 0 0, .bool false, .slice none 0 0] 34)) := (Below.refl _ _).alloc (Nat.le_refl _) _
    obtain ⟨W, hW⟩ : ∃ W, W = w.alloc (.cells #[.bool false, .slice none 0 0, .bool false, .slice none 0 0] 34) := ⟨_, rfl⟩
    have hlt : w.heap.size < W.heap.size := by rw [hW]; simp
    rw [← hW] at x0 hbW
    have kZ : Hid _ := rWhole_num (Rint.zero W 1)
    go_enter Tryz.func34, Tryz.ntmps34
    go_upto_region 1 with fail
    rw [← hW]
    clear hW
    go_wp2_with fail
    refine Calls.mono kZ.out ?_
    rintro e w1 ⟨tz, rfl, hZ, b1⟩
    clear kZ
    obtain ⟨zn1, za1, zl1, zc1, zn2, za2, zl2, zc2, rfl⟩ := ratR_form hZ
    obtain ⟨W1, hW1⟩ : ∃ W1, W1 = w1.alloc (.cells #[.bool zn1, .slice za1 zl1 zc1, .bool zn2, .slice za2 zl2 zc2] 34) := ⟨_, rfl⟩
    have bW1 : Below w1.heap.size w1 W1 := by rw [hW1]; exact (Below.refl _ _).alloc (Nat.le_refl _) _
    have hz1 : ZeroAt w1.heap.size W1 := ⟨zn1, za1, zl1, zc1, zn2, za2, zl2, zc2, by rw [hW1]; simp [go_sem], by rw [hW1]; simp [go_sem], by rw [hW1]; simp [go_sem], by rw [hW1]; simp [go_sem], hZ.next bW1⟩
    have hB1 := bthen b1 bW1
    have hlt1 : w.heap.size < w1.heap.size := by have := b1.size; omega
    go_upto_region 2 with fail
    rw [← hW1]
    clear hW1 hZ
    obtain ⟨b4, hb4⟩ : ∃ b4, b4 = w1.heap.size := ⟨_, rfl⟩
    rw [← hb4] at hz1 ⊢
    have hb4n : w.heap.size ≠ b4 := by omega
    clear hb4 hlt1 bW1 b1
    obtain ⟨m1, d1, e1, g1, m2, d2, e2, g2, i0, i1, i2, i3, hZr⟩ := hz1
    have bb := hB1
    have y0 := x0.next bb
    obtain ⟨_, _, _, _, _, _, _, _, j0, j1, j2, j3, f⟩ := y0.cells
    have f0 := f 0
    have f1 := f 1
    have f2 := f 2
    have f3 := f 3
    clear f
    have hbx : Hid _ := put4_boxed (base := w.heap.size) y0.noint (by omega) m1 d1 e1 g1 m2 d2 e2 g2
    have hBf := bthen hbW bb
    have hLf : Hid _ := Boxed.ratR hbx.out hZr
    clear hZr
    go_wp2
    exact bodyPost_ret (v := .tuple #[.agg #[.bool m1, .slice d1 e1 g1, .bool m2, .slice d2 e2 g2], .bool false]) (by simp [results, Tryz.results34, go_sem, j0, j1, j2, j3]) rfl ⟨_, rfl, hLf.out, hbx.out.keep hBf (Nat.le_refl _) hBf.size⟩
  have p0 : 0 < s.size := by omega
  have hpl : 0 < s.toList.length := by rw [toList_len]; exact p0
  have he : s.toList ≠ [] := fun h => by rw [h] at hpl; exact absurd hpl (by decide)
  have d0 : (s.toList == []) = false := by simpa using he
  have d0' : s.toList.isEmpty = false := by simpa using he
  have hC0 : byteAt s.toList 0 = ((s[0]'p0).toNat : Int) := byteAt_lt s p0
  have kd0 : Hid _ := fun w => digit_any (s[0]'p0).toNat w
  by_cases hdg : isDigitB ((s[0]'p0).toNat : Int) = true
  · have hn : (numberM s.toList).2 ≠ s.size := fun h => hno ⟨he, .inl (by rw [hC0]; exact hdg), by rw [toList_len]; exact h⟩
    rw [hdg] at kd0
    have e46 : (((s[0]'p0).toNat : Int) == 46) = false := by
      unfold isDigitB at hdg
      have := of_decide_eq_true hdg
      rw [beq_eq_false_iff_ne]; omega
    clear hno he hdg hC0 h0
    have x0 := Box4.new w false none 0 0 false none 0 0 34 (by decide)
    have hbW : Below w.heap.size w (w.alloc (.cells #[.bool false, .slice none 0 0, .bool false, .slice none 0 0] 34)) := (Below.refl _ _).alloc (Nat.le_refl _) _
    obtain ⟨W, hW⟩ : ∃ W, W = w.alloc (.cells #[.bool false, .slice none 0 0, .bool false, .slice none 0 0] 34) := ⟨_, rfl⟩
    have hlt : w.heap.size < W.heap.size := by rw [hW]; simp
    rw [← hW] at x0 hbW
    have kZ : Hid _ := rWhole_num (Rint.zero W 1)
    go_enter Tryz.func34, Tryz.ntmps34
    go_upto_region 1 with fail
    rw [← hW]
    clear hW
    go_wp2_with fail
    refine Calls.mono kZ.out ?_
    rintro e w1 ⟨tz, rfl, hZ, b1⟩
    clear kZ
    obtain ⟨zn1, za1, zl1, zc1, zn2, za2, zl2, zc2, rfl⟩ := ratR_form hZ
    obtain ⟨W1, hW1⟩ : ∃ W1, W1 = w1.alloc (.cells #[.bool zn1, .slice za1 zl1 zc1, .bool zn2, .slice za2 zl2 zc2] 34) := ⟨_, rfl⟩
    have bW1 : Below w1.heap.size w1 W1 := by rw [hW1]; exact (Below.refl _ _).alloc (Nat.le_refl _) _
    have hz1 : ZeroAt w1.heap.size W1 := ⟨zn1, za1, zl1, zc1, zn2, za2, zl2, zc2, by rw [hW1]; simp [go_sem], by rw [hW1]; simp [go_sem], by rw [hW1]; simp [go_sem], by rw [hW1]; simp [go_sem], hZ.next bW1⟩
    have hB1 := bthen b1 bW1
    have hlt1 : w.heap.size < w1.heap.size := by have := b1.size; omega
    go_upto_region 2 with fail
    rw [← hW1]
    clear hW1 hZ
    obtain ⟨b4, hb4⟩ : ∃ b4, b4 = w1.heap.size := ⟨_, rfl⟩
    rw [← hb4] at hz1 ⊢
    have hb4n : w.heap.size ≠ b4 := by omega
    clear hb4 hlt1 bW1 b1
    have hcv := Lib.run_convert_string_bytes (P := Tryz.prog) W1 9 99 5 s (u := .string) Tryz.underlying9 Tryz.underlying99 Tryz.underlying5
    have hbw := Lib.bytesWorld_below W1 5 s
    have hBy0 : BytesAt (Lib.bytesWorld W1 5 s) ⟨W1.heap.size, 0, none⟩ s.toList := by
      intro j hj
      rw [toList_len] at hj
      have := Lib.bytesWorld_cell W1 5 s j hj
      rw [ByteArray.toList_eq]
      rw [show (⟨W1.heap.size, 0, none⟩ : Addr).add j = ⟨W1.heap.size, j, none⟩ by unfold Addr.add; split <;> simp_all]
      exact this
    generalize Lib.bytesWorld W1 5 s = W2 at *
    generalize grownCap W1 s.size 0 5 = cap at *
    generalize (⟨W1.heap.size, 0, none⟩ : Addr) = ad at *
    have hBy : Hid _ := hBy0
    clear hBy0
    go_wp2_with fail
    refine Calls.mono (kd0.out _) ?_
    rintro e w2 ⟨rfl, hw2⟩
    rw [hw2]
    clear hw2 w2
    clear kd0
    have kn : Hid _ := number_any W2 ad cap 0 s.toList hBy.out hpl (by rw [toList_len]; omega)
    rw [toList_len, List.drop_zero] at kn
    clear hBy
    go_wp2_with fail
    refine Calls.mono kn.out ?_
    rintro e w2 ⟨KK, rfl, hKK, hw2⟩
    rw [hw2]
    clear hw2 w2 kn
    obtain ⟨NN, hNN⟩ : ∃ NN, NN = (numberM s.toList).2 := ⟨_, rfl⟩
    rw [← hNN] at hn hKK ⊢
    have dn : ((NN : Int) != (s.size : Int)) = true := by simp; omega
    clear hKK hNN hn
    obtain ⟨m1, d1, e1, g1, m2, d2, e2, g2, i0, i1, i2, i3, hZr⟩ := zero_next hz1 hbw
    have bb := bthen hB1 hbw
    have y0 := x0.next bb
    obtain ⟨_, _, _, _, _, _, _, _, j0, j1, j2, j3, f⟩ := y0.cells
    have f0 := f 0
    have f1 := f 1
    have f2 := f 2
    have f3 := f 3
    clear f
    have hbx : Hid _ := put4_boxed (base := w.heap.size) y0.noint (by omega) m1 d1 e1 g1 m2 d2 e2 g2
    have hBf := bthen hbW bb
    have hLf : Hid _ := Boxed.ratR hbx.out hZr
    clear hZr
    go_wp2
    exact bodyPost_ret (v := .tuple #[.agg #[.bool m1, .slice d1 e1 g1, .bool m2, .slice d2 e2 g2], .bool false]) (by simp [results, Tryz.results34, go_sem, j0, j1, j2, j3]) rfl ⟨_, rfl, hLf.out, hbx.out.keep hBf (Nat.le_refl _) hBf.size⟩
  · have hdg' : isDigitB ((s[0]'p0).toNat : Int) = false := by simpa using hdg
    rw [hdg'] at kd0
    by_cases h46 : (s[0]'p0).toNat = 46
    · have e46 : (((s[0]'p0).toNat : Int) == 46) = true := by rw [h46]; rfl
      have e46' : (((s[0]'p0).toNat : Int) != 46) = false := by rw [h46]; rfl
      by_cases hd1 : isDigitB ((s.toList.getD 1 0).toNat : Int) = true
      · have hd1' : isDigitB (byteAt s.toList 1) = true := by
          rcases atv s.toList 1 with h | h
          · rw [← h]; exact hd1
          · rw [h.2] at hd1; exact absurd hd1 (by decide)
        have hn : (numberM s.toList).2 ≠ s.size := fun h => hno ⟨he, .inr ⟨by rw [hC0, h46]; rfl, hd1'⟩, by rw [toList_len]; exact h⟩
        have kd1 : Hid _ := fun w => digit_any (s.toList.getD 1 0).toNat w
        rw [hd1] at kd1
        clear hno he hdg hC0 h0 h46 hdg' hd1 hd1'
        have x0 := Box4.new w false none 0 0 false none 0 0 34 (by decide)
        have hbW : Below w.heap.size w (w.alloc (.cells #[.bool false, .slice none 0 0, .bool false, .slice none 0 0] 34)) := (Below.refl _ _).alloc (Nat.le_refl _) _
        obtain ⟨W, hW⟩ : ∃ W, W = w.alloc (.cells #[.bool false, .slice none 0 0, .bool false, .slice none 0 0] 34) := ⟨_, rfl⟩
        have hlt : w.heap.size < W.heap.size := by rw [hW]; simp
        rw [← hW] at x0 hbW
        have kZ : Hid _ := rWhole_num (Rint.zero W 1)
        go_enter Tryz.func34, Tryz.ntmps34
        go_upto_region 1 with fail
        rw [← hW]
        clear hW
        go_wp2_with fail
        refine Calls.mono kZ.out ?_
        rintro e w1 ⟨tz, rfl, hZ, b1⟩
        clear kZ
        obtain ⟨zn1, za1, zl1, zc1, zn2, za2, zl2, zc2, rfl⟩ := ratR_form hZ
        obtain ⟨W1, hW1⟩ : ∃ W1, W1 = w1.alloc (.cells #[.bool zn1, .slice za1 zl1 zc1, .bool zn2, .slice za2 zl2 zc2] 34) := ⟨_, rfl⟩
        have bW1 : Below w1.heap.size w1 W1 := by rw [hW1]; exact (Below.refl _ _).alloc (Nat.le_refl _) _
        have hz1 : ZeroAt w1.heap.size W1 := ⟨zn1, za1, zl1, zc1, zn2, za2, zl2, zc2, by rw [hW1]; simp [go_sem], by rw [hW1]; simp [go_sem], by rw [hW1]; simp [go_sem], by rw [hW1]; simp [go_sem], hZ.next bW1⟩
        have hB1 := bthen b1 bW1
        have hlt1 : w.heap.size < w1.heap.size := by have := b1.size; omega
        go_upto_region 2 with fail
        rw [← hW1]
        clear hW1 hZ
        obtain ⟨b4, hb4⟩ : ∃ b4, b4 = w1.heap.size := ⟨_, rfl⟩
        rw [← hb4] at hz1 ⊢
        have hb4n : w.heap.size ≠ b4 := by omega
        clear hb4 hlt1 bW1 b1
        have hcv := Lib.run_convert_string_bytes (P := Tryz.prog) W1 9 99 5 s (u := .string) Tryz.underlying9 Tryz.underlying99 Tryz.underlying5
        have hbw := Lib.bytesWorld_below W1 5 s
        have hBy0 : BytesAt (Lib.bytesWorld W1 5 s) ⟨W1.heap.size, 0, none⟩ s.toList := by
          intro j hj
          rw [toList_len] at hj
          have := Lib.bytesWorld_cell W1 5 s j hj
          rw [ByteArray.toList_eq]
          rw [show (⟨W1.heap.size, 0, none⟩ : Addr).add j = ⟨W1.heap.size, j, none⟩ by unfold Addr.add; split <;> simp_all]
          exact this
        generalize Lib.bytesWorld W1 5 s = W2 at *
        generalize grownCap W1 s.size 0 5 = cap at *
        generalize (⟨W1.heap.size, 0, none⟩ : Addr) = ad at *
        have hBy : Hid _ := hBy0
        clear hBy0
        go_wp2_with fail
        refine Calls.mono (kd0.out _) ?_
        rintro e w2 ⟨rfl, hw2⟩
        rw [hw2]
        clear hw2 w2
        clear kd0
        have ka : Hid _ := at_any W2 ad cap 1 s.toList hBy.out (by decide) (by rw [toList_len]; omega)
        rw [toList_len] at ka
        go_wp2_with fail
        refine Calls.mono ka.out ?_
        rintro e w2 ⟨rfl, hw2⟩
        rw [hw2]
        clear hw2 w2
        clear ka
        go_wp2_with fail
        refine Calls.mono (kd1.out _) ?_
        rintro e w2 ⟨rfl, hw2⟩
        rw [hw2]
        clear hw2 w2
        clear kd1
        have kn : Hid _ := number_any W2 ad cap 0 s.toList hBy.out hpl (by rw [toList_len]; omega)
        rw [toList_len, List.drop_zero] at kn
        clear hBy
        go_wp2_with fail
        refine Calls.mono kn.out ?_
        rintro e w2 ⟨KK, rfl, hKK, hw2⟩
        rw [hw2]
        clear hw2 w2 kn
        obtain ⟨NN, hNN⟩ : ∃ NN, NN = (numberM s.toList).2 := ⟨_, rfl⟩
        rw [← hNN] at hn hKK ⊢
        have dn : ((NN : Int) != (s.size : Int)) = true := by simp; omega
        clear hKK hNN hn
        obtain ⟨m1, d1, e1, g1, m2, d2, e2, g2, i0, i1, i2, i3, hZr⟩ := zero_next hz1 hbw
        have bb := bthen hB1 hbw
        have y0 := x0.next bb
        obtain ⟨_, _, _, _, _, _, _, _, j0, j1, j2, j3, f⟩ := y0.cells
        have f0 := f 0
        have f1 := f 1
        have f2 := f 2
        have f3 := f 3
        clear f
        have hbx : Hid _ := put4_boxed (base := w.heap.size) y0.noint (by omega) m1 d1 e1 g1 m2 d2 e2 g2
        have hBf := bthen hbW bb
        have hLf : Hid _ := Boxed.ratR hbx.out hZr
        clear hZr
        go_wp2
        exact bodyPost_ret (v := .tuple #[.agg #[.bool m1, .slice d1 e1 g1, .bool m2, .slice d2 e2 g2], .bool false]) (by simp [results, Tryz.results34, go_sem, j0, j1, j2, j3]) rfl ⟨_, rfl, hLf.out, hbx.out.keep hBf (Nat.le_refl _) hBf.size⟩
      · have hd1f : isDigitB ((s.toList.getD 1 0).toNat : Int) = false := by simpa using hd1
        have kd1 : Hid _ := fun w => digit_any (s.toList.getD 1 0).toNat w
        rw [hd1f] at kd1
        clear hno he hdg hC0 h0 h46 hdg' hd1 hd1f
        have x0 := Box4.new w false none 0 0 false none 0 0 34 (by decide)
        have hbW : Below w.heap.size w (w.alloc (.cells #[.bool false, .slice none 0 0, .bool false, .slice none 0 0] 34)) := (Below.refl _ _).alloc (Nat.le_refl _) _
        obtain ⟨W, hW⟩ : ∃ W, W = w.alloc (.cells #[.bool false, .slice none 0 0, .bool false, .slice none 0 0] 34) := ⟨_, rfl⟩
        have hlt : w.heap.size < W.heap.size := by rw [hW]; simp
        rw [← hW] at x0 hbW
        have kZ : Hid _ := rWhole_num (Rint.zero W 1)
        go_enter Tryz.func34, Tryz.ntmps34
        go_upto_region 1 with fail
        rw [← hW]
        clear hW
        go_wp2_with fail
        refine Calls.mono kZ.out ?_
        rintro e w1 ⟨tz, rfl, hZ, b1⟩
        clear kZ
        obtain ⟨zn1, za1, zl1, zc1, zn2, za2, zl2, zc2, rfl⟩ := ratR_form hZ
        obtain ⟨W1, hW1⟩ : ∃ W1, W1 = w1.alloc (.cells #[.bool zn1, .slice za1 zl1 zc1, .bool zn2, .slice za2 zl2 zc2] 34) := ⟨_, rfl⟩
        have bW1 : Below w1.heap.size w1 W1 := by rw [hW1]; exact (Below.refl _ _).alloc (Nat.le_refl _) _
        have hz1 : ZeroAt w1.heap.size W1 := ⟨zn1, za1, zl1, zc1, zn2, za2, zl2, zc2, by rw [hW1]; simp [go_sem], by rw [hW1]; simp [go_sem], by rw [hW1]; simp [go_sem], by rw [hW1]; simp [go_sem], hZ.next bW1⟩
        have hB1 := bthen b1 bW1
        have hlt1 : w.heap.size < w1.heap.size := by have := b1.size; omega
        go_upto_region 2 with fail
        rw [← hW1]
        clear hW1 hZ
        obtain ⟨b4, hb4⟩ : ∃ b4, b4 = w1.heap.size := ⟨_, rfl⟩
        rw [← hb4] at hz1 ⊢
        have hb4n : w.heap.size ≠ b4 := by omega
        clear hb4 hlt1 bW1 b1
        have hcv := Lib.run_convert_string_bytes (P := Tryz.prog) W1 9 99 5 s (u := .string) Tryz.underlying9 Tryz.underlying99 Tryz.underlying5
        have hbw := Lib.bytesWorld_below W1 5 s
        have hBy0 : BytesAt (Lib.bytesWorld W1 5 s) ⟨W1.heap.size, 0, none⟩ s.toList := by
          intro j hj
          rw [toList_len] at hj
          have := Lib.bytesWorld_cell W1 5 s j hj
          rw [ByteArray.toList_eq]
          rw [show (⟨W1.heap.size, 0, none⟩ : Addr).add j = ⟨W1.heap.size, j, none⟩ by unfold Addr.add; split <;> simp_all]
          exact this
        generalize Lib.bytesWorld W1 5 s = W2 at *
        generalize grownCap W1 s.size 0 5 = cap at *
        generalize (⟨W1.heap.size, 0, none⟩ : Addr) = ad at *
        have hBy : Hid _ := hBy0
        clear hBy0
        go_wp2_with fail
        refine Calls.mono (kd0.out _) ?_
        rintro e w2 ⟨rfl, hw2⟩
        rw [hw2]
        clear hw2 w2
        clear kd0
        have ka : Hid _ := at_any W2 ad cap 1 s.toList hBy.out (by decide) (by rw [toList_len]; omega)
        rw [toList_len] at ka
        go_wp2_with fail
        refine Calls.mono ka.out ?_
        rintro e w2 ⟨rfl, hw2⟩
        rw [hw2]
        clear hw2 w2
        clear ka
        go_wp2_with fail
        refine Calls.mono (kd1.out _) ?_
        rintro e w2 ⟨rfl, hw2⟩
        rw [hw2]
        clear hw2 w2
        clear kd1
        obtain ⟨m1, d1, e1, g1, m2, d2, e2, g2, i0, i1, i2, i3, hZr⟩ := zero_next hz1 hbw
        have bb := bthen hB1 hbw
        have y0 := x0.next bb
        obtain ⟨_, _, _, _, _, _, _, _, j0, j1, j2, j3, f⟩ := y0.cells
        have f0 := f 0
        have f1 := f 1
        have f2 := f 2
        have f3 := f 3
        clear f
        have hbx : Hid _ := put4_boxed (base := w.heap.size) y0.noint (by omega) m1 d1 e1 g1 m2 d2 e2 g2
        have hBf := bthen hbW bb
        have hLf : Hid _ := Boxed.ratR hbx.out hZr
        clear hZr
        go_wp2
        exact bodyPost_ret (v := .tuple #[.agg #[.bool m1, .slice d1 e1 g1, .bool m2, .slice d2 e2 g2], .bool false]) (by simp [results, Tryz.results34, go_sem, j0, j1, j2, j3]) rfl ⟨_, rfl, hLf.out, hbx.out.keep hBf (Nat.le_refl _) hBf.size⟩
    · have e46 : (((s[0]'p0).toNat : Int) == 46) = false := by rw [beq_eq_false_iff_ne]; omega
      have e46' : (((s[0]'p0).toNat : Int) != 46) = true := by simp; omega
      clear hno he hdg hC0 h0 h46 hdg'
      have x0 := Box4.new w false none 0 0 false none 0 0 34 (by decide)
      have hbW : Below w.heap.size w (w.alloc (.cells #[.bool false, .slice none 0 0, .bool false, .slice none 0 0] 34)) := (Below.refl _ _).alloc (Nat.le_refl _) _
      obtain ⟨W, hW⟩ : ∃ W, W = w.alloc (.cells #[.bool false, .slice none 0 0, .bool false, .slice none 0 0] 34) := ⟨_, rfl⟩
      have hlt : w.heap.size < W.heap.size := by rw [hW]; simp
      rw [← hW] at x0 hbW
      have kZ : Hid _ := rWhole_num (Rint.zero W 1)
      go_enter Tryz.func34, Tryz.ntmps34
      go_upto_region 1 with fail
      rw [← hW]
      clear hW
      go_wp2_with fail
      refine Calls.mono kZ.out ?_
      rintro e w1 ⟨tz, rfl, hZ, b1⟩
      clear kZ
      obtain ⟨zn1, za1, zl1, zc1, zn2, za2, zl2, zc2, rfl⟩ := ratR_form hZ
      obtain ⟨W1, hW1⟩ : ∃ W1, W1 = w1.alloc (.cells #[.bool zn1, .slice za1 zl1 zc1, .bool zn2, .slice za2 zl2 zc2] 34) := ⟨_, rfl⟩
      have bW1 : Below w1.heap.size w1 W1 := by rw [hW1]; exact (Below.refl _ _).alloc (Nat.le_refl _) _
      have hz1 : ZeroAt w1.heap.size W1 := ⟨zn1, za1, zl1, zc1, zn2, za2, zl2, zc2, by rw [hW1]; simp [go_sem], by rw [hW1]; simp [go_sem], by rw [hW1]; simp [go_sem], by rw [hW1]; simp [go_sem], hZ.next bW1⟩
      have hB1 := bthen b1 bW1
      have hlt1 : w.heap.size < w1.heap.size := by have := b1.size; omega
      go_upto_region 2 with fail
      rw [← hW1]
      clear hW1 hZ
      obtain ⟨b4, hb4⟩ : ∃ b4, b4 = w1.heap.size := ⟨_, rfl⟩
      rw [← hb4] at hz1 ⊢
      have hb4n : w.heap.size ≠ b4 := by omega
      clear hb4 hlt1 bW1 b1
      have hcv := Lib.run_convert_string_bytes (P := Tryz.prog) W1 9 99 5 s (u := .string) Tryz.underlying9 Tryz.underlying99 Tryz.underlying5
      have hbw := Lib.bytesWorld_below W1 5 s
      have hBy0 : BytesAt (Lib.bytesWorld W1 5 s) ⟨W1.heap.size, 0, none⟩ s.toList := by
        intro j hj
        rw [toList_len] at hj
        have := Lib.bytesWorld_cell W1 5 s j hj
        rw [ByteArray.toList_eq]
        rw [show (⟨W1.heap.size, 0, none⟩ : Addr).add j = ⟨W1.heap.size, j, none⟩ by unfold Addr.add; split <;> simp_all]
        exact this
      generalize Lib.bytesWorld W1 5 s = W2 at *
      generalize grownCap W1 s.size 0 5 = cap at *
      generalize (⟨W1.heap.size, 0, none⟩ : Addr) = ad at *
      have hBy : Hid _ := hBy0
      clear hBy0
      go_wp2_with fail
      refine Calls.mono (kd0.out _) ?_
      rintro e w2 ⟨rfl, hw2⟩
      rw [hw2]
      clear hw2 w2
      clear kd0
      obtain ⟨m1, d1, e1, g1, m2, d2, e2, g2, i0, i1, i2, i3, hZr⟩ := hz1
      have bb := hB1
      have y0 := x0.next bb
      obtain ⟨_, _, _, _, _, _, _, _, j0, j1, j2, j3, f⟩ := y0.cells
      have f0 := f 0
      have f1 := f 1
      have f2 := f 2
      have f3 := f 3
      clear f
      have hbx : Hid _ := put4_boxed (base := w.heap.size) y0.noint (by omega) m1 d1 e1 g1 m2 d2 e2 g2
      have hBf := bthen hbW bb
      have hLf : Hid _ := Boxed.ratR hbx.out hZr
      clear hZr
      go_wp2
      exact bodyPost_ret (v := .tuple #[.agg #[.bool m1, .slice d1 e1 g1, .bool m2, .slice d2 e2 g2], .bool false]) (by simp [results, Tryz.results34, go_sem, j0, j1, j2, j3]) rfl ⟨_, rfl, hLf.out, hbx.out.keep hBf (Nat.le_refl _) hBf.size⟩
end Nn
end Go.Proofs.YthiiglhecajhbaaGreat
namespace Go.Proofs.YthiiglhecajhbaaGreat
namespace Nn
open Go.RowKit
attribute [local go_sem ↓] Go.wp_at_zero Go.wp_at_succ
theorem rest_le (s : ByteArray) : (restS s).size ≤ s.size := by
  unfold restS
  split
  · exact Nat.le_refl _
  · rw [ByteArray.size_extract]; omega
set_option maxRecDepth 20000 in
set_option maxHeartbeats 8000000 in
theorem Number_int (s : ByteArray) (w : World) (hs : s.size ≤ 60) (ha : acc2 s.toList) (hK : (numberM s.toList).1 = 2) (B : Int) (R : ByteArray) (hB0 : baseI s = B) (hR0 : restS s = R) (hg : goodT R B) : Calls Tryz.prog 34 #[.string s] w fun e w' => ∃ t, e = .returned (.tuple #[t, .bool true]) ∧ RatR w' t (hor B (digs R)) 1 70 ∧ Below w.heap.size w w' := by
  have hBe : Hid _ := hB0
  have hRe : Hid _ := hR0
  clear hB0 hR0
  have hNs : (numberM s.toList).2 = s.size := by have := ha.2.2; rw [toList_len] at this; exact this
  have hF := ha.2.1
  have he := ha.1
  have p0 : 0 < s.size := by rw [← toList_len]; exact List.length_pos_iff.2 he
  have hpl : 0 < s.toList.length := by rw [toList_len]; exact p0
  have d0 : (s.toList == []) = false := by simpa using he
  have d0' : s.toList.isEmpty = false := by simpa using he
  have hC0 : byteAt s.toList 0 = ((s[0]'p0).toNat : Int) := byteAt_lt s p0
  have kd0 : Hid _ := fun w => digit_any (s[0]'p0).toNat w
  have kd1 : Hid _ := fun w => digit_any (s.toList.getD 1 0).toNat w
  have hdgc : Hid ((isDigitB ((s[0]'p0).toNat : Int) = true ∧ (((s[0]'p0).toNat : Int) == 46) = false) ∨ (isDigitB ((s[0]'p0).toNat : Int) = false ∧ (s[0]'p0).toNat = 46 ∧ isDigitB ((s.toList.getD 1 0).toNat : Int) = true)) := by
    rcases hF with h | ⟨h1, h2⟩
    · left
      rw [hC0] at h
      refine ⟨h, ?_⟩
      unfold isDigitB at h
      have := of_decide_eq_true h
      rw [beq_eq_false_iff_ne]; omega
    · right
      rw [hC0] at h1
      refine ⟨by rw [h1]; rfl, by omega, ?_⟩
      rcases atv s.toList 1 with h | h
      · rw [h]; exact h2
      · rw [h.1] at h2; exact absurd h2 (by decide)
  clear ha hF he hC0
  have x0 := Box4.new w false none 0 0 false none 0 0 34 (by decide)
  have hbW : Below w.heap.size w (w.alloc (.cells #[.bool false, .slice none 0 0, .bool false, .slice none 0 0] 34)) := (Below.refl _ _).alloc (Nat.le_refl _) _
  obtain ⟨W, hW⟩ : ∃ W, W = w.alloc (.cells #[.bool false, .slice none 0 0, .bool false, .slice none 0 0] 34) := ⟨_, rfl⟩
  have hlt : w.heap.size < W.heap.size := by rw [hW]; simp
  rw [← hW] at x0 hbW
  have kZ : Hid _ := rWhole_num (Rint.zero W 1)
  go_enter Tryz.func34, Tryz.ntmps34
  go_upto_region 1 with fail
  rw [← hW]
  clear hW
  go_wp2_with fail
  refine Calls.mono kZ.out ?_
  rintro e w1 ⟨tz, rfl, hZ, b1⟩
  clear kZ
  obtain ⟨zn1, za1, zl1, zc1, zn2, za2, zl2, zc2, rfl⟩ := ratR_form hZ
  obtain ⟨W1, hW1⟩ : ∃ W1, W1 = w1.alloc (.cells #[.bool zn1, .slice za1 zl1 zc1, .bool zn2, .slice za2 zl2 zc2] 34) := ⟨_, rfl⟩
  have bW1 : Below w1.heap.size w1 W1 := by rw [hW1]; exact (Below.refl _ _).alloc (Nat.le_refl _) _
  have hz1 : ZeroAt w1.heap.size W1 := ⟨zn1, za1, zl1, zc1, zn2, za2, zl2, zc2, by rw [hW1]; simp [go_sem], by rw [hW1]; simp [go_sem], by rw [hW1]; simp [go_sem], by rw [hW1]; simp [go_sem], hZ.next bW1⟩
  have hB1 := bthen b1 bW1
  have hlt1 : w.heap.size < w1.heap.size := by have := b1.size; omega
  go_upto_region 2 with fail
  rw [← hW1]
  clear hW1 hZ
  obtain ⟨b4, hb4⟩ : ∃ b4, b4 = w1.heap.size := ⟨_, rfl⟩
  rw [← hb4] at hz1 ⊢
  have hb4n : w.heap.size ≠ b4 := by omega
  clear hb4 hlt1 bW1 b1
  have hcv := Lib.run_convert_string_bytes (P := Tryz.prog) W1 9 99 5 s (u := .string) Tryz.underlying9 Tryz.underlying99 Tryz.underlying5
  have hbw := Lib.bytesWorld_below W1 5 s
  have hBy0 : BytesAt (Lib.bytesWorld W1 5 s) ⟨W1.heap.size, 0, none⟩ s.toList := by
    intro j hj
    rw [toList_len] at hj
    have := Lib.bytesWorld_cell W1 5 s j hj
    rw [ByteArray.toList_eq]
    rw [show (⟨W1.heap.size, 0, none⟩ : Addr).add j = ⟨W1.heap.size, j, none⟩ by unfold Addr.add; split <;> simp_all]
    exact this
  generalize Lib.bytesWorld W1 5 s = W2 at *
  generalize grownCap W1 s.size 0 5 = cap at *
  generalize (⟨W1.heap.size, 0, none⟩ : Addr) = ad at *
  have hBy : Hid _ := hBy0
  clear hBy0
  go_cut [34] from 22 (fun t wc => t = .bool false ∧ wc = W1)
  case first =>
    rcases hdgc.out with ⟨hd, e46⟩ | ⟨hd, h46, hd1⟩
    · rw [hd] at kd0
      clear hdgc hd
      go_wp2_with fail
      refine Calls.mono (kd0.out _) ?_
      rintro e w2 ⟨rfl, hw2⟩
      rw [hw2]
      clear hw2 w2
      go_wp2_with fail
      go_meet
      case rel => exact ⟨rfl, rfl⟩
    · rw [hd] at kd0
      have e46 : (((s[0]'p0).toNat : Int) == 46) = true := by rw [h46]; rfl
      have e46' : (((s[0]'p0).toNat : Int) != 46) = false := by rw [h46]; rfl
      clear hdgc hd h46 hd1
      go_wp2_with fail
      refine Calls.mono (kd0.out _) ?_
      rintro e w2 ⟨rfl, hw2⟩
      rw [hw2]
      clear hw2 w2
      go_wp2_with fail
      go_meet
      case rel => exact ⟨rfl, rfl⟩
  case rest =>
    obtain ⟨rfl, hwc⟩ := hcut
    rw [hwc]
    clear hwc wc kd0
    go_upto_region 5 with fail
    go_cut [46] from 38 (fun t wc => t = .bool false ∧ wc = W2)
    case first =>
      rcases hdgc.out with ⟨hd, e46⟩ | ⟨hd, h46, hd1⟩
      · clear hdgc hd
        go_wp2_with fail
        go_meet
        case rel => exact ⟨rfl, rfl⟩
      · rw [hd1] at kd1
        have e46 : (((s[0]'p0).toNat : Int) == 46) = true := by rw [h46]; rfl
        have e46' : (((s[0]'p0).toNat : Int) != 46) = false := by rw [h46]; rfl
        have ka : Hid _ := at_any W2 ad cap 1 s.toList hBy.out (by decide) (by rw [toList_len]; omega)
        rw [toList_len] at ka
        clear hdgc hd h46 hd1
        go_wp2_with fail
        refine Calls.mono ka.out ?_
        rintro e w2 ⟨rfl, hw2⟩
        rw [hw2]
        clear hw2 w2
        go_wp2_with fail
        refine Calls.mono (kd1.out _) ?_
        rintro e w2 ⟨rfl, hw2⟩
        rw [hw2]
        clear hw2 w2
        go_wp2_with fail
        go_meet
        case rel => exact ⟨rfl, rfl⟩
    case rest =>
      obtain ⟨rfl, hwc⟩ := hcut
      rw [hwc]
      clear hwc wc
      clear hdgc kd1
      have kn : Hid _ := number_any W2 ad cap 0 s.toList hBy.out hpl (by rw [toList_len]; omega)
      rw [toList_len, List.drop_zero] at kn
      clear hBy
      go_wp2_with fail
      refine Calls.mono kn.out ?_
      rintro e w2 ⟨KK, rfl, hKK, hw2⟩
      rw [hw2]
      clear hw2 w2 kn
      rw [hNs] at hKK ⊢
      replace hKK := hKK (by omega)
      rw [hK] at hKK
      subst hKK
      clear hNs hK hpl
      obtain ⟨fl, hfl0⟩ : ∃ fl, fl = (decide ((s.size : Int) > 1) && (((s[0]'p0).toNat : Int) == 48)) := ⟨_, rfl⟩
      have hfb : Hid _ := hfl0
      clear hfl0
      go_upto_region 11 with fail
      go_cut [65] from 58 (fun t wc => t = .bool fl ∧ wc = W2)
      case first =>
        have hf2 := hfb.out
        cases hd1 : decide ((s.size : Int) > 1) with
        | false =>
          rw [hd1, Bool.false_and] at hf2
          replace hf2 : Hid _ := hf2
          go_wp2_with fail
          go_meet
          case rel => exact ⟨by rw [hf2.out], rfl⟩
        | true =>
          rw [hd1, Bool.true_and] at hf2
          cases he1 : (((s[0]'p0).toNat : Int) == 48) with
          | false =>
            rw [he1] at hf2
            replace hf2 : Hid _ := hf2
            go_wp2_with fail
            go_meet
            case rel => exact ⟨by rw [hf2.out], rfl⟩
          | true =>
            rw [he1] at hf2
            replace hf2 : Hid _ := hf2
            go_wp2_with fail
            go_meet
            case rel => exact ⟨by rw [hf2.out], rfl⟩
      case rest =>
        obtain ⟨rfl, hwc⟩ := hcut
        rw [hwc]
        clear hwc wc
        go_upto_if 65 with fail
        go_cut [8] from 65 (fun vb wc => vb = .int .i64 B ∧ wc = W2)
        case first =>
          by_cases hfl : fl = true
          · rw [hfl]
            have hf2 := hfb.out
            rw [hfl] at hf2
            have h2 : ¬ s.size < 2 := fun h => by simp at hf2; omega
            have p1 : 1 < s.size := by omega
            have p3 : (1 : Int) < (s.size : Int) := by omega
            have g0 : (s.get! 0).toNat = (s[0]'p0).toNat := by rw [get_bang s 0 p0]
            have g1 : (s.get! 1).toNat = (s[1]'p1).toNat := by rw [get_bang s 1 p1]
            have h48 : (s.get! 0).toNat = 48 := by simp at hf2; omega
            have hb : baseI s = if (s.get! 1).toNat = 120 ∨ (s.get! 1).toNat = 88 then 16 else if (s.get! 1).toNat = 111 ∨ (s.get! 1).toNat = 79 then 8 else if (s.get! 1).toNat = 98 ∨ (s.get! 1).toNat = 66 then 2 else 10 := by
              unfold baseI
              rw [if_neg (fun h => h.elim h2 (fun h => h h48))]
            rw [g1] at hb
            clear g0 g1 h48 hf2 hfb h2 hfl
            by_cases h120 : (s[1]'p1).toNat = 120
            · have e120 : (((s[1]'p1).toNat : Int) == 120) = true := by rw [h120]; rfl
              have hb2 : baseI s = 16 := by rw [hb]; repeat' (first | rw [if_pos (by omega)] | rw [if_neg (by omega)])
              replace hb : Hid _ := hb2
              clear hb2 h120
              go_wp2_with fail
              go_meet
              case rel => exact ⟨by rw [← hBe.out, hb.out], rfl⟩
            · skip
              by_cases h88 : (s[1]'p1).toNat = 88
              · have e88 : (((s[1]'p1).toNat : Int) == 88) = true := by rw [h88]; rfl
                have hb2 : baseI s = 16 := by rw [hb]; repeat' (first | rw [if_pos (by omega)] | rw [if_neg (by omega)])
                have e120 : (((s[1]'p1).toNat : Int) == 120) = false := by rw [beq_eq_false_iff_ne]; omega
                replace hb : Hid _ := hb2
                clear hb2 h120 h88
                go_wp2_with fail
                go_meet
                case rel => exact ⟨by rw [← hBe.out, hb.out], rfl⟩
              · skip
                by_cases h111 : (s[1]'p1).toNat = 111
                · have e111 : (((s[1]'p1).toNat : Int) == 111) = true := by rw [h111]; rfl
                  have hb2 : baseI s = 8 := by rw [hb]; repeat' (first | rw [if_pos (by omega)] | rw [if_neg (by omega)])
                  have e120 : (((s[1]'p1).toNat : Int) == 120) = false := by rw [beq_eq_false_iff_ne]; omega
                  have e88 : (((s[1]'p1).toNat : Int) == 88) = false := by rw [beq_eq_false_iff_ne]; omega
                  replace hb : Hid _ := hb2
                  clear hb2 h120 h88 h111
                  go_wp2_with fail
                  go_meet
                  case rel => exact ⟨by rw [← hBe.out, hb.out], rfl⟩
                · skip
                  by_cases h79 : (s[1]'p1).toNat = 79
                  · have e79 : (((s[1]'p1).toNat : Int) == 79) = true := by rw [h79]; rfl
                    have hb2 : baseI s = 8 := by rw [hb]; repeat' (first | rw [if_pos (by omega)] | rw [if_neg (by omega)])
                    have e120 : (((s[1]'p1).toNat : Int) == 120) = false := by rw [beq_eq_false_iff_ne]; omega
                    have e88 : (((s[1]'p1).toNat : Int) == 88) = false := by rw [beq_eq_false_iff_ne]; omega
                    have e111 : (((s[1]'p1).toNat : Int) == 111) = false := by rw [beq_eq_false_iff_ne]; omega
                    replace hb : Hid _ := hb2
                    clear hb2 h120 h88 h111 h79
                    go_wp2_with fail
                    go_meet
                    case rel => exact ⟨by rw [← hBe.out, hb.out], rfl⟩
                  · skip
                    by_cases h98 : (s[1]'p1).toNat = 98
                    · have e98 : (((s[1]'p1).toNat : Int) == 98) = true := by rw [h98]; rfl
                      have hb2 : baseI s = 2 := by rw [hb]; repeat' (first | rw [if_pos (by omega)] | rw [if_neg (by omega)])
                      have e120 : (((s[1]'p1).toNat : Int) == 120) = false := by rw [beq_eq_false_iff_ne]; omega
                      have e88 : (((s[1]'p1).toNat : Int) == 88) = false := by rw [beq_eq_false_iff_ne]; omega
                      have e111 : (((s[1]'p1).toNat : Int) == 111) = false := by rw [beq_eq_false_iff_ne]; omega
                      have e79 : (((s[1]'p1).toNat : Int) == 79) = false := by rw [beq_eq_false_iff_ne]; omega
                      replace hb : Hid _ := hb2
                      clear hb2 h120 h88 h111 h79 h98
                      go_wp2_with fail
                      go_meet
                      case rel => exact ⟨by rw [← hBe.out, hb.out], rfl⟩
                    · skip
                      by_cases h66 : (s[1]'p1).toNat = 66
                      · have e66 : (((s[1]'p1).toNat : Int) == 66) = true := by rw [h66]; rfl
                        have hb2 : baseI s = 2 := by rw [hb]; repeat' (first | rw [if_pos (by omega)] | rw [if_neg (by omega)])
                        have e120 : (((s[1]'p1).toNat : Int) == 120) = false := by rw [beq_eq_false_iff_ne]; omega
                        have e88 : (((s[1]'p1).toNat : Int) == 88) = false := by rw [beq_eq_false_iff_ne]; omega
                        have e111 : (((s[1]'p1).toNat : Int) == 111) = false := by rw [beq_eq_false_iff_ne]; omega
                        have e79 : (((s[1]'p1).toNat : Int) == 79) = false := by rw [beq_eq_false_iff_ne]; omega
                        have e98 : (((s[1]'p1).toNat : Int) == 98) = false := by rw [beq_eq_false_iff_ne]; omega
                        replace hb : Hid _ := hb2
                        clear hb2 h120 h88 h111 h79 h98 h66
                        go_wp2_with fail
                        go_meet
                        case rel => exact ⟨by rw [← hBe.out, hb.out], rfl⟩
                      · skip
                        have hb2 : baseI s = 10 := by rw [hb]; repeat' (first | rw [if_pos (by omega)] | rw [if_neg (by omega)])
                        have e120 : (((s[1]'p1).toNat : Int) == 120) = false := by rw [beq_eq_false_iff_ne]; omega
                        have e88 : (((s[1]'p1).toNat : Int) == 88) = false := by rw [beq_eq_false_iff_ne]; omega
                        have e111 : (((s[1]'p1).toNat : Int) == 111) = false := by rw [beq_eq_false_iff_ne]; omega
                        have e79 : (((s[1]'p1).toNat : Int) == 79) = false := by rw [beq_eq_false_iff_ne]; omega
                        have e98 : (((s[1]'p1).toNat : Int) == 98) = false := by rw [beq_eq_false_iff_ne]; omega
                        have e66 : (((s[1]'p1).toNat : Int) == 66) = false := by rw [beq_eq_false_iff_ne]; omega
                        replace hb : Hid _ := hb2
                        clear hb2 h120 h88 h111 h79 h98 h66
                        go_wp2_with fail
                        go_meet
                        case rel => exact ⟨by rw [← hBe.out, hb.out], rfl⟩
          · have hfl' : fl = false := by simpa using hfl
            rw [hfl']
            have hb : Hid (baseI s = 10) := by
              show _ = _
              have hf2 := hfb.out
              rw [hfl'] at hf2
              unfold baseI
              rw [if_pos]
              by_cases h2 : s.size < 2
              · exact .inl h2
              · right
                rw [get_bang s 0 p0]
                intro h
                have e1 : decide ((s.size : Int) > 1) = true := decide_eq_true (by omega)
                have e2 : (((s[0]'p0).toNat : Int) == 48) = true := by rw [h]; rfl
                rw [e1, e2] at hf2
                cases hf2
            clear hfl hfl' hfb
            go_wp2_with fail
            go_meet
            case rel => exact ⟨by rw [← hBe.out, hb.out], rfl⟩
        case rest =>
          obtain ⟨rfl, hwc⟩ := hcut
          rw [hwc]
          clear hwc wc hfb
          go_upto_if 78 with fail
          go_cut [0] from 78 (fun vs wc => vs = .string R ∧ wc = W2)
          case first =>
            by_cases hb10 : B = 10
            · have hr : Hid (R = s) := by show _ = _; rw [← hRe.out]; unfold restS; rw [if_pos (by rw [hBe.out]; exact hb10)]
              have d10 : (B != 10) = false := by rw [hb10]; rfl
              clear hb10
              go_wp2_with fail
              go_meet
              case rel => exact ⟨by rw [hr.out], rfl⟩
            · have hr : Hid (R = s.extract 2 s.size) := by show _ = _; rw [← hRe.out]; unfold restS; rw [if_neg (by rw [hBe.out]; exact hb10)]
              have d10 : (B != 10) = true := by simpa using hb10
              have p2 : (2 : Int) ≤ (s.size : Int) := by
                by_cases h2 : s.size < 2
                · exact absurd (show B = 10 by rw [← hBe.out]; unfold baseI; rw [if_pos (.inl h2)]) hb10
                · omega
              clear hb10
              go_wp2_with fail
              go_meet
              case rel => exact ⟨by rw [hr.out], rfl⟩
          case rest =>
            obtain ⟨rfl, hwc⟩ := hcut
            rw [hwc]
            clear hwc wc d0 d0'
            have hBz := bthen hB1 hbw
            have y0 := x0.next hBz
            have hBw := bthen hbW hBz
            clear hz1 hcv hbw hB1 hBz x0
            have hRs := rest_le s
            rw [hRe.out] at hRs
            clear hRe hBe
            have kp : Hid _ := rParse_ok R B W2 hg.2.1 hg.1 (by omega) hg.2.2
            go_wp2_with fail
            refine Calls.mono kp.out ?_
            rintro e w3 ⟨v3, rfl, hO, b3⟩
            clear kp
            obtain ⟨n1, a1, l1, c1, rfl⟩ := hO.form
            obtain ⟨W3, hW3⟩ : ∃ W3, W3 = w3.alloc (.cells #[.bool n1, .slice a1 l1 c1] 32) := ⟨_, rfl⟩
            have bW3 : Below w3.heap.size w3 W3 := by rw [hW3]; exact (Below.refl _ _).alloc (Nat.le_refl _) _
            have q0 : W3.cell? ⟨w3.heap.size, 0, none⟩ = some (.bool n1) := by rw [hW3]; simp [go_sem]
            have q1 : W3.cell? ⟨w3.heap.size, 1, none⟩ = some (.slice a1 l1 c1) := by rw [hW3]; simp [go_sem]
            have kw : Hid _ := rWhole_num (hO.next bW3)
            go_upto_region 26 with fail
            rw [← hW3]
            clear hW3 hO
            go_wp2_with fail
            refine Calls.mono kw.out ?_
            rintro e w4 ⟨t4, rfl, hR4, b5⟩
            clear kw q0 q1
            obtain ⟨m1, u1, e1, g1, m2, u2, e2, g2, rfl⟩ := ratR_form hR4
            have bb := bthen b3 (bthen bW3 b5)
            replace y0 := y0.next bb
            obtain ⟨_, _, _, _, _, _, _, _, j0, j1, j2, j3, f⟩ := y0.cells
            have f0 := f 0
            have f1 := f 1
            have f2 := f 2
            have f3 := f 3
            clear f
            have hbx : Hid _ := put4_boxed (base := w.heap.size) y0.noint (Nat.le_refl _) m1 u1 e1 g1 m2 u2 e2 g2
            have hBf := bthen hBw bb
            have hLf : Hid _ := ratR_more (k := 70) (Boxed.ratR hbx.out hR4) (by omega)
            clear hR4
            go_wp2
            exact bodyPost_ret (v := .tuple #[.agg #[.bool m1, .slice u1 e1 g1, .bool m2, .slice u2 e2 g2], .bool true]) (by simp [results, Tryz.results34, go_sem, j0, j1, j2, j3]) rfl ⟨_, rfl, hLf.out, hbx.out.keep hBf (Nat.le_refl _) hBf.size⟩
end Nn
end Go.Proofs.YthiiglhecajhbaaGreat
