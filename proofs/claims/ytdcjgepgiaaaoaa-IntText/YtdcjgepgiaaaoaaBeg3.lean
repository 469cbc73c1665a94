/- The contract of begun: it answers true. -/
import Derived.Test.YtdcjgepgiaaaoaaBeg
import Derived.Deep.Cut
import Derived.Deep.Light
namespace Go.Proofs.Ytdcjgepgiaaaoaa
open Go.RowKit
attribute [local go_sem ↓] Go.wp_at_zero Go.wp_at_succ
theorem box1 (w : World) (v0 v1 : Value) (T : TypeId) : ∃ W, W = w.alloc (.cells #[v0, v1] T) ∧ Below w.heap.size w W ∧ w.heap.size < W.heap.size ∧ W.cell? ⟨w.heap.size, 0, none⟩ = some v0 ∧ W.cell? ⟨w.heap.size, 1, none⟩ = some v1 ∧ W.frozen? ⟨w.heap.size, 0, none⟩ = false ∧ W.frozen? ⟨w.heap.size, 1, none⟩ = false := by
  refine ⟨_, rfl, (Below.refl _ _).alloc (Nat.le_refl _) _, by simp, ?_, ?_, ?_, ?_⟩ <;> simp [go_sem]
theorem Out.alloc {w : World} {b : Nat} {v : Value} {z : Int} {n : Nat} (h : Out w b v z n) (o : Obj) : Out (w.alloc o) b v z n := h.next ((Below.refl _ _).alloc (Nat.le_refl _) _)
theorem Out.drew {w : World} {b : Nat} {v : Value} {z : Int} {n : Nat} (h : Out w b v z n) : Out w.drew b v z n := h.next ((Below.refl _ _).drew)
theorem Out.low {w : World} {b : Nat} {v : Value} {z : Int} {n : Nat} (h : Out w b v z n) {p : Addr} (hp : p.block < b) (u : Value) : Out (w.setCell p u) b v z n := by
  obtain ⟨neg, a, cap, ds, hv, ho, r⟩ := h
  exact ⟨neg, a, cap, ds, hv, ho.set hp u, r⟩
theorem bcell {W w1 : World} (hb : Below W.heap.size W w1) : (∀ b o, b < W.heap.size → w1.cell? ⟨b, o, none⟩ = W.cell? ⟨b, o, none⟩) ∧ (∀ b o, b < W.heap.size → w1.frozen? ⟨b, o, none⟩ = W.frozen? ⟨b, o, none⟩) :=
  ⟨fun b o h => hb.cell (p := ⟨b, o, none⟩) h, fun b o h => hb.frozen (p := ⟨b, o, none⟩) h⟩
/-- Block b is a struct of type api.Big as it was made. -/
def New (w : World) (b : Nat) : Prop := w.heap[b]? = some (.cells #[.bool false, .slice none 0 0] 24 (0, 0))
theorem New.lt {w : World} {b : Nat} (h : New w b) : b < w.heap.size := by
  unfold New at h
  by_cases hg : b < w.heap.size
  · exact hg
  · rw [Array.getElem?_eq_none (by omega)] at h; cases h
theorem New.next {w w' : World} {b : Nat} (h : New w b) (hb : Below w.heap.size w w') : New w' b := (hb.block b h.lt).trans h
theorem New.here' (w : World) (b : Nat) (h : b = w.heap.size) : New (w.alloc (.cells #[.bool false, .slice none 0 0] 24)) b := by
  subst h
  show (w.heap.push _)[w.heap.size]? = _
  simp
theorem New.alloc {w : World} {b : Nat} (h : New w b) (o : Obj) : New (w.alloc o) b := (Below.heap_alloc _ _ _ h.lt).trans h
theorem New.drew {w : World} {b : Nat} (h : New w b) : New w.drew b := h
theorem New.facts {w : World} {b : Nat} (h : New w b) : w.cell? ⟨b, 0, none⟩ = some (.bool false) ∧ w.cell? ⟨b, 1, none⟩ = some (.slice none 0 0) ∧ w.frozen? ⟨b, 0, none⟩ = false ∧ w.frozen? ⟨b, 1, none⟩ = false := by
  unfold New at h
  refine ⟨?_, ?_, ?_, ?_⟩ <;> simp [World.cell?, World.frozen?, h]
set_option maxRecDepth 20000 in
set_option maxHeartbeats 4000000 in
theorem begun_any (w : World) : Calls Try.prog 9 #[] w fun e w' => e = .returned (.bool true) ∧ Below w.heap.size w w' := by
  go_enter Try.func9, Try.ntmps9
  go_wp2_with fail
  refine (Parse_big _).mono ?_
  rintro e w1 ⟨v, rfl, hO, hb1⟩
  obtain ⟨n1, a1, l1, p1, rfl⟩ := hO.form
  have hA := hO.num
  clear hO
  go_wp2
  obtain ⟨W, hW, hbW, hlt, c0, c1, _, _⟩ := box1 w1 (.bool n1) (.slice a1 l1 p1) 24
  rw [← hW]
  clear hW
  have hAW := hA.next hbW
  have hD0 : Below W.heap.size W W.drew := (Below.refl _ _).drew
  have hz0 : w1.heap.size < W.heap.size := hlt
  go_cut [3, 4, 5] from 12 (fun q r ok wc => ∃ b3 b4 n3 a3 l3 p3 n4 a4 l4 p4, q = .pointer (some ⟨b3, 0, none⟩) ∧ r = .pointer (some ⟨b4, 0, none⟩) ∧ ok = .bool true ∧ wc.cell? ⟨b3, 0, none⟩ = some (.bool n3) ∧ wc.cell? ⟨b3, 1, none⟩ = some (.slice a3 l3 p3) ∧ wc.cell? ⟨b4, 0, none⟩ = some (.bool n4) ∧ wc.cell? ⟨b4, 1, none⟩ = some (.slice a4 l4 p4) ∧ Num wc (.agg #[.bool n3, .slice a3 l3 p3]) (bigN.tdiv (-7)) 22 ∧ Num wc (.agg #[.bool n4, .slice a4 l4 p4]) (bigN.tmod (-7)) 23 ∧ Below W.heap.size W wc)
  case first =>
   go_region_held3 (fun w' => w'.cell? ⟨w1.heap.size, 0, none⟩ = some (.bool n1) ∧ w'.cell? ⟨w1.heap.size, 1, none⟩ = some (.slice a1 l1 p1) ∧ Below W.heap.size W w') ((refine (fun hX : Below W.heap.size W _ => ⟨keep_cell hX c0, keep_cell hX c1, hX⟩) ?_; ((repeat' (first | with_reducible refine Below.alloc ?_ ?_ _ | with_reducible refine Below.setCell ?_ ?_ _ | with_reducible exact hD0 | with_reducible refine Below.drew ?_ | with_reducible assumption | with_reducible exact Below.refl _ _)) <;> first | omega | (simp; done) | (simp; omega))))
    (first
      | (go_at_call 34; refine (Of_any (-7) _ (by decide) (by decide)).mono ?_; rintro e w2 ⟨v, rfl, hO, hb2⟩; obtain ⟨n2, a2, l2, p2, rfl⟩ := hO.form; have hS := hO.num; clear hO; have hy2 := hb2.size; (try simp at hy2); (try (refine (fun q : W.heap.size < w2.heap.size => ?_) ?_; rotate_left; (focus omega))); (try (refine (fun q : W.heap.size + 1 < w2.heap.size => ?_) ?_; rotate_left; (focus omega))); obtain ⟨hc2, hf2⟩ := bcell hb2; have hB2 : Below W.heap.size W w2 := bthen (And.right (And.right (by assumption))) hb2; have hs2 := hB2.size)
      | (go_at_call 25; refine (Quo_word (hAW.next ?q1) (hS.next ?q2) (by decide) (by decide) (by decide) (by decide) (by decide)).mono ?_; (case q1 => exact (And.right (And.right (by assumption)))); (case q2 => ((repeat' (first | with_reducible refine Below.alloc ?_ ?_ _ | with_reducible refine Below.setCell ?_ ?_ _ | with_reducible exact hD0 | with_reducible refine Below.drew ?_ | with_reducible assumption | with_reducible exact Below.refl _ _)) <;> first | omega | (simp; done) | (simp; omega))); rintro e w3 ⟨v, v', rfl, hO, hO', hb3⟩; obtain ⟨n3, a3, l3, p3, rfl⟩ := hO.form; obtain ⟨n4, a4, l4, p4, rfl⟩ := hO'.form; have hy3 := hb3.size; (try simp at hy3); (try (refine (fun q : w2.heap.size < w3.heap.size => ?_) ?_; rotate_left; (focus omega))); (try (refine (fun q : w2.heap.size + 1 < w3.heap.size => ?_) ?_; rotate_left; (focus omega))); (try (refine (fun q : W.heap.size < w3.heap.size => ?_) ?_; rotate_left; (focus omega))); (try (refine (fun q : W.heap.size + 1 < w3.heap.size => ?_) ?_; rotate_left; (focus omega))); obtain ⟨hc3, hf3⟩ := bcell hb3; have hB3 : Below W.heap.size W w3 := bthen (And.right (And.right (by assumption))) hb3; have hs3 := hB3.size))
   all_goals
    go_wp2_with fail
    go_meet
    case rel =>
     go_light
     have u1 : ∀ n : Nat, n < n + 1 + 1 := by omega
     have u2 : ∀ n : Nat, n < n + 1 := by omega
     have u3 : W.heap.size < w2.heap.size + 1 := by omega
     have u4 : W.heap.size < w2.heap.size + 1 + 1 := by omega
     have u5 : W.heap.size + 1 < w2.heap.size + 1 + 1 := by omega
     refine ⟨_, _, n3, a3, l3, p3, n4, a4, l4, p4, rfl, rfl, rfl, ?x1, ?x2, ?x3, ?x4, ?x5, ?x6, ?x7⟩
     case x5 => (apply Out.num; ((repeat' (first | with_reducible apply Out.alloc | with_reducible apply Out.drew | with_reducible apply Out.low | with_reducible exact hO)) <;> first | omega | (simp; done) | (simp; omega)))
     case x6 => (apply Out.num; ((repeat' (first | with_reducible apply Out.alloc | with_reducible apply Out.drew | with_reducible apply Out.low | with_reducible exact hO')) <;> first | omega | (simp; done) | (simp; omega)))
     case x7 => ((repeat' (first | with_reducible refine Below.alloc ?_ ?_ _ | with_reducible refine Below.setCell ?_ ?_ _ | with_reducible exact hD0 | with_reducible refine Below.drew ?_ | with_reducible assumption | with_reducible exact Below.refl _ _)) <;> first | omega | (simp; done) | (simp; omega))
     case x1 => (clear hO hO' hS hA hAW hb1 hbW hb2 hb3 hB2 hB3 hD0; simp [go_sem, *])
     case x2 => (clear hO hO' hS hA hAW hb1 hbW hb2 hb3 hB2 hB3 hD0; simp [go_sem, *])
     case x3 => (clear hO hO' hS hA hAW hb1 hbW hb2 hb3 hB2 hB3 hD0; simp [go_sem, *])
     case x4 => (clear hO hO' hS hA hAW hb1 hbW hb2 hb3 hB2 hB3 hD0; simp [go_sem, *])
  case rest =>
   obtain ⟨b3, b4, n3, a3, l3, p3, n4, a4, l4, p4, rfl, rfl, rfl, q0, q1, r0, r1, hQ, hR, hbc⟩ := hcut
   have t0 := keep_cell hbc c0
   have t1 := keep_cell hbc c1
   have hAc := hAW.next hbc
   have hbwc : Below w.heap.size w wc := bthen (bthen hb1 hbW) hbc
   clear hD0 hA hAW c0 c1 hbc hbW hb1
   go_wp2_with fail
   refine (Of_any (-2) _ (by decide) (by decide)).mono ?_
   rintro e w5 ⟨v, rfl, hO5, hb5⟩
   obtain ⟨n5, a5, l5, p5, rfl⟩ := hO5.form
   go_wp2_with fail
   refine (Of_any 7 _ (by decide) (by decide)).mono ?_
   rintro e w6 ⟨v, rfl, hO6, hb6⟩
   obtain ⟨n6, a6, l6, p6, rfl⟩ := hO6.form
   go_wp2_with fail
   refine (Bit_six (hO5.num.next hb6) hO6.num (by decide) (by decide)).mono ?_
   rintro e w7 ⟨v, rfl, hO7, hb7⟩
   obtain ⟨n7, a7, l7, p7, rfl⟩ := hO7.form
   have hX7 := hO7.num
   have hb57 : Below wc.heap.size wc w7 := bthen (bthen hb5 hb6) hb7
   clear hO5 hO6 hO7
   go_wp2
   obtain ⟨V, hV, hbV, hltV, x0, x1, _, _⟩ := box1 w7 (.bool n7) (.slice a7 l7 p7) 24
   rw [← hV]
   clear hV
   have hcV : Below wc.heap.size wc V := bthen hb57 hbV
   have s0 := keep_cell hcV t0
   have s1 := keep_cell hcV t1
   have s2 := keep_cell hcV q0
   have s3 := keep_cell hcV q1
   have s4 := keep_cell hcV r0
   have s5 := keep_cell hcV r1
   have hA := hAc.next hcV
   have hQV := hQ.next hcV
   have hRV := hR.next hcV
   have hXV := hX7.next hbV
   have hbwV : Below w.heap.size w V := bthen hbwc hcV
   clear t0 t1 q0 q1 r0 r1 hAc hQ hR hX7 hcV hb57 hb5 hb6 hb7 hbwc hbV
   have hD0 : Below V.heap.size V V.drew := (Below.refl _ _).drew
   have e1 : cmpI (bigN.tdiv (-7) * (-7) + bigN.tmod (-7)) bigN = 0 := by decide
   replace e1 : Hid _ := e1
   go_region_held3 (fun w' => w'.cell? ⟨w1.heap.size, 0, none⟩ = some (.bool n1) ∧ w'.cell? ⟨w1.heap.size, 1, none⟩ = some (.slice a1 l1 p1) ∧ w'.cell? ⟨b3, 0, none⟩ = some (.bool n3) ∧ w'.cell? ⟨b3, 1, none⟩ = some (.slice a3 l3 p3) ∧ w'.cell? ⟨b4, 0, none⟩ = some (.bool n4) ∧ w'.cell? ⟨b4, 1, none⟩ = some (.slice a4 l4 p4) ∧ w'.cell? ⟨w7.heap.size, 0, none⟩ = some (.bool n7) ∧ w'.cell? ⟨w7.heap.size, 1, none⟩ = some (.slice a7 l7 p7))
     ((refine (fun hX : Below V.heap.size V _ => ⟨keep_cell hX s0, keep_cell hX s1, keep_cell hX s2, keep_cell hX s3, keep_cell hX s4, keep_cell hX s5, keep_cell hX x0, keep_cell hX x1⟩) ?_; assumption))
     (first
       | (go_at_call_of 29 (Value.slice a1 l1 p1); refine (Text_big (hA.next (by assumption)) (by decide)).mono ?_; rintro e w8 ⟨rfl, hb8⟩; have hB8 : Below V.heap.size V w8 := bthen (by assumption) hb8)
       | (go_at_call_of 34 (Value.int IntKind.i64 8); refine (Of_any 8 _ (by decide) (by decide)).mono ?_; rintro e w14 ⟨v, rfl, hO14, hb14⟩; obtain ⟨n14, a14, l14, p14, rfl⟩ := hO14.form; have hX14 := hO14.num; clear hO14; have hB14 : Below V.heap.size V w14 := bthen (by assumption) hb14)
       | (go_at_call 34; refine (Of_any (-7) _ (by decide) (by decide)).mono ?_; rintro e w9 ⟨v, rfl, hO9, hb9⟩; obtain ⟨n9, a9, l9, p9, rfl⟩ := hO9.form; have hX9 := hO9.num; clear hO9; have hB9 : Below V.heap.size V w9 := bthen (by assumption) hb9)
       | (go_at_call 17; refine (Mul_num (hQV.next (by assumption)) hX9 (by decide) (by decide)).mono ?_; rintro e w10 ⟨v, rfl, hO10, hb10⟩; obtain ⟨n10, a10, l10, p10, rfl⟩ := hO10.form; have hX10 := hO10.num; clear hO10; have hB10 : Below V.heap.size V w10 := bthen (by assumption) hb10)
       | (go_at_call 13; refine (Add_num hX10 (hRV.next (by assumption)) (by decide) (by decide)).mono ?_; rintro e w11 ⟨v, rfl, hO11, hb11⟩; obtain ⟨n11, a11, l11, p11, rfl⟩ := hO11.form; have hX11 := hO11.num; clear hO11; have hB11 : Below V.heap.size V w11 := bthen (by assumption) hb11)
       | (go_at_call 21; refine (Cmp_num hX11 (hA.next (by assumption)) (by decide) (by decide)).mono ?_; rintro e w12 ⟨rfl, hb12⟩; rw [e1.out]; have hB12 : Below V.heap.size V w12 := bthen (by assumption) hb12)
       | (go_at_call_of 29 (Value.slice a7 l7 p7); refine (Text_six (hXV.next (by assumption)) (by decide)).mono ?_; rintro e w13 ⟨rfl, hb13⟩; have hB13 : Below V.heap.size V w13 := bthen (by assumption) hb13)
       | (go_at_call 23; refine (Bits_eight hX14 (by decide)).mono ?_; rintro e w15 ⟨rfl, hb15⟩; have hB15 : Below V.heap.size V w15 := bthen (by assumption) hb15)
       | (go_at_call 15; refine (Sub_num (hRV.next (by assumption)) (hRV.next (by assumption)) (by decide) (by decide)).mono ?_; rintro e w16 ⟨v, rfl, hO16, hb16⟩; obtain ⟨n16, a16, l16, p16, rfl⟩ := hO16.form; have hX16 := hO16.num; clear hO16; have hB16 : Below V.heap.size V w16 := bthen (by assumption) hb16)
       | (go_at_call 19; refine (Neg_num hX16 (by decide)).mono ?_; rintro e w17 ⟨v, rfl, hO17, hb17⟩; obtain ⟨n17, a17, l17, p17, rfl⟩ := hO17.form; have hX17 := hO17.num; clear hO17; rw [Int.sub_self, Int.neg_zero] at hX17; have hB17 : Below V.heap.size V w17 := bthen (by assumption) hb17)
       | (go_at_call_of 29 (Value.slice a17 l17 p17); refine (Text_nought hX17 (by decide)).mono ?_; rintro e w18 ⟨rfl, hb18⟩; have hB18 : Below V.heap.size V w18 := bthen (by assumption) hb18))
   go_wp2
   go_ret
   exact ⟨rfl, bthen hbwV hB18⟩
end Go.Proofs.Ytdcjgepgiaaaoaa
