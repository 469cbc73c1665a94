/- constants: the opening check. -/
import Derived.Test.YtclokcoimdjaeaaGreatDoorQu
import Derived.Test.YtclokcoimdjaeaaGreatDoorQpm
import Derived.Test.YtclokcoimdjaeaaGreatDoorQlm
import Derived.Deep.CutRange
import Derived.Deep.RegionWith
namespace Go.Proofs.YtclokcoimdjaeaaGreatDoor
open Go.RowKit
attribute [local go_sem ↓] Go.wp_at_zero Go.wp_at_succ
theorem CI.form {w : World} {v : Value} {z : Int} {m : Nat} (h : CI w v z m) : ∃ n1 a1 l1 c1 n2 a2 l2 c2, v = .agg #[.int .i64 3, .bool false, .string ⟨#[]⟩, .bool n1, .slice a1 l1 c1, .bool n2, .slice a2 l2 c2] := by
  obtain ⟨_, _, ⟨n1, a1, l1, c1, n2, a2, l2, c2, hv, _⟩, _⟩ := h
  exact ⟨_, _, _, _, _, _, _, _, hv⟩
theorem keep_heap {w w' : World} {p : Nat} {o : Obj} (hb : Below w.heap.size w w') (h : w.heap[p]? = some o) : w'.heap[p]? = some o := (hb.block p (Array.getElem?_eq_some_iff.1 h).1).trans h
theorem CI.put7 {w : World} {b : Nat} {v0 v1 v2 v3 v4 v5 v6 v : Value} {z : Int} {m : Nat} (h : CBox w b) (hc : CI w v z m) : CI (put7 w b v0 v1 v2 v3 v4 v5 v6) v z m := by
  obtain ⟨n, d, ⟨n1, a1, l1, c1, n2, a2, l2, c2, hv, hf⟩, hz⟩ := hc
  exact ⟨n, d, ⟨n1, a1, l1, c1, n2, a2, l2, c2, hv, frac_put7 h hf⟩, hz⟩
/-- A whole constant in a box of its own. -/
def Kept (w0 : World) (z : Int) (m : Nat) (v : Value) (wx : World) : Prop :=
  ∃ p n1 a1 l1 c1 n2 a2 l2 c2, v = .pointer (some ⟨p, 0, none⟩) ∧ wx.heap[p]? = some (.cells #[.int .i64 3, .bool false, .string ⟨#[]⟩, .bool n1, .slice a1 l1 c1, .bool n2, .slice a2 l2 c2] 32 (0, 0)) ∧ CI wx (.agg #[.int .i64 3, .bool false, .string ⟨#[]⟩, .bool n1, .slice a1 l1 c1, .bool n2, .slice a2 l2 c2]) z m ∧ Below w0.heap.size w0 wx
section
variable {P : Program} {ops : Array Oper} {Q : Exit → Act → World → Prop} {V : Nat → Value → World → Prop} {N : Nat} {w : World}
theorem step_shut {P : Program} {ops : Array Oper} {Q : Exit → Act → World → Prop} {V : Nat → Value → World → Prop} {N : Nat} {w : World} {o : Oper} (g d e : Nat) (p : Bool) (h : o.guard = some (g, p)) (hd : (ops[g]?).bind (·.dst) = some d) (hl : (o.looksAt ops).contains d = true) (hv : ∀ v w, V d v w → v ≠ .bool p) (he : o.dst = some e) (hu : ∀ w, V e undef w) : StepOk P ops Q V N w o := by
  intro b w' hs hB hb K hK
  have hne := hv _ _ (look hb d hl)
  have hw : Region.wanted o (yielded ops b.tmps) = false := by
    unfold Region.wanted
    rw [h]
    show (yielded ops b.tmps g == some p) = false
    rw [beq_eq_false_iff_ne]
    intro hy
    unfold yielded at hy
    rw [hd] at hy
    simp only [Option.bind_some] at hy
    rw [Array.getD_eq_getD_getElem?] at hne
    split at hy
    · rename_i c hc
      cases hy
      rw [hc] at hne
      exact hne rfl
    · cases hy
  rw [if_neg (by rw [hw]; decide)]
  exact hK undef w' (Below.refl _ _) (dst_eq he (hu _))
theorem guard_open {ops : Array Oper} {V : Nat → Value → World → Prop} {o : Oper} (g d : Nat) (p : Bool) (h : o.guard = some (g, p)) (hd : (ops[g]?).bind (·.dst) = some d) (hl : (o.looksAt ops).contains d = true) (hv : ∀ v w, V d v w → v = .bool p) : GuardOk ops V o := by
  intro b w' hb
  have := hv _ _ (look hb d hl)
  simp [Region.wanted, h, yielded_of hd this]
theorem step_callc {o : Oper} (f : FuncId) (c : Value) (d : Nat) (ats : Array TypeId) (hf : goFn P f = true) (ho : o.op = .call { callee := .value (.func f), args := #[.const c], argTypes := ats }) (hd : o.dst = some d) (hg : GuardOk ops V o)
    (hc : ∀ w', Below w.heap.size w w' → Calls P f #[c] w' fun e w'' => ∃ u, e = .returned u ∧ V d u w'' ∧ Below w'.heap.size w' w'') : StepOk P ops Q V N w o :=
  StepOk.of hg fun b w' _ hB hb K hK => by
    obtain ⟨dst, op, type, pos, after, guard⟩ := o
    dsimp only at ho hd
    subst ho
    unfold Oper.wp
    have e : (#[] ++ (#[Operand.const c]).map b.eval ++ #[] : Array Value) = #[c] := by simp [Act.eval]
    rw [execOp_call_go, run_callFunc_go hf, e, Oper.upon_enter]
    refine Calls.mono (hc _ hB) ?_
    rintro e w'' ⟨u, rfl, hu, hbl⟩
    exact hK _ _ hbl (dst_eq hd hu)
theorem step_pickE {o : Oper} (c t d : Nat) (x : Operand) (ho : o.op = .pick (.tmp c) x (.tmp t)) (hd : o.dst = some d) (hg : GuardOk ops V o) (hl : (o.looksAt ops).contains c = true) (hl' : (o.looksAt ops).contains t = true) (hc : ∀ v w, V c v w → v = .bool false) (hv : ∀ v w, V t v w → V d v w) : StepOk P ops Q V N w o :=
  StepOk.of hg fun b w' _ _ hb K hK => by
    have hcv := hc _ _ (look hb c hl)
    unfold Oper.wp execOp
    simp only [ho]
    have e : b.eval (.tmp c) = .bool false := hcv
    rw [e]
    exact hK _ _ (Below.refl _ _) (dst_eq hd (hv _ _ (look hb t hl')))
theorem ld7 {w : World} {p : Nat} {v0 v1 v2 v3 v4 v5 v6 : Value} (hq : w.heap[p]? = some (.cells #[v0, v1, v2, v3, v4, v5, v6] 32 (0, 0))) {o : Oper} {b : Act} {K : Act → World → Prop} (t : Nat) (ho : o.op = .load 32 (.tmp t)) (hb : b.tmps.getD t undef = .pointer (some ⟨p, 0, none⟩)) (h : K (b.put o.dst (.agg #[v0, v1, v2, v3, v4, v5, v6])) w) : o.wp Tryz.prog b w K Q := by
  obtain ⟨⟨h0, h1, h2, h3, h4, h5, h6⟩, _, _⟩ := cells7 hq
  obtain ⟨dst, op, type, pos, after, guard⟩ := o
  dsimp only at ho
  subst ho
  unfold Oper.wp
  have e : b.eval (.tmp t) = .pointer (some ⟨p, 0, none⟩) := hb
  clear hq
  go_simp
  exact h
end
def VBeg (A B F : Value) (pA pB pD pF : Nat) (t : Nat) (v : Value) (w : World) : Prop := match t with
  | 0 => v = .bool true
  | 1 => v = .pointer (some ⟨pA, 0, none⟩)
  | 2 => v = .bool true
  | 3 => v = .pointer (some ⟨pB, 0, none⟩)
  | 4 => v = .bool true
  | 5 => v = .bool true
  | 6 => v = .bool true
  | 7 => v = .pointer (some ⟨pD, 0, none⟩)
  | 8 => v = .bool false
  | 10 => v = .bool true
  | 11 => v = .pointer (some ⟨pF, 0, none⟩)
  | 12 => v = .bool true
  | 45 => v = .bool true
  | 46 => v = .bool true
  | 47 => v = .bool true
  | 48 => v = .bool true
  | 49 => v = .bool true
  | 50 => v = B
  | 51 => CI w v 5 6
  | 52 => v = .bool true
  | 53 => v = .bool true
  | 54 => v = .bool true
  | 55 => v = .bool true
  | 56 => v = .bool true
  | 57 => v = .bool true
  | 58 => v = .bool true
  | 59 => v = .bool true
  | 60 => v = .bool true
  | 61 => v = .bool false
  | 62 => v = .bool true
  | 63 => v = .bool true
  | 64 => v = .bool true
  | 65 => v = .pointer (some ⟨pD, 0, none⟩)
  | 66 => v = .int .i64 0
  | 67 => v = .bool true
  | 68 => v = .bool true
  | 69 => v = .bool true
  | 70 => v = .bool true
  | 71 => v = .bool true
  | 72 => v = .bool true
  | 73 => v = .bool true
  | 74 => v = .bool true
  | 75 => v = .bool true
  | 76 => v = F
  | 77 => CI w v (-200) 6
  | 78 => v = .bool true
  | 79 => v = .bool true
  | 80 => v = .bool true
  | 81 => v = A
  | 82 => v = .string ⟨#[105, 110, 116]⟩
  | 83 => v = .bool true
  | 84 => v = .bool true
  | _ => True
theorem VBeg_next (A B F : Value) (pA pB pD pF : Nat) (t : Nat) (v : Value) (w w' : World) (hb : Below w.heap.size w w') (h : VBeg A B F pA pB pD pF t v w) : VBeg A B F pA pB pD pF t v w' := by
  unfold VBeg at h ⊢
  split at h <;> first | exact h | exact CI.next h hb
set_option maxRecDepth 20000 in
set_option maxHeartbeats 2000000 in
theorem begun_any (w : World) (hG : Glob w) (hB2 : 4 < w.heap.size) : Calls Tryz.prog 9 #[] w fun e w' => e = .returned (.bool true) ∧ Below w.heap.size w w' := by
  have kL : Hid (Calls Tryz.prog 10 _ w _) := Lit_0x10 w hG hB2
  have zz : Hid (Below w.heap.size w w) := Below.refl _ _
  clear hG hB2
  go_enter Tryz.func9, Tryz.ntmps9
  go_wp2_with fail
  refine Calls.mono kL.out ?_
  clear kL
  rintro e w1 ⟨tA, rfl, hA, b1⟩
  obtain ⟨nA, xA, lA, cA, mA, yA, kA, dA, rfl⟩ := hA.form
  obtain ⟨W1, hW1⟩ : ∃ W1, W1 = w1.alloc (.cells #[.int .i64 3, .bool false, .string ⟨#[]⟩, .bool nA, .slice xA lA cA, .bool mA, .slice yA kA dA] 32) := ⟨_, rfl⟩
  have k : Below w1.heap.size w1 W1 := by rw [hW1]; exact (Below.refl _ _).alloc (Nat.le_refl _) _
  have qA : Hid (W1.heap[w1.heap.size]? = some (.cells #[.int .i64 3, .bool false, .string ⟨#[]⟩, .bool nA, .slice xA lA cA, .bool mA, .slice yA kA dA] 32 (0, 0))) := by show _ = _; rw [hW1]; exact newAt _ _
  have kk := bthen b1 k
  replace hA : Hid (CI W1 (.agg #[.int .i64 3, .bool false, .string ⟨#[]⟩, .bool nA, .slice xA lA cA, .bool mA, .slice yA kA dA]) 16 7) := CI.next hA k
  replace zz : Hid _ := bthen zz.out kk
  go_upto_region 2 with fail
  rw [← hW1]
  clear hW1 k kk b1
  generalize w1.heap.size = pA at *
  obtain ⟨⟨a0, a1, a2, a3, a4, a5, a6⟩, _, hlt⟩ := cells7 qA.out
  have hne : pA ≠ W1.heap.size := Nat.ne_of_lt hlt
  have hdh : Hid (Below W1.heap.size W1 W1.drew) := (Below.refl _ _).drew
  have hda : Hid (Below W1.heap.size W1 (W1.drew.alloc (.cells #[.int .i64 0, .bool false, .string ⟨#[]⟩, .bool false, .slice none 0 0, .bool false, .slice none 0 0] 32))) := (Below.refl _ _).drew.alloc (Nat.le_refl _) _
  go_cut [3, 4] from 18 to 23 (fun v3 v4 wx => v4 = .bool true ∧ Hid (Kept W1 5 15 v3 wx))
  case first =>
    have kW : Hid (∀ X, Calls Tryz.prog 31 #[.int .i64 3] X fun e w' => ∃ t, e = .returned t ∧ CI w' t 3 6 ∧ Below X.heap.size X w') := fun X => whole_any 3 X (by decide) (by decide)
    go_region_with (first
      | (go_at_call 31; refine Calls.mono (kW.out W1.drew) ?_; rintro e w5 ⟨t5, rfl, hC5, hb5⟩; clear kW
         obtain ⟨nG, xG, lG, cG, mG, yG, kG, dG, rfl⟩ := hC5.form
         replace hb5 : Below W1.heap.size W1 w5 := hdh.out.trans hb5
         replace a0 := keep_cell hb5 a0; replace a1 := keep_cell hb5 a1; replace a2 := keep_cell hb5 a2; replace a3 := keep_cell hb5 a3; replace a4 := keep_cell hb5 a4; replace a5 := keep_cell hb5 a5; replace a6 := keep_cell hb5 a6
         have hC5h : Hid (CI w5 (.agg #[.int .i64 3, .bool false, .string ⟨#[]⟩, .bool nG, .slice xG lG cG, .bool mG, .slice yG kG dG]) 3 6) := hC5
         have hb5h : Hid (Below W1.heap.size W1 w5) := hb5
         have hlt5 : pA < w5.heap.size := Nat.lt_of_lt_of_le hlt hb5.size
         have hne5 : pA ≠ w5.heap.size := Nat.ne_of_lt hlt5
         clear hb5 hC5)
      | (go_at_call 31; refine Calls.mono (kW.out (W1.drew.alloc (.cells #[.int .i64 0, .bool false, .string ⟨#[]⟩, .bool false, .slice none 0 0, .bool false, .slice none 0 0] 32))) ?_; rintro e w5 ⟨t5, rfl, hC5, hb5⟩; clear kW
         obtain ⟨nG, xG, lG, cG, mG, yG, kG, dG, rfl⟩ := hC5.form
         have hnew : Hid (w5.heap[W1.heap.size]? = some (.cells #[.int .i64 0, .bool false, .string ⟨#[]⟩, .bool false, .slice none 0 0, .bool false, .slice none 0 0] 32 (0, 0))) := keep_heap hb5 (newAt W1.drew _)
         replace hb5 : Below W1.heap.size W1 w5 := bthen hda.out hb5
         replace a0 := keep_cell hb5 a0; replace a1 := keep_cell hb5 a1; replace a2 := keep_cell hb5 a2; replace a3 := keep_cell hb5 a3; replace a4 := keep_cell hb5 a4; replace a5 := keep_cell hb5 a5; replace a6 := keep_cell hb5 a6
         have hC5h : Hid (CI w5 (.agg #[.int .i64 3, .bool false, .string ⟨#[]⟩, .bool nG, .slice xG lG cG, .bool mG, .slice yG kG dG]) 3 6) := hC5
         have hb5h : Hid (Below W1.heap.size W1 w5) := hb5
         have hlt5 : pA < w5.heap.size := Nat.lt_of_lt_of_le hlt hb5.size
         have hne5 : pA ≠ w5.heap.size := Nat.ne_of_lt hlt5
         clear hb5 hC5)
      | (go_at_call 16; refine Calls.mono (Bin_quo (w := w5) (m := 7) (CI.next hA.out hb5h.out) (CI.more hC5h.out (by decide)) (by decide) (by decide)) ?_; rintro e w6 ⟨t6, rfl, hO, hb6⟩
         obtain ⟨nB, xB, lB, cB, mB, yB, kB, dB, rfl⟩ := hO.form
         have hP : Hid (w6.heap[W1.heap.size]? = some (.cells #[.int .i64 0, .bool false, .string ⟨#[]⟩, .bool false, .slice none 0 0, .bool false, .slice none 0 0] 32 (0, 0))) := keep_heap hb6 hnew.out
         have hOh : Hid (CI w6 (.agg #[.int .i64 3, .bool false, .string ⟨#[]⟩, .bool nB, .slice xB lB cB, .bool mB, .slice yB kB dB]) 5 15) := hO
         have hb6h : Hid (Below W1.heap.size W1 w6) := bthen hb5h.out hb6
         obtain ⟨_, rf, _⟩ := cells7 hP.out
         have rf0 := rf 0; have rf1 := rf 1; have rf2 := rf 2; have rf3 := rf 3; have rf4 := rf 4; have rf5 := rf 5; have rf6 := rf 6
         clear hb6 hO rf)
      | (go_at_call 16; refine Calls.mono (Bin_quo (w := w5) (m := 7) (CI.next hA.out hb5h.out) (CI.more hC5h.out (by decide)) (by decide) (by decide)) ?_; rintro e w6 ⟨t6, rfl, hO, hb6⟩
         obtain ⟨nB, xB, lB, cB, mB, yB, kB, dB, rfl⟩ := hO.form
         have hOh : Hid (CI w6 (.agg #[.int .i64 3, .bool false, .string ⟨#[]⟩, .bool nB, .slice xB lB cB, .bool mB, .slice yB kB dB]) 5 15) := hO
         have hb6h : Hid (Below W1.heap.size W1 w6) := bthen hb5h.out hb6
         clear hb6 hO)
      | (go_at_call 16; refine Calls.mono (Bin_quo (w := w5.alloc (.cells #[.int .i64 0, .bool false, .string ⟨#[]⟩, .bool false, .slice none 0 0, .bool false, .slice none 0 0] 32)) (m := 7) (CI.next (CI.next hA.out hb5h.out) ((Below.refl _ _).alloc (Nat.le_refl _) _)) (CI.more (CI.next hC5h.out ((Below.refl _ _).alloc (Nat.le_refl _) _)) (by decide)) (by decide) (by decide)) ?_; rintro e w6 ⟨t6, rfl, hO, hb6⟩
         obtain ⟨nB, xB, lB, cB, mB, yB, kB, dB, rfl⟩ := hO.form
         have hP5 : Hid (w6.heap[w5.heap.size]? = some (.cells #[.int .i64 0, .bool false, .string ⟨#[]⟩, .bool false, .slice none 0 0, .bool false, .slice none 0 0] 32 (0, 0))) := keep_heap hb6 (newAt w5 _)
         have hOh : Hid (CI w6 (.agg #[.int .i64 3, .bool false, .string ⟨#[]⟩, .bool nB, .slice xB lB cB, .bool mB, .slice yB kB dB]) 5 15) := hO
         have hb6h : Hid (Below W1.heap.size W1 w6) := bthen hb5h.out (bthen ((Below.refl _ _).alloc (Nat.le_refl _) _) hb6)
         obtain ⟨_, rf, _⟩ := cells7 hP5.out
         have rf0 := rf 0; have rf1 := rf 1; have rf2 := rf 2; have rf3 := rf 3; have rf4 := rf 4; have rf5 := rf 5; have rf6 := rf 6
         clear hb6 hO rf))
    all_goals
      go_wp2_with fail
      go_meet
      case rel =>
       first
         | (have hT : Kept W1 5 15 (.pointer (some ⟨W1.heap.size, 0, none⟩)) (put7 w6 W1.heap.size (.int .i64 3) (.bool false) (.string ⟨#[]⟩) (.bool nB) (.slice xB lB cB) (.bool mB) (.slice yB kB dB)) := ⟨W1.heap.size, nB, xB, lB, cB, mB, yB, kB, dB, rfl, put7_at hP.out, CI.put7 ⟨_, _, _, _, _, _, _, _, _, _, _, hP.out⟩ hOh.out, put7_below hb6h.out (by first | exact Nat.le_refl _ | exact hb5h.out.size)⟩
            unfold put7 at hT
            exact ⟨rfl, hT⟩)
         | (have hT : Kept W1 5 15 (.pointer (some ⟨w5.heap.size, 0, none⟩)) (put7 w6 w5.heap.size (.int .i64 3) (.bool false) (.string ⟨#[]⟩) (.bool nB) (.slice xB lB cB) (.bool mB) (.slice yB kB dB)) := ⟨w5.heap.size, nB, xB, lB, cB, mB, yB, kB, dB, rfl, put7_at hP5.out, CI.put7 ⟨_, _, _, _, _, _, _, _, _, _, _, hP5.out⟩ hOh.out, put7_below hb6h.out (by first | exact Nat.le_refl _ | exact hb5h.out.size)⟩
            unfold put7 at hT
            exact ⟨rfl, hT⟩)
         | (have hal : Below w6.heap.size w6 (w6.alloc (.cells #[.int .i64 3, .bool false, .string ⟨#[]⟩, .bool nB, .slice xB lB cB, .bool mB, .slice yB kB dB] 32)) := (Below.refl _ _).alloc (Nat.le_refl _) _
            have hT : Kept W1 5 15 (.pointer (some ⟨w6.heap.size, 0, none⟩)) (w6.alloc (.cells #[.int .i64 3, .bool false, .string ⟨#[]⟩, .bool nB, .slice xB lB cB, .bool mB, .slice yB kB dB] 32)) := ⟨w6.heap.size, nB, xB, lB, cB, mB, yB, kB, dB, rfl, newAt _ _, CI.next hOh.out hal, bthen hb6h.out hal⟩
            exact ⟨rfl, hT⟩)
  case rest =>
   obtain ⟨rfl, hk⟩ := hcut
   obtain ⟨pB, nB, xB, lB, cB, mB, yB, kB, dB, rfl, qB', hB', kk⟩ := hk.out
   have qB : Hid (wc.heap[pB]? = _) := qB'
   have hB : Hid (CI wc (.agg #[.int .i64 3, .bool false, .string ⟨#[]⟩, .bool nB, .slice xB lB cB, .bool mB, .slice yB kB dB]) 5 15) := hB'
   replace hA : Hid (CI wc (.agg #[.int .i64 3, .bool false, .string ⟨#[]⟩, .bool nA, .slice xA lA cA, .bool mA, .slice yA kA dA]) 16 7) := CI.next hA.out kk
   replace qA : Hid _ := keep_heap kk qA.out
   replace zz : Hid _ := bthen zz.out kk
   clear hk qB' hB' kk hdh hda hlt hne a0 a1 a2 a3 a4 a5 a6
   have kC : Hid (Calls Tryz.prog 17 #[.string ⟨#[60]⟩, .agg #[.int .i64 3, .bool false, .string ⟨#[]⟩, .bool nB, .slice xB lB cB, .bool mB, .slice yB kB dB], .agg #[.int .i64 3, .bool false, .string ⟨#[]⟩, .bool nA, .slice xA lA cA, .bool mA, .slice yA kA dA]] wc fun e w' => e = .returned (.tuple #[.bool true, .bool true]) ∧ Below wc.heap.size wc w') := by
     obtain ⟨n, d, ⟨_, _, _, _, _, _, _, _, ev, hF⟩, hy⟩ := hB.out
     obtain ⟨n', d', ⟨_, _, _, _, _, _, _, _, ew, hG⟩, hz⟩ := (CI.more (m' := 15) hA.out (by decide))
     cases ev
     cases ew
     exact (Compare_raw ⟨#[60]⟩ (fun o => decide (o < 0)) (by decide) hF hG hy hz (fun o X => judge_lt o X)).mono fun e w' ⟨he, hb⟩ => ⟨he.trans (by rfl), hb⟩
   obtain ⟨⟨a0, a1, a2, a3, a4, a5, a6⟩, _, _⟩ := cells7 qA.out
   obtain ⟨⟨b0, b1, b2, b3, b4, b5, b6⟩, _, _⟩ := cells7 qB.out
   go_wp2_with fail
   refine Calls.mono kC.out ?_
   clear kC a0 a1 a2 a3 a4 a5 a6 b0 b1 b2 b3 b4 b5 b6
   rintro e w3 ⟨rfl, b3⟩
   go_wp2_with fail
   refine Calls.mono (whole_any 300 _ (by decide) (by decide)) ?_
   rintro e w4 ⟨t4, rfl, hD, b4⟩
   go_wp2_with fail
   refine Calls.mono (Fits_above hD (by decide) (by decide) (by decide)) ?_
   rintro e w5 ⟨he, b5⟩
   unfold cNone at he
   subst he
   obtain ⟨W2, hW2⟩ : ∃ W2, W2 = w5.alloc (.cells #[.int .i64 0, .bool false, .string ⟨#[]⟩, .bool false, .slice none 0 0, .bool false, .slice none 0 0] 32) := ⟨_, rfl⟩
   have k : Below w5.heap.size w5 W2 := by rw [hW2]; exact (Below.refl _ _).alloc (Nat.le_refl _) _
   have qD : Hid (W2.heap[w5.heap.size]? = some (.cells #[.int .i64 0, .bool false, .string ⟨#[]⟩, .bool false, .slice none 0 0, .bool false, .slice none 0 0] 32 (0, 0))) := by show _ = _; rw [hW2]; exact newAt _ _
   have kk := bthen b3 (bthen b4 (bthen b5 k))
   replace hA : Hid (CI W2 (.agg #[.int .i64 3, .bool false, .string ⟨#[]⟩, .bool nA, .slice xA lA cA, .bool mA, .slice yA kA dA]) 16 7) := CI.next hA.out kk
   replace qA : Hid _ := keep_heap kk qA.out
   replace hB : Hid (CI W2 (.agg #[.int .i64 3, .bool false, .string ⟨#[]⟩, .bool nB, .slice xB lB cB, .bool mB, .slice yB kB dB]) 5 15) := CI.next hB.out kk
   replace qB : Hid _ := keep_heap kk qB.out
   replace zz : Hid _ := bthen zz.out kk
   go_upto_region 5 with fail
   rw [← hW2]
   clear hW2 k kk b3 b4 b5 hD
   generalize w5.heap.size = pD at *
   go_wp2_with fail
   refine Calls.mono (whole_any 200 _ (by decide) (by decide)) ?_
   rintro e w6 ⟨t6, rfl, hE0, b6⟩
   go_wp2_with fail
   refine Calls.mono (Convert_yes hE0 (by decide) (by decide) (by decide)) ?_
   rintro e w7 ⟨t7, rfl, hE, b7⟩
   obtain ⟨nE, xE, lE, cE, mE, yE, kE, dE, rfl⟩ := hE.form
   obtain ⟨W3, hW3⟩ : ∃ W3, W3 = w7.alloc (.cells #[.int .i64 3, .bool false, .string ⟨#[]⟩, .bool nE, .slice xE lE cE, .bool mE, .slice yE kE dE] 32) := ⟨_, rfl⟩
   have k : Below w7.heap.size w7 W3 := by rw [hW3]; exact (Below.refl _ _).alloc (Nat.le_refl _) _
   have qE : Hid (W3.heap[w7.heap.size]? = some (.cells #[.int .i64 3, .bool false, .string ⟨#[]⟩, .bool nE, .slice xE lE cE, .bool mE, .slice yE kE dE] 32 (0, 0))) := by show _ = _; rw [hW3]; exact newAt _ _
   have kk := bthen b6 (bthen b7 k)
   replace hE : Hid (CI W3 (.agg #[.int .i64 3, .bool false, .string ⟨#[]⟩, .bool nE, .slice xE lE cE, .bool mE, .slice yE kE dE]) 200 (6 + 7)) := CI.next hE k
   replace hA : Hid (CI W3 (.agg #[.int .i64 3, .bool false, .string ⟨#[]⟩, .bool nA, .slice xA lA cA, .bool mA, .slice yA kA dA]) 16 7) := CI.next hA.out kk
   replace qA : Hid _ := keep_heap kk qA.out
   replace hB : Hid (CI W3 (.agg #[.int .i64 3, .bool false, .string ⟨#[]⟩, .bool nB, .slice xB lB cB, .bool mB, .slice yB kB dB]) 5 15) := CI.next hB.out kk
   replace qB : Hid _ := keep_heap kk qB.out
   replace qD : Hid _ := keep_heap kk qD.out
   replace zz : Hid _ := bthen zz.out kk
   obtain ⟨⟨e0, e1, e2, e3, e4, e5, e6⟩, _, _⟩ := cells7 qE.out
   go_upto_region 6 with fail
   rw [← hW3]
   clear hW3 k kk b6 b7 hE0
   generalize w7.heap.size = pE at *
   go_wp2_with fail
   refine Calls.mono (Unary_neg hE.out (by decide)) ?_
   clear e0 e1 e2 e3 e4 e5 e6
   rintro e w8 ⟨t8, rfl, hF, b8⟩
   obtain ⟨nF, xF, lF, cF, mF, yF, kF, dF, rfl⟩ := hF.form
   obtain ⟨W4, hW4⟩ : ∃ W4, W4 = w8.alloc (.cells #[.int .i64 3, .bool false, .string ⟨#[]⟩, .bool nF, .slice xF lF cF, .bool mF, .slice yF kF dF] 32) := ⟨_, rfl⟩
   have k : Below w8.heap.size w8 W4 := by rw [hW4]; exact (Below.refl _ _).alloc (Nat.le_refl _) _
   have qF : Hid (W4.heap[w8.heap.size]? = some (.cells #[.int .i64 3, .bool false, .string ⟨#[]⟩, .bool nF, .slice xF lF cF, .bool mF, .slice yF kF dF] 32 (0, 0))) := by show _ = _; rw [hW4]; exact newAt _ _
   have kk := bthen b8 k
   replace hF : Hid (CI W4 (.agg #[.int .i64 3, .bool false, .string ⟨#[]⟩, .bool nF, .slice xF lF cF, .bool mF, .slice yF kF dF]) (-200) (2 * (6 + 7) + 7)) := CI.next hF k
   replace hA : Hid (CI W4 (.agg #[.int .i64 3, .bool false, .string ⟨#[]⟩, .bool nA, .slice xA lA cA, .bool mA, .slice yA kA dA]) 16 7) := CI.next hA.out kk
   replace qA : Hid _ := keep_heap kk qA.out
   replace hB : Hid (CI W4 (.agg #[.int .i64 3, .bool false, .string ⟨#[]⟩, .bool nB, .slice xB lB cB, .bool mB, .slice yB kB dB]) 5 15) := CI.next hB.out kk
   replace qB : Hid _ := keep_heap kk qB.out
   replace qD : Hid _ := keep_heap kk qD.out
   replace zz : Hid _ := bthen zz.out kk
   go_upto_region 7 with fail
   rw [← hW4]
   clear hW4 k kk b8 hE qE
   generalize w8.heap.size = pF at *
   refine wp_region_typed (VBeg (.agg #[.int .i64 3, .bool false, .string ⟨#[]⟩, .bool nA, .slice xA lA cA, .bool mA, .slice yA kA dA]) (.agg #[.int .i64 3, .bool false, .string ⟨#[]⟩, .bool nB, .slice xB lB cB, .bool mB, .slice yB kB dB]) (.agg #[.int .i64 3, .bool false, .string ⟨#[]⟩, .bool nF, .slice xF lF cF, .bool mF, .slice yF kF dF]) pA pB pD pF) [1, 2, 3, 4, 5, 6, 7, 8, 10, 11, 12] 85 (by kernel_rfl) (by kernel_rfl) rfl (VBeg_next _ _ _ _ _ _ _) ?hstart ?hstep ?hend
   case hstart =>
    intro t ht
    simp only [List.mem_cons, List.not_mem_nil, or_false] at ht
    rcases ht with rfl | rfl | rfl | rfl | rfl | rfl | rfl | rfl | rfl | rfl | rfl <;> rfl
   case hstep =>
    refine steps_cons ?s0 (steps_cons ?s1 (steps_cons ?s2 (steps_cons ?s3 (steps_cons ?s4 (steps_cons ?s5 (steps_cons ?s6 (steps_cons ?s7 (steps_cons ?s8 (steps_cons ?s9 (steps_cons ?s10 (steps_cons ?s11 (steps_cons ?s12 (steps_cons ?s13 (steps_cons ?s14 (steps_cons ?s15 (steps_cons ?s16 (steps_cons ?s17 (steps_cons ?s18 (steps_cons ?s19 (steps_cons ?s20 (steps_cons ?s21 (steps_cons ?s22 (steps_cons ?s23 (steps_cons ?s24 (steps_cons ?s25 (steps_cons ?s26 (steps_cons ?s27 (steps_cons ?s28 (steps_cons ?s29 (steps_cons ?s30 (steps_cons ?s31 (steps_cons ?s32 (steps_cons ?s33 (steps_cons ?s34 (steps_cons ?s35 (steps_cons ?s36 (steps_cons ?s37 (steps_cons ?s38 (steps_cons ?s39 (steps_cons ?s40 steps_nil))))))))))))))))))))))))))))))))))))))))
    case s0 => exact step_move 2 45 rfl rfl (guard_none rfl) (by kernel_rfl) (fun v w h => h)
    case s1 => exact step_move 45 46 rfl rfl (guard_none rfl) (by kernel_rfl) (fun v w h => h)
    case s2 => exact step_move 4 47 rfl rfl (guard_open 1 46 true rfl (by kernel_rfl) (by kernel_rfl) (fun v w h => h)) (by kernel_rfl) (fun v w h => h)
    case s3 => exact step_pick 46 47 48 (.const (.bool false)) rfl rfl (guard_none rfl) (by kernel_rfl) (by kernel_rfl) (fun v w h => h) (fun v w h => h)
    case s4 => exact step_move 48 49 rfl rfl (guard_none rfl) (by kernel_rfl) (fun v w h => h)
    case s5 => exact StepOk.of (guard_open 4 49 true rfl (by kernel_rfl) (by kernel_rfl) (fun v w h => h)) fun b w' hsz hW hl K hK => ld7 (keep_heap hW qB.out) 3 rfl (look hl 3 (by kernel_rfl)) (hK _ _ (Below.refl _ _) (dst_eq rfl rfl))
    case s6 => exact step_callc 31 (.int .i64 (5)) 51 _ (by kernel_rfl) rfl rfl (guard_open 4 49 true rfl (by kernel_rfl) (by kernel_rfl) (fun v w h => h)) (fun w' hB' => (whole_any (5) w' (by decide) (by decide)).mono fun e w'' ⟨t, h1, h2, h3⟩ => ⟨t, h1, h2, h3⟩)
    case s7 => exact step_call2 21 50 51 52 _ (by kernel_rfl) rfl rfl (guard_open 4 49 true rfl (by kernel_rfl) (by kernel_rfl) (fun v w h => h)) (by kernel_rfl) (by kernel_rfl) (fun u v w' hB' hu hv => by have hu : u = .agg #[.int .i64 3, .bool false, .string ⟨#[]⟩, .bool nB, .slice xB lB cB, .bool mB, .slice yB kB dB] := hu; subst hu; exact (Eq_int (CI.next hB.out hB') (CI.more (m' := 15) (show CI w' v (5) 6 from hv) (by decide)) (by decide)).mono fun e w'' h => ⟨_, h.1, rfl, h.2⟩)
    case s8 => exact step_pick 49 52 53 (.const (.bool false)) rfl rfl (guard_none rfl) (by kernel_rfl) (by kernel_rfl) (fun v w h => h) (fun v w h => h)
    case s9 => exact step_move 53 54 rfl rfl (guard_none rfl) (by kernel_rfl) (fun v w h => h)
    case s10 => exact step_move 6 55 rfl rfl (guard_open 9 54 true rfl (by kernel_rfl) (by kernel_rfl) (fun v w h => h)) (by kernel_rfl) (fun v w h => h)
    case s11 => exact step_pick 54 55 56 (.const (.bool false)) rfl rfl (guard_none rfl) (by kernel_rfl) (by kernel_rfl) (fun v w h => h) (fun v w h => h)
    case s12 => exact step_move 56 57 rfl rfl (guard_none rfl) (by kernel_rfl) (fun v w h => h)
    case s13 => exact step_move 5 58 rfl rfl (guard_open 12 57 true rfl (by kernel_rfl) (by kernel_rfl) (fun v w h => h)) (by kernel_rfl) (fun v w h => h)
    case s14 => exact step_pick 57 58 59 (.const (.bool false)) rfl rfl (guard_none rfl) (by kernel_rfl) (by kernel_rfl) (fun v w h => h) (fun v w h => h)
    case s15 => exact step_move 59 60 rfl rfl (guard_none rfl) (by kernel_rfl) (fun v w h => h)
    case s16 => exact step_move 8 61 rfl rfl (guard_open 15 60 true rfl (by kernel_rfl) (by kernel_rfl) (fun v w h => h)) (by kernel_rfl) (fun v w h => h)
    case s17 =>
     refine StepOk.of (guard_open 15 60 true rfl (by kernel_rfl) (by kernel_rfl) (fun v w h => h)) fun b w' hsz hW hl K hK => ?_
     clear hsz
     unfold Oper.wp
     have e61 : b.tmps[61]?.getD undef = .bool false := getD' (look hl 61 (by kernel_rfl))
     go_simp
     exact hK _ _ (Below.refl _ _) (dst_eq rfl (by first | rfl | decide))
    case s18 => exact step_pick 60 62 63 (.const (.bool false)) rfl rfl (guard_none rfl) (by kernel_rfl) (by kernel_rfl) (fun v w h => h) (fun v w h => h)
    case s19 => exact step_move 63 64 rfl rfl (guard_none rfl) (by kernel_rfl) (fun v w h => h)
    case s20 =>
     refine StepOk.of (guard_open 19 64 true rfl (by kernel_rfl) (by kernel_rfl) (fun v w h => h)) fun b w' hsz hW hl K hK => ?_
     clear hsz
     unfold Oper.wp
     have e7 : b.tmps[7]?.getD undef = .pointer (some ⟨pD, 0, none⟩) := getD' (look hl 7 (by kernel_rfl))
     go_simp
     exact hK _ _ (Below.refl _ _) (dst_eq rfl (by first | rfl | decide))
    case s21 =>
     refine StepOk.of (guard_open 19 64 true rfl (by kernel_rfl) (by kernel_rfl) (fun v w h => h)) fun b w' hsz hW hl K hK => ?_
     clear hsz
     unfold Oper.wp
     have e65 : b.tmps[65]?.getD undef = .pointer (some ⟨pD, 0, none⟩) := getD' (look hl 65 (by kernel_rfl))
     obtain ⟨⟨g0, g1, g2, g3, g4, g5, g6⟩, _, _⟩ := cells7 (keep_heap hW qD.out)
     go_simp
     exact hK _ _ (Below.refl _ _) (dst_eq rfl rfl)
    case s22 =>
     refine StepOk.of (guard_open 19 64 true rfl (by kernel_rfl) (by kernel_rfl) (fun v w h => h)) fun b w' hsz hW hl K hK => ?_
     clear hsz
     unfold Oper.wp
     have e66 : b.tmps[66]?.getD undef = .int .i64 0 := getD' (look hl 66 (by kernel_rfl))
     go_simp
     exact hK _ _ (Below.refl _ _) (dst_eq rfl (by first | rfl | decide))
    case s23 => exact step_pick 64 67 68 (.const (.bool false)) rfl rfl (guard_none rfl) (by kernel_rfl) (by kernel_rfl) (fun v w h => h) (fun v w h => h)
    case s24 => exact step_move 68 69 rfl rfl (guard_none rfl) (by kernel_rfl) (fun v w h => h)
    case s25 => exact step_move 10 70 rfl rfl (guard_open 24 69 true rfl (by kernel_rfl) (by kernel_rfl) (fun v w h => h)) (by kernel_rfl) (fun v w h => h)
    case s26 => exact step_pick 69 70 71 (.const (.bool false)) rfl rfl (guard_none rfl) (by kernel_rfl) (by kernel_rfl) (fun v w h => h) (fun v w h => h)
    case s27 => exact step_move 71 72 rfl rfl (guard_none rfl) (by kernel_rfl) (fun v w h => h)
    case s28 => exact step_move 12 73 rfl rfl (guard_open 27 72 true rfl (by kernel_rfl) (by kernel_rfl) (fun v w h => h)) (by kernel_rfl) (fun v w h => h)
    case s29 => exact step_pick 72 73 74 (.const (.bool false)) rfl rfl (guard_none rfl) (by kernel_rfl) (by kernel_rfl) (fun v w h => h) (fun v w h => h)
    case s30 => exact step_move 74 75 rfl rfl (guard_none rfl) (by kernel_rfl) (fun v w h => h)
    case s31 => exact StepOk.of (guard_open 30 75 true rfl (by kernel_rfl) (by kernel_rfl) (fun v w h => h)) fun b w' hsz hW hl K hK => ld7 (keep_heap hW qF.out) 11 rfl (look hl 11 (by kernel_rfl)) (hK _ _ (Below.refl _ _) (dst_eq rfl rfl))
    case s32 => exact step_callc 31 (.int .i64 (-200)) 77 _ (by kernel_rfl) rfl rfl (guard_open 30 75 true rfl (by kernel_rfl) (by kernel_rfl) (fun v w h => h)) (fun w' hB' => (whole_any (-200) w' (by decide) (by decide)).mono fun e w'' ⟨t, h1, h2, h3⟩ => ⟨t, h1, h2, h3⟩)
    case s33 => exact step_call2 21 76 77 78 _ (by kernel_rfl) rfl rfl (guard_open 30 75 true rfl (by kernel_rfl) (by kernel_rfl) (fun v w h => h)) (by kernel_rfl) (by kernel_rfl) (fun u v w' hB' hu hv => by have hu : u = .agg #[.int .i64 3, .bool false, .string ⟨#[]⟩, .bool nF, .slice xF lF cF, .bool mF, .slice yF kF dF] := hu; subst hu; exact (Eq_int (CI.next hF.out hB') (CI.more (m' := 33) (show CI w' v (-200) 6 from hv) (by decide)) (by decide)).mono fun e w'' h => ⟨_, h.1, rfl, h.2⟩)
    case s34 => exact step_pick 75 78 79 (.const (.bool false)) rfl rfl (guard_none rfl) (by kernel_rfl) (by kernel_rfl) (fun v w h => h) (fun v w h => h)
    case s35 => exact step_move 79 80 rfl rfl (guard_none rfl) (by kernel_rfl) (fun v w h => h)
    case s36 => exact StepOk.of (guard_open 35 80 true rfl (by kernel_rfl) (by kernel_rfl) (fun v w h => h)) fun b w' hsz hW hl K hK => ld7 (keep_heap hW qA.out) 1 rfl (look hl 1 (by kernel_rfl)) (hK _ _ (Below.refl _ _) (dst_eq rfl rfl))
    case s37 => exact step_call1 27 81 82 _ (by kernel_rfl) rfl rfl (guard_open 35 80 true rfl (by kernel_rfl) (by kernel_rfl) (fun v w h => h)) (by kernel_rfl) (fun v w' hB' hv => by have hv : v = .agg #[.int .i64 3, .bool false, .string ⟨#[]⟩, .bool nA, .slice xA lA cA, .bool mA, .slice yA kA dA] := hv; subst hv; exact (Default_int (CI.next hA.out hB') (by decide)).mono fun e w'' h => ⟨_, h.1, rfl, h.2⟩)
    case s38 =>
     refine StepOk.of (guard_open 35 80 true rfl (by kernel_rfl) (by kernel_rfl) (fun v w h => h)) fun b w' hsz hW hl K hK => ?_
     clear hsz
     unfold Oper.wp
     have e82 : b.tmps[82]?.getD undef = .string ⟨#[105, 110, 116]⟩ := getD' (look hl 82 (by kernel_rfl))
     go_simp
     exact hK _ _ (Below.refl _ _) (dst_eq rfl (by first | rfl | decide))
    case s39 => exact step_pick 80 83 84 (.const (.bool false)) rfl rfl (guard_none rfl) (by kernel_rfl) (by kernel_rfl) (fun v w h => h) (fun v w h => h)
    case s40 => exact step_assign 84 0 rfl rfl (guard_none rfl) (by kernel_rfl) (fun v w h => h)
   case hend =>
    intro b w' hs hd hW hv
    have h0 : b.tmps.getD 0 undef = .bool true := hv 0 (.inr ⟨40, _, rfl, rfl⟩)
    rw [Array.getD_eq_getD_getElem?] at h0
    go_wp2
    exact bodyPost_ret (v := .bool true) (by simp [results, Tryz.results9, go_sem, h0]) hd ⟨rfl, bthen zz.out hW⟩
end Go.Proofs.YtclokcoimdjaeaaGreatDoor
