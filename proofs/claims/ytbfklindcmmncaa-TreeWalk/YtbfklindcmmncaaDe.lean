/- Walk at a visitor that is told what comes next. -/
import Derived.Test.YtbfklindcmmncaaBk
namespace Go.Proofs.Ytbfklindcmmncaa
open Go.RowKit Go.Shelf
attribute [local go_sem ↓] Go.wp_at_zero Go.wp_at_succ
set_option maxRecDepth 100000 in
set_option maxHeartbeats 4000000 in
theorem Walk9_next (q0 q1 q2 q3 : Nat) (CV : Nat → Prop) (ans : Nat → Bool) (J : List (Nat × Nat × Tr) → World → Prop) (P0 : Nat → Prop) (t : Tr) (w : World) (v : NC) (hP : ∀ b, P0 b → b < w.heap.size ∧ ¬ CV b) (hCV : ∀ b, CV b → b < w.heap.size) (ht : TrV w P0 v.val t) (hts : t.size ≤ 999)
    (hJ : ∀ vs W W', J vs W → w.heap.size ≤ W.heap.size → Still w.heap.size (fun _ => CV) W W' → J vs W')
    (hV : ∀ (vs : List (Nat × Nat × Tr)) (i d : Nat) (x : NC) (t' : Tr) (W : World), (∃ rest, (vs ++ [(i, d, t')]) ++ rest = walkV ans 0 none (pre0 0 t)) → J vs W → w.heap.size ≤ W.heap.size → i < 1000 → d < 1000 → t'.size ≤ 1000 → TrV W (fun b => b < W.heap.size ∧ ¬ CV b) (NC.val x) t' → Calls Try.prog 9 #[.int .i64 (i : Int), .int .i64 (d : Int), .agg #[.int .i64 x.k, .int .i64 x.a, .string x.s, .slice x.x x.l x.c], .pointer (some ⟨q0, 0, none⟩), .pointer (some ⟨q1, 0, none⟩), .pointer (some ⟨q2, 0, none⟩), .pointer (some ⟨q3, 0, none⟩)] W fun e W' => e = .returned (.bool (ans i)) ∧ J (vs ++ [(i, d, t')]) W' ∧ Rnd (fun _ => CV) W W') (h0 : J [] w) :
    Calls Try.prog 8 #[v.val, .func (.func 9) #[] #[.pointer (some ⟨q0, 0, none⟩), .pointer (some ⟨q1, 0, none⟩), .pointer (some ⟨q2, 0, none⟩), .pointer (some ⟨q3, 0, none⟩)]] w fun e w' => (∃ u, e = .returned u) ∧ J (walkV ans 0 none (pre0 0 t)) w' ∧ Rnd (fun _ => CV) w w' := by
  obtain ⟨Wa, hWa⟩ : ∃ Wa, Wa = w.alloc (.cells #[.int .i64 v.k, .int .i64 v.a, .string v.s, .slice v.x v.l v.c] 24) := ⟨_, rfl⟩
  have hba : Below w.heap.size w Wa := by rw [hWa]; exact (Below.refl _ w).alloc (Nat.le_refl _) _
  have hsa : Wa.heap.size = w.heap.size + 1 := by rw [hWa]; simp
  obtain ⟨q0', q1', q2', q3', _⟩ := BoxN.cells (w := Wa) (b := w.heap.size) (n := v) (by rw [hWa]; exact new_at _ _)
  have kS : Hid (Calls Try.prog 19 #[.agg #[.int .i64 v.k, .int .i64 v.a, .string v.s, .slice v.x v.l v.c]] Wa _) := snapshot_any P0 t Wa v (fun b hb => by have := hP b hb; omega) (TrV.same (fun p u hp hc => by rw [World.cell?_of_block (hba.block _ (hP _ hp).1)]; exact hc) (fun _ h => h) ht) (by omega)
  have hfn : ∀ w, Sem.run Try.prog (binOp BinOp.eql 35 (.func (.func 9) #[] #[.pointer (some ⟨q0, 0, none⟩), .pointer (some ⟨q1, 0, none⟩), .pointer (some ⟨q2, 0, none⟩), .pointer (some ⟨q3, 0, none⟩)]) Value.nilFunc) w = .ok (.bool false) w := fun w => by kernel_rfl
  have hm : maxLen ≤ 9223372036854775807 := by decide
  rw [show #[v.val, .func (.func 9) #[] #[.pointer (some ⟨q0, 0, none⟩), .pointer (some ⟨q1, 0, none⟩), .pointer (some ⟨q2, 0, none⟩), .pointer (some ⟨q3, 0, none⟩)]] = #[Value.agg #[.int .i64 v.k, .int .i64 v.a, .string v.s, .slice v.x v.l v.c], .func (.func 9) #[] #[.pointer (some ⟨q0, 0, none⟩), .pointer (some ⟨q1, 0, none⟩), .pointer (some ⟨q2, 0, none⟩), .pointer (some ⟨q3, 0, none⟩)]] from rfl]
  obtain ⟨VS, hVS⟩ : ∃ VS, VS = walkV ans 0 none (pre0 0 t) := ⟨_, rfl⟩
  rw [← hVS] at hV ⊢
  go_enter Try.func8, Try.ntmps8
  go_upto_region 1 with fail
  rw [← hWa]
  clear hWa
  go_wp2_with (go_at_call 19; refine Calls.mono kS.out ?_; rintro e wb ⟨vr, xs, rfl, hxs, hO, hrd, hbb⟩; clear kS; have hxlh : Hid (xs.length = t.size) := (by have := congrArg List.length hxs; rw [pre0_len, List.length_map] at this; exact this); obtain ⟨mm, hmm⟩ : ∃ mm, xs.length = mm + 1 := ⟨xs.length - 1, by have := size_pos t; have := hxlh.out; omega⟩; obtain ⟨g, cap, rfl⟩ : ∃ g cap, vr = .slice (some ⟨g, 0, none⟩) xs.length cap := (by rw [hmm] at hO; obtain ⟨g, cap, e⟩ := ownsRow_succ hO; exact ⟨g, cap, by rw [hmm]; exact e⟩); clear hmm)
  have hgl := hO.lt g rfl
  have hbb' := hbb.size
  have hR0 : Rnd (fun _ => CV) w wb := (Rnd.of_below hba).trans (Rnd.of_below (hbb.mono (Nat.le_refl _)))
  have hJb : J [] wb := hJ [] w wb h0 (Nat.le_refl _) ⟨hR0.os, hR0.tape, hR0.output, hR0.size, fun b hb _ => (hbb.block b (by omega)).trans (hba.block b hb)⟩
  have hVSh : Hid (VS = walkV ans 0 none (xs.map XN.key)) := by show VS = _; rw [hxs]; exact hVS
  have hdx : Hid (∀ x ∈ xs, x.d < 1000 ∧ x.t.size ≤ 1000) := fun x hx => by
    have hm : x.key ∈ pre0 0 t := by rw [← hxs]; exact List.mem_map_of_mem hx
    have h1 := mem_maxD hm
    have h2 := maxD_le t 0
    have h3 := mem_size0 t 0 _ hm
    have h4 : x.d ≤ maxD (pre0 0 t) := h1
    have h5 : x.t.size ≤ t.size := h3
    exact ⟨by omega, by omega⟩
  have hrdh : Hid (∀ x ∈ xs, TrV wb (fun b => b < wb.heap.size ∧ ¬ CV b) x.n.val x.t) := fun x hx => TrV.same (fun _ _ _ h => h) (fun b hb => ⟨hb.2.1, fun hc => by rcases hb.1 with h | h; exact (hP b h).2 hc; have := hCV b hc; omega⟩) (hrd x hx)
  have hgCV : Hid (¬ CV g) := fun hc => by have := hCV g hc; omega
  clear hVS hxs hrd hbb
  go_loopw [4, 12] (fun rv iv wr => ∃ (i : Nat) (r : Option Nat) (vs : List (Nat × Nat × Tr)), i ≤ xs.length ∧ iv = .int .i64 i ∧ rv = .int .i64 (reachI r) ∧ Hid (∀ q, r = some q → q < 1000) ∧ Hid (vs ++ walkV ans i r ((xs.drop i).map XN.key) = VS) ∧ J vs wr ∧ Rnd (fun _ => CV) wb wr) (fun rv iv _ => xs.length - (intOf iv).toNat)
  case atStart => exact ⟨0, none, [], Nat.zero_le _, rfl, rfl, (fun q e => by cases e), hVSh.out.symm, hJb, Rnd.refl _ _⟩
  case round =>
    clear hVSh hJb
    obtain ⟨i, r, vs, hi, rfl, rfl, hr1, hvs, hJr, hRr⟩ := hrel
    have hws : w.heap.size ≤ wr.heap.size := by have := hR0.size; have := hRr.size; omega
    by_cases hlt : i < xs.length
    · obtain ⟨x, hx⟩ : ∃ x, xs[i]? = some x := ⟨_, List.getElem?_eq_getElem hlt⟩
      have hxm : x ∈ xs := List.mem_of_getElem? hx
      obtain ⟨hxd, hxt⟩ := hdx.out x hxm
      have hOr := own_at hO (hRr.block g hgl.2 hgCV.out)
      obtain ⟨c0, c1, c2, c3, c4⟩ := row5 hOr hx
      have hdrop : (xs.drop i).map XN.key = (x.d, x.t) :: (xs.drop (i + 1)).map XN.key := by
        rw [List.drop_eq_getElem_cons hlt, List.map_cons]
        have : xs[i] = x := by rw [List.getElem?_eq_getElem hlt] at hx; exact Option.some.inj hx
        rw [this]
        rfl
      have hvs2 := hvs.out
      rw [hdrop] at hvs2
      have d1 : decide ((i : Int) < (xs.length : Int)) = true := decide_eq_true (by omega)
      have i1 : (i : Int) < (xs.length : Int) := by omega
      have hil : Hid (i < 1000) := (by have := hxlh.out; show i < 1000; omega)
      have hwi : IntKind.i64.wrap ((i : Int) + 1) = ((i + 1 : Nat) : Int) := by rw [IntKind.wrap_i64]; have := hil.out; omega
      have hnew := new_at wr (.cells #[.int .i64 x.n.k, .int .i64 x.n.a, .string x.n.s, .slice x.n.x x.n.l x.n.c, .int .i64 (x.d : Int)] 43)
      have hbe : Below wr.heap.size wr (wr.alloc (.cells #[.int .i64 x.n.k, .int .i64 x.n.a, .string x.n.s, .slice x.n.x x.n.l x.n.c, .int .i64 (x.d : Int)] 43)) := (Below.refl _ _).alloc (Nat.le_refl _) _
      have hJ2 := hJ vs wr _ hJr hws (Still.of_below hbe)
      have hR2 := hRr.trans (Rnd.of_below hbe)
      have hTx : Hid _ := hrdh.out x hxm
      have hpCV : Hid (¬ CV wr.heap.size) := fun hc => by have := hCV _ hc; omega
      by_cases hsk : skips r x.d = true
      · have d2 : decide ((x.d : Int) > reachI r) = true := by
          cases r with
          | none => cases hsk
          | some q => exact decide_eq_true (by have := of_decide_eq_true hsk; show (q : Int) < x.d; omega)
        have d2' : reachI r < (x.d : Int) := of_decide_eq_true d2
        have hfin : Hid (vs ++ walkV ans (i + 1) r ((xs.drop (i + 1)).map XN.key) = VS) := by
          show _ = _
          rw [← hvs2]
          congr 1
          rw [walkV, if_pos hsk]
        clear hvs2 hvs hdrop hsk d2 hnew hJr
        go_wp2
        go_roundw
        case rel => exact ⟨i + 1, r, vs, by omega, by go_num, rfl, hr1, hfin, hJ2, hR2⟩
        case measure => simp [intOf]; omega
      · have d2 : decide ((x.d : Int) > reachI r) = false := by
          refine decide_eq_false (fun h => ?_)
          cases r with
          | none => have : (9223372036854775807 : Int) < x.d := h; omega
          | some q => exact hsk (decide_eq_true (by have : (q : Int) < x.d := h; omega))
        have d2' : (x.d : Int) ≤ reachI r := by have := of_decide_eq_false d2; omega
        have hfin : ∀ b, ans i = b → Hid ((vs ++ [(i, x.d, x.t)]) ++ walkV ans (i + 1) (if b then none else some x.d) ((xs.drop (i + 1)).map XN.key) = VS) := fun b hb => by
          show _ = _
          rw [← hvs2, List.append_assoc]
          congr 1
          rw [walkV, if_neg hsk, hb]
          rfl
        have hpn := (hnew)
        have p0 := (cell_of_row _ wr.heap.size 0 _ _ _ hnew).trans rfl
        have hkV : Hid (Calls Try.prog 9 _ _ _) := hV vs i x.d x.n x.t _ ⟨_, (hfin (ans i) rfl).out⟩ hJ2 (by simp; omega) hil.out hxd hxt (TrV.same (fun p u hp hc => by rw [World.cell?_of_block (hR2.block _ hp.1 hp.2)]; exact hc) (fun b hb => ⟨Nat.lt_of_lt_of_le hb.1 hR2.size, hb.2⟩) hTx.out)
        clear hvs2 hvs hdrop hsk d2 hJr p0 hpn
        have hlt2 : wr.heap.size < (wr.alloc (.cells #[.int .i64 x.n.k, .int .i64 x.n.a, .string x.n.s, .slice x.n.x x.n.l x.n.c, .int .i64 (x.d : Int)] 43)).heap.size := by simp
        cases hb : ans i with
        | true =>
          have hf := hfin true hb
          rw [hb] at hkV
          clear hfin hb
          go_wp2_with (go_at_call 9; refine Calls.mono hkV.out ?_; rintro e W3 ⟨rfl, hJ3, hR3⟩; clear hkV)
          go_roundw
          case rel => exact ⟨i + 1, none, vs ++ [(i, x.d, x.t)], by omega, by go_num, rfl, (fun q e => by cases e), hf, hJ3, hR2.trans hR3⟩
          case measure => simp [intOf]; omega
        | false =>
          have hf := hfin false hb
          rw [hb] at hkV
          clear hfin hb
          go_wp2_with (go_at_call 9; refine Calls.mono hkV.out ?_; rintro e W3 ⟨rfl, hJ3, hR3⟩; clear hkV; have hp3 := (cell_of_row _ wr.heap.size 4 _ _ _ ((hR3.block _ hlt2 hpCV.out).trans hnew)).trans rfl)
          go_roundw
          case rel => exact ⟨i + 1, some x.d, vs ++ [(i, x.d, x.t)], by omega, by go_num, rfl, (fun q e => by cases e; exact hxd), hf, hJ3, hR2.trans hR3⟩
          case measure => simp [intOf]; omega
    · obtain rfl : i = xs.length := by omega
      have d1 : decide ((xs.length : Int) < (xs.length : Int)) = false := decide_eq_false (by omega)
      have hvf : vs = VS := by have := hvs.out; rw [List.drop_length] at this; simpa [walkV] using this
      subst hvf
      clear hvs
      have hRf := hR0.trans hRr
      go_wp2
      go_end0
      exact ⟨⟨_, rfl⟩, hJr, hRf⟩
end Go.Proofs.Ytbfklindcmmncaa
