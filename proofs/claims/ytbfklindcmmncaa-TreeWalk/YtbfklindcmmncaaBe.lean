/- a tree gone over in order: the iterator. -/
import Derived.Test.YtbfklindcmmncaaBd
namespace Go.Proofs.Ytbfklindcmmncaa
open Go.RowKit Go.Shelf
attribute [local go_sem] Oper.semAt_some
theorem info43 : (Try.prog.info? 43).map (fun i => (i.zero, i.size, i.bytes)) = some (some (.agg #[.int .i64 0, .int .i64 0, .string ⟨#[]⟩, .slice none 0 0, .int .i64 0]), 5, 64) := by kernel_rfl
theorem in_start {C : World → Nat → Prop} {J : List XN → World → Prop} {N : Nat → Prop} {B : Nat} {W1 W : World} {t : Tr} {n0 : NC} (hS : Side B C J) (hB : W1.heap.size = B) (hj : J [] W1) (ht : TrV W1 N n0.val t) (hts : t.size ≤ 1000) (hW : W = (W1.alloc (.cells #[.int .i64 n0.k, .int .i64 n0.a, .string n0.s, .slice n0.x n0.l n0.c, .int .i64 0] 43)).alloc (.cells #[.slice (some ⟨W1.heap.size, 0, none⟩) 1 1] 40)) :
    InAt C J N B (W1.heap.size + 1) W1 t W1.heap.size 1 [⟨0, n0, t⟩] [] [] W := by
  have hb : Below W1.heap.size W1 W := by rw [hW]; exact ((Below.refl _ _).alloc (Nat.le_refl _) _).alloc (by simp) _
  obtain ⟨k1, k2⟩ := hS.keep [] W1 W hj ⟨hb.os, hb.tape, hb.output, hb.size, fun b hb' _ => hb.block b hb'⟩
  have hlt : ∀ b, C W b → b < W1.heap.size := fun b hc => hS.lt [] W1 b hj (k2 b hc)
  have h1 : Boxed W (W1.heap.size + 1) 40 (.slice (some ⟨W1.heap.size, 0, none⟩) 1 1) := by
    have := Boxed.new (W1.alloc (.cells #[.int .i64 n0.k, .int .i64 n0.a, .string n0.s, .slice n0.x n0.l n0.c, .int .i64 0] 43)) 40 (.slice (some ⟨W1.heap.size, 0, none⟩) 1 1)
    rw [World.size_alloc] at this
    rw [hW]; exact this
  have h2 : W.heap[W1.heap.size]? = some (.cells #[.int .i64 n0.k, .int .i64 n0.a, .string n0.s, .slice n0.x n0.l n0.c, .int .i64 0] 43 (0, 0)) := by
    rw [hW, Below.heap_alloc _ _ _ (by simp)]; exact new_at _ _
  refine ⟨h1, ⟨rfl, .inr ⟨_, 1, _, rfl, by omega, h2, Nat.le_refl _, by decide, rfl, rfl⟩⟩, k1, ⟨hb.os, hb.tape, hb.output, hb.size, fun b hb' _ => hb.block b hb', fun b hb' => .inl (k2 b hb')⟩, fun hc => by have := hlt _ hc; omega, fun hc => by have := hlt _ hc; omega, ?_, ?_, ?_, ?_, List.nodup_nil, fun D hD => by cases hD⟩
  · intro x hx; rw [List.mem_singleton.1 hx]; exact ht
  · intro x hx; rw [List.mem_singleton.1 hx]; show 0 + t.size ≤ 1000; omega
  · show todo [_] = _; unfold todo; simp
  · rw [wgt_one]; exact hts
set_option maxRecDepth 100000 in
set_option maxHeartbeats 4000000 in
theorem inOrder1_in {C : World → Nat → Prop} {J : List XN → World → Prop} {N : Nat → Prop} (l nb B : Nat) (W1 : World) (n0 : NC) (t : Tr) (hB : W1.heap.size = B) (hS : Side B C J) (hN : ∀ b, N b → b < B ∧ ¬ C W1 b) (hnb : W1.heap[nb]? = some (.cells #[.int .i64 n0.k, .int .i64 n0.a, .string n0.s, .slice n0.x n0.l n0.c] 24 (0, 0))) (ht : TrV W1 N n0.val t) (hts : t.size ≤ 1000)
    (hY : ∀ ys x W, J ys W → TrV W1 N x.n.val x.t → ys.length < t.size → YieldAt Fw 0 Try.prog l #[.int .i64 (x.d : Int), x.n.val] W fun e W' => e = .returned (.bool true) ∧ J (ys ++ [x]) W' ∧ Rnd C W W') (h0 : J [] W1) :
    CallsIn Fw 0 Try.prog 24 #[.func (.yield l) #[] #[], .pointer (some ⟨nb, 0, none⟩)] W1 fun e W' => (∃ v, e = .returned v) ∧ ∃ ys, ys.map XN.key = pre0 0 t ∧ J ys W' ∧ Rnd C W1 W' := by
  subst hB
  have hnbl : nb < W1.heap.size := (Array.getElem?_eq_some_iff.1 hnb).1
  obtain ⟨p0, p1, p2, p3, pf⟩ := BoxN.cells (n := n0) hnb
  obtain ⟨i0, hi, hz0, hz1, hz2⟩ := info_parts info43
  have hst := in_start (W := _) hS rfl h0 ht hts rfl
  refine callsIn_of_wp_marks Try.func24 rfl trivial ?_ rfl
  simp only [Try.ntmps24, List.size_toArray, List.length_cons, List.length_nil, Nat.reduceAdd, Nat.reduceSub, Array.replicate_succ, Array.replicate_zero, List.push_toArray, List.append_toArray, List.nil_append, List.cons_append]
  gi_wp2
  obtain ⟨ob, hob⟩ : ∃ ob, ob = W1.heap.size + 1 := ⟨_, rfl⟩
  rw [← hob] at hst ⊢
  have hBo : W1.heap.size ≤ ob := by omega
  clear p0 p1 p2 p3 pf hob
  refine wpIn_loop_g (fun m a' W => ∃ (st ys : List XN) (g cap : Nat) (Ds : List Nat), m = wgt st ∧ InAt C J N W1.heap.size ob W1 t g cap st ys Ds W ∧ ∃ u2 u4 u5 u6 u7 u8 u9 u10 u11 u12 u13 u14 u15 u16 u17 u18 u19 u20 u21 u22 u23 u24 u25 u26 u27 u28 u29 u30 u31 u32 u33 u34 u35 u36 u37 u38 u39 u40 u41 u42 u43 u44 : Value, a' = { tmps := #[.func (.yield l) #[] #[], .pointer (some ⟨nb, 0, none⟩), u2, .pointer (some ⟨ob, 0, none⟩), u4, u5, u6, u7, u8, u9, u10, u11, u12, u13, u14, u15, u16, u17, u18, u19, u20, u21, u22, u23, u24, u25, u26, u27, u28, u29, u30, u31, u32, u33, u34, u35, u36, u37, u38, u39, u40, u41, u42, u43, u44], defers := Ds.map mark }) t.size ?atStart ?round
  case atStart =>
    exact ⟨[⟨0, n0, t⟩], [], W1.heap.size, 1, [], (wgt_one ⟨0, n0, t⟩).symm, hst, _, _, _, _, _, _, _, _, _, _, _, _, _, _, _, _, _, _, _, _, _, _, _, _, _, _, _, _, _, _, _, _, _, _, _, _, _, _, _, _, _, _, rfl⟩
  case round =>
    clear hst hnb h0 ht
    rintro m a' W ⟨st, ys, g, cap, Ds, rfl, hI, u2, u4, u5, u6, u7, u8, u9, u10, u11, u12, u13, u14, u15, u16, u17, u18, u19, u20, u21, u22, u23, u24, u25, u26, u27, u28, u29, u30, u31, u32, u33, u34, u35, u36, u37, u38, u39, u40, u41, u42, u43, u44, rfl⟩
    rcases List.eq_nil_or_concat st with rfl | ⟨st, x, rfl⟩
    · have hc := hI.box.cell
      rw [List.length_nil] at hc
      gi_wp2
      refine leaves_marks Ds W hI.nd (fun D h => (hI.ds D h).1) ?_
      refine ⟨_, results_none rfl _ _ _, ⟨_, rfl⟩, ys, ?_, ?_⟩
      · have := hI.ord
        simpa [todo] using this
      · obtain ⟨r1, r2, r3⟩ := shut_rest Ds W
        have hs := shut_size Ds W
        have ho : ∀ b, (b < W1.heap.size ∨ C W b) → (shut Ds W).heap[b]? = W.heap[b]? := fun b hb => shut_other Ds W b (fun hm => by
          obtain ⟨_, h2, h3⟩ := hI.ds b hm
          rcases hb with hb | hb
          · omega
          · exact h2 hb)
        obtain ⟨k1, k2⟩ := hS.keep ys W (shut Ds W) hI.j ⟨r1, r2, r3, by omega, fun b _ hb => ho b hb⟩
        have := hI.rnd.size
        exact ⟨k1, r1.trans hI.rnd.os, r2.trans hI.rnd.tape, r3.trans hI.rnd.output, by omega, fun b hb hc => (ho b (.inl (by omega))).trans (hI.rnd.block b hb hc), fun b hb => hI.rnd.own b (k2 b hb)⟩
    · rw [List.concat_eq_append] at hI
      have hP := in_pop hS hBo rfl hI
      have hrow := hI.row
      have hc := hI.box.cell
      have hbf := hI.box.frozen
      simp only [List.map_append, List.length_append, List.map_cons, List.map_nil, List.length_cons, List.length_nil, Nat.zero_add] at hrow hc
      obtain ⟨c0, c1, c2, c3, c4⟩ := last5 (n := x.n) (d := x.d) hrow (by simp)
      obtain ⟨_, hcap, hcm⟩ := own5_take (p := x.pn) hrow (by simp)
      have hdx := hI.dep x (by simp)
      have hwx := hI.wg
      have hordx := hI.ord
      rw [wgt_app, wgt_one] at hwx
      rw [todo_app] at hordx
      have hlst := len_wgt st
      have hys : ys.length < t.size := by
        have h1 := congrArg List.length hordx
        rw [pre0_len, List.length_append, List.length_append, List.length_map] at h1
        have h2 : (todo [x]).length = x.t.size := by unfold todo; simp [pre0_len]
        have := size_pos x.t
        omega
      have hYx := hY ys x _ hP.j (hI.rd x (by simp)) hys
      have hgl := (hrow.lt g rfl).2
      have hm : maxLen ≤ 9223372036854775807 := by decide
      have hN1 : (st.length : Int) < 1000 := by have := size_pos x.t; omega
      have hw1 : IntKind.i64.wrap (((st.length + 1 : Nat) : Int) - 1) = (st.length : Int) := by rw [IntKind.wrap_i64]; omega
      have hw1' : IntKind.i64.wrap ((st.length : Int) + 1 - 1) = (st.length : Int) := by rw [IntKind.wrap_i64]; omega
      have hrdx := hI.rd x (by simp)
      have hord2 : Hid (ys.map XN.key ++ (todo [x] ++ todo st) = pre0 0 t) := hordx
      have hrds : Hid (∀ y ∈ st, TrV W1 N y.n.val y.t ∧ y.d + y.t.size ≤ 1000) := fun y hy => ⟨hI.rd y (by simp [hy]), hI.dep y (by simp [hy])⟩
      have hnd := hI.nd
      have hoW := hI.box.lt
      have hrnd := hI.rnd.size
      clear hordx hI hrow
      obtain ⟨W2, hW2⟩ : ∃ W2, W2 = (W.setCell ⟨ob, 0, none⟩ (.slice (some ⟨g, 0, none⟩) st.length cap)).alloc (.cells #[.int .i64 x.n.k, .int .i64 x.n.a, .string x.n.s, .slice x.n.x x.n.l x.n.c, .int .i64 (x.d : Int)] 43) := ⟨_, rfl⟩
      gi_upto_region 5 with fail
      rw [← hW2] at hP hYx ⊢
      clear hW2
      obtain ⟨pb, hpb⟩ : ∃ pb, pb = W.heap.size := ⟨_, rfl⟩
      rw [← hpb] at hP ⊢
      clear hpb
      obtain ⟨fn, tmps, assign, body, hy, hRd⟩ := hYx
      dsimp only [NC.val] at hy
      have q := cell_of_row W2 pb
      have hpx := hP.pbx
      have q0 := (q 0 _ _ _ hpx).trans rfl
      have q1 := (q 1 _ _ _ hpx).trans rfl
      have q2 := (q 2 _ _ _ hpx).trans rfl
      have q3 := (q 3 _ _ _ hpx).trans rfl
      have q4 := (q 4 _ _ _ hpx).trans rfl
      clear q hpx c0 c1 c2 c3 c4
      gi_wp2
      refine ⟨rfl, hRd.mono ?_⟩
      rintro e W3 ⟨rfl, hJ3, hR3⟩
      have hP3 := hP.round hJ3 hR3
      clear hP q0 q1 q2 q3 q4 hRd hy
      have q := cell_of_row W3 pb
      have hpx := hP3.pbx
      have q3 := (q 3 _ _ _ hpx).trans rfl
      clear q hpx
      obtain ⟨ks, ns, hxt, hxl, hRds, hRow, hxN, hlc, hcm2⟩ := trv_kids hrdx
      have hxtH : Hid (∃ k a s, x.t = .node k a s ks) := hxt
      clear hxt
      have hq3 := q3
      rw [hxl] at hq3
      clear q3
      gi_wp2
      refine ⟨trivial, rfl, (Backward_in 0 _ _ _ _).mono ?_⟩
      rintro e w' ⟨rfl, rfl⟩
      have hP4 := Pop.next hS hP3 ((Below.refl W3.heap.size W3).alloc (Nat.le_refl _) (.cells #[.slice x.n.x ns.length x.n.c] 22))
      have hs4 : (W3.alloc (.cells #[.slice x.n.x ns.length x.n.c] 22)).heap.size = W3.heap.size + 1 := by simp
      have hb4 := Boxed.new W3 22 (.slice x.n.x ns.length x.n.c)
      have hgl3 := hP3.glt
      have hol3 := hP3.box.lt
      have hC3 : ∀ b, C (W3.alloc (.cells #[.slice x.n.x ns.length x.n.c] 22)) b → b < W3.heap.size := fun b hb => hS.lt _ W3 b hP3.j ((hS.keep _ W3 (W3.alloc (.cells #[.slice x.n.x ns.length x.n.c] 22)) hP3.j ⟨rfl, rfl, rfl, by simp, fun b hb _ => Below.heap_alloc _ _ _ hb⟩).2 b hb)
      generalize W3.alloc (.cells #[.slice x.n.x ns.length x.n.c] 22) = W4 at *
      gi_wp2
      refine range_side (w := W4) (gf := 31) (lb := #[.pointer (some ⟨W3.heap.size, 0, none⟩)]) rfl (enters_of Try.func31 (by kernel_rfl) rfl) (encs := fun y : Int × NC => #[.int .i64 y.1, y.2.val]) (fun _ => rfl) (C2 C ob) (fun pre W => In2 C J W1.heap.size ob W4 g (st.map XN.pn) (x.d + 1) (ys ++ [x]) pre W) (fun _ => True) (fun xs => xs.map (·.2) = ns.reverse) ns.length
        (fun _ _ _ h hc => In2.apart (fun b hb => by have := hC3 b hb; omega) (by omega) (by omega) h hc) (fun _ _ _ h hs => In2.keep hS (by have := hP4.rnd.size; omega) h hs) (In2.start hP4 _)
        (fun y a' W => ∃ (kb : Nat) (v0 v1 v2 v4 v6 v8 v9 v10 v11 v12 v13 v14 v15 v16 v17 v18 v19 v20 v21 v22 v23 v24 v25 v26 v27 v28 v29 v30 v31 v32 v33 v34 v35 v36 v37 v38 v39 v40 v41 v42 v43 v44 : Value), W4.heap.size + 2 ≤ kb ∧ W.heap[kb]? = some (.cells #[.int .i64 y.2.k, .int .i64 y.2.a, .string y.2.s, .slice y.2.x y.2.l y.2.c] 24 (0, 0)) ∧ a' = { tmps := #[v0, v1, v2, .pointer (some ⟨ob, 0, none⟩), v4, .pointer (some ⟨pb, 0, none⟩), v6, .pointer (some ⟨kb, 0, none⟩), v8, v9, v10, v11, v12, v13, v14, v15, v16, v17, v18, v19, v20, v21, v22, v23, v24, v25, v26, v27, v28, v29, v30, v31, v32, v33, v34, v35, v36, v37, v38, v39, v40, v41, v42, v43, v44], defers := [] }) ?hAx ?hseq ?hassign ?hbody ?hdone
      case hAx =>
        rintro y a' W r o ⟨kb, v0, v1, v2, v4, v6, v8, v9, v10, v11, v12, v13, v14, v15, v16, v17, v18, v19, v20, v21, v22, v23, v24, v25, v26, v27, v28, v29, v30, v31, v32, v33, v34, v35, v36, v37, v38, v39, v40, v41, v42, v43, v44, hkb, hkc, rfl⟩ hl
        exact ⟨kb, _, _, _, _, _, _, _, _, _, _, _, _, _, _, _, _, _, _, _, _, _, _, _, _, _, _, _, _, _, _, _, _, _, _, _, _, _, _, _, _, _, _, hkb, (World.putObj_heap_other (fun e => by rw [e, hl] at hkc; cases hkc)).trans hkc, rfl⟩
      case hseq =>
        intro W5 J2 hs5 hb5 hSide hC5 hY5 h05
        have nc : ∀ b, b < W4.heap.size → ¬ C W4 b → b ≠ ob → b ≠ g → ¬ Cx (C2 C ob) W4.heap.size W5 b := fun b hb h1 h2 h3 h' => by
          rcases h' with h' | h' | h'
          · exact C2_pop hP4 h1 h2 h3 (hC5 b h')
          · omega
          · omega
        have hNb : ∀ b, N b → b < W4.heap.size ∧ ¬ C W4 b ∧ W4.heap[b]? = W1.heap[b]? := fun b hb => by
          obtain ⟨h1, h2⟩ := hN b hb
          have := hP4.rnd.size
          exact ⟨by omega, fun h => by rcases hP4.rnd.own b h with h3 | h3; exact h2 h3; omega, hP4.rnd.block b h1 h2⟩
        refine Backward_side (C := Cx (C2 C ob) W4.heap.size) (W4.heap.size + 1) W3.heap.size x.n.c x.n.x ns (by omega) hcm2 J2 W5 ?_ ?_ (by omega) (nc _ (by omega) (fun h => by have := hC3 _ h; omega) (by omega) (by omega)) ?_ (fun ys y W hj hl => hY5 ys y W hj trivial hl) h05
        · exact (World.cell?_of_block (a := ⟨W3.heap.size, 0, none⟩) (hb5.block W3.heap.size (by omega))).trans hb4.cell
        · refine hRow.same fun ad e hn => ?_
          obtain ⟨h1, h2, h3⟩ := hNb _ (hxN ad e hn)
          exact (hb5.block _ h1).trans h3
        · intro ad e hn
          obtain ⟨h1, h2, h3⟩ := hNb _ (hxN ad e hn)
          have h4 := (hN _ (hxN ad e hn)).1
          exact ⟨by omega, nc _ h1 h2 (by omega) (by omega)⟩
      case hassign =>
        rintro pre y W K hI2 _ hlen hsz hK
        have hk := In2.keep (W' := W.alloc (.cells #[.int .i64 y.2.k, .int .i64 y.2.a, .string y.2.s, .slice y.2.x y.2.l y.2.c] 24)) hS (by have := hP4.rnd.size; omega) hI2 ⟨rfl, rfl, rfl, by simp, fun b hb _ => Below.heap_alloc _ _ _ hb⟩
        dsimp only [NC.val]
        gi_wp2
        exact hK _ _ ⟨rfl, rfl, rfl, by simp, fun b hb _ => Below.heap_alloc _ _ _ hb, fun b hb => .inl (hk.2 b hb)⟩ hk.1 ⟨W.heap.size, _, _, _, _, _, _, _, _, _, _, _, _, _, _, _, _, _, _, _, _, _, _, _, _, _, _, _, _, _, _, _, _, _, _, _, _, _, _, _, _, _, _, hsz, new_at _ _, rfl⟩
      case hbody =>
        rintro pre y a' W hI2 _ hlen ⟨kb, v0, v1, v2, v4, v6, v8, v9, v10, v11, v12, v13, v14, v15, v16, v17, v18, v19, v20, v21, v22, v23, v24, v25, v26, v27, v28, v29, v30, v31, v32, v33, v34, v35, v36, v37, v38, v39, v40, v41, v42, v43, v44, hkb, hkc, rfl⟩ hsz
        obtain ⟨g1, cap1, hbx, hrow1, hg1⟩ := hI2.ex
        have hpbW : W.heap[pb]? = some _ := (hI2.r.block pb (Array.getElem?_eq_some_iff.1 hP4.pbx).1 (C2_pop hP4 hP4.cpb hP4.pbo hP4.png)).trans hP4.pbx
        have qd := (cell_of_row W pb 4 _ _ _ hpbW).trans rfl
        have k0 := (cell_of_row W kb 0 _ _ _ hkc).trans rfl
        have k1 := (cell_of_row W kb 1 _ _ _ hkc).trans rfl
        have k2 := (cell_of_row W kb 2 _ _ _ hkc).trans rfl
        have k3 := (cell_of_row W kb 3 _ _ _ hkc).trans rfl
        have hc1 := hbx.cell
        have hf1 := hbx.frozen
        have hwd : IntKind.i64.wrap ((x.d : Int) + 1) = (x.d : Int) + 1 := by rw [IntKind.wrap_i64]; have := size_pos x.t; omega
        clear hpbW
        have hlen1 : (st.map XN.pn).length = st.length := by simp
        have hBW : W1.heap.size ≤ W.heap.size := by have := hP4.rnd.size; have := hI2.r.size; omega
        have hnl : ns.length < 1000 := by
          obtain ⟨_, _, _, e⟩ := hxtH.out
          have h1 := Rds.len hRds
          have h2 := len_sizes ks
          rw [e] at hdx
          have h3 : x.d + (1 + sizes ks) ≤ 1000 := hdx
          omega
        have hmx : 2000 ≤ maxLen := by decide
        have hnew := new_at W (.cells #[.int .i64 y.2.k, .int .i64 y.2.a, .string y.2.s, .slice y.2.x y.2.l y.2.c, .int .i64 ((x.d : Int) + 1)] 43)
        have hpc : [Value.int .i64 y.2.k, .int .i64 y.2.a, .string y.2.s, .slice y.2.x y.2.l y.2.c, .int .i64 ((x.d : Int) + 1)] = pcells (y.2, x.d + 1) := by unfold pcells NC.cells; simp
        have hmore := fun w1 g' cap' => In2.more (w1 := w1) (y := y) (g' := g') (cap' := cap') (tmp := .cells #[.int .i64 y.2.k, .int .i64 y.2.a, .string y.2.s, .slice y.2.x y.2.l y.2.c, .int .i64 ((x.d : Int) + 1)] 43) hS (by have := hP4.rnd.size; omega) hBo (by omega) (by omega) hP4.cob hP4.cg (fun b hb => by have := hC3 b hb; omega) hsz hI2 hbx hrow1 hg1
        rw [hlen1] at hbx hrow1 hc1
        simp only [hlen1] at hmore
        rw [← hpc] at hmore
        clear hpc
        gi_wp2_with (gi_at_builtin; refine wpListIn_append_own_at _ rfl _ _ 40 rfl W1.heap.size 43 i0 _ 5 64 Try.underlying40 hi hz0 hz1 hz2 rfl (by decide) _ _ _ rfl (hrow1.alloc _) ⟨W.heap.size, 0, none⟩ 1 1 [.int .i64 y.2.k, .int .i64 y.2.a, .string y.2.s, .slice y.2.x y.2.l y.2.c, .int .i64 ((x.d : Int) + 1)] rfl rfl (World.news_of_block hnew) (by intro u hu; simp only [List.mem_cons, List.not_mem_nil, or_false] at hu; rcases hu with rfl | rfl | rfl | rfl | rfl <;> rfl) (by omega) (by omega) (by simp; omega) ?_; intro v' w1 hown' hgrow hnil hat; obtain ⟨g', cap', rfl⟩ := ownsRow_succ hown'; obtain ⟨a1, a2⟩ := hbx.appended (e := 43) (by decide) hrow1 hBW hBo hown' hgrow; have hc2 := a1.cell; have hf2 := a1.frozen)
        obtain ⟨m1, m2⟩ := hmore _ _ _ hown' hgrow hat
        exact ⟨m2, m1⟩
      case hdone =>
        rintro xs Wd hxs hI2 hK hsz
        obtain ⟨g', cap', hnext, hlt⟩ := in_next hS rfl hBo hP4 hI2 hK hxs hxtH.out hRds hrds.out hdx hord2.out hwx hnd
        gi_wp2
        exact ⟨_, by rw [List.concat_eq_append]; exact hlt, st ++ push (x.d + 1) ns ks, ys ++ [x], g', cap', W4.heap.size :: Ds, rfl, hnext, _, _, _, _, _, _, _, _, _, _, _, _, _, _, _, _, _, _, _, _, _, _, _, _, _, _, _, _, _, _, _, _, _, _, _, _, _, _, _, _, _, _, rfl⟩
end Go.Proofs.Ytbfklindcmmncaa
