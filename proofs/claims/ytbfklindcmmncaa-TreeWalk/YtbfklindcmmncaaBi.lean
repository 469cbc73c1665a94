/- clone: the walk. -/
import Derived.Test.YtbfklindcmmncaaBh
namespace Go.Proofs.Ytbfklindcmmncaa
open Go.RowKit Go.Shelf
attribute [local go_sem ↓] Go.wp_at_zero Go.wp_at_succ
theorem info22 : (Try.prog.info? 22).map (fun i => (i.zero, i.size, i.bytes)) = some (some (.slice none 0 0), 1, 24) := by kernel_rfl
theorem cl_start {P0 : Nat → Prop} {w W : World} {n : NC} {t : Tr} (hP : ∀ b, P0 b → b < w.heap.size) (ht : TrV w P0 n.val t) (hW : W = (((w.alloc (.cells #[.int .i64 n.k, .int .i64 n.a, .string n.s, .slice n.x n.l n.c] 24)).alloc (.cells #[.int .i64 0, .int .i64 0, .string ⟨#[]⟩, .slice none 0 0] 24)).alloc (.cells #[.int .i64 n.k, .int .i64 n.a, .string n.s, .slice n.x n.l n.c] 24)).alloc (.cells #[.slice (some ⟨w.heap.size + 2, 0, none⟩) 1 1] 22)) :
    Cl P0 w.heap.size w (w.heap.size + 3) 1 [(.slice (some ⟨w.heap.size + 2, 0, none⟩) 1 1, [t])] [(.slice (some ⟨w.heap.size + 2, 0, none⟩) 1 1, [t])] W := by
  have hb : Below w.heap.size w W := by rw [hW]; exact ((((Below.refl _ w).alloc (Nat.le_refl _) _).alloc (by simp) _).alloc (by simp; omega) _).alloc (by simp; omega) _
  have hs : W.heap.size = w.heap.size + 4 := by rw [hW]; simp
  have h3 : W.heap[w.heap.size + 3]? = some (.cells #[.slice (some ⟨w.heap.size + 2, 0, none⟩) 1 1] 22 (0, 0)) := by
    rw [hW]
    have := new_at (((w.alloc (.cells #[.int .i64 n.k, .int .i64 n.a, .string n.s, .slice n.x n.l n.c] 24)).alloc (.cells #[.int .i64 0, .int .i64 0, .string ⟨#[]⟩, .slice none 0 0] 24)).alloc (.cells #[.int .i64 n.k, .int .i64 n.a, .string n.s, .slice n.x n.l n.c] 24)) (.cells #[.slice (some ⟨w.heap.size + 2, 0, none⟩) 1 1] 22)
    rw [World.size_alloc, World.size_alloc, World.size_alloc] at this
    exact this
  have h2 : W.heap[w.heap.size + 2]? = some (.cells #[.int .i64 n.k, .int .i64 n.a, .string n.s, .slice n.x n.l n.c] 24 (0, 0)) := by
    rw [hW, Below.heap_alloc _ _ _ (by simp)]
    have := new_at ((w.alloc (.cells #[.int .i64 n.k, .int .i64 n.a, .string n.s, .slice n.x n.l n.c] 24)).alloc (.cells #[.int .i64 0, .int .i64 0, .string ⟨#[]⟩, .slice none 0 0] 24)) (.cells #[.int .i64 n.k, .int .i64 n.a, .string n.s, .slice n.x n.l n.c] 24)
    rw [World.size_alloc, World.size_alloc] at this
    exact this
  have h1 : BoxN W (w.heap.size + 1) := by
    refine ⟨⟨0, 0, ⟨#[]⟩, none, 0, 0⟩, ?_⟩
    rw [hW, Below.heap_alloc _ _ _ (by simp), Below.heap_alloc _ _ _ (by simp)]
    have := new_at (w.alloc (.cells #[.int .i64 n.k, .int .i64 n.a, .string n.s, .slice n.x n.l n.c] 24)) (.cells #[.int .i64 0, .int .i64 0, .string ⟨#[]⟩, .slice none 0 0] 24)
    rw [World.size_alloc] at this
    exact this
  have hO : W.ownsRow (w.heap.size + 2) 24 4 (.slice (some ⟨w.heap.size + 2, 0, none⟩) 1 1) 1 (flatN [n]) := ⟨rfl, .inr ⟨_, 1, _, rfl, Nat.le_refl _, h2, Nat.le_refl _, by decide, rfl, by rw [flatN_one]; rfl⟩⟩
  have hE : Ent (PB P0 w.heap.size (w.heap.size + 3) (w.heap.size + 1) W) W (w.heap.size + 2) (.slice (some ⟨w.heap.size + 2, 0, none⟩) 1 1) [t] := by
    refine own_ent (ns := [n]) hO ⟨TrV.same (fun p u hp hc => by rw [World.cell?_of_block (hb.block _ (hP _ hp))]; exact hc) (fun b hb' => ⟨.inl hb', by have := hP b hb'; omega, by have := hP b hb'; omega, by have := hP b hb'; omega⟩) ht, trivial⟩ (fun g hg => ?_)
    have : w.heap.size + 2 = g := by simpa [Value.ownBlock] using hg
    subst this
    exact ⟨.inr (by omega), by omega, by omega, by omega⟩
  refine ⟨⟨rfl, .inr ⟨_, 1, _, rfl, by omega, h3, Nat.le_refl _, by decide, rfl, rfl⟩⟩, fun e he => ?_, hb, h1⟩
  simp at he
  subst he
  exact hE
set_option maxRecDepth 100000 in
set_option maxHeartbeats 4000000 in
theorem clone_any (P0 : Nat → Prop) (t : Tr) (w : World) (n : NC) (hP : ∀ b, P0 b → b < w.heap.size) (ht : TrV w P0 n.val t) (hts : t.size ≤ 1000) : Calls Try.prog 23 #[n.val] w fun e w' => ∃ v' : NC, e = .returned v'.val ∧ TrV w' (fun b => (P0 b ∨ w.heap.size ≤ b) ∧ b < w'.heap.size) v'.val t ∧ Below w.heap.size w w' := by
  have hst := cl_start (W := _) hP ht rfl
  obtain ⟨i0, hi, hz0, hz1, hz2⟩ := info_parts info22
  have hm : maxLen ≤ 9223372036854775807 := by decide
  have hm2 : 5000 ≤ maxLen := by decide
  rw [show #[n.val] = #[Value.agg #[.int .i64 n.k, .int .i64 n.a, .string n.s, .slice n.x n.l n.c]] from rfl]
  go_enter Try.func23, Try.ntmps23
  go_wp2
  go_loopg [4] (t.size + 1) (fun tot vo wr => ∃ es go co, vo = .slice (some ⟨go, 0, none⟩) es.length co ∧ Hid (Cl P0 w.heap.size w go co es [(.slice (some ⟨w.heap.size + 2, 0, none⟩) 1 1, [t])] wr) ∧ total es = tot ∧ total es ≤ 1001)
  case atStart => exact ⟨_, _, _, rfl, hst, by show (t.size + 0 + 1) + 0 = _; omega, by show (t.size + 0 + 1) + 0 ≤ _; omega⟩
  case round =>
    clear hst
    obtain ⟨es, go, co, rfl, hCl, htot, hle⟩ := hrel
    rcases List.eq_nil_or_concat es with rfl | ⟨es, e, rfl⟩
    · have hE := hCl.out.ent (.slice (some ⟨w.heap.size + 2, 0, none⟩) 1 1, [t]) (by simp)
      have hB := hCl.out.bel
      obtain ⟨q6, hq6⟩ := hCl.out.res
      obtain ⟨o0, o1, o2, o3, of⟩ := BoxN.cells hq6
      have of0 := of 0
      have of1 := of 1
      have of2 := of 2
      have of3 := of 3
      obtain ⟨g1, c1, cur1, e1, _, _, _, _, hK⟩ : ∃ g1 c1 cur1, Value.slice (some ⟨w.heap.size + 2, 0, none⟩) 1 1 = .slice (some ⟨g1, 0, none⟩) 1 c1 ∧ w.heap.size + 2 ≤ g1 ∧ 1 ≤ c1 ∧ c1 ≤ maxLen ∧ wr.heap[g1]? = some (Obj.cells cur1 24 (0, 0)) ∧ KidsAt wr (PB P0 w.heap.size go (w.heap.size + 1) wr) (some ⟨g1, 0, none⟩) 0 [t] := by
        rcases hE with ⟨h1, _⟩ | h1
        · cases h1
        · exact h1
      cases e1
      unfold KidsAt at hK
      obtain ⟨⟨ad, z1, z2, z3, z4, z5, z6, ea, _, k0, k1, k2, k3, hT5⟩, _⟩ := hK
      cases ea
      have j0 : wr.cell? ⟨w.heap.size + 1 + 1, 0, none⟩ = some (.int .i64 z1) := k0
      have j1 : wr.cell? ⟨w.heap.size + 1 + 1, 1, none⟩ = some (.int .i64 z2) := k1
      have j2 : wr.cell? ⟨w.heap.size + 1 + 1, 2, none⟩ = some (.string z3) := k2
      have j3 : wr.cell? ⟨w.heap.size + 1 + 1, 3, none⟩ = some (.slice z4 z5 z6) := k3
      obtain ⟨W8, hW8⟩ : ∃ W8, W8 = (((wr.setCell ⟨w.heap.size + 1, 0, none⟩ (.int .i64 z1)).setCell ⟨w.heap.size + 1, 1, none⟩ (.int .i64 z2)).setCell ⟨w.heap.size + 1, 2, none⟩ (.string z3)).setCell ⟨w.heap.size + 1, 3, none⟩ (.slice z4 z5 z6) := ⟨_, rfl⟩
      have same : ∀ b, b ≠ w.heap.size + 1 → W8.heap[b]? = wr.heap[b]? := fun b hb => by
        rw [hW8, Below.heap_setCell _ _ _ _ hb, Below.heap_setCell _ _ _ _ hb, Below.heap_setCell _ _ _ _ hb, Below.heap_setCell _ _ _ _ hb]
      have hsz8 : W8.heap.size = wr.heap.size := by rw [hW8]; simp
      have hw1 : w.heap.size ≤ w.heap.size + 1 := by omega
      have hB8 : Below w.heap.size w W8 := by rw [hW8]; exact (((hB.setCell hw1 _).setCell hw1 _).setCell hw1 _).setCell hw1 _
      have hfin : Hid (TrV W8 (fun b => (P0 b ∨ w.heap.size ≤ b) ∧ b < W8.heap.size) (.agg #[.int .i64 z1, .int .i64 z2, .string z3, .slice z4 z5 z6]) t) := TrV.same (fun p u hp hc => by rw [World.cell?_of_block (same p.block hp.2.2.2)]; exact hc) (fun b hb => ⟨hb.1, by rw [hsz8]; exact hb.2.1⟩) hT5
      have l0 : W8.cell? ⟨w.heap.size + 1, 0, none⟩ = some (.int .i64 z1) := by rw [hW8]; simp [go_sem, o0]
      have l1 : W8.cell? ⟨w.heap.size + 1, 1, none⟩ = some (.int .i64 z2) := by rw [hW8]; simp [go_sem, o1]
      have l2 : W8.cell? ⟨w.heap.size + 1, 2, none⟩ = some (.string z3) := by rw [hW8]; simp [go_sem, o2]
      have l3 : W8.cell? ⟨w.heap.size + 1, 3, none⟩ = some (.slice z4 z5 z6) := by rw [hW8]; simp [go_sem, o3]
      clear hCl hE hT5 hq6 of k0 k1 k2 k3 htot
      go_wp2
      rw [← hW8]
      exact bodyPost_ret (v := .agg #[.int .i64 z1, .int .i64 z2, .string z3, .slice z4 z5 z6]) (by simp [results, Try.results23, go_sem, l0, l1, l2, l3]) rfl ⟨⟨z1, z2, z3, z4, z5, z6⟩, rfl, hfin.out, hB8⟩
    · rw [List.concat_eq_append] at hCl htot hle ⊢
      obtain ⟨hC, hcap, hcm, hcell⟩ := hCl.out.pop
      rw [total_app, total_one] at htot hle
      obtain ⟨ev, ts⟩ := e
      obtain ⟨y, c, hev, hlc, hcm2, _⟩ := Ent.form (hC.ent (ev, ts) (by simp))
      dsimp only at hev hlc hcell htot hle
      subst hev
      have hlt := len_total es
      have hls := len_sizes ts
      have hlen : (es ++ [(Value.slice y ts.length c, ts)]).length = es.length + 1 := by simp
      rw [hlen]
      obtain ⟨T0, hT0⟩ : ∃ T0, T0 = total es := ⟨_, rfl⟩
      have hT0h : Hid (T0 = total es) := hT0
      have htoth : Hid (T0 + (sizes ts + 1) = gk) := by rw [hT0]; exact htot
      have hleh : Hid (T0 + (sizes ts + 1) ≤ 1001) := by rw [hT0]; exact hle
      have hN1 : (es.length : Int) < 1001 := by omega
      have hTN : (ts.length : Int) < 1001 := by omega
      have hw1 : IntKind.i64.wrap (((es.length + 1 : Nat) : Int) - 1) = (es.length : Int) := by rw [IntKind.wrap_i64]; omega
      have hw1' : IntKind.i64.wrap ((es.length : Int) + 1 - 1) = (es.length : Int) := by rw [IntKind.wrap_i64]; omega
      have hCh : Hid (Cl P0 w.heap.size w go co es [(.slice y ts.length c, ts), (.slice (some ⟨w.heap.size + 2, 0, none⟩) 1 1, [t])] wr) := hC
      clear hC hCl htot hT0 hle
      go_wp2
      go_loopw [4, 27] (fun vo iv wx => ∃ (i : Nat) (es1 : List (Value × List Tr)) (go1 co1 : Nat), i ≤ ts.length ∧ iv = .int .i64 i ∧ vo = .slice (some ⟨go1, 0, none⟩) es1.length co1 ∧ Hid (Cl P0 w.heap.size w go1 co1 es1 [(.slice y ts.length c, ts), (.slice (some ⟨w.heap.size + 2, 0, none⟩) 1 1, [t])] wx) ∧ Hid (total es1 = T0 + sizes (ts.take i))) (fun vo iv _ => ts.length - (intOf iv).toNat)
      case atStart => exact ⟨0, es, go, co, Nat.zero_le _, rfl, rfl, hCh, by show total es = T0 + sizes []; rw [hT0h.out]; rfl⟩
      case round =>
        clear hCh hcell
        obtain ⟨i, es1, go1, co1, hil, rfl, rfl, hC1, hTt⟩ := hrel
        by_cases hi1 : i < ts.length
        · obtain ⟨g, cur, nn, rfl, hbg, hgc, hc3, hT⟩ := Ent.at (hC1.out.ent (.slice y ts.length c, ts) (by simp)) hi1
          have hszi := size_kid hi1
          have htk : Hid (total es1 + (ts[i]'hi1).size = T0 + sizes (ts.take (i + 1))) := by show _ = _; rw [sizes_take hi1, hTt.out]; omega
          have htl : sizes (ts.take i) ≤ sizes ts := by
            have h2 := sizes_app (ts.take i) (ts.drop i)
            rw [List.take_append_drop] at h2
            omega
          have hlt1 : es1.length ≤ 1001 := by have := len_total es1; have := hTt.out; have := hleh.out; omega
          generalize ts[i]'hi1 = ti at *
          obtain ⟨tk, ta, tS, ks⟩ := ti
          have hks : sizes ks ≤ 1000 := by have h1 : 1 + sizes ks ≤ sizes ts := hszi; have := hleh.out; omega
          have hgl := hC1.out.glt
          have hzw := hC1.out.bel.size
          have hrl := hC1.out.res.lt
          have kC : Hid (Calls Try.prog 30 #[.slice nn.x nn.l nn.c] wr _) := Clone_ent wr nn ks tk ta tS hT hks (by omega) hgl.2 hrl
          have hgf : wr.frozen? ⟨g, i * 4 + 3, none⟩ = false := by simp [World.frozen?, hgc]
          have hgw := (Array.getElem?_eq_some_iff.1 hgc).1
          have d1 : decide ((i : Int) < (ts.length : Int)) = true := decide_eq_true (by omega)
          have i1 : (i : Int) < (ts.length : Int) := by omega
          have hwi : IntKind.i64.wrap ((i : Int) + 1) = ((i + 1 : Nat) : Int) := by rw [IntKind.wrap_i64]; omega
          clear hT
          go_upto_region 11 with (go_at_call 30; refine Calls.mono kC.out ?_; rintro e w4 ⟨v', rfl, hb4, hE4, hK4, hnl⟩; clear kC; obtain ⟨y', c', rfl, hlc', hcm', hKy⟩ := Ent.form hE4; have hc4 : w4.cell? ⟨g, i * 4 + 3, none⟩ = some (.slice nn.x nn.l nn.c) := (World.cell?_of_block (a := ⟨g, i * 4 + 3, none⟩) (hb4.block g hgw)).trans hc3; have hf4 : w4.frozen? ⟨g, i * 4 + 3, none⟩ = false := (World.frozen?_of_block (a := ⟨g, i * 4 + 3, none⟩) (hb4.block g hgw)).trans hgf)
          have hC4 := ((hC1.out.next hb4).add (e := (.slice y' ks.length c', ks)) (hE4.same (by omega) (fun _ _ => rfl) (fun _ h => h) (fun g cur h => ⟨cur, h⟩))).store ((hb4.block g hgw).trans hgc) hbg hc4 hK4 hKy hnl (by omega) hcm'
          have hc5 : (w4.setCell ⟨g, i * 4 + 3, none⟩ (.slice y' nn.l c')).cell? ⟨g, i * 4 + 3, none⟩ = some (.slice y' nn.l c') := World.cell?_setCell_same' _ _ _ (by rw [hc4]; rfl)
          have hs5 : (w4.setCell ⟨g, i * 4 + 3, none⟩ (.slice y' nn.l c')).heap.size = w4.heap.size := by simp
          rw [hnl] at hC4 hc5 hs5
          clear hC1 hc3 hgf hc4 hf4 hK4 hKy hE4 hgc
          generalize w4.setCell ⟨g, i * 4 + 3, none⟩ (.slice y' ks.length c') = W5 at *
          have hrow := hC4.row
          have hgl5 := hC4.glt
          have hnew := new_at W5 (.cells #[.slice y' ks.length c'] 22)
          have hmore := fun w1 go' co' => Cl.push (w1 := w1) (go' := go') (co' := co') (tmp := .cells #[.slice y' ks.length c'] 22) hC4 (e := (.slice y' ks.length c', ks)) (by simp)
          clear hC4 hs5
          dsimp only at hmore
          go_wp2_with (at_builtin; refine wpList_append_lies _ rfl _ _ 70 rfl (w.heap.size + 2) 22 i0 _ 1 24 Try.underlying70 hi hz0 hz1 hz2 rfl (by decide) _ _ _ rfl (hrow.alloc _) ⟨W5.heap.size, 0, none⟩ 1 1 [.slice y' ks.length c'] rfl rfl (World.news_of_block hnew) (by intro u hu; rw [List.mem_singleton.1 hu]; rfl) (by decide) (by omega) (by omega) (by simp; omega) _ rfl ?_; intro g' c1 w6 hO6 hg6 hat6 hlt6)
          have hC6 := (hmore w6 g' c1 hO6 hg6 (by rcases hat6 with h | h; exact .inl h.symm; exact .inr (by rw [h]))).drop' 
          go_roundw
          case rel => exact ⟨i + 1, _, g', c1, by omega, by go_num, by simp, hC6, by show total (es1 ++ _) = _; rw [total_app, total_one, ← htk.out]; show _ + (sizes ks + 1) = _ + (1 + sizes ks); omega⟩
          case measure => simp [intOf]; omega
        · obtain rfl : i = ts.length := by omega
          have d1 : decide ((ts.length : Int) < (ts.length : Int)) = false := decide_eq_false (by omega)
          have hCf : Hid (Cl P0 w.heap.size w go1 co1 es1 [(.slice (some ⟨w.heap.size + 2, 0, none⟩) 1 1, [t])] wr) := hC1.out.drop
          have htf : Hid (total es1 < gk ∧ total es1 ≤ 1001) := by
            have h1 := hTt.out
            rw [List.take_length] at h1
            have := htoth.out
            have := hleh.out
            exact ⟨by omega, by omega⟩
          clear hC1 hTt
          go_wp2
          go_roundg (total es1)
          case measure => exact htf.out.1
          case rel => exact ⟨es1, go1, co1, rfl, hCf, rfl, htf.out.2⟩
end Go.Proofs.Ytbfklindcmmncaa
