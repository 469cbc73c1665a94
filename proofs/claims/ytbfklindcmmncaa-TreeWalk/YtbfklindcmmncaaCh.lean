/- Print: a sum of two short ones. -/
import Derived.Test.YtbfklindcmmncaaCg
import Derived.Deep.LoopGhost
namespace Go.Proofs.Ytbfklindcmmncaa
open Go.RowKit Go.Shelf
attribute [local go_sem ↓] Go.wp_at_zero Go.wp_at_succ
/-- What is still to be printed: a text, a short one, a sum. -/
inductive It
  | str (s : ByteArray)
  | leaf (v : NC)
  | bin (v a b : NC)
def nodeV (v : NC) : Value := .iface 24 (.agg #[.int .i64 v.k, .int .i64 v.a, .string v.s, .slice v.x v.l v.c])
def It.val : It → Value
  | .str s => .iface 9 (.string s)
  | .leaf v => nodeV v
  | .bin v _ _ => nodeV v
def It.txt : It → List UInt8
  | .str s => s.data.toList
  | .leaf v => v.s.data.toList
  | .bin v a b => a.s.data.toList ++ ([32] ++ (v.s.data.toList ++ ([32] ++ b.s.data.toList)))
def It.wgt : It → Nat
  | .str _ => 1
  | .leaf _ => 3
  | .bin _ _ _ => 11
def Leaf (v : NC) : Prop := (v.k = 1 ∨ v.k = 8) ∧ v.l = 0
def It.ok (w : World) : It → Prop
  | .str _ => True
  | .leaf v => Leaf v
  | .bin v a b => v.k = 6 ∧ v.l = 2 ∧ RowAt w v.x [a, b] ∧ (∀ ad, v.x = some ad → ad.block < w.heap.size) ∧ Leaf a ∧ Leaf b
def txts (its : List It) : List UInt8 := its.reverse.flatMap It.txt
def wgts (its : List It) : Nat := (its.map It.wgt).sum
/-- What an item is made of. -/
def It.parts : It → List It
  | .str _ => []
  | .leaf v => [.str v.s]
  | .bin v a b => [.leaf a, .str ⟨#[32]⟩, .str v.s, .str ⟨#[32]⟩, .leaf b]
/-- Between two steps. -/
def PI (w : World) (p : Nat) (TXT : List UInt8) (m : Nat) (W : World) : Prop :=
  ∃ (l : List UInt8) (its : List It) (go co : Nat), m ≤ 400 ∧ Below w.heap.size w W ∧ (∀ i ∈ its, i.ok w) ∧
    ((Pr p w.heap.size (Lib.byteCells l) (its.map It.val) W ∧ l ++ txts its = TXT ∧ wgts its = m) ∨
     ∃ (ps : List It) (g c : Nat), Prx p w.heap.size (Lib.byteCells l) (its.map It.val ++ [.iface 48 (.slice (some ⟨g, 0, none⟩) ps.length c)]) go co W ∧ W.ownsRow w.heap.size 20 1 (.slice (some ⟨g, 0, none⟩) ps.length c) ps.length (ps.map It.val) ∧ g ≠ go ∧ ps.length ≤ 5 ∧ (∀ i ∈ ps, i.ok w) ∧ l ++ (ps.flatMap It.txt ++ txts its) = TXT ∧ wgts its + wgts ps + 1 = m)
theorem wgts_app (xs ys : List It) : wgts (xs ++ ys) = wgts xs + wgts ys := by unfold wgts; rw [List.map_append, List.sum_append]
theorem len_wgts (xs : List It) : xs.length ≤ wgts xs := by
  induction xs with
  | nil => simp
  | cons x xs ih => unfold wgts at *; simp only [List.map_cons, List.sum_cons, List.length_cons]; have : 1 ≤ x.wgt := by cases x <;> simp [It.wgt]
                    omega
theorem txts_app (xs ys : List It) : txts (xs ++ ys) = txts ys ++ txts xs := by unfold txts; rw [List.reverse_append, List.flatMap_append]
theorem val_iface (i : It) : ∃ T u, i.val = .iface T u := by cases i <;> exact ⟨_, _, rfl⟩
theorem byte_str (l : List UInt8) (s : ByteArray) : Lib.byteCells l ++ Lib.strCells s = Lib.byteCells (l ++ s.data.toList) := by
  simp [Lib.byteCells, Lib.strCells]
theorem Pr.prx {p base : Nat} {bs st : List Value} {x : Value} {W : World} (h : Pr p base bs (st ++ [x]) W) : ∃ go co, Prx p base bs (st ++ [x]) go co W := by
  obtain ⟨addr, bv, ov, ind, h1, h2, h3, h4⟩ := h.ex
  have hl : (st ++ [x]).length = st.length + 1 := by simp
  obtain ⟨g, c, rfl⟩ : ∃ g c, ov = .slice (some ⟨g, 0, none⟩) (st ++ [x]).length c := by
    rw [hl] at h4
    obtain ⟨g, c, e⟩ := ownsRow_succ h4
    exact ⟨g, c, by rw [hl]; exact e⟩
  exact ⟨g, c, ⟨addr, bv, ind, h1, h2, h3⟩, h4, h.pB⟩
theorem parts_node {w : World} {i : It} {v : NC} (hi : i = .leaf v ∨ ∃ a b, i = .bin v a b) (hok : i.ok w) : ∃ ns, v.l = ns.length ∧ ns.length ≤ 2 ∧ RowAt w v.x ns ∧ (∀ ad, v.x = some ad → ns ≠ [] → ad.block < w.heap.size) ∧ (v.k = 1 ∨ v.k = 8 ∨ v.k = 6) ∧ partsOf v ns = i.parts.map It.val := by
  rcases hi with rfl | ⟨a, b, rfl⟩
  · obtain ⟨hk, hl⟩ := hok
    refine ⟨[], hl, by decide, fun j hj => by simp at hj, fun _ _ h => absurd rfl h, by omega, ?_⟩
    unfold partsOf
    rw [if_neg (by omega)]
    rfl
  · obtain ⟨hk, hl, hR, hb, _, _⟩ := hok
    refine ⟨[a, b], hl, by simp, hR, fun ad e _ => hb ad e, by omega, ?_⟩
    unfold partsOf
    rw [if_pos hk]
    rfl
theorem step_PI (w : World) (p : Nat) (TXT : List UInt8) (hT : TXT.length ≤ 5000) (m : Nat) (W : World) (h : PI w p TXT m W) (hne : ∀ l, ¬ (m = 0 ∧ l = TXT)) : Calls Try.prog 21 #[.pointer (some ⟨p, 0, none⟩)] W fun e W' => (∃ u, e = .returned u) ∧ ∃ m', m' < m ∧ PI w p TXT m' W' := by
  obtain ⟨l, its, go, co, hlen, hb, hok, h | ⟨ps, g, c, hP, hO, hgo, hp5, hokp, htx, hm⟩⟩ := h
  · obtain ⟨hP, htx, hm⟩ := h
    rcases List.eq_nil_or_concat its with rfl | ⟨its, i, rfl⟩
    · exact absurd ⟨hm.symm, rfl⟩ (hne TXT)
    · rw [List.concat_eq_append] at hP htx hm hok
      rw [List.map_append] at hP
      obtain ⟨go, co, hX⟩ := Pr.prx (x := i.val) hP
      rw [txts_app] at htx
      rw [wgts_app] at hm
      have hlw := len_wgts its
      have hst : (its.map It.val).length ≤ 1000 := by simp; omega
      have hoki := hok i (by simp)
      have hokr : ∀ j ∈ its, j.ok w := fun j hj => hok j (by simp [hj])
      have hll := congrArg List.length htx
      rw [List.length_append, List.length_append] at hll
      have node : ∀ v, (i = .leaf v ∨ ∃ a b, i = .bin v a b) → Calls Try.prog 21 #[.pointer (some ⟨p, 0, none⟩)] W fun e W' => (∃ u, e = .returned u) ∧ ∃ m', m' < m ∧ PI w p TXT m' W' := fun v hi => by
        obtain ⟨ns, h1, h2, h3, h4, h5, h6⟩ := parts_node hi hoki
        have hval : i.val = .iface 24 (.agg #[.int .i64 v.k, .int .i64 v.a, .string v.s, .slice v.x v.l v.c]) := by
          rcases hi with rfl | ⟨a, b, rfl⟩ <;> rfl
        rw [hval] at hX
        refine Calls.mono (step_node p w.heap.size (Lib.byteCells l) (its.map It.val) v ns go co W hX h1 (by omega) (h3.same fun ad e hn => hb.block _ (h4 ad e hn)) h4 h5 hst hb.size) ?_
        rintro e W' ⟨he, ⟨vr, go', co', hX', hO', hne'⟩, hb'⟩
        have hpl : 0 < i.parts.length ∧ i.parts.length ≤ 5 := by rcases hi with rfl | ⟨a, b, rfl⟩ <;> simp [It.parts]
        rw [h6, List.length_map] at hO'
        obtain ⟨g, c, rfl⟩ : ∃ g c, vr = .slice (some ⟨g, 0, none⟩) i.parts.length c := by
          obtain ⟨k, hk⟩ : ∃ k, i.parts.length = k + 1 := ⟨i.parts.length - 1, by omega⟩
          rw [hk] at hO'
          obtain ⟨g, c, e⟩ := ownsRow_succ hO'
          exact ⟨g, c, by rw [hk]; exact e⟩
        refine ⟨he, m - 1, by rcases hi with rfl | ⟨a, b, rfl⟩ <;> (simp [wgts, It.wgt] at hm; omega), l, its, go', co', by omega, hb.trans hb', hokr, .inr ⟨i.parts, g, c, hX', hO', fun e => hne' (by rw [e]; rfl), hpl.2, ?_, ?_, ?_⟩⟩
        · rcases hi with rfl | ⟨a, b, rfl⟩
          · intro j hj; rw [List.mem_singleton.1 hj]; trivial
          · obtain ⟨_, _, _, _, ha, hb⟩ := hoki
            intro j hj
            simp only [It.parts, List.mem_cons, List.not_mem_nil, or_false] at hj
            rcases hj with rfl | rfl | rfl | rfl | rfl
            · exact ha
            · trivial
            · trivial
            · trivial
            · exact hb
        · rw [← htx]
          congr 2
          rcases hi with rfl | ⟨a, b, rfl⟩ <;> simp [It.parts, It.txt, txts]
        · rcases hi with rfl | ⟨a, b, rfl⟩ <;> (simp [wgts, It.wgt, It.parts] at hm ⊢; omega)
      cases i with
      | str s =>
        have hs : s.data.toList.length = s.size := by rw [Array.length_toList]; rfl
        have ht1 : (txts [It.str s]).length = s.size := by simp [txts, It.txt]
        refine Calls.mono (step_str p w.heap.size (Lib.byteCells l) (its.map It.val) s go co W hX (by rw [Lib.byteCells_length]; omega) hst hb.size) ?_
        rintro e W' ⟨he, hP', hb'⟩
        rw [byte_str] at hP'
        refine ⟨he, wgts its, by simp [wgts, It.wgt] at hm ⊢; omega, l ++ s.data.toList, its, go, co, by omega, hb.trans hb', hokr, .inl ⟨hP', ?_, rfl⟩⟩
        rw [← htx, List.append_assoc]
        congr 1
        simp [txts, It.txt]
      | leaf v => exact node v (.inl rfl)
      | bin v a b => exact node v (.inr ⟨a, b, rfl⟩)
  · have hlw := len_wgts its
    have hst : (its.map It.val).length ≤ 1000 := by simp; omega
    have hpm : (ps.map It.val).length = ps.length := by simp
    refine Calls.mono (step_parts p w.heap.size (Lib.byteCells l) (its.map It.val) (ps.map It.val) g c go co W (by rw [hpm]; exact hP) (by rw [hpm]; exact hO) hgo (fun v hv => by obtain ⟨i, _, rfl⟩ := List.mem_map.1 hv; exact val_iface i) hst (by rw [hpm]; omega) hb.size) ?_
    rintro e W' ⟨he, ⟨go', co', hX'⟩, hb'⟩
    have hms : its.map It.val ++ (ps.map It.val).reverse = (its ++ ps.reverse).map It.val := by rw [List.map_append, List.map_reverse]
    rw [hms] at hX'
    have hwr : wgts ps.reverse = wgts ps := by unfold wgts; rw [List.map_reverse, List.sum_reverse]
    have htr : txts ps.reverse = ps.flatMap It.txt := by unfold txts; rw [List.reverse_reverse]
    refine ⟨he, m - 1, by omega, l, its ++ ps.reverse, go', co', by omega, hb.trans hb', fun j hj => ?_, .inl ⟨hX'.pr, ?_, ?_⟩⟩
    · rcases List.mem_append.1 hj with hj | hj
      · exact hok j hj
      · exact hokp j (List.mem_reverse.1 hj)
    · rw [txts_app, htr]; exact htx
    · rw [wgts_app, hwr]; omega
theorem pr_start {w W : World} {v : NC} (hW : W = ((w.alloc (.cells #[.int .i64 v.k, .int .i64 v.a, .string v.s, .slice v.x v.l v.c] 24)).alloc (.cells #[nodeV v] 20)).alloc (.cells #[.pointer none, .slice none 0 0, .slice (some ⟨w.heap.size + 1, 0, none⟩) 1 1, .int .i64 0] 54)) : Pr (w.heap.size + 1 + 1) w.heap.size [] [nodeV v] W ∧ Below w.heap.size w W := by
  have hb : Below w.heap.size w W := by rw [hW]; exact (((Below.refl _ w).alloc (Nat.le_refl _) _).alloc (by simp) _).alloc (by simp; omega) _
  have h2 : W.heap[w.heap.size + 1 + 1]? = some (.cells #[.pointer none, .slice none 0 0, .slice (some ⟨w.heap.size + 1, 0, none⟩) 1 1, .int .i64 0] 54 (0, 0)) := by
    rw [hW]
    have := new_at ((w.alloc (.cells #[.int .i64 v.k, .int .i64 v.a, .string v.s, .slice v.x v.l v.c] 24)).alloc (.cells #[nodeV v] 20)) (.cells #[.pointer none, .slice none 0 0, .slice (some ⟨w.heap.size + 1, 0, none⟩) 1 1, .int .i64 0] 54)
    rw [World.size_alloc, World.size_alloc] at this
    exact this
  have h1 : W.heap[w.heap.size + 1]? = some (.cells #[nodeV v] 20 (0, 0)) := by
    rw [hW, Below.heap_alloc _ _ _ (by simp)]
    exact new_at2 _ _ _
  exact ⟨⟨⟨_, _, _, 0, h2, .inl rfl, World.ownsRow_nil _ _ _ _, ⟨rfl, .inr ⟨_, 1, _, rfl, by omega, h1, Nat.le_refl _, by decide, rfl, rfl⟩⟩⟩, by omega⟩, hb⟩
set_option maxRecDepth 20000 in
set_option maxHeartbeats 4000000 in
theorem Print_bin (w : World) (v a b : NC) (hok : (It.bin v a b).ok w) (hT : (It.bin v a b).txt.length ≤ 5000) (hT0 : (It.bin v a b).txt ≠ []) :
    Calls Try.prog 17 #[.agg #[.int .i64 v.k, .int .i64 v.a, .string v.s, .slice v.x v.l v.c]] w fun e w' => e = .returned (.string ⟨(It.bin v a b).txt.toArray⟩) ∧ Below w.heap.size w w' := by
  obtain ⟨TXT, hTXT⟩ : ∃ TXT, TXT = (It.bin v a b).txt := ⟨_, rfl⟩
  rw [← hTXT] at hT hT0 ⊢
  obtain ⟨W, hW⟩ : ∃ W, W = ((w.alloc (.cells #[.int .i64 v.k, .int .i64 v.a, .string v.s, .slice v.x v.l v.c] 24)).alloc (.cells #[.iface 24 (.agg #[.int .i64 v.k, .int .i64 v.a, .string v.s, .slice v.x v.l v.c])] 20)).alloc (.cells #[.pointer none, .slice none 0 0, .slice (some ⟨w.heap.size + 1, 0, none⟩) 1 1, .int .i64 0] 54) := ⟨_, rfl⟩
  obtain ⟨hP0, hb0⟩ := pr_start (v := v) hW
  obtain ⟨p, hp⟩ : ∃ p, p = w.heap.size + 1 + 1 := ⟨_, rfl⟩
  rw [← hp] at hP0
  have hst : Hid (PI w p TXT 11 W) := ⟨[], [.bin v a b], 0, 0, by decide, hb0, fun i hi => by rw [List.mem_singleton.1 hi]; exact hok, .inl ⟨hP0, by rw [hTXT]; simp [txts], rfl⟩⟩
  clear hP0 hb0 hok hTXT
  go_enter Try.func17, Try.ntmps17
  go_wp2
  rw [← hW, ← hp]
  clear hW hp
  go_loopg [] 11 (fun m wr => Hid (PI w p TXT m wr))
  case atStart => exact hst
  case round =>
    clear hst
    have hPI := hrel.out
    obtain ⟨n, hn, ao, cap, hc, hcase⟩ : ∃ n : Nat, n ≤ 1000 ∧ ∃ ao cap, wr.cell? ⟨p, 2, none⟩ = some (.slice ao n cap) ∧ ((n = 0 ∧ Pr p w.heap.size (Lib.byteCells TXT) [] wr ∧ Below w.heap.size w wr) ∨ (0 < n ∧ ∀ l, ¬ (gk = 0 ∧ l = TXT))) := by
      obtain ⟨l, its, go, co, hlen, hb, hok, h | ⟨ps, g, c, hP, hO, hgo, hp5, hokp, htx, hm⟩⟩ := hPI
      · obtain ⟨hP, htx, hm⟩ := h
        obtain ⟨addr, bv, ov, ind, h1, h2, h3, h4⟩ := hP.ex
        obtain ⟨_, _, c2, _⟩ := cells4 h1
        have hlw := len_wgts its
        have hml : (its.map It.val).length = its.length := by simp
        obtain ⟨ao, cap, e⟩ : ∃ ao cap, ov = .slice ao (its.map It.val).length cap := by
          rcases h4.2 with ⟨hv, h0⟩ | ⟨g, cap, cur, hv, _⟩
          · exact ⟨none, 0, by rw [h0]; exact hv⟩
          · exact ⟨_, _, hv⟩
        rw [e] at c2
        refine ⟨(its.map It.val).length, by omega, ao, cap, c2, ?_⟩
        rcases List.eq_nil_or_concat its with rfl | ⟨its', i, rfl⟩
        · refine .inl ⟨rfl, ?_, hb⟩
          have : l = TXT := by simpa [txts] using htx
          rw [← this]
          exact hP
        · refine .inr ⟨by simp, fun l' h => ?_⟩
          have h1 : (its'.concat i).length = its'.length + 1 := by simp
          omega
      · obtain ⟨addr, bv, ind, h1, h2, h3⟩ := hP.ex
        obtain ⟨_, _, c2, _⟩ := cells4 h1
        have hlw := len_wgts its
        exact ⟨_, by simp; omega, _, _, c2, .inr ⟨by simp, fun l' h => by omega⟩⟩
    rcases hcase with ⟨rfl, hPr, hbe⟩ | ⟨hn0, hne⟩
    · have kS : Hid (Calls Try.prog 22 #[.pointer (some ⟨p, 0, none⟩)] wr _) := String_any p w.heap.size TXT [] wr hPr hT0 (by omega)
      clear hrel hPI
      go_wp2_with (go_at_call 22; refine Calls.mono kS.out ?_; rintro e w3 ⟨rfl, hb3⟩)
      go_ret
      exact ⟨rfl, hbe.trans hb3⟩
    · have kP : Hid (Calls Try.prog 21 #[.pointer (some ⟨p, 0, none⟩)] wr _) := step_PI w p TXT hT gk wr hPI hne
      have d1 : decide ((n : Int) > 0) = true := decide_eq_true (by omega)
      clear hrel hPI hne
      go_wp2_with (go_at_call 21; refine Calls.mono kP.out ?_; rintro e w3 ⟨⟨u, rfl⟩, m', hm', hPI'⟩)
      have hPh : Hid (PI w p TXT m' w3) := hPI'
      clear hPI'
      go_roundg m'
      case measure => exact hm'
      case rel => exact hPh
end Go.Proofs.Ytbfklindcmmncaa
