/- trees: some's walk. -/
import Derived.Test.YtbfklindcmmncaaAe
namespace Go.Proofs.Ytbfklindcmmncaa
open Go.RowKit
attribute [local go_sem ↓] Go.wp_at_zero Go.wp_at_succ
def SomePost (w : World) (g L : Nat) (e : Ending) (w' : World) : Prop := ∃ v' t' L', e = .returned v' ∧ TrV w' (fun b => w.heap.size ≤ b ∧ b < w'.heap.size) v' t' ∧ t'.size + L' = L ∧ GBox w' g L' ∧ w.grownBy w' (some g)
def SomeSaid (d : Nat) : Prop := ∀ (t : Tr) (w : World) (v : Value) (B g L : Nat) (deep : Int), TrV w (fun b => b < B) v t → B ≤ g → GBox w g L → 1 ≤ L → L ≤ 80 → deep = 12 - (d : Int) → 0 ≤ deep → Calls Try.prog 18 #[v, .int .i64 deep, .pointer (some ⟨g, 0, none⟩)] w fun e w' => SomePost w g L e w'
theorem node_cells {w : World} {b : Nat} {k a : Int} {s : ByteArray} {vk : Value} (h : w.heap[b]? = some (.cells #[.int .i64 k, .int .i64 a, .string s, vk] 24 (0, 0))) : w.cell? ⟨b, 0, none⟩ = some (.int .i64 k) ∧ w.cell? ⟨b, 1, none⟩ = some (.int .i64 a) ∧ w.cell? ⟨b, 2, none⟩ = some (.string s) ∧ w.cell? ⟨b, 3, none⟩ = some vk ∧ (∀ o, w.frozen? ⟨b, o, none⟩ = false) ∧ b < w.heap.size := by
  refine ⟨?_, ?_, ?_, ?_, fun o => ?_, ?_⟩
  · simp [World.cell?, h]
  · simp [World.cell?, h]
  · simp [World.cell?, h]
  · simp [World.cell?, h]
  · simp [World.frozen?, h]
  · by_cases hg : b < w.heap.size
    · exact hg
    · rw [Array.getElem?_eq_none (by omega)] at h; cases h
theorem cell_al {w : World} {p : Addr} {u : Value} {o : Obj} (h : w.cell? p = some u) : (w.alloc o).cell? p = some u := (World.cell?_of_block (Below.heap_alloc _ _ _ (cell_lt h))).trans h
theorem fr_al {w w' : World} {p : Addr} {u : Value} {row : Option Nat} (hg : w.grownBy w' row) (hc : w.cell? p = some u) (hne : some p.block ≠ row) (h : w.frozen? p = false) : w'.frozen? p = false := (hg.frozen_far p (cell_lt hc) hne).trans h
theorem fr_new {w : World} {p : Addr} {u : Value} {o : Obj} (hc : w.cell? p = some u) (h : w.frozen? p = false) : (w.alloc o).frozen? p = false := (World.frozen?_of_block (Below.heap_alloc _ _ _ (cell_lt hc))).trans h
theorem trv_form {w : World} {P : Nat → Prop} {v : Value} {t : Tr} (h : TrV w P v t) : ∃ k a s x l c, v = .agg #[.int .i64 k, .int .i64 a, .string s, .slice x l c] := by
  obtain ⟨k, a, s, ks⟩ := t
  unfold TrV at h
  obtain ⟨x, l, cap, rfl, _⟩ := h
  exact ⟨_, _, _, _, _, _, rfl⟩
theorem Rds.chg {w w' : World} {P Q : Nat → Prop} (hw : ∀ p : Addr, ∀ u, P p.block → w.cell? p = some u → w'.cell? p = some u) (hPQ : ∀ b, P b → Q b) : ∀ {ns : List NC} {ts : List Tr}, Rds w P ns ts → Rds w' Q ns ts
  | [], [], h => h
  | n :: ns, t :: ts, h => by unfold Rds at h ⊢; exact ⟨TrV.same hw hPQ h.1, Rds.chg hw hPQ h.2⟩
  | [], t :: ts, h => by unfold Rds at h; exact h.elim
  | n :: ns, [], h => by unfold Rds at h; exact h.elim
theorem some_app {w wr : World} {b3 b6 b7 g B i L' LL : Nat} {n : NC} {ns : List NC} {ts : List Tr} {xk : Option Addr} {nk ck : Nat} (hi : i < n.l) (hq3 : wr.heap[b3]? = some (.cells #[.int .i64 n.k, .int .i64 n.a, .string n.s, .slice n.x n.l n.c] 24 (0, 0))) (hx6 : BoxN wr b6) (hq7 : wr.heap[b7]? = some (.cells #[.int .i64 n.k, .int .i64 n.a, .string n.s, .slice xk nk ck] 24 (0, 0))) (hO : wr.ownsRow (b7 + 1) 24 4 (.slice xk nk ck) ns.length (flatN ns)) (hR : Rds wr (fun b => b7 < b ∧ b < wr.heap.size ∧ (Value.slice xk nk ck).ownBlock ≠ some b) ns ts) (hLL : sizes ts + 1 + L' = LL) (hgr : w.grownBy wr (some g)) (hb7s : b7 + 1 ≤ wr.heap.size) (hg3 : g < b3) (h36 : b3 < b6) (h67 : b6 < b7) (hw7 : w.heap.size ≤ b3) :
    ∀ n5 t5 L5 w5, TrV w5 (fun b => wr.heap.size ≤ b ∧ b < w5.heap.size) (NC.val n5) t5 → t5.size + L5 = L' → GBox w5 g L5 → wr.drew.grownBy w5 (some g) → ((w5.alloc (.cells #[.int .i64 n5.k, .int .i64 n5.a, .string n5.s, .slice n5.x n5.l n5.c] 24)).ownsRow (b7 + 1) 24 4 (.slice xk nk ck) ns.length (flatN ns) ∧ b7 + 1 ≤ (w5.alloc (.cells #[.int .i64 n5.k, .int .i64 n5.a, .string n5.s, .slice n5.x n5.l n5.c] 24)).heap.size) ∧ ∀ g' c' w7, w7.ownsRow (b7 + 1) 24 4 (.slice (some ⟨g', 0, none⟩) (ns.length + 1) c') (ns.length + 1) (flatN ns ++ NC.cells n5) → (w5.alloc (.cells #[.int .i64 n5.k, .int .i64 n5.a, .string n5.s, .slice n5.x n5.l n5.c] 24)).grownBy w7 (Value.slice xk nk ck).ownBlock → ((Value.slice xk nk ck).ownBlock = some g' ∨ g' = w5.heap.size + 1) → SomeAt b3 b6 b7 g B w n LL (.int .i64 ((i + 1 : Nat) : Int)) (w7.setCell ⟨b7, 3, none⟩ (.slice (some ⟨g', 0, none⟩) (ns.length + 1) c')) := by
  intro n5 t5 L5 w5 hT5 hs5 hG5 hg5
  have hs51 : wr.heap.size ≤ w5.heap.size := hg5.size
  have hown : ∀ b, (Value.slice xk nk ck).ownBlock = some b → b7 + 1 ≤ b ∧ b < wr.heap.size := fun b h => hO.lt b h
  have hneg : ∀ b, (Value.slice xk nk ck).ownBlock = some b → b ≠ g := fun b h e => by have := (hown b h).1; omega
  have hO5 : w5.ownsRow (b7 + 1) 24 4 (.slice xk nk ck) ns.length (flatN ns) := by
    refine World.ownsRow.kept (w := wr.drew) (row := some g) hO hg5 ?_
    right
    intro h
    exact hneg g h rfl
  have sz6 : (w5.alloc (.cells #[.int .i64 n5.k, .int .i64 n5.a, .string n5.s, .slice n5.x n5.l n5.c] 24)).heap.size = w5.heap.size + 1 := by simp
  refine ⟨⟨hO5.alloc _, by rw [sz6]; omega⟩, fun g' c' w7 hO7 hg7 hat => ?_⟩
  have hs7 : w5.heap.size + 1 ≤ w7.heap.size := by have := hg7.size; rw [sz6] at this; exact this
  have hblk : ∀ b, b < w5.heap.size → (Value.slice xk nk ck).ownBlock ≠ some b → w7.heap[b]? = w5.heap[b]? := fun b hb hne => by
    rw [hg7.block b (by rw [sz6]; omega) (fun e => hne e.symm), Below.heap_alloc _ _ _ hb]
  have hblk5 : ∀ b, b < wr.heap.size → b ≠ g → w5.heap[b]? = wr.heap[b]? := fun b hb hne => hg5.block b hb (by simp; exact hne)
  have hset : ∀ b, b ≠ b7 → (w7.setCell ⟨b7, 3, none⟩ (.slice (some ⟨g', 0, none⟩) (ns.length + 1) c')).heap[b]? = w7.heap[b]? := fun b hb => Below.heap_setCell _ _ _ _ hb
  have hsz8 : (w7.setCell ⟨b7, 3, none⟩ (.slice (some ⟨g', 0, none⟩) (ns.length + 1) c')).heap.size = w7.heap.size := by simp
  have low : ∀ b, b ≤ b7 → (Value.slice xk nk ck).ownBlock ≠ some b := fun b hb h => by have := (hown b h).1; omega
  have hg' := hO7.lt g' rfl
  have hl6 := hx6.lt
  have old8 : ∀ b, b < b7 → b ≠ g → (w7.setCell ⟨b7, 3, none⟩ (.slice (some ⟨g', 0, none⟩) (ns.length + 1) c')).heap[b]? = wr.heap[b]? := fun b hb hne => by
    rw [hset b (by omega), hblk b (by omega) (low b (by omega)), hblk5 b (by omega) hne]
  have h77 : w7.heap[b7]? = wr.heap[b7]? := by rw [hblk b7 (by omega) (low b7 (Nat.le_refl _)), hblk5 b7 (by omega) (by omega)]
  have keepR : ∀ p : Addr, ∀ u, (b7 < p.block ∧ p.block < wr.heap.size ∧ (Value.slice xk nk ck).ownBlock ≠ some p.block) → wr.cell? p = some u → (w7.setCell ⟨b7, 3, none⟩ (.slice (some ⟨g', 0, none⟩) (ns.length + 1) c')).cell? p = some u := fun p u hp hc => by
    rw [World.cell?_of_block (w := wr) (by rw [hset p.block (by omega), hblk p.block (by omega) hp.2.2, hblk5 p.block hp.2.1 (by omega)])]
    exact hc
  have keepT : ∀ p : Addr, ∀ u, (wr.heap.size ≤ p.block ∧ p.block < w5.heap.size) → w5.cell? p = some u → (w7.setCell ⟨b7, 3, none⟩ (.slice (some ⟨g', 0, none⟩) (ns.length + 1) c')).cell? p = some u := fun p u hp hc => by
    rw [World.cell?_of_block (w := w5) (by rw [hset p.block (by omega), hblk p.block hp.2 (fun h => by have := (hown _ h).2; omega)])]
    exact hc
  have hg'ne : ∀ b, b < wr.heap.size → (Value.slice xk nk ck).ownBlock ≠ some b → (some g' : Option Nat) ≠ some b := fun b hb hne e => by
    have e' := Option.some.inj e
    rcases hat with h | h
    · exact hne (by rw [h, e'])
    · omega
  have hg'new : ∀ b, wr.heap.size ≤ b → b < w5.heap.size → (some g' : Option Nat) ≠ some b := fun b h1 h2 e => by
    have e' := Option.some.inj e
    rcases hat with h | h
    · have := (hown g' h).2; omega
    · omega
  refine ⟨i + 1, L5, ns ++ [n5], ts ++ [t5], .slice (some ⟨g', 0, none⟩) (ns.length + 1) c', by omega, rfl, (old8 b3 (by omega) (by omega)).trans hq3, hx6.same (old8 b6 h67 (by omega)), ?_, ?_, ?_, ?_, ?_, ?_, by rw [hsz8]; omega⟩
  · rw [← h77] at hq7
    simp [World.setCell, Array.getElem?_modify, hq7]
  · have := own_same (w' := w7.setCell ⟨b7, 3, none⟩ (.slice (some ⟨g', 0, none⟩) (ns.length + 1) c')) hO7 (hset g' (by omega))
    rw [List.length_append, flatN_app, flatN_one]
    exact this
  · refine Rds.app (Rds.chg keepR (fun b hb => ⟨hb.1, by rw [hsz8]; omega, hg'ne b hb.2.1 hb.2.2⟩) hR) ⟨TrV.same keepT (fun b hb => ⟨by omega, by rw [hsz8]; omega, hg'new b hb.1 hb.2⟩) hT5, trivial⟩
  · rw [sizes_app]
    show sizes ts + (t5.size + 0) + 1 + L5 = LL
    omega
  · show _ = _
    rw [hset g (by omega), hblk g (by omega) (low g (by omega))]
    exact hG5
  · refine ⟨?_, ?_, ?_, ?_, fun b hb hne => ?_⟩
    · have h1 := hg7.os; have h2 := hg5.os; have h3 := hgr.os
      simp [World.setCell]; exact h1.trans (h2.trans h3)
    · have h1 := hg7.tape; have h2 := hg5.tape; have h3 := hgr.tape
      simp [World.setCell]; exact h1.trans (h2.trans h3)
    · have h1 := hg7.output; have h2 := hg5.output; have h3 := hgr.output
      simp [World.setCell]; exact h1.trans (h2.trans h3)
    · rw [hsz8]; have := hgr.size; omega
    · have hbg : b ≠ g := fun e => hne (by rw [e])
      rw [old8 b (by omega) hbg]
      exact hgr.block b hb hne
theorem some_end {w wr : World} {g b6 b7 L L0 : Nat} {k a : Int} {s : ByteArray} {ns : List NC} {ts : List Tr} {vk : Value} (hO : wr.ownsRow (b7 + 1) 24 4 vk ns.length (flatN ns)) (hR : Rds wr (fun b => b7 < b ∧ b < wr.heap.size ∧ vk.ownBlock ≠ some b) ns ts) (hL : sizes ts + 1 + L = L0) (hG : GBox wr g L) (hgr : w.grownBy wr (some g)) (h6 : w.heap.size ≤ b6) (h67 : b6 < b7) (hg6 : g ≠ b6) :
    ∃ W8, W8 = (((wr.setCell ⟨b6, 0, none⟩ (.int .i64 k)).setCell ⟨b6, 1, none⟩ (.int .i64 a)).setCell ⟨b6, 2, none⟩ (.string s)).setCell ⟨b6, 3, none⟩ vk ∧ TrV W8 (fun b => w.heap.size ≤ b ∧ b < W8.heap.size) (.agg #[.int .i64 k, .int .i64 a, .string s, vk]) (.node k a s ts) ∧ (Tr.node k a s ts).size + L = L0 ∧ GBox W8 g L ∧ w.grownBy W8 (some g) := by
  have same : ∀ b, b ≠ b6 → ((((wr.setCell ⟨b6, 0, none⟩ (.int .i64 k)).setCell ⟨b6, 1, none⟩ (.int .i64 a)).setCell ⟨b6, 2, none⟩ (.string s)).setCell ⟨b6, 3, none⟩ vk).heap[b]? = wr.heap[b]? := fun b hb => by
    rw [Below.heap_setCell _ _ _ _ hb, Below.heap_setCell _ _ _ _ hb, Below.heap_setCell _ _ _ _ hb, Below.heap_setCell _ _ _ _ hb]
  have hsz : ((((wr.setCell ⟨b6, 0, none⟩ (.int .i64 k)).setCell ⟨b6, 1, none⟩ (.int .i64 a)).setCell ⟨b6, 2, none⟩ (.string s)).setCell ⟨b6, 3, none⟩ vk).heap.size = wr.heap.size := by simp
  refine ⟨_, rfl, ?_, ?_, ?_, ?_⟩
  · have hT := some_whole (k := k) (a := a) (s := s) hO hR
    refine TrV.same (fun p u hp hc => ?_) (fun b hb => ?_) hT
    · rw [World.cell?_of_block (same p.block (by omega))]; exact hc
    · rw [hsz]; omega
  · show 1 + sizes ts + L = L0
    omega
  · show _ = _
    rw [same g hg6]
    exact hG
  · refine ⟨?_, ?_, ?_, by rw [hsz]; exact hgr.size, fun b hb hne => ?_⟩
    · simp [World.setCell]; exact hgr.os
    · simp [World.setCell]; exact hgr.tape
    · simp [World.setCell]; exact hgr.output
    · rw [same b (by omega)]; exact hgr.block b hb hne
set_option maxRecDepth 20000 in
set_option maxHeartbeats 4000000 in
theorem some_step (d : Nat) (ih : ∀ d', d = d' + 1 → SomeSaid d') : SomeSaid d := by
  intro t w v B g LL deep ht hBg hG hL1 hL2 hd hd0
  obtain ⟨n0, rfl⟩ : ∃ n : NC, v = n.val := by
    obtain ⟨k, a, s, ks⟩ := t
    unfold TrV at ht
    obtain ⟨x, l, cap, rfl, _⟩ := ht
    exact ⟨⟨k, a, s, x, l, cap⟩, rfl⟩
  obtain ⟨k, a, s, x, l, c⟩ := n0
  obtain ⟨g0, gf, hglt⟩ := hG.cell
  obtain ⟨M, hM⟩ : ∃ M : Nat, LL = M + 1 := ⟨LL - 1, by omega⟩
  have hwM : IntKind.i64.wrap ((LL : Int) - 1) = (M : Int) := by rw [IntKind.wrap_i64]; omega
  obtain ⟨W, hW⟩ : ∃ W, W = (((w.setCell ⟨g, 0, none⟩ (.int .i64 (M : Int))).alloc (.cells #[.int .i64 k, .int .i64 a, .string s, .slice x l c] 24)).alloc (.cells #[.int .i64 0, .int .i64 0, .string ⟨#[]⟩, .slice none 0 0] 24)).alloc (.cells #[.int .i64 k, .int .i64 a, .string s, .slice none 0 0] 24) := ⟨_, rfl⟩
  have hst : Hid (SomeAt w.heap.size (w.heap.size + 1) (w.heap.size + 1 + 1) g B w ⟨k, a, s, x, l, c⟩ LL (.int .i64 0) W) := some_start hG hM hW
  show Calls Try.prog 18 #[.agg #[.int .i64 k, .int .i64 a, .string s, .slice x l c], .int .i64 deep, .pointer (some ⟨g, 0, none⟩)] w _
  have hgne : g ≠ w.heap.size ∧ g ≠ w.heap.size + 1 := by omega
  replace hM : Hid _ := hM
  replace hd : Hid _ := hd
  replace ht : Hid (TrV w (fun b => b < B) (.agg #[.int .i64 k, .int .i64 a, .string s, .slice x l c]) t) := ht
  go_enter Try.func18, Try.ntmps18
  go_wp2
  rw [← hW]
  clear hW g0 gf hwM
  obtain ⟨b3, hb3⟩ : ∃ b3, b3 = w.heap.size := ⟨_, rfl⟩
  obtain ⟨b6, hb6⟩ : ∃ b6, b6 = w.heap.size + 1 := ⟨_, rfl⟩
  obtain ⟨b7, hb7⟩ : ∃ b7, b7 = w.heap.size + 1 + 1 := ⟨_, rfl⟩
  rw [← hb7, ← hb6, ← hb3] at hst
  rw [← hb7, ← hb6, ← hb3]
  have hb6w : w.heap.size ≤ b6 := by omega
  have hb67 : b6 < b7 := by omega
  have hgb6 : g ≠ b6 := by omega
  have hb3h : Hid (b3 = w.heap.size ∧ b7 = w.heap.size + 1 + 1 ∧ b6 = w.heap.size + 1) := ⟨hb3, hb7, hb6⟩
  clear hb3 hb6 hb7 hgne hM
  go_loopw [8] (fun iv wr => SomeAt b3 b6 b7 g B w ⟨k, a, s, x, l, c⟩ LL iv wr) (fun iv _ => l - (intOf iv).toNat)
  case atStart => exact hst.out
  case round =>
    clear hst
    obtain ⟨i, L', ns, ts, vk, hil, rfl, hq3, hx6, hq7, hO, hR, hLL, hG', hgr, hb7s⟩ := hrel
    obtain ⟨xk, nk, ck, hvk⟩ : ∃ xk nk ck, vk = .slice xk nk ck := by
      obtain ⟨_, ⟨h, _⟩ | ⟨g', cap, cur, h, _⟩⟩ := hO
      · exact ⟨_, _, _, h⟩
      · exact ⟨_, _, _, h⟩
    subst hvk
    obtain ⟨p0, p1, p2, p3, pf, pl⟩ := node_cells hq3
    obtain ⟨r0, r1, r2, r3, rf, rl⟩ := node_cells hq7
    obtain ⟨g0, gf, hglt'⟩ := hG'.cell
    simp only at p0 p1 p2 p3 hil
    by_cases hi : i < l
    · have d1 : decide ((i : Int) < (l : Int)) = true := decide_eq_true (by omega)
      have d1n : decide (i < l) = true := decide_eq_true hi
      by_cases hL : 0 < L'
      · have d2 : decide ((L' : Int) > 0) = true := decide_eq_true (by omega)
        have d2n : decide (0 < L') = true := decide_eq_true hL
        by_cases h12 : deep < 12
        · have d3 : decide (deep < 12) = true := decide_eq_true h12
          obtain ⟨d', hd'⟩ : ∃ d', d = d' + 1 := ⟨d - 1, by have := hd.out; omega⟩
          have hI := ih d' hd'
          have ht' := ht.out
          obtain ⟨tk, ta, tS, ks⟩ := t
          unfold TrV at ht'
          obtain ⟨x1, l1, cap1, hv, hl1, hlc, hcm, hK⟩ := ht'
          simp only [Value.agg.injEq, Array.mk.injEq, List.cons.injEq, Value.int.injEq, Value.string.injEq, Value.slice.injEq, true_and, and_true] at hv
          obtain ⟨rfl, rfl, rfl, rfl, rfl, rfl⟩ := hv
          have hl1h : Hid (l = ks.length) := hl1
          have hic : (i : Int) + 1 ≤ 9223372036854775807 := by unfold maxLen at hcm; omega
          clear hlc hcm
          clear hl1
          obtain ⟨ad, y1, y2, y3, y4, y5, y6, hx, hPa, c0, c1, c2, c3, hT⟩ := KidsAt.at hK i (by have := hl1h.out; omega)
          rw [Nat.zero_add] at c0 c1 c2 c3
          subst hx
          have hkeep : ∀ p : Addr, ∀ u, p.block < B → w.cell? p = some u → wr.cell? p = some u := fun p u hp hc => hgr.cell hc (by simp; omega)
          have hab : ∀ n, (ad.add n).block < B := fun n => by rw [add_block]; exact hPa
          replace c0 := hkeep _ _ (hab _) c0
          replace c1 := hkeep ⟨(ad.add (i * 4)).block, (ad.add (i * 4)).off + 1, none⟩ _ (hab (i * 4)) c1
          replace c2 := hkeep ⟨(ad.add (i * 4)).block, (ad.add (i * 4)).off + 2, none⟩ _ (hab (i * 4)) c2
          replace c3 := hkeep ⟨(ad.add (i * 4)).block, (ad.add (i * 4)).off + 3, none⟩ _ (hab (i * 4)) c3
          have hTr := TrV.same hkeep (fun _ h => h) hT
          have i1 : (i : Int) < (l : Int) := by omega
          have hwd : IntKind.i64.wrap (deep + 1) = deep + 1 := by rw [IntKind.wrap_i64]; omega
          have kS := hI _ wr.drew _ B g L' (deep + 1) (hTr.next ((Below.refl _ _).drew)) hBg hG' (by omega) (by omega) (by have := hd.out; omega) (by omega)
          replace kS : Hid (Calls Try.prog 18 #[.agg #[.int .i64 y1, .int .i64 y2, .string y3, .slice y4 y5 y6], .int .i64 (deep + 1), .pointer (some ⟨g, 0, none⟩)] wr.drew fun e w' => SomePost wr.drew g L' e w') := kS
          clear hT hTr hI
          go_upto_region 6 with fail
          obtain ⟨i0, hi0, hz0, hz1, hz2⟩ := info_parts info24
          have hgb7 : b7 ≠ g := by have := hb3h.out; omega
          have hgb3 : b3 ≠ g := by have := hb3h.out; omega
          have hga : (ad.add (i * 4)).block ≠ g := by have := hab (i * 4); omega
          have hnl : ns.length ≤ 80 := by have := len_sizes ts; have := Rds.len hR; omega
          have hnb : Hid (∀ b, b ≤ b7 → some b ≠ (Value.slice xk nk ck).ownBlock) := fun b hb h => by have := (hO.lt b h.symm).1; omega
          have hle3 : b3 ≤ b7 := by have := hb3h.out; omega
          have hlea : (ad.add (i * 4)).block ≤ b7 := by have := hab (i * 4); have := hb3h.out; omega
          have rf3 := rf 3
          have hsv : Hid (∀ n5 t5 L5 w5, TrV w5 (fun b => wr.heap.size ≤ b ∧ b < w5.heap.size) (NC.val n5) t5 → t5.size + L5 = L' → GBox w5 g L5 → wr.drew.grownBy w5 (some g) → ((w5.alloc (.cells #[.int .i64 n5.k, .int .i64 n5.a, .string n5.s, .slice n5.x n5.l n5.c] 24)).ownsRow (b7 + 1) 24 4 (.slice xk nk ck) ns.length (flatN ns) ∧ b7 + 1 ≤ (w5.alloc (.cells #[.int .i64 n5.k, .int .i64 n5.a, .string n5.s, .slice n5.x n5.l n5.c] 24)).heap.size) ∧ ∀ g' c' w7, w7.ownsRow (b7 + 1) 24 4 (.slice (some ⟨g', 0, none⟩) (ns.length + 1) c') (ns.length + 1) (flatN ns ++ NC.cells n5) → (w5.alloc (.cells #[.int .i64 n5.k, .int .i64 n5.a, .string n5.s, .slice n5.x n5.l n5.c] 24)).grownBy w7 (Value.slice xk nk ck).ownBlock → ((Value.slice xk nk ck).ownBlock = some g' ∨ g' = w5.heap.size + 1) → SomeAt b3 b6 b7 g B w ⟨k, a, s, some ad, l, c⟩ LL (.int .i64 ((i + 1 : Nat) : Int)) (w7.setCell ⟨b7, 3, none⟩ (.slice (some ⟨g', 0, none⟩) (ns.length + 1) c'))) := some_app (n := ⟨k, a, s, some ad, l, c⟩) hi hq3 hx6 hq7 hO hR hLL hgr hb7s (by have := hb3h.out; omega) (by have := hb3h.out; omega) hb67 (by have := hb3h.out; omega)
          go_region_law (first
            | ((first | rw [if_pos (by simp [Region.wanted])] | skip); unfold Oper.wp; go_simp; go_at_call 18; refine Calls.mono kS.out ?_; rintro e w5 ⟨v5, t5, L5, rfl, hT5, hs5, hG5, hg5⟩; obtain ⟨z1, z2, z3, z4, z5, z6, rfl⟩ := trv_form hT5; obtain ⟨⟨hO6, hb6s⟩, hap⟩ := hsv.out ⟨z1, z2, z3, z4, z5, z6⟩ t5 L5 w5 hT5 hs5 hG5 hg5; have hap' : Hid _ := hap; have hO6h : Hid _ := hO6; have hb6h : Hid _ := hb6s; have hn6 : Hid (∀ j u, (NC.cells ⟨z1, z2, z3, z4, z5, z6⟩)[j]? = some u → (w5.alloc (.cells #[.int .i64 z1, .int .i64 z2, .string z3, .slice z4 z5 z6] 24)).cell? ((⟨w5.heap.size, 0, none⟩ : Addr).add j) = some u) := World.news_of_block (new_at w5 (.cells #[.int .i64 z1, .int .i64 z2, .string z3, .slice z4 z5 z6] 24)); have rf5 := fr_al hg5 (p := ⟨b7, 3, none⟩) r3 (by simp; exact hgb7) rf3; replace r3 := hg5.cell (a := ⟨b7, 3, none⟩) r3 (by simp; exact hgb7); replace p3 := hg5.cell (a := ⟨b3, 3, none⟩) p3 (by simp; exact hgb3); replace c0 := hg5.cell c0 (by simp; exact hga); replace c1 := hg5.cell (a := ⟨(ad.add (i * 4)).block, _, none⟩) c1 (by simp; exact hga); replace c2 := hg5.cell (a := ⟨(ad.add (i * 4)).block, _, none⟩) c2 (by simp; exact hga); replace c3 := hg5.cell (a := ⟨(ad.add (i * 4)).block, _, none⟩) c3 (by simp; exact hga); have r3a := cell_al (o := .cells #[.int .i64 z1, .int .i64 z2, .string z3, .slice z4 z5 z6] 24) r3; clear hap hO6 hb6s hT5)
            | (refine step_append_lies _ rfl (.tmp 39) (.tmp 49) 22 rfl (b7 + 1) 24 i0 _ 4 56 Try.underlying22 hi0 hz0 hz1 hz2 (by rfl) (by decide) (.slice xk nk ck) ns.length (flatN ns) (by simp [Act.eval]) hO6h.out ⟨w5.heap.size, 0, none⟩ 1 1 (NC.cells ⟨z1, z2, z3, z4, z5, z6⟩) (by simp [Act.eval]) rfl hn6.out (flatN_cell [⟨z1, z2, z3, z4, z5, z6⟩]) (by decide) (by unfold maxLen; omega) (by omega) hb6h.out (w5.heap.size + 1) (by simp) ?_; intro g' c' w7 hO7 hg7 hat7 hlt7; have rf7 := fr_al hg7 (p := ⟨b7, 3, none⟩) (cell_al r3) (hnb.out b7 (Nat.le_refl _)) (fr_new r3 rf5); replace r3 := hg7.cell (a := ⟨b7, 3, none⟩) (cell_al r3) (hnb.out b7 (Nat.le_refl _)); replace p3 := hg7.cell (a := ⟨b3, 3, none⟩) (cell_al p3) (hnb.out b3 hle3); replace c0 := hg7.cell (cell_al c0) (hnb.out _ hlea); replace c1 := hg7.cell (a := ⟨(ad.add (i * 4)).block, _, none⟩) (cell_al c1) (hnb.out _ hlea); replace c2 := hg7.cell (a := ⟨(ad.add (i * 4)).block, _, none⟩) (cell_al c2) (hnb.out _ hlea); replace c3 := hg7.cell (a := ⟨(ad.add (i * 4)).block, _, none⟩) (cell_al c3) (hnb.out _ hlea)))
          all_goals
            have hre : Hid (SomeAt b3 b6 b7 g B w ⟨k, a, s, some ad, l, c⟩ LL (.int .i64 ((i + 1 : Nat) : Int)) (w7.setCell ⟨b7, 3, none⟩ (.slice (some ⟨g', 0, none⟩) (ns.length + 1) c'))) := hap'.out g' c' w7 hO7 hg7 hat7
            have hwi : IntKind.i64.wrap ((i : Int) + 1) = ((i + 1 : Nat) : Int) := by rw [IntKind.wrap_i64]; omega
            clear hap' hO6h hb6h hn6 hO7 hg7 hsv
            go_wp2
            go_roundw
            case rel => exact hre.out
            case measure => simp [intOf]; omega
        · have d3 : decide (deep < 12) = false := decide_eq_false h12
          obtain ⟨W8, hW8, hT8, hS8, hG8, hg8⟩ := some_end (k := k) (a := a) (s := s) hO hR hLL hG' hgr hb6w hb67 hgb6
          obtain ⟨q6, hq6⟩ := hx6
          obtain ⟨o0, o1, o2, o3, of⟩ := BoxN.cells hq6
          have of0 := of 0
          have of1 := of 1
          have of2 := of 2
          have of3 := of 3
          have hfin : Hid (SomePost w g LL (.returned (.agg #[.int .i64 k, .int .i64 a, .string s, .slice xk nk ck])) W8) := ⟨_, _, _, rfl, hT8, hS8, hG8, hg8⟩
          have j0 : W8.cell? ⟨b6, 0, none⟩ = some (.int .i64 k) := by rw [hW8]; simp [go_sem, o0]
          have j1 : W8.cell? ⟨b6, 1, none⟩ = some (.int .i64 a) := by rw [hW8]; simp [go_sem, o1]
          have j2 : W8.cell? ⟨b6, 2, none⟩ = some (.string s) := by rw [hW8]; simp [go_sem, o2]
          have j3 : W8.cell? ⟨b6, 3, none⟩ = some (.slice xk nk ck) := by rw [hW8]; simp [go_sem, o3]
          clear hT8 hS8 hG8 hg8 hO hR hLL hG' hgr hq6 of
          go_wp2
          rw [← hW8]
          exact bodyPost_ret (v := .agg #[.int .i64 k, .int .i64 a, .string s, .slice xk nk ck]) (by simp [results, Try.results18, go_sem, j0, j1, j2, j3]) rfl hfin.out
      · have d2 : decide ((L' : Int) > 0) = false := decide_eq_false (by omega)
        have d2n : decide (0 < L') = false := decide_eq_false hL
        obtain ⟨W8, hW8, hT8, hS8, hG8, hg8⟩ := some_end (k := k) (a := a) (s := s) hO hR hLL hG' hgr hb6w hb67 hgb6
        obtain ⟨q6, hq6⟩ := hx6
        obtain ⟨o0, o1, o2, o3, of⟩ := BoxN.cells hq6
        have of0 := of 0
        have of1 := of 1
        have of2 := of 2
        have of3 := of 3
        have hfin : Hid (SomePost w g LL (.returned (.agg #[.int .i64 k, .int .i64 a, .string s, .slice xk nk ck])) W8) := ⟨_, _, _, rfl, hT8, hS8, hG8, hg8⟩
        have j0 : W8.cell? ⟨b6, 0, none⟩ = some (.int .i64 k) := by rw [hW8]; simp [go_sem, o0]
        have j1 : W8.cell? ⟨b6, 1, none⟩ = some (.int .i64 a) := by rw [hW8]; simp [go_sem, o1]
        have j2 : W8.cell? ⟨b6, 2, none⟩ = some (.string s) := by rw [hW8]; simp [go_sem, o2]
        have j3 : W8.cell? ⟨b6, 3, none⟩ = some (.slice xk nk ck) := by rw [hW8]; simp [go_sem, o3]
        clear hT8 hS8 hG8 hg8 hO hR hLL hG' hgr hq6 of
        go_wp2
        rw [← hW8]
        exact bodyPost_ret (v := .agg #[.int .i64 k, .int .i64 a, .string s, .slice xk nk ck]) (by simp [results, Try.results18, go_sem, j0, j1, j2, j3]) rfl hfin.out
    · have d1 : decide ((i : Int) < (l : Int)) = false := decide_eq_false (by omega)
      have d1n : decide (i < l) = false := decide_eq_false hi
      obtain ⟨W8, hW8, hT8, hS8, hG8, hg8⟩ := some_end (k := k) (a := a) (s := s) hO hR hLL hG' hgr hb6w hb67 hgb6
      obtain ⟨q6, hq6⟩ := hx6
      obtain ⟨o0, o1, o2, o3, of⟩ := BoxN.cells hq6
      have of0 := of 0
      have of1 := of 1
      have of2 := of 2
      have of3 := of 3
      have hfin : Hid (SomePost w g LL (.returned (.agg #[.int .i64 k, .int .i64 a, .string s, .slice xk nk ck])) W8) := ⟨_, _, _, rfl, hT8, hS8, hG8, hg8⟩
      have j0 : W8.cell? ⟨b6, 0, none⟩ = some (.int .i64 k) := by rw [hW8]; simp [go_sem, o0]
      have j1 : W8.cell? ⟨b6, 1, none⟩ = some (.int .i64 a) := by rw [hW8]; simp [go_sem, o1]
      have j2 : W8.cell? ⟨b6, 2, none⟩ = some (.string s) := by rw [hW8]; simp [go_sem, o2]
      have j3 : W8.cell? ⟨b6, 3, none⟩ = some (.slice xk nk ck) := by rw [hW8]; simp [go_sem, o3]
      clear hT8 hS8 hG8 hg8 hO hR hLL hG' hgr hq6 of
      go_wp2
      rw [← hW8]
      exact bodyPost_ret (v := .agg #[.int .i64 k, .int .i64 a, .string s, .slice xk nk ck]) (by simp [results, Try.results18, go_sem, j0, j1, j2, j3]) rfl hfin.out
end Go.Proofs.Ytbfklindcmmncaa
