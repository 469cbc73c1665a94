/- trees: some, a tree cut to at most so many nodes. -/
import Derived.Test.YtbfklindcmmncaaAd
import Derived.Deep.RegionHeld3
import Derived.Maps.AppendAt
namespace Go.Proofs.Ytbfklindcmmncaa
open Go.RowKit
attribute [local go_sem ↓] Go.wp_at_zero Go.wp_at_succ
/-- The counter's box. -/
def GBox (w : World) (g : Nat) (L : Nat) : Prop := w.heap[g]? = some (.cells #[.int .i64 (L : Int)] 3 (0, 0))
theorem GBox.cell {w : World} {g L : Nat} (h : GBox w g L) : w.cell? ⟨g, 0, none⟩ = some (.int .i64 (L : Int)) ∧ w.frozen? ⟨g, 0, none⟩ = false ∧ g < w.heap.size := by
  refine ⟨by simp [World.cell?, show w.heap[g]? = _ from h], by simp [World.frozen?, show w.heap[g]? = _ from h], ?_⟩
  by_cases hg : g < w.heap.size
  · exact hg
  · have : w.heap[g]? = _ := h
    rw [Array.getElem?_eq_none (by omega)] at this; cases this
theorem GBox.put {w : World} {g L L' : Nat} (h : GBox w g L) : GBox (w.setCell ⟨g, 0, none⟩ (.int .i64 (L' : Int))) g L' := by
  show (w.setCell _ _).heap[g]? = _
  simp [World.setCell, Array.getElem?_modify, show w.heap[g]? = _ from h]
/-- What the cut's loop holds: the new node's kids so far, the counter, the boxes. -/
def SomeAt (b3 b6 b7 g _B : Nat) (w : World) (n : NC) (L0 : Nat) (iv : Value) (wr : World) : Prop :=
  ∃ (i L : Nat) (ns : List NC) (ts : List Tr) (vk : Value), i ≤ n.l ∧ iv = .int .i64 i ∧ wr.heap[b3]? = some (.cells #[.int .i64 n.k, .int .i64 n.a, .string n.s, .slice n.x n.l n.c] 24 (0, 0)) ∧ BoxN wr b6 ∧ wr.heap[b7]? = some (.cells #[.int .i64 n.k, .int .i64 n.a, .string n.s, vk] 24 (0, 0)) ∧ wr.ownsRow (b7 + 1) 24 4 vk ns.length (flatN ns) ∧ Rds wr (fun b => b7 < b ∧ b < wr.heap.size ∧ vk.ownBlock ≠ some b) ns ts ∧ sizes ts + 1 + L = L0 ∧ GBox wr g L ∧ w.grownBy wr (some g) ∧ b7 + 1 ≤ wr.heap.size
/-- A row of one's own, read as kids. -/
theorem kids_of {w : World} {P : Nat → Prop} {g : Nat} (hP : P g) : ∀ {ns : List NC} {ts : List Tr} {o : Nat}, Rds w P ns ts → (∀ j u, (flatN ns)[j]? = some u → w.cell? ((⟨g, 0, none⟩ : Addr).add (o * 4 + j)) = some u) → KidsAt w P (some ⟨g, 0, none⟩) o ts
  | [], [], _, _, _ => by unfold KidsAt; trivial
  | n :: ns, t :: ts, o, h, hc => by
    unfold Rds at h
    unfold KidsAt
    have c0 := hc 0 _ rfl
    have c1 := hc 1 _ rfl
    have c2 := hc 2 _ rfl
    have c3 := hc 3 _ rfl
    rw [← add_more _ (o * 4) 0] at c1
    rw [← add_more _ (o * 4) 1] at c2
    rw [← add_more _ (o * 4) 2] at c3
    refine ⟨⟨⟨g, 0, none⟩, n.k, n.a, n.s, n.x, n.l, n.c, rfl, hP, c0, c1, c2, c3, h.1⟩, kids_of hP h.2 fun j u hj => ?_⟩
    have := hc (j + 4) u (by simpa [flatN, NC.cells] using hj)
    rw [show (o + 1) * 4 + j = o * 4 + (j + 4) by omega]
    exact this
  | [], t :: ts, _, h, _ => by unfold Rds at h; exact h.elim
  | n :: ns, [], _, h, _ => by unfold Rds at h; exact h.elim
/-- The new node, whole. -/
theorem some_whole {w : World} {b7 : Nat} {k a : Int} {s : ByteArray} {ns : List NC} {ts : List Tr} {vk : Value} (hO : w.ownsRow (b7 + 1) 24 4 vk ns.length (flatN ns)) (hR : Rds w (fun b => b7 < b ∧ b < w.heap.size ∧ vk.ownBlock ≠ some b) ns ts) : TrV w (fun b => b7 < b ∧ b < w.heap.size) (.agg #[.int .i64 k, .int .i64 a, .string s, vk]) (.node k a s ts) := by
  have hl := Rds.len hR
  have hR' : Rds w (fun b => b7 < b ∧ b < w.heap.size) ns ts := by
    clear hO hl
    induction ns generalizing ts with
    | nil => cases ts with
      | nil => trivial
      | cons t ts => exact hR.elim
    | cons n ns ih => cases ts with
      | nil => exact hR.elim
      | cons t ts => exact ⟨TrV.same (fun _ _ _ h => h) (fun _ h => ⟨h.1, h.2.1⟩) hR.1, ih hR.2⟩
  unfold TrV
  have hlt := hO.lt
  have hcs := fun (g : Nat) (e : vk.ownBlock = some g) => hO.cells e
  obtain ⟨h1, h2 | ⟨g, cap, cur, rfl, h3, h4, h5, h6, h7⟩⟩ := hO
  · obtain ⟨rfl, h2⟩ := h2
    have : ts = [] := List.length_eq_zero_iff.1 (by omega)
    subst this
    exact ⟨none, 0, 0, rfl, rfl, Nat.le_refl _, by decide, by unfold KidsAt; trivial⟩
  · refine ⟨some ⟨g, 0, none⟩, ns.length, cap, rfl, hl, h5, h6, kids_of ⟨by omega, (hlt g rfl).2⟩ hR' fun j u hj => ?_⟩
    rw [Nat.zero_mul, Nat.zero_add]
    exact hcs g rfl j u hj
theorem new_at (w : World) (o : Obj) : (w.alloc o).heap[w.heap.size]? = some o := by show (w.heap.push _)[w.heap.size]? = _; simp
theorem some_start {w W : World} {k a : Int} {s : ByteArray} {x : Option Addr} {l c g B L M : Nat} (hG : GBox w g L) (hM : L = M + 1) (hW : W = (((w.setCell ⟨g, 0, none⟩ (.int .i64 (M : Int))).alloc (.cells #[.int .i64 k, .int .i64 a, .string s, .slice x l c] 24)).alloc (.cells #[.int .i64 0, .int .i64 0, .string ⟨#[]⟩, .slice none 0 0] 24)).alloc (.cells #[.int .i64 k, .int .i64 a, .string s, .slice none 0 0] 24)) :
    SomeAt w.heap.size (w.heap.size + 1) (w.heap.size + 1 + 1) g B w ⟨k, a, s, x, l, c⟩ L (.int .i64 0) W := by
  have hg := hG.cell.2.2
  have hp := hG.put (L' := M)
  have hsz : W.heap.size = w.heap.size + 1 + 1 + 1 := by rw [hW]; simp [World.setCell]
  have hs0 : (w.setCell ⟨g, 0, none⟩ (.int .i64 (M : Int))).heap.size = w.heap.size := by simp [World.setCell]
  have hold : ∀ b, b < w.heap.size → W.heap[b]? = (w.setCell ⟨g, 0, none⟩ (.int .i64 (M : Int))).heap[b]? := fun b hb => by
    rw [hW, Below.heap_alloc _ _ _ (by simp [World.setCell]; omega), Below.heap_alloc _ _ _ (by simp [World.setCell]; omega), Below.heap_alloc _ _ _ (by rw [hs0]; exact hb)]
  refine ⟨0, M, [], [], .slice none 0 0, Nat.zero_le _, rfl, ?_, ⟨⟨0, 0, ⟨#[]⟩, none, 0, 0⟩, ?_⟩, ?_, World.ownsRow_nil _ _ _ _, trivial, by show 0 + 1 + M = L; omega, ?_, ⟨by rw [hW]; rfl, by rw [hW]; rfl, by rw [hW]; rfl, by omega, fun b hb hne => ?_⟩, by omega⟩
  · rw [hW, Below.heap_alloc _ _ _ (by simp [World.setCell]; omega), Below.heap_alloc _ _ _ (by simp [World.setCell])]
    have := new_at (w.setCell ⟨g, 0, none⟩ (.int .i64 (M : Int))) (.cells #[.int .i64 k, .int .i64 a, .string s, .slice x l c] 24)
    rw [hs0] at this
    exact this
  · rw [hW, Below.heap_alloc _ _ _ (by simp [World.setCell])]
    have := new_at ((w.setCell ⟨g, 0, none⟩ (.int .i64 (M : Int))).alloc (.cells #[.int .i64 k, .int .i64 a, .string s, .slice x l c] 24)) (.cells #[.int .i64 0, .int .i64 0, .string ⟨#[]⟩, .slice none 0 0] 24)
    rw [show ((w.setCell ⟨g, 0, none⟩ (.int .i64 (M : Int))).alloc (.cells #[.int .i64 k, .int .i64 a, .string s, .slice x l c] 24)).heap.size = w.heap.size + 1 by simp [World.setCell]] at this
    exact this
  · rw [hW]
    have := new_at (((w.setCell ⟨g, 0, none⟩ (.int .i64 (M : Int))).alloc (.cells #[.int .i64 k, .int .i64 a, .string s, .slice x l c] 24)).alloc (.cells #[.int .i64 0, .int .i64 0, .string ⟨#[]⟩, .slice none 0 0] 24)) (.cells #[.int .i64 k, .int .i64 a, .string s, .slice none 0 0] 24)
    rw [show (((w.setCell ⟨g, 0, none⟩ (.int .i64 (M : Int))).alloc (.cells #[.int .i64 k, .int .i64 a, .string s, .slice x l c] 24)).alloc (.cells #[.int .i64 0, .int .i64 0, .string ⟨#[]⟩, .slice none 0 0] 24)).heap.size = w.heap.size + 1 + 1 by simp [World.setCell]] at this
    exact this
  · show W.heap[g]? = _
    rw [hold g hg]
    exact hp
  · rw [hold b hb, Below.heap_setCell _ _ _ _ (fun e => hne (by rw [e]))]
end Go.Proofs.Ytbfklindcmmncaa
