/- Print: kid, the builder in a printer. -/
import Derived.Test.YtbfklindcmmncaaBk
import Derived.Shelf.Strings.Builder1
namespace Go.Proofs.Ytbfklindcmmncaa
open Go.RowKit Go.Shelf
attribute [local go_sem ↓] Go.wp_at_zero Go.wp_at_succ
theorem RowAt.next {w w' : World} {x : Option Addr} {ns : List NC} (h : RowAt w x ns) (hb : Below w.heap.size w w') : RowAt w' x ns := fun j hj => by
  obtain ⟨ad, e, c0, c1, c2, c3⟩ := h j hj
  exact ⟨ad, e, keep_cell hb c0, keep_cell hb c1, keep_cell hb c2, keep_cell hb c3⟩
/-- The kid with a number, or none. -/
def kidN (ns : List NC) (i : Nat) : NC := ns[i]?.getD ⟨0, 0, ⟨#[]⟩, none, 0, 0⟩
set_option maxRecDepth 20000 in
set_option maxHeartbeats 2000000 in
theorem kid_any (w : World) (v : NC) (ns : List NC) (i : Nat) (_hi : i < 1000) (hl : v.l = ns.length) (_hlm : ns.length ≤ 1000) (hR : RowAt w v.x ns) : Calls Try.prog 34 #[.agg #[.int .i64 v.k, .int .i64 v.a, .string v.s, .slice v.x v.l v.c], .int .i64 (i : Int)] w fun e w' => e = .returned (.agg #[.int .i64 (kidN ns i).k, .int .i64 (kidN ns i).a, .string (kidN ns i).s, .slice (kidN ns i).x (kidN ns i).l (kidN ns i).c]) ∧ Below w.heap.size w w' := by
  obtain ⟨W, hW⟩ : ∃ W, W = (w.alloc (.cells #[.int .i64 v.k, .int .i64 v.a, .string v.s, .slice v.x v.l v.c] 24)).alloc (.cells #[.int .i64 0, .int .i64 0, .string ⟨#[]⟩, .slice none 0 0] 24) := ⟨_, rfl⟩
  have hbW : Below w.heap.size w W := by rw [hW]; exact ((Below.refl _ _).alloc (Nat.le_refl _) _).alloc (by simp) _
  obtain ⟨p0, p1, p2, p3, pf⟩ := BoxN.cells (w := W) (b := w.heap.size) (n := v) (by rw [hW, Below.heap_alloc _ _ _ (by simp)]; exact new_at _ _)
  obtain ⟨o0, o1, o2, o3, of⟩ := BoxN.cells (w := W) (b := w.heap.size + 1) (n := ⟨0, 0, ⟨#[]⟩, none, 0, 0⟩) (by rw [hW]; have := new_at (w.alloc (.cells #[.int .i64 v.k, .int .i64 v.a, .string v.s, .slice v.x v.l v.c] 24)) (.cells #[.int .i64 0, .int .i64 0, .string ⟨#[]⟩, .slice none 0 0] 24); rw [World.size_alloc] at this; exact this)
  dsimp only at o0 o1 o2 o3
  have of0 := of 0
  have of1 := of 1
  have of2 := of 2
  have of3 := of 3
  rw [hl] at p3 ⊢
  by_cases hlt : i < ns.length
  · obtain ⟨ad, hx, c0, c1, c2, c3⟩ := (hR.next hbW) i hlt
    have hk : kidN ns i = ns[i] := by unfold kidN; rw [List.getElem?_eq_getElem hlt]; rfl
    rw [hk]
    generalize ns[i] = n at *
    have d1 : decide ((i : Int) < (ns.length : Int)) = true := decide_eq_true (by omega)
    have i1 : (i : Int) < (ns.length : Int) := by omega
    obtain ⟨W8, hW8⟩ : ∃ W8, W8 = (((W.setCell ⟨w.heap.size + 1, 0, none⟩ (.int .i64 n.k)).setCell ⟨w.heap.size + 1, 1, none⟩ (.int .i64 n.a)).setCell ⟨w.heap.size + 1, 2, none⟩ (.string n.s)).setCell ⟨w.heap.size + 1, 3, none⟩ (.slice n.x n.l n.c) := ⟨_, rfl⟩
    have hw1 : w.heap.size ≤ w.heap.size + 1 := by omega
    have hB8 : Below w.heap.size w W8 := by rw [hW8]; exact (((hbW.setCell hw1 _).setCell hw1 _).setCell hw1 _).setCell hw1 _
    have l0 : W8.cell? ⟨w.heap.size + 1, 0, none⟩ = some (.int .i64 n.k) := by rw [hW8]; simp [go_sem, o0]
    have l1 : W8.cell? ⟨w.heap.size + 1, 1, none⟩ = some (.int .i64 n.a) := by rw [hW8]; simp [go_sem, o1]
    have l2 : W8.cell? ⟨w.heap.size + 1, 2, none⟩ = some (.string n.s) := by rw [hW8]; simp [go_sem, o2]
    have l3 : W8.cell? ⟨w.heap.size + 1, 3, none⟩ = some (.slice n.x n.l n.c) := by rw [hW8]; simp [go_sem, o3]
    rw [hx] at p3 ⊢
    clear of hk hR
    go_enter Try.func34, Try.ntmps34
    go_upto_region 1 with fail
    rw [hx] at hW
    rw [← hl, ← hW]
    clear hW
    rw [hl]
    go_wp2
    rw [← hW8]
    exact bodyPost_ret (v := .agg #[.int .i64 n.k, .int .i64 n.a, .string n.s, .slice n.x n.l n.c]) (by simp [results, Try.results34, go_sem, l0, l1, l2, l3]) rfl ⟨rfl, hB8⟩
  · have hk : kidN ns i = ⟨0, 0, ⟨#[]⟩, none, 0, 0⟩ := by unfold kidN; rw [List.getElem?_eq_none (by omega)]; rfl
    rw [hk]
    have d1 : decide ((i : Int) < (ns.length : Int)) = false := decide_eq_false (by omega)
    have d2 : (ns.length : Int) ≤ (i : Int) := by omega
    have hw1 : w.heap.size ≤ w.heap.size + 1 := by omega
    clear of hk hR
    dsimp only
    go_enter Try.func34, Try.ntmps34
    go_upto_region 1 with fail
    rw [← hl, ← hW]
    clear hW
    rw [hl]
    go_wp2
    exact bodyPost_ret (v := .agg #[.int .i64 0, .int .i64 0, .string ⟨#[]⟩, .slice none 0 0]) (by simp [results, Try.results34, go_sem, o0, o1, o2, o3]) rfl ⟨rfl, (((hbW.setCell hw1 _).setCell hw1 _).setCell hw1 _).setCell hw1 _⟩
end Go.Proofs.Ytbfklindcmmncaa
