/- The second road's powers: Of 1, Power. -/
import Derived.Test.YtdcjgepgiaaaoaaRn
namespace Go.Proofs.Ytdcjgepgiaaaoaa
open Go.RowKit
attribute [local go_sem ↓] Go.wp_at_zero Go.wp_at_succ
/-- Digits that lie in blocks of the kind P alone. -/
def Rfar (w : World) (P : Nat → Prop) (v : Value) (z : Int) (n : Nat) : Prop :=
  ∃ (neg : Bool) (a : Option Addr) (cap : Nat) (ds : List Int), v = .agg #[.bool neg, .slice a ds.length cap] ∧ (Row w .i64 65536 a cap ds ∧ ∀ x, a = some x → ds ≠ [] → P x.block) ∧ Norm neg ds ∧ num 65536 neg ds = z ∧ ds.length ≤ n
section
variable {w w' : World} {P : Nat → Prop} {v : Value} {z : Int} {n : Nat}
theorem Rfar.rint (h : Rfar w P v z n) : Rint w v z n := by
  obtain ⟨neg, a, cap, ds, hv, hr, r⟩ := h
  exact ⟨neg, a, cap, ds, hv, hr.1, r⟩
theorem Rfar.next (h : Rfar w P v z n) (hb : Below w.heap.size w w') : Rfar w' P v z n := by
  obtain ⟨neg, a, cap, ds, hv, hr, r⟩ := h
  exact ⟨neg, a, cap, ds, hv, ⟨hr.1.next hb, hr.2⟩, r⟩
theorem Rfar.set (h : Rfar w P v z n) {p : Addr} {u : Value} (h1 : ¬ P p.block) : Rfar (w.setCell p u) P v z n := by
  obtain ⟨neg, a, cap, ds, hv, hr, r⟩ := h
  refine ⟨neg, a, cap, ds, hv, ⟨⟨hr.1.le, hr.1.max, hr.1.nil, fun x hx i hi => keep_set (hr.1.cell x hx i hi) ?_, hr.1.words⟩, hr.2⟩, r⟩
  have := hr.2 x hx (by intro e; subst e; simp at hi)
  rw [add_block]
  exact fun e => h1 (by rw [e]; exact this)
theorem Rfar.more (h : Rfar w P v z n) {m : Nat} (hm : n ≤ m) : Rfar w P v z m := by
  obtain ⟨neg, a, cap, ds, hv, hr, h1, h2, h3⟩ := h
  exact ⟨neg, a, cap, ds, hv, hr, h1, h2, by omega⟩
theorem Rint.far (h : Rint w v z n) (h1 : ∀ b, b < w.heap.size → P b) : Rfar w P v z n := by
  obtain ⟨neg, a, cap, ds, hv, hr, r⟩ := h
  refine ⟨neg, a, cap, ds, hv, ⟨hr, fun x hx hne => h1 _ ?_⟩, r⟩
  have := cell_lt (hr.cell x hx 0 (List.length_pos_iff.2 hne))
  rwa [add_block] at this
theorem Rout.far {base : Nat} (h : Rout w base v z n) (h1 : ∀ b, base ≤ b → b < w.heap.size → P b) : Rfar w P v z n := by
  obtain ⟨neg, a, cap, ds, hv, hr, r⟩ := h
  refine ⟨neg, a, cap, ds, hv, ⟨hr.1, fun x hx hne => h1 _ (hr.2 x hx) ?_⟩, r⟩
  have := cell_lt (hr.1.cell x hx 0 (List.length_pos_iff.2 hne))
  rwa [add_block] at this
end
theorem box1r (w : World) (v0 v1 : Value) (T : TypeId) : ∃ W, W = w.alloc (.cells #[v0, v1] T) ∧ Below w.heap.size w W ∧ w.heap.size < W.heap.size ∧ W.cell? ⟨w.heap.size, 0, none⟩ = some v0 ∧ W.cell? ⟨w.heap.size, 1, none⟩ = some v1 ∧ W.frozen? ⟨w.heap.size, 0, none⟩ = false ∧ W.frozen? ⟨w.heap.size, 1, none⟩ = false := by
  refine ⟨_, rfl, (Below.refl _ _).alloc (Nat.le_refl _) _, by simp, ?_, ?_, ?_, ?_⟩ <;> simp [go_sem]
set_option maxHeartbeats 1000000 in
theorem rOf_one (w : World) : Calls Try.prog 36 #[.int .i64 1] w fun e w' => ∃ v, e = .returned v ∧ Rout w' w.heap.size v 1 1 ∧ Below w.heap.size w w' := by
  obtain ⟨i0, hi, hz0, hz1, hz2⟩ := info_parts Try.info3
  obtain ⟨W, hW, hbW, hlt, c4, c5, f4, f5⟩ := box1r w (.bool false) (.slice none 0 0) 30
  obtain ⟨a2, cap2, w2, hr, hown2, hb2⟩ := run_append_row (P := Try.prog) (W.alloc (.cells #[.int .i64 1] 3)) 28 28 3 W.heap.size .i64 8 65536 i0 Try.underlying28 hi hz0 hz1 hz2 none 0 0 [] (Own.empty _ _ _ _ _) rfl ⟨W.heap.size, 0, none⟩ 1 1 [1] (Row.alloc1 W .i64 3 65536 1 (by decide)) rfl (by omega) (by omega) (by omega) (by simp)
  replace hr : Hid _ := hr
  have hbb : Below W.heap.size W w2 := ((Below.refl _ W).alloc (Nat.le_refl _) _).trans hb2
  have k4 := keep_cell hbb c4
  have k5 := keep_cell hbb c5
  have g4 := keep_frozen hbb c4 f4
  have g5 := keep_frozen hbb c5 f5
  have hBB := bthen hbW hbb
  have hbs := hbW.size
  have hO : ∀ w', Own w' W.heap.size .i64 3 65536 a2 cap2 ([] ++ [1]) → Rout w' w.heap.size (.agg #[.bool false, .slice a2 1 cap2]) 1 1 := by
    intro w' h
    exact ⟨false, a2, cap2, [1], rfl, ⟨h.row, fun x hx => Nat.le_trans hbs (own_block h hx)⟩, ⟨⟨fun _ => by decide, trivial⟩, fun h => by cases h⟩, by simp [num, val], by simp⟩
  go_enter Try.func36, Try.ntmps36
  go_wp2
  rw [← hW]
  clear hW
  refine wp_loop_rounds 2 ?_
  rw [rounds_succ]
  go_wp2_with (at_builtin; refine wpList_append_run (by rfl) (.tmp 16) (.tmp 18) 28 28 (by rfl) (.slice none 0 0) (.slice (some ⟨W.heap.size, 0, none⟩) 1 1) (by rfl) (by rfl) _ _ hr.out ?_)
  rw [rounds_succ]
  go_wp2
  refine bodyPost_ret (v := .agg #[.bool false, .slice a2 1 cap2]) (by simp [results, Try.results36, go_sem, k4, k5]) rfl ⟨_, rfl, hO _ ((hown2.set (by exact hlt) _).set (by exact hlt) _), (hBB.setCell (by simp) _).setCell (by simp) _⟩
end Go.Proofs.Ytdcjgepgiaaaoaa
