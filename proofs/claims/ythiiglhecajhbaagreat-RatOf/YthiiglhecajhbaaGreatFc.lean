/- A fraction cut to its first words. -/
import Derived.Test.YthiiglhecajhbaaGreatFi
namespace Go.Proofs.YthiiglhecajhbaaGreat
open Go.RowKit
attribute [local go_sem ↓] Go.wp_at_zero Go.wp_at_succ
set_option maxRecDepth 20000 in
set_option maxHeartbeats 8000000 in
theorem Cut26_any {w : World} (n1 : Bool) (x1 : Option Addr) (c1 : Nat) (xs : List Int) (n2 : Bool) (x2 : Option Addr) (c2 : Nat) (ys : List Int) (m : Nat) (h1 : Row w .u32 4294967296 x1 c1 xs) (h2 : Row w .u32 4294967296 x2 c2 ys) (hm : m ≤ 1000) :
    Calls Tryz.prog 7 #[.agg #[.bool n1, .slice x1 xs.length c1, .bool n2, .slice x2 ys.length c2], .int .i64 m] w fun e w' => e = .returned (.agg #[.bool n1, .slice x1 (xs.take m).length c1, .bool n2, .slice x2 (ys.take m).length c2]) ∧ Below w.heap.size w w' := by
  obtain ⟨W, hW, hbW, ⟨e0, e1, e2, e3⟩, x0⟩ := boxes_low w n1 x1 xs.length c1 n2 x2 ys.length c2
  have hN := h1.next hbW
  have hD := h2.next hbW
  have hD0 : Below W.heap.size W W.drew := (Below.refl _ _).drew
  have k1 : Hid (∀ w', Below W.heap.size W w' → Calls Tryz.prog 28 #[.agg #[.bool n1, .slice x1 xs.length c1], .int .i64 m] w' fun e w'' => e = .returned (.agg #[.bool n1, .slice x1 (xs.take m).length c1]) ∧ Below W.heap.size W w'') := by
    intro w' h
    refine (Cut_exact n1 x1 c1 m xs w' (hN.next h) hm).mono ?_
    rintro e w'' ⟨rfl, o1, o2, rfl⟩
    exact ⟨rfl, (h.alloc h.size _).alloc (by have := h.size; simp; omega) _⟩
  have k2 : Hid (∀ w', Below W.heap.size W w' → Calls Tryz.prog 28 #[.agg #[.bool n2, .slice x2 ys.length c2], .int .i64 m] w' fun e w'' => e = .returned (.agg #[.bool n2, .slice x2 (ys.take m).length c2]) ∧ Below W.heap.size W w'') := by
    intro w' h
    refine (Cut_exact n2 x2 c2 m ys w' (hD.next h) hm).mono ?_
    rintro e w'' ⟨rfl, o1, o2, rfl⟩
    exact ⟨rfl, (h.alloc h.size _).alloc (by have := h.size; simp; omega) _⟩
  generalize (xs.take m).length = L1 at *
  generalize (ys.take m).length = L2 at *
  clear hN hD h1 h2
  generalize xs.length = X1 at *
  generalize ys.length = X2 at *
  go_enter Tryz.func7, Tryz.ntmps7
  go_wp2
  rw [← hW]
  clear hW
  go_region_with (first
    | (go_at_call 28; refine Calls.mono (k1.out _ hD0) ?_; rintro e w2 ⟨rfl, hB2⟩; clear k1; have p2 := keep_cell hB2 e2; have p3 := keep_cell hB2 e3)
    | (go_at_call 28; refine Calls.mono (k2.out _ hB2) ?_; rintro e w3 ⟨rfl, hB3⟩; clear k2; have y0 := x0.next hB3; obtain ⟨_, _, _, _, _, _, _, _, j0, j1, j2, j3, f⟩ := y0.cells; have f0 := f 0; have f1 := f 1; have f2 := f 2; have f3 := f 3; clear f))
  all_goals
    have hbx : Hid _ := put4_boxed (base := w.heap.size) y0.noint (by omega) n1 x1 L1 c1 n2 x2 L2 c2
    have hBf := bthen hbW hB3
    clear hB2 hB3
    go_wp2
    exact bodyPost_ret (v := .agg #[.bool n1, .slice x1 L1 c1, .bool n2, .slice x2 L2 c2]) (by simp [results, Tryz.results7, go_sem, j0, j1, j2, j3]) rfl ⟨rfl, hbx.out.keep hBf (Nat.le_refl _) hBf.size⟩
end Go.Proofs.YthiiglhecajhbaaGreat
