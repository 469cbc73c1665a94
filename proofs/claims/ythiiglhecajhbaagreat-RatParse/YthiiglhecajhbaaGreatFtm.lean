/- A fraction cut to its first words. -/
import Derived.Test.YthiiglhecajhbaaGreatFim
namespace Go.Proofs.YthiiglhecajhbaaGreat
open Go.RowKit
attribute [local go_sem ↓] Go.wp_at_zero Go.wp_at_succ
set_option maxRecDepth 20000 in
set_option maxHeartbeats 8000000 in
theorem Cut26_any {w : World} (n1 : Bool) (x1 : Option Addr) (c1 : Nat) (xs : List Int) (n2 : Bool) (x2 : Option Addr) (c2 : Nat) (ys : List Int) (m : Nat) (h1 : Row w .u32 4294967296 x1 c1 xs) (h2 : Row w .u32 4294967296 x2 c2 ys) (hm : m ≤ 1000) :
    Calls Tryz.prog 7 #[.agg #[.bool n1, .slice x1 xs.length c1, .bool n2, .slice x2 ys.length c2], .int .i64 m] w fun e w' => e = .returned (.agg #[.bool n1, .slice x1 (xs.take m).length c1, .bool n2, .slice x2 (ys.take m).length c2]) ∧ Below w.heap.size w w' := by
  obtain ⟨W, hW, hbW, ⟨e0, e1, e2, e3⟩, x0⟩ := boxes_low w n1 x1 xs.length c1 n2 x2 ys.length c2
  have hN := h1.next hbW
  have hD := h2.next hbW
  have hD0 : Below W.heap.size W W.drew := (Below.refl _ _).drew
  have k1 : Hid (∀ w', Below W.heap.size W w' → Calls Tryz.prog 28 #[.agg #[.bool n1, .slice x1 xs.length c1], .int .i64 m] w' fun e w'' => e = .returned (.agg #[.bool n1, .slice x1 (xs.take m).length c1]) ∧ Below W.heap.size W w'') := by
    intro w' h
    refine (Cut_exact n1 x1 c1 m xs w' (hN.next h) hm).mono ?_
    rintro e w'' ⟨rfl, o1, o2, rfl⟩
    exact ⟨rfl, (h.alloc h.size _).alloc (by have := h.size; simp; omega) _⟩
  have k2 : Hid (∀ w', Below W.heap.size W w' → Calls Tryz.prog 28 #[.agg #[.bool n2, .slice x2 ys.length c2], .int .i64 m] w' fun e w'' => e = .returned (.agg #[.bool n2, .slice x2 (ys.take m).length c2]) ∧ Below W.heap.size W w'') := by
    intro w' h
    refine (Cut_exact n2 x2 c2 m ys w' (hD.next h) hm).mono ?_
    rintro e w'' ⟨rfl, o1, o2, rfl⟩
    exact ⟨rfl, (h.alloc h.size _).alloc (by have := h.size; simp; omega) _⟩
  generalize (xs.take m).length = L1 at *
  generalize (ys.take m).length = L2 at *
  clear hN hD h1 h2
  generalize xs.length = X1 at *
  generalize ys.length = X2 at *
  go_enter Tryz.func7, Tryz.ntmps7
  go_wp2
  rw [← hW]
  clear hW
  go_region_with (first
    | (go_at_call 28; refine Calls.mono (k1.out _ hD0) ?_; rintro e w2 ⟨rfl, hB2⟩; clear k1; have p2 := keep_cell hB2 e2; have p3 := keep_cell hB2 e3)
    | (go_at_call 28; refine Calls.mono (k2.out _ hB2) ?_; rintro e w3 ⟨rfl, hB3⟩; clear k2; have y0 := x0.next hB3; obtain ⟨_, _, _, _, _, _, _, _, j0, j1, j2, j3, f⟩ := y0.cells; have f0 := f 0; have f1 := f 1; have f2 := f 2; have f3 := f 3; clear f))
  all_goals
    have hbx : Hid _ := put4_boxed (base := w.heap.size) y0.noint (by omega) n1 x1 L1 c1 n2 x2 L2 c2
    have hBf := bthen hbW hB3
    clear hB2 hB3
    go_wp2
    exact bodyPost_ret (v := .agg #[.bool n1, .slice x1 L1 c1, .bool n2, .slice x2 L2 c2]) (by simp [results, Tryz.results7, go_sem, j0, j1, j2, j3]) rfl ⟨rfl, hbx.out.keep hBf (Nat.le_refl _) hBf.size⟩
end Go.Proofs.YthiiglhecajhbaaGreat
namespace Go.Proofs.YthiiglhecajhbaaGreat
open Go.RowKit
attribute [local go_sem ↓] Go.wp_at_zero Go.wp_at_succ
theorem decs (n : Nat) : 0 < n → ∃ ds, Words 10 ds ∧ nrm ds ∧ ds ≠ [] ∧ val 10 ds = (n : Int) := by
  induction n using Nat.strongRecOn with
  | ind n ih =>
    intro h
    by_cases h9 : n < 10
    · exact ⟨[(n : Int)], Words.one (by omega), ⟨fun _ => by omega, trivial⟩, by simp, by simp [val]⟩
    · obtain ⟨ds, h1, h2, h3, h4⟩ := ih (n / 10) (by omega) (by omega)
      refine ⟨((n % 10 : Nat) : Int) :: ds, Words.cons (by omega) h1, ⟨fun e => absurd e h3, h2⟩, by simp, ?_⟩
      rw [val_cons, h4]
      omega
/-- The digits of a number's text: of 0 there is one. -/
def Decs (y : Int) (ds : List Int) : Prop := Words 10 ds ∧ ds ≠ [] ∧ val 10 ds = (y.natAbs : Int) ∧ (y ≠ 0 → nrm ds) ∧ (y = 0 → ds = [0])
theorem decs_of (y : Int) : ∃ ds, Decs y ds := by
  by_cases h : y = 0
  · subst h
    exact ⟨[0], Words.one (by decide), by simp, rfl, fun h => absurd rfl h, fun _ => rfl⟩
  · obtain ⟨ds, h1, h2, h3, h4⟩ := decs y.natAbs (by omega)
    exact ⟨ds, h1, h3, h4, fun _ => h2, fun e => absurd e h⟩
theorem Text_num {w : World} {u : Value} {y : Int} {m : Nat} {ds : List Int} (hd : Decs y ds) (hu : Num w u y m) (hm : m ≤ 1000) :
    Calls Tryz.prog 36 #[u] w fun e w' => e = .returned (.string (txt (decide (y < 0)) ds)) ∧ Below w.heap.size w w' := by
  by_cases h0 : y = 0
  · have e := hd.2.2.2.2 h0
    subst e
    subst h0
    exact Text_nought hu hm
  · obtain ⟨na, x, ca, xs, rfl, ha, rfl, hl⟩ := hu
    have hv := val_nonneg (B := 4294967296) (by decide) ha.words
    have hne : trimmed xs ≠ [] := by
      intro e
      have := (trimmed_zero_iff (by decide) ha.words).1 e
      apply h0
      cases na <;> simp [num, this]
    have hvp := nrm_val_pos (B := 4294967296) (by decide) ha.words.trimmed (trimmed_nrm xs) hne
    rw [trimmed_val] at hvp
    have hna : decide (num 4294967296 na xs < 0) = na := by cases na <;> simp [num] <;> omega
    refine (Text_any na x ca xs w ha (by omega) hne).mono ?_
    rintro e w' ⟨es, h1, h2, h3, h4, rfl, h⟩
    have : es = ds := nrm_unique (B := 10) (by decide) h1 hd.1 h2 (hd.2.2.2.1 h0) (by rw [h4, hd.2.2.1]; exact val_abs (by decide) ha.words)
    subst this
    rw [hna]
    exact ⟨rfl, h⟩
theorem Decs.len {y : Int} {ds : List Int} (h : Decs y ds) {m : Nat} (hy : (y.natAbs : Int) < 4294967296 ^ m) : ds.length ≤ 10 * m + 1 := by
  by_cases h0 : y = 0
  · rw [h.2.2.2.2 h0]; simp
  · have h1 := nrm_pos (B := 10) (by decide) h.1 (h.2.2.2.1 h0) h.2.1
    rw [h.2.2.1] at h1
    have h2 : (4294967296 : Int) ^ m ≤ (10 ^ 10) ^ m := pow_le_left (by decide) (by decide) m
    rw [← Int.pow_mul] at h2
    by_cases hc : ds.length - 1 < 10 * m
    · omega
    · have h3 : (10 : Int) ^ (10 * m) ≤ 10 ^ (ds.length - 1) := pow_mono (by decide) (by omega)
      omega
theorem txt_size (b : Bool) (ds : List Int) : (txt b ds).size ≤ ds.length + 1 := by
  cases b <;> simp [txt, ByteArray.size, u8s, asc]
theorem box_text (w : World) (m1 : Bool) (a1 : Option Addr) (l1 c1 : Nat) (m2 : Bool) (a2 : Option Addr) (l2 c2 : Nat) : ∃ W, W = w.alloc (.cells #[.bool m1, .slice a1 l1 c1, .bool m2, .slice a2 l2 c2] 26) ∧ Below w.heap.size w W ∧ Box4 W w.heap.size ∧
    (W.cell? ⟨w.heap.size, 0, none⟩ = some (.bool m1) ∧ W.cell? ⟨w.heap.size, 1, none⟩ = some (.slice a1 l1 c1) ∧ W.cell? ⟨w.heap.size, 2, none⟩ = some (.bool m2) ∧ W.cell? ⟨w.heap.size, 3, none⟩ = some (.slice a2 l2 c2)) := by
  refine ⟨_, rfl, (Below.refl _ _).alloc (Nat.le_refl _) _, Box4.new w m1 a1 l1 c1 m2 a2 l2 c2 26 (by decide), ⟨?_, ?_, ?_, ?_⟩⟩
  all_goals simp [go_sem]
set_option maxRecDepth 20000 in
set_option maxHeartbeats 8000000 in
theorem Text26_num {w : World} {v : Value} {n d : Int} {m : Nat} (hv : Frac w v n d m) (hm : m ≤ 200) :
    Calls Tryz.prog 26 #[v] w fun e w' => ∃ p q ds es, Low (pN n d) (pD d) p q ∧ Decs p ds ∧ Decs q es ∧ e = .returned (.string (txt (decide (p < 0)) ds ++ { data := #[47] } ++ txt (decide (q < 0)) es)) ∧ Below w.heap.size w w' := by
  obtain ⟨n1, a1, l1, c1, n2, a2, l2, c2, rfl, h1, h2⟩ := hv
  obtain ⟨W, hW, hbW, x0, e0, e1, e2, e3⟩ := box_text w n1 a1 l1 c1 n2 a2 l2 c2
  have hF : Frac W (.agg #[.bool n1, .slice a1 l1 c1, .bool n2, .slice a2 l2 c2]) n d m := ⟨_, _, _, _, _, _, _, _, rfl, h1.next hbW, h2.next hbW⟩
  have k1 := lowest_num hF (by omega)
  replace k1 : Hid _ := k1
  go_enter Tryz.func26, Tryz.ntmps26
  go_wp2_with fail
  rw [← hW]
  clear hW
  refine Calls.mono k1.out ?_
  rintro e w1 ⟨t, p, q, rfl, hL, hlow, hb1⟩
  clear k1
  obtain ⟨n3, a3, l3, c3, n4, a4, l4, c4, rfl⟩ := hL.form
  have y0 := x0.next hb1
  obtain ⟨_, _, _, _, _, _, _, _, j0, j1, j2, j3, f⟩ := y0.cells
  have f0 := f 0
  have f1 := f 1
  have f2 := f 2
  have f3 := f 3
  have hbx := put4_boxed (base := w.heap.size) y0.noint (by omega) n3 a3 l3 c3 n4 a4 l4 c4
  have hBf := bthen hbW hb1
  have hB1 := hbx.keep hBf (Nat.le_refl _) hBf.size
  have hL1 := hbx.fracE hL
  clear f hL x0 e0 e1 e2 e3 h1 h2 hF
  obtain ⟨W1, hW1⟩ : ∃ X, X = (((w1.setCell ⟨w.heap.size, 0, none⟩ (.bool n3)).setCell ⟨w.heap.size, 1, none⟩ (.slice a3 l3 c3)).setCell ⟨w.heap.size, 2, none⟩ (.bool n4)).setCell ⟨w.heap.size, 3, none⟩ (.slice a4 l4 c4) := ⟨_, rfl⟩
  have g0 : W1.cell? ⟨w.heap.size, 0, none⟩ = some (.bool n3) := by rw [hW1]; simp [go_sem, j0]
  have g1 : W1.cell? ⟨w.heap.size, 1, none⟩ = some (.slice a3 l3 c3) := by rw [hW1]; simp [go_sem, j1]
  have g2 : W1.cell? ⟨w.heap.size, 2, none⟩ = some (.bool n4) := by rw [hW1]; simp [go_sem, j2]
  have g3 : W1.cell? ⟨w.heap.size, 3, none⟩ = some (.slice a4 l4 c4) := by rw [hW1]; simp [go_sem, j3]
  rw [← hW1] at hB1 hL1
  obtain ⟨_, _, _, _, _, _, _, _, he, hP, hQ⟩ := hL1
  cases he
  obtain ⟨ds, hds⟩ := decs_of p
  obtain ⟨es, hes⟩ := decs_of q
  have hD0 : Below W1.heap.size W1 W1.drew := (Below.refl _ _).drew
  have t1 := txt_size (decide (p < 0)) ds
  have t2 := txt_size (decide (q < 0)) es
  have t3 := hds.len hP.num.bound
  have t4 := hes.len hQ.num.bound
  have o1 : ¬ ((txt (decide (p < 0)) ds).size + 1 > 9223372036854775807) := by omega
  have o2 : ¬ ((txt (decide (p < 0)) ds).size + 1 + (txt (decide (q < 0)) es).size > 9223372036854775807) := by omega
  have k1 : Hid (∀ w', Below W1.heap.size W1 w' → Calls Tryz.prog 36 #[.agg #[.bool n3, .slice a3 l3 c3]] w' fun e w'' => e = .returned (.string (txt (decide (p < 0)) ds)) ∧ Below W1.heap.size W1 w'') := by
    intro w' h
    refine (Text_num hds (hP.next h).num (by omega)).mono ?_
    rintro e w'' ⟨rfl, h2⟩
    exact ⟨rfl, bthen h h2⟩
  have k2 : Hid (∀ w', Below W1.heap.size W1 w' → Calls Tryz.prog 36 #[.agg #[.bool n4, .slice a4 l4 c4]] w' fun e w'' => e = .returned (.string (txt (decide (q < 0)) es)) ∧ Below W1.heap.size W1 w'') := by
    intro w' h
    refine (Text_num hes (hQ.next h).num (by omega)).mono ?_
    rintro e w'' ⟨rfl, h2⟩
    exact ⟨rfl, bthen h h2⟩
  have hfin : Hid (∀ (t t' : ByteArray) (w' : World), t = txt (decide (p < 0)) ds → t' = txt (decide (q < 0)) es → Below W1.heap.size W1 w' → ∃ p q ds es, Low (pN n d) (pD d) p q ∧ Decs p ds ∧ Decs q es ∧ Ending.returned (Value.string (t ++ { data := #[47] } ++ t')) = Ending.returned (Value.string (txt (decide (p < 0)) ds ++ { data := #[47] } ++ txt (decide (q < 0)) es)) ∧ Below w.heap.size w w') := by
    intro t t' w' e e' h
    subst e; subst e'
    exact ⟨p, q, ds, es, hlow, hds, hes, rfl, bthen hB1 h⟩
  clear t1 t2 t3 t4 hP hQ hds hes hlow
  generalize ht1 : txt (decide (p < 0)) ds = T1 at *
  generalize ht2 : txt (decide (q < 0)) es = T2 at *
  replace ht1 : Hid _ := ht1
  replace ht2 : Hid _ := ht2
  go_wp2
  rw [← hW1]
  clear hW1
  go_region_with (first
    | (go_at_call 36; refine Calls.mono (k1.out _ hD0) ?_; rintro e w2 ⟨rfl, hB2⟩; clear k1; have p2 := keep_cell hB2 g2; have p3 := keep_cell hB2 g3)
    | (go_at_call 36; refine Calls.mono (k2.out _ hB2) ?_; rintro e w3 ⟨rfl, hB3⟩; clear k2))
  all_goals
    clear hB2
    go_wp2
    go_ret
    exact hfin.out _ _ _ rfl rfl hB3
end Go.Proofs.YthiiglhecajhbaaGreat
