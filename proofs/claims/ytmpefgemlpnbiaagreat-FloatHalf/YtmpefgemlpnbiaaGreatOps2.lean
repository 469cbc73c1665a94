/- Contracts of Neg, sign, Cmp, Bits, Of. -/
import Derived.Test.YtmpefgemlpnbiaaGreatOps
namespace Go.Proofs.YtmpefgemlpnbiaaGreat
open Go.RowKit
attribute [local go_sem ↓] Go.wp_at_zero Go.wp_at_succ
theorem trimmed_zero_iff {B : Int} (hB : 1 < B) {xs : List Int} (h : Words B xs) : trimmed xs = [] ↔ val B xs = 0 := by
  constructor
  · intro e; rw [← trimmed_val, e]; rfl
  · intro e
    by_cases hn : trimmed xs = []
    · exact hn
    · have := nrm_val_pos hB h.trimmed (trimmed_nrm xs) hn
      rw [trimmed_val] at this; omega
theorem sign_eq {B : Int} (hB : 1 < B) (n : Bool) {xs : List Int} (h : Words B xs) (hne : trimmed xs ≠ []) : cmpI (num B n xs) 0 = if n = true then -1 else 1 := by
  have h1 := val_nonneg (by omega) h
  have h2 : val B xs ≠ 0 := fun e => hne ((trimmed_zero_iff hB h).2 e)
  cases n
  · simp only [num]; rw [cmpI_gt (by simp; omega)]; rfl
  · simp only [num]; rw [cmpI_lt (by simp; omega)]; rfl
set_option maxHeartbeats 400000 in
theorem sign_any (n : Bool) (x : Option Addr) (ca : Nat) (xs : List Int) (w : World) (ha : Row w .u32 4294967296 x ca xs) (_hl : xs.length ≤ 1000000) :
    Calls Tryz.prog 147 #[.agg #[.bool n, .slice x xs.length ca]] w fun e w' => e = .returned (.int .i64 (cmpI (num 4294967296 n xs) 0)) ∧ Below w.heap.size w w' := by
  have hbel : Below w.heap.size w (w.alloc (.cells #[.bool n, .slice x xs.length ca] 24)) := (Below.refl _ _).alloc (Nat.le_refl _) _
  have hlen := trimmed_le xs
  by_cases h0 : trimmed xs = []
  · have hz : (trimmed xs).length = 0 := by simp [h0]
    have HS : Hid (cmpI (num 4294967296 n xs) 0 = 0) := by
      show cmpI _ _ = _
      rw [cmpI_eq]
      have := (trimmed_zero_iff (by decide) ha.words).1 h0
      simp [num, this]
    clear h0
    go_enter Tryz.func147, Tryz.ntmps147
    go_wp2_with (go_at_call 78; refine (trim_any _ _ _ _ (ha.next hbel)).mono ?_; rintro e w' ⟨rfl, rfl⟩)
    go_ret
    exact ⟨ret_int HS.out.symm, hbel⟩
  · have hz : (((trimmed xs).length : Int) == 0) = false := by
      have := List.length_pos_iff.2 h0
      simp; omega
    have HS : Hid _ := sign_eq (B := 4294967296) (by decide) n ha.words h0
    clear h0
    cases n
    · go_enter Tryz.func147, Tryz.ntmps147
      go_wp2_with (go_at_call 78; refine (trim_any _ _ _ _ (ha.next hbel)).mono ?_; rintro e w' ⟨rfl, rfl⟩)
      go_ret
      exact ⟨ret_int HS.out.symm, hbel⟩
    · go_enter Tryz.func147, Tryz.ntmps147
      go_wp2_with (go_at_call 78; refine (trim_any _ _ _ _ (ha.next hbel)).mono ?_; rintro e w' ⟨rfl, rfl⟩)
      go_ret
      exact ⟨ret_int HS.out.symm, hbel⟩
set_option maxHeartbeats 1000000 in
theorem Neg_any (n : Bool) (x : Option Addr) (ca : Nat) (xs : List Int) (w : World) (ha : Row w .u32 4294967296 x ca xs) (hl : xs.length ≤ 1000000) :
    Calls Tryz.prog 144 #[.agg #[.bool n, .slice x xs.length ca]] w fun e w' => ∃ v, e = .returned v ∧ Out w' w.heap.size v (- num 4294967296 n xs) xs.length ∧ Below w.heap.size w w' := by
  have tx := trimmed_le xs
  go_enter Tryz.func144, Tryz.ntmps144
  go_wp2
  obtain ⟨W, hW, hbW, hlt, c0, c1, c4, c5, f4, f5⟩ := boxes2 w (.bool n) (.slice x xs.length ca) (.bool false) (.slice none 0 0) 24
  rw [← hW]
  clear hW
  have haD : Row W.drew .u32 4294967296 x ca xs := (ha.next hbW).next ((Below.refl _ _).drew)
  have hD0 : Below W.heap.size W W.drew := (Below.refl _ _).drew
  go_region_held3 (fun w' => w'.cell? ⟨w.heap.size, 0, none⟩ = some (.bool n) ∧ w'.cell? ⟨w.heap.size, 1, none⟩ = some (.slice x xs.length ca)) (refine ⟨?_, ?_⟩ <;> first | assumption | exact c0 | exact c1 | (refine keep_cell (wk := W) ?_ ?_ <;> assumption) | (refine keep_set (keep_set (keep_cell (wk := W) (w' := w2) hB2 ?_) ?_) ?_ <;> first | assumption | (simp; done) | (simp; omega)))
    (first
      | (go_at_call 78; refine (trim_any x ca xs _ haD).mono ?_; rintro e w1 ⟨rfl, rfl⟩)
      | (go_at_call 123; refine (clone_any x ca (trimmed xs) _ haD.trim (by omega)).mono ?_; rintro e w1 ⟨x', c', rfl, hown, hb1⟩; have hB1 : Below W.heap.size W w1 := bthen hD0 hb1)
      | (go_at_call 80; refine (number_any (!n) _ _ (trimmed xs) W.heap.size _ hown (by omega)).mono ?_; rintro e w2 ⟨v, rfl, ⟨neg, a, cap, ds, rfl, hr, hn, hz, hle⟩, hb2⟩; replace hz : Hid _ := hz; replace hn : Hid _ := hn; have hB2 : Below W.heap.size W w2 := bthen hB1 hb2; have k4 := keep_cell hB2 c4; have k5 := keep_cell hB2 c5; have g4 := keep_frozen hB2 c4 f4; have g5 := keep_frozen hB2 c5 f5))
  go_wp2
  refine bodyPost_ret (v := .agg #[.bool neg, .slice a ds.length cap]) (by simp [results, Tryz.results144, go_sem, k4, k5]) rfl ⟨_, rfl, ⟨neg, a, cap, ds, rfl, ((hr.set (by exact hlt) _).set (by exact hlt) _).mono hbW.size, hn.out, ?_, ?_⟩, ?_⟩
  · rw [hz.out, num_trim, num_not]
  · omega
  · exact ((bthen hbW hB2).setCell (by simp) _).setCell (by simp) _
theorem wrap_neg64 (n : Int) (h0 : -9223372036854775808 ≤ n) (hn : n < 0) : IntKind.u64.wrap (-IntKind.u64.wrap n) = -n := by
  have h : ∀ m : Int, IntKind.u64.wrap m = m % 18446744073709551616 := fun m => by simp [IntKind.wrap, IntKind.bits, IntKind.signed]
  rw [h, h]; omega
/-- The common part of Of: a new struct, a new row of two words, number's answer put into the struct. -/
theorem Of_key (neg : Bool) (p q : Int) (w : World) (hp : 0 ≤ p ∧ p < 4294967296) (hq : 0 ≤ q ∧ q < 4294967296) :
    Calls Tryz.prog 80 #[.bool neg, .slice (some ⟨w.heap.size + 1, 0, none⟩) 2 2] ((w.alloc (.cells #[.bool false, .slice none 0 0] 24)).alloc (.cells #[.int .u32 p, .int .u32 q] 47)) fun e w' => ∃ v, e = .returned v ∧ Out w' (w.heap.size + 1) v (num 4294967296 neg [p, q]) 2 ∧ Below (w.heap.size + 1 + 1) ((w.alloc (.cells #[.bool false, .slice none 0 0] 24)).alloc (.cells #[.int .u32 p, .int .u32 q] 47)) w' := by
  have hb := Blk.new (w.alloc (.cells #[.bool false, .slice none 0 0] 24)) .u32 47 [p, q] (by simp [maxLen])
  rw [show (w.alloc (.cells #[.bool false, .slice none 0 0] 24)).heap.size = w.heap.size + 1 from by simp] at hb
  have key := number_any neg (some ⟨w.heap.size + 1, 0, none⟩) 2 [p, q] (w.heap.size + 1) _ (hb.own (Words.cons hp (Words.one hq)) (Nat.le_refl _)) (by simp)
  refine Calls.mono key ?_
  rintro e w' ⟨v, rfl, ho, hbl⟩
  exact ⟨v, rfl, ho, hbl.mono (by simp)⟩
set_option maxHeartbeats 1000000 in
theorem Of_any (n : Int) (w : World) (h0 : -9223372036854775808 ≤ n) (h1 : n ≤ 9223372036854775807) :
    Calls Tryz.prog 46 #[.int .i64 n] w fun e w' => ∃ v, e = .returned v ∧ Out w' w.heap.size v n 2 ∧ Below w.heap.size w w' := by
  have c4 : ∀ (p q : Int), ((w.alloc (.cells #[.bool false, .slice none 0 0] 24)).alloc (.cells #[.int .u32 p, .int .u32 q] 47)).cell? ⟨w.heap.size, 0, none⟩ = some (.bool false) := by intro p q; simp [go_sem, World.cell?_alloc_past]
  have c5 : ∀ (p q : Int), ((w.alloc (.cells #[.bool false, .slice none 0 0] 24)).alloc (.cells #[.int .u32 p, .int .u32 q] 47)).cell? ⟨w.heap.size, 1, none⟩ = some (.slice none 0 0) := by intro p q; simp [go_sem, World.cell?_alloc_past]
  have hbW : ∀ (p q : Int), Below w.heap.size w ((w.alloc (.cells #[.bool false, .slice none 0 0] 24)).alloc (.cells #[.int .u32 p, .int .u32 q] 47)) := by intro p q; exact ((Below.refl _ _).alloc (Nat.le_refl _) _).alloc (by simp) _
  by_cases hn : n < 0
  · have e1 := wrap_neg64 n h0 hn
    go_enter Tryz.func46, Tryz.ntmps46
    go_wp2_with fail
    clear e1
    refine (Of_key true (-n % 4294967296) (-n / 4294967296) w (by omega) (by omega)).mono ?_
    rintro e w3 ⟨v, rfl, ⟨neg, a, cap, ds, rfl, hr, hn', hz, hle⟩, hb3⟩
    replace hz : Hid _ := hz
    replace hn' : Hid _ := hn'
    have k4 : w3.cell? ⟨w.heap.size, 0, none⟩ = some (.bool false) := (hb3.cell (by simp; omega)).trans (c4 _ _)
    have k5 : w3.cell? ⟨w.heap.size, 1, none⟩ = some (.slice none 0 0) := (hb3.cell (by simp; omega)).trans (c5 _ _)
    have g4 : w3.frozen? ⟨w.heap.size, 0, none⟩ = false := (hb3.frozen (by simp; omega)).trans (by simp [go_sem, World.frozen?_alloc_past])
    have g5 : w3.frozen? ⟨w.heap.size, 1, none⟩ = false := (hb3.frozen (by simp; omega)).trans (by simp [go_sem, World.frozen?_alloc_past])
    clear c4 c5
    go_wp2
    refine bodyPost_ret (v := .agg #[.bool neg, .slice a ds.length cap]) (by simp [results, Tryz.results46, go_sem, k4, k5]) rfl ⟨_, rfl, ⟨neg, a, cap, ds, rfl, ((hr.set (by simp) _).set (by simp) _).mono (by omega), hn'.out, ?_, hle⟩, ?_⟩
    · rw [hz.out]; simp [num, val]; omega
    · exact ((hbW _ _).trans (hb3.mono (by omega))).setCell (by simp) _ |>.setCell (by simp) _
  · go_enter Tryz.func46, Tryz.ntmps46
    go_wp2_with fail
    refine (Of_key false (n % 4294967296) (n / 4294967296) w (by omega) (by omega)).mono ?_
    rintro e w3 ⟨v, rfl, ⟨neg, a, cap, ds, rfl, hr, hn', hz, hle⟩, hb3⟩
    replace hz : Hid _ := hz
    replace hn' : Hid _ := hn'
    have k4 : w3.cell? ⟨w.heap.size, 0, none⟩ = some (.bool false) := (hb3.cell (by simp; omega)).trans (c4 _ _)
    have k5 : w3.cell? ⟨w.heap.size, 1, none⟩ = some (.slice none 0 0) := (hb3.cell (by simp; omega)).trans (c5 _ _)
    have g4 : w3.frozen? ⟨w.heap.size, 0, none⟩ = false := (hb3.frozen (by simp; omega)).trans (by simp [go_sem, World.frozen?_alloc_past])
    have g5 : w3.frozen? ⟨w.heap.size, 1, none⟩ = false := (hb3.frozen (by simp; omega)).trans (by simp [go_sem, World.frozen?_alloc_past])
    clear c4 c5
    go_wp2
    refine bodyPost_ret (v := .agg #[.bool neg, .slice a ds.length cap]) (by simp [results, Tryz.results46, go_sem, k4, k5]) rfl ⟨_, rfl, ⟨neg, a, cap, ds, rfl, ((hr.set (by simp) _).set (by simp) _).mono (by omega), hn'.out, ?_, hle⟩, ?_⟩
    · rw [hz.out]; simp [num, val]; omega
    · exact ((hbW _ _).trans (hb3.mono (by omega))).setCell (by simp) _ |>.setCell (by simp) _
end Go.Proofs.YtmpefgemlpnbiaaGreat
