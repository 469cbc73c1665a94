/- The second road's numbers: From, To, Is. -/
import Derived.Test.YtdcjgepgiaaaoaaRc
import Derived.Test.YtdcjgepgiaaaoaaApp
namespace Go.Proofs.Ytdcjgepgiaaaoaa
open Go.RowKit
attribute [local go_sem ↓] Go.wp_at_zero Go.wp_at_succ
/-- A value of the second road that reads as the number z, in normal form, in at most n digits. -/
def Rint (w : World) (v : Value) (z : Int) (n : Nat) : Prop :=
  ∃ (neg : Bool) (a : Option Addr) (cap : Nat) (ds : List Int), v = .agg #[.bool neg, .slice a ds.length cap] ∧ Row w .i64 65536 a cap ds ∧ Norm neg ds ∧ num 65536 neg ds = z ∧ ds.length ≤ n
theorem Rint.next {w w' : World} {v : Value} {z : Int} {n : Nat} (h : Rint w v z n) (hb : Below w.heap.size w w') : Rint w' v z n := by
  obtain ⟨neg, a, cap, ds, hv, hr, r⟩ := h
  exact ⟨neg, a, cap, ds, hv, hr.next hb, r⟩
theorem Rint.form {w : World} {v : Value} {z : Int} {n : Nat} (h : Rint w v z n) : ∃ neg a l cap, v = .agg #[.bool neg, .slice a l cap] := by
  obtain ⟨neg, a, cap, ds, hv, _⟩ := h
  exact ⟨neg, a, ds.length, cap, hv⟩
theorem Rint.mono {w : World} {v : Value} {z : Int} {n m : Nat} (h : Rint w v z n) (hm : n ≤ m) : Rint w v z m := by
  obtain ⟨neg, a, cap, ds, hv, hr, h1, h2, h3⟩ := h
  exact ⟨neg, a, cap, ds, hv, hr, h1, h2, by omega⟩
/-- The same in memory from block base on. -/
def Rout (w : World) (base : Nat) (v : Value) (z : Int) (n : Nat) : Prop :=
  ∃ (neg : Bool) (a : Option Addr) (cap : Nat) (ds : List Int), v = .agg #[.bool neg, .slice a ds.length cap] ∧ Rown w base a cap ds ∧ Norm neg ds ∧ num 65536 neg ds = z ∧ ds.length ≤ n
theorem Rout.rint {w : World} {base : Nat} {v : Value} {z : Int} {n : Nat} (h : Rout w base v z n) : Rint w v z n := by
  obtain ⟨neg, a, cap, ds, hv, hr, h1⟩ := h
  exact ⟨neg, a, cap, ds, hv, hr.1, h1⟩
theorem wrap_i64 (p : Int) (h0 : -9223372036854775808 ≤ p) (h1 : p ≤ 9223372036854775807) : IntKind.i64.wrap p = p := by show IntKind.wrap _ _ = _; unfold IntKind.wrap; simp [IntKind.bits, IntKind.signed]; omega
theorem own_block {w : World} {base : Nat} {k : IntKind} {T : TypeId} {B : Int} {a : Option Addr} {cap : Nat} {zs : List Int} (h : Own w base k T B a cap zs) {x : Addr} (hx : a = some x) : base ≤ x.block := by
  obtain ⟨_, ⟨rfl, _⟩ | ⟨g, rfl, hg, _⟩⟩ := h
  · cases hx
  · cases hx; exact hg
theorem boxes2t (w : World) (v0 v1 v4 v5 : Value) (T T' : TypeId) : ∃ W, W = (w.alloc (.cells #[v0, v1] T)).alloc (.cells #[v4, v5] T') ∧ Below w.heap.size w W ∧ w.heap.size + 1 < W.heap.size ∧
    W.cell? ⟨w.heap.size, 0, none⟩ = some v0 ∧ W.cell? ⟨w.heap.size, 1, none⟩ = some v1 ∧ W.cell? ⟨w.heap.size + 1, 0, none⟩ = some v4 ∧ W.cell? ⟨w.heap.size + 1, 1, none⟩ = some v5 ∧
    W.frozen? ⟨w.heap.size + 1, 0, none⟩ = false ∧ W.frozen? ⟨w.heap.size + 1, 1, none⟩ = false := by
  refine ⟨_, rfl, ((Below.refl _ _).alloc (Nat.le_refl _) _).alloc (by simp) _, by simp, ?_, ?_, ?_, ?_, ?_, ?_⟩ <;> simp [go_sem, World.cell?_alloc_past]
theorem num_halves (n : Bool) (xs : List Int) : num 65536 (n && decide (0 < (trimmed (halves xs)).length)) (trimmed (halves xs)) = num 4294967296 n xs := by
  have h : val 65536 (trimmed (halves xs)) = val 4294967296 xs := by rw [trimmed_val, halves_val]
  cases n with
  | false => simp [num, h]
  | true =>
    by_cases hl : 0 < (trimmed (halves xs)).length
    · simp [num, hl, h]
    · have hn : trimmed (halves xs) = [] := List.eq_nil_of_length_eq_zero (by omega)
      simp only [hn] at h ⊢
      simp only [val_nil] at h
      simp [num, ← h, val]
theorem norm_pick (n : Bool) (zs : List Int) (h : nrm zs) : Norm (n && decide (0 < zs.length)) zs := by
  refine ⟨h, fun hh e => ?_⟩
  subst e
  simp at hh
set_option maxHeartbeats 2000000 in
set_option maxRecDepth 100000 in
theorem From_any (na : Bool) (x : Option Addr) (ca : Nat) (xs : List Int) (w : World) (ha : Row w .u32 4294967296 x ca xs) (hl : xs.length ≤ 1000000) :
    Calls Try.prog 11 #[.agg #[.bool na, .slice x xs.length ca]] w fun e w' => ∃ v, e = .returned v ∧ Rout w' w.heap.size v (num 4294967296 na xs) (2 * xs.length) ∧ Below w.heap.size w w' := by
  obtain ⟨i0, hi, hz0, hz1, hz2⟩ := info_parts Try.info3
  go_enter Try.func11, Try.ntmps11
  go_wp2
  obtain ⟨W, hW, hbW, hlt, c0, c1, c4, c5, f4, f5⟩ := boxes2t w (.bool na) (.slice x xs.length ca) (.bool false) (.slice none 0 0) 24 30
  rw [← hW]
  clear hW
  have haW := ha.next hbW
  go_loopw [3, 4] (fun d i wr => ∃ (k : Nat) (a' : Option Addr) (cap' : Nat), k ≤ xs.length ∧ i = .int .i64 k ∧ d = .slice a' (2 * k) cap' ∧ Own wr W.heap.size .i64 3 65536 a' cap' (halves (xs.take k)) ∧ Below W.heap.size W wr) (fun _ i _ => xs.length - (intOf i).toNat)
  case atStart => exact ⟨0, none, 0, by omega, rfl, rfl, Own.empty _ _ _ _ _, Below.refl _ _⟩
  case round =>
    obtain ⟨k, a', cap', hk, rfl, rfl, hown, hbel⟩ := hrel
    have k1 := keep_cell hbel c1
    have hln : (halves (xs.take k)).length = 2 * k := by rw [halves_len, List.length_take]; omega
    by_cases hkl : k < xs.length
    · obtain ⟨x, rfl⟩ := haW.some_of hkl
      obtain ⟨p, hp, hp0, hp1⟩ := ha.words.get (by decide) k
      have hce := (haW.next hbel).cell x rfl k hkl
      rw [hp] at hce
      have HT : Hid (halves (xs.take (k + 1)) = halves (xs.take k) ++ [p % 65536, p / 65536]) := by have := halves_take xs k hkl; rw [hp] at this; exact this
      have HP : Hid (xs[k]?.getD 0 = p) := hp
      clear hp
      have e0 : IntKind.i64.wrap p = p := wrap_i64 p (by omega) (by omega)
      have e1 : (IntKind.i64.wrap p).tmod 65536 = p % 65536 := by rw [e0, Int.tmod_eq_emod_of_nonneg hp0]
      have e2 : IntKind.i64.wrap ((IntKind.i64.wrap p).tdiv 65536) = p / 65536 := by rw [e0, Int.tdiv_eq_ediv_of_nonneg hp0]; exact wrap_i64 _ (by omega) (by omega)
      have hD : Below wr.heap.size wr (wr.alloc (.cells #[.int .i64 ((IntKind.i64.wrap p).tmod 65536), .int .i64 (IntKind.i64.wrap ((IntKind.i64.wrap p).tdiv 65536))] 3)).drew := ((Below.refl _ _).alloc (Nat.le_refl _) _).drew
      have hs := hbel.size
      obtain ⟨a2, cap2, w2, hr, hown2, hb2⟩ := run_append_row (P := Try.prog) (wr.alloc (.cells #[.int .i64 ((IntKind.i64.wrap p).tmod 65536), .int .i64 (IntKind.i64.wrap ((IntKind.i64.wrap p).tdiv 65536))] 3)).drew 28 28 3 W.heap.size .i64 8 65536 i0 Try.underlying28 hi hz0 hz1 hz2 a' cap' (2 * k) _ (hown.next hD) hln ⟨wr.heap.size, 0, none⟩ 2 2 _ ((Row.alloc2 wr .i64 3 65536 _ _ (by rw [e1]; omega) (by rw [e2]; omega)).next ((Below.refl _ _).drew)) rfl (by omega) (by omega) (by omega) (by simp; omega)
      replace hr : Hid _ := hr
      rw [e1, e2, ← HT.out] at hown2
      have hbel2 : Below W.heap.size W w2 := (hbel.trans (hD.mono hs)).trans hb2
      replace e0 : Hid _ := e0
      replace e1 : Hid _ := e1
      replace e2 : Hid _ := e2
      have k1d : wr.drew.cell? ⟨w.heap.size, 1, none⟩ = some (.slice (some x) xs.length ca) := k1
      have hced : wr.drew.cell? (x.add k) = some (.int .u32 p) := hce
      go_wp2
      go_region_held3 (fun w' => w'.cell? ⟨w.heap.size, 1, none⟩ = some (.slice (some x) xs.length ca) ∧ w'.cell? (x.add k) = some (.int .u32 p)) (first | with_reducible exact ⟨k1d, hced⟩ | with_reducible exact ⟨k1, hce⟩ | with_reducible exact ⟨keep_cell hD k1, keep_cell hD hce⟩ | (with_reducible refine ⟨keep_cell (wk := W) hbel2 c1, ?_⟩; rw [← HP.out]; exact (haW.next hbel2).cell x rfl k hkl))
        (first
          | (refine step_append_run (by rfl) (.tmp 12) (.tmp 27) 28 28 (by rfl) (.slice a' (2 * k) cap') (.slice (some ⟨wr.heap.size, 0, none⟩) 2 2) (by rfl) (by rfl) _ _ hr.out ?_))
      go_wp2
      go_roundw
      case rel => exact ⟨k + 1, a2, cap2, by omega, by go_num, rfl, hown2, hbel2⟩
      case measure => simp [intOf]; omega
    · obtain rfl : k = xs.length := by omega
      rw [take_all (Nat.le_refl _)] at hown hln
      have k0 := keep_cell hbel c0
      have k4 := keep_cell hbel c4
      have k5 := keep_cell hbel c5
      have g4 := keep_frozen hbel c4 f4
      have g5 := keep_frozen hbel c5 f5
      have htr := rtrim_any a' cap' _ wr hown.row
      rw [hln] at htr
      have hB := bthen hbW hbel
      have hnn := num_halves na xs
      have hnm := norm_pick na (trimmed (halves xs)) (trimmed_nrm _)
      have hle := trimmed_le (halves xs)
      rw [hln] at hle
      have hO : ∀ w', Own w' W.heap.size .i64 3 65536 a' cap' (halves xs) → Rout w' w.heap.size (.agg #[.bool (na && decide (0 < (trimmed (halves xs)).length)), .slice a' (trimmed (halves xs)).length (trimmed (halves xs)).length]) (num 4294967296 na xs) (2 * xs.length) :=
        fun w' ho => ⟨_, _, _, _, rfl, ⟨ho.row.cutTrim, fun x hx => Nat.le_trans hbW.size (own_block ho hx)⟩, hnm, hnn, hle⟩
      generalize (trimmed (halves xs)).length = n at *
      clear hnn hnm hln
      go_wp2_with fail
      refine Calls.mono htr ?_
      rintro e w' ⟨rfl, rfl⟩
      clear htr
      cases na with
      | false =>
        go_wp2
        refine bodyPost_ret (v := .agg #[.bool false, .slice a' n n]) (by simp [results, Try.results11, go_sem, k4, k5]) rfl ⟨_, rfl, ?_, (hB.setCell (by simp) _).setCell (by simp) _⟩
        exact hO _ ((hown.set (by exact hlt) _).set (by exact hlt) _)
      | true =>
        by_cases hn : 0 < n
        · have hn' : (n : Int) > 0 := by omega
          go_wp2
          refine bodyPost_ret (v := .agg #[.bool true, .slice a' n n]) (by simp [results, Try.results11, go_sem, k4, k5]) rfl ⟨_, rfl, ?_, (hB.setCell (by simp) _).setCell (by simp) _⟩
          have hO' := hO _ ((hown.set (p := ⟨w.heap.size + 1, 0, none⟩) (by exact hlt) (.bool true)).set (p := ⟨w.heap.size + 1, 1, none⟩) (by exact hlt) (.slice a' n n))
          simpa [hn] using hO'
        · have hn' : ¬ (n : Int) > 0 := by omega
          go_wp2
          refine bodyPost_ret (v := .agg #[.bool false, .slice a' n n]) (by simp [results, Try.results11, go_sem, k4, k5]) rfl ⟨_, rfl, ?_, (hB.setCell (by simp) _).setCell (by simp) _⟩
          have hO' := hO _ ((hown.set (p := ⟨w.heap.size + 1, 0, none⟩) (by exact hlt) (.bool false)).set (p := ⟨w.heap.size + 1, 1, none⟩) (by exact hlt) (.slice a' n n))
          simpa [hn] using hO'
end Go.Proofs.Ytdcjgepgiaaaoaa
