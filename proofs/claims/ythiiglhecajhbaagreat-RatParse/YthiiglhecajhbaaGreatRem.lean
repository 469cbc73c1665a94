/- The second road's numbers: From, To, Is. -/
import Derived.Test.YthiiglhecajhbaaGreatRcm
import Derived.Test.YthiiglhecajhbaaGreatApp
namespace Go.Proofs.YthiiglhecajhbaaGreat
open Go.RowKit
attribute [local go_sem ↓] Go.wp_at_zero Go.wp_at_succ
/-- A value of the second road that reads as the number z, in normal form, in at most n digits. -/
def Rint (w : World) (v : Value) (z : Int) (n : Nat) : Prop :=
  ∃ (neg : Bool) (a : Option Addr) (cap : Nat) (ds : List Int), v = .agg #[.bool neg, .slice a ds.length cap] ∧ Row w .i64 65536 a cap ds ∧ Norm neg ds ∧ num 65536 neg ds = z ∧ ds.length ≤ n
theorem Rint.next {w w' : World} {v : Value} {z : Int} {n : Nat} (h : Rint w v z n) (hb : Below w.heap.size w w') : Rint w' v z n := by
  obtain ⟨neg, a, cap, ds, hv, hr, r⟩ := h
  exact ⟨neg, a, cap, ds, hv, hr.next hb, r⟩
theorem Rint.form {w : World} {v : Value} {z : Int} {n : Nat} (h : Rint w v z n) : ∃ neg a l cap, v = .agg #[.bool neg, .slice a l cap] := by
  obtain ⟨neg, a, cap, ds, hv, _⟩ := h
  exact ⟨neg, a, ds.length, cap, hv⟩
theorem Rint.mono {w : World} {v : Value} {z : Int} {n m : Nat} (h : Rint w v z n) (hm : n ≤ m) : Rint w v z m := by
  obtain ⟨neg, a, cap, ds, hv, hr, h1, h2, h3⟩ := h
  exact ⟨neg, a, cap, ds, hv, hr, h1, h2, by omega⟩
/-- The same in memory from block base on. -/
def Rout (w : World) (base : Nat) (v : Value) (z : Int) (n : Nat) : Prop :=
  ∃ (neg : Bool) (a : Option Addr) (cap : Nat) (ds : List Int), v = .agg #[.bool neg, .slice a ds.length cap] ∧ Rown w base a cap ds ∧ Norm neg ds ∧ num 65536 neg ds = z ∧ ds.length ≤ n
theorem Rout.rint {w : World} {base : Nat} {v : Value} {z : Int} {n : Nat} (h : Rout w base v z n) : Rint w v z n := by
  obtain ⟨neg, a, cap, ds, hv, hr, h1⟩ := h
  exact ⟨neg, a, cap, ds, hv, hr.1, h1⟩
theorem wrap_i64 (p : Int) (h0 : -9223372036854775808 ≤ p) (h1 : p ≤ 9223372036854775807) : IntKind.i64.wrap p = p := by show IntKind.wrap _ _ = _; unfold IntKind.wrap; simp [IntKind.bits, IntKind.signed]; omega
theorem own_block {w : World} {base : Nat} {k : IntKind} {T : TypeId} {B : Int} {a : Option Addr} {cap : Nat} {zs : List Int} (h : Own w base k T B a cap zs) {x : Addr} (hx : a = some x) : base ≤ x.block := by
  obtain ⟨_, ⟨rfl, _⟩ | ⟨g, rfl, hg, _⟩⟩ := h
  · cases hx
  · cases hx; exact hg
theorem boxes2t (w : World) (v0 v1 v4 v5 : Value) (T T' : TypeId) : ∃ W, W = (w.alloc (.cells #[v0, v1] T)).alloc (.cells #[v4, v5] T') ∧ Below w.heap.size w W ∧ w.heap.size + 1 < W.heap.size ∧
    W.cell? ⟨w.heap.size, 0, none⟩ = some v0 ∧ W.cell? ⟨w.heap.size, 1, none⟩ = some v1 ∧ W.cell? ⟨w.heap.size + 1, 0, none⟩ = some v4 ∧ W.cell? ⟨w.heap.size + 1, 1, none⟩ = some v5 ∧
    W.frozen? ⟨w.heap.size + 1, 0, none⟩ = false ∧ W.frozen? ⟨w.heap.size + 1, 1, none⟩ = false := by
  refine ⟨_, rfl, ((Below.refl _ _).alloc (Nat.le_refl _) _).alloc (by simp) _, by simp, ?_, ?_, ?_, ?_, ?_, ?_⟩ <;> simp [go_sem, World.cell?_alloc_past]
theorem num_halves (n : Bool) (xs : List Int) : num 65536 (n && decide (0 < (trimmed (halves xs)).length)) (trimmed (halves xs)) = num 4294967296 n xs := by
  have h : val 65536 (trimmed (halves xs)) = val 4294967296 xs := by rw [trimmed_val, halves_val]
  cases n with
  | false => simp [num, h]
  | true =>
    by_cases hl : 0 < (trimmed (halves xs)).length
    · simp [num, hl, h]
    · have hn : trimmed (halves xs) = [] := List.eq_nil_of_length_eq_zero (by omega)
      simp only [hn] at h ⊢
      simp only [val_nil] at h
      simp [num, ← h, val]
theorem norm_pick (n : Bool) (zs : List Int) (h : nrm zs) : Norm (n && decide (0 < zs.length)) zs := by
  refine ⟨h, fun hh e => ?_⟩
  subst e
  simp at hh
set_option maxHeartbeats 2000000 in
set_option maxRecDepth 100000 in
theorem From_any (na : Bool) (x : Option Addr) (ca : Nat) (xs : List Int) (w : World) (ha : Row w .u32 4294967296 x ca xs) (hl : xs.length ≤ 1000000) :
    Calls Tryz.prog 30 #[.agg #[.bool na, .slice x xs.length ca]] w fun e w' => ∃ v, e = .returned v ∧ Rout w' w.heap.size v (num 4294967296 na xs) (2 * xs.length) ∧ Below w.heap.size w w' := by
  obtain ⟨i0, hi, hz0, hz1, hz2⟩ := info_parts Tryz.info3
  go_enter Tryz.func30, Tryz.ntmps30
  go_wp2
  obtain ⟨W, hW, hbW, hlt, c0, c1, c4, c5, f4, f5⟩ := boxes2t w (.bool na) (.slice x xs.length ca) (.bool false) (.slice none 0 0) 24 32
  rw [← hW]
  clear hW
  have haW := ha.next hbW
  go_loopw [3, 4] (fun d i wr => ∃ (k : Nat) (a' : Option Addr) (cap' : Nat), k ≤ xs.length ∧ i = .int .i64 k ∧ d = .slice a' (2 * k) cap' ∧ Own wr W.heap.size .i64 3 65536 a' cap' (halves (xs.take k)) ∧ Below W.heap.size W wr) (fun _ i _ => xs.length - (intOf i).toNat)
  case atStart => exact ⟨0, none, 0, by omega, rfl, rfl, Own.empty _ _ _ _ _, Below.refl _ _⟩
  case round =>
    obtain ⟨k, a', cap', hk, rfl, rfl, hown, hbel⟩ := hrel
    have k1 := keep_cell hbel c1
    have hln : (halves (xs.take k)).length = 2 * k := by rw [halves_len, List.length_take]; omega
    by_cases hkl : k < xs.length
    · obtain ⟨x, rfl⟩ := haW.some_of hkl
      obtain ⟨p, hp, hp0, hp1⟩ := ha.words.get (by decide) k
      have hce := (haW.next hbel).cell x rfl k hkl
      rw [hp] at hce
      have HT : Hid (halves (xs.take (k + 1)) = halves (xs.take k) ++ [p % 65536, p / 65536]) := by have := halves_take xs k hkl; rw [hp] at this; exact this
      have HP : Hid (xs[k]?.getD 0 = p) := hp
      clear hp
      have e0 : IntKind.i64.wrap p = p := wrap_i64 p (by omega) (by omega)
      have e1 : (IntKind.i64.wrap p).tmod 65536 = p % 65536 := by rw [e0, Int.tmod_eq_emod_of_nonneg hp0]
      have e2 : IntKind.i64.wrap ((IntKind.i64.wrap p).tdiv 65536) = p / 65536 := by rw [e0, Int.tdiv_eq_ediv_of_nonneg hp0]; exact wrap_i64 _ (by omega) (by omega)
      have hD : Below wr.heap.size wr (wr.alloc (.cells #[.int .i64 ((IntKind.i64.wrap p).tmod 65536), .int .i64 (IntKind.i64.wrap ((IntKind.i64.wrap p).tdiv 65536))] 3)).drew := ((Below.refl _ _).alloc (Nat.le_refl _) _).drew
      have hs := hbel.size
      obtain ⟨a2, cap2, w2, hr, hown2, hb2⟩ := run_append_row (P := Tryz.prog) (wr.alloc (.cells #[.int .i64 ((IntKind.i64.wrap p).tmod 65536), .int .i64 (IntKind.i64.wrap ((IntKind.i64.wrap p).tdiv 65536))] 3)).drew 30 30 3 W.heap.size .i64 8 65536 i0 Tryz.underlying30 hi hz0 hz1 hz2 a' cap' (2 * k) _ (hown.next hD) hln ⟨wr.heap.size, 0, none⟩ 2 2 _ ((Row.alloc2 wr .i64 3 65536 _ _ (by rw [e1]; omega) (by rw [e2]; omega)).next ((Below.refl _ _).drew)) rfl (by omega) (by omega) (by omega) (by simp; omega)
      replace hr : Hid _ := hr
      rw [e1, e2, ← HT.out] at hown2
      have hbel2 : Below W.heap.size W w2 := (hbel.trans (hD.mono hs)).trans hb2
      replace e0 : Hid _ := e0
      replace e1 : Hid _ := e1
      replace e2 : Hid _ := e2
      have k1d : wr.drew.cell? ⟨w.heap.size, 1, none⟩ = some (.slice (some x) xs.length ca) := k1
      have hced : wr.drew.cell? (x.add k) = some (.int .u32 p) := hce
      go_wp2
      go_region_held3 (fun w' => w'.cell? ⟨w.heap.size, 1, none⟩ = some (.slice (some x) xs.length ca) ∧ w'.cell? (x.add k) = some (.int .u32 p)) (first | with_reducible exact ⟨k1d, hced⟩ | with_reducible exact ⟨k1, hce⟩ | with_reducible exact ⟨keep_cell hD k1, keep_cell hD hce⟩ | (with_reducible refine ⟨keep_cell (wk := W) hbel2 c1, ?_⟩; rw [← HP.out]; exact (haW.next hbel2).cell x rfl k hkl))
        (first
          | (refine step_append_run (by rfl) (.tmp 12) (.tmp 27) 30 30 (by rfl) (.slice a' (2 * k) cap') (.slice (some ⟨wr.heap.size, 0, none⟩) 2 2) (by rfl) (by rfl) _ _ hr.out ?_))
      go_wp2
      go_roundw
      case rel => exact ⟨k + 1, a2, cap2, by omega, by go_num, rfl, hown2, hbel2⟩
      case measure => simp [intOf]; omega
    · obtain rfl : k = xs.length := by omega
      rw [take_all (Nat.le_refl _)] at hown hln
      have k0 := keep_cell hbel c0
      have k4 := keep_cell hbel c4
      have k5 := keep_cell hbel c5
      have g4 := keep_frozen hbel c4 f4
      have g5 := keep_frozen hbel c5 f5
      have htr := rtrim_any a' cap' _ wr hown.row
      rw [hln] at htr
      have hB := bthen hbW hbel
      have hnn := num_halves na xs
      have hnm := norm_pick na (trimmed (halves xs)) (trimmed_nrm _)
      have hle := trimmed_le (halves xs)
      rw [hln] at hle
      have hO : ∀ w', Own w' W.heap.size .i64 3 65536 a' cap' (halves xs) → Rout w' w.heap.size (.agg #[.bool (na && decide (0 < (trimmed (halves xs)).length)), .slice a' (trimmed (halves xs)).length (trimmed (halves xs)).length]) (num 4294967296 na xs) (2 * xs.length) :=
        fun w' ho => ⟨_, _, _, _, rfl, ⟨ho.row.cutTrim, fun x hx => Nat.le_trans hbW.size (own_block ho hx)⟩, hnm, hnn, hle⟩
      generalize (trimmed (halves xs)).length = n at *
      clear hnn hnm hln
      go_wp2_with fail
      refine Calls.mono htr ?_
      rintro e w' ⟨rfl, rfl⟩
      clear htr
      cases na with
      | false =>
        go_wp2
        refine bodyPost_ret (v := .agg #[.bool false, .slice a' n n]) (by simp [results, Tryz.results30, go_sem, k4, k5]) rfl ⟨_, rfl, ?_, (hB.setCell (by simp) _).setCell (by simp) _⟩
        exact hO _ ((hown.set (by exact hlt) _).set (by exact hlt) _)
      | true =>
        by_cases hn : 0 < n
        · have hn' : (n : Int) > 0 := by omega
          go_wp2
          refine bodyPost_ret (v := .agg #[.bool true, .slice a' n n]) (by simp [results, Tryz.results30, go_sem, k4, k5]) rfl ⟨_, rfl, ?_, (hB.setCell (by simp) _).setCell (by simp) _⟩
          have hO' := hO _ ((hown.set (p := ⟨w.heap.size + 1, 0, none⟩) (by exact hlt) (.bool true)).set (p := ⟨w.heap.size + 1, 1, none⟩) (by exact hlt) (.slice a' n n))
          simpa [hn] using hO'
        · have hn' : ¬ (n : Int) > 0 := by omega
          go_wp2
          refine bodyPost_ret (v := .agg #[.bool false, .slice a' n n]) (by simp [results, Tryz.results30, go_sem, k4, k5]) rfl ⟨_, rfl, ?_, (hB.setCell (by simp) _).setCell (by simp) _⟩
          have hO' := hO _ ((hown.set (p := ⟨w.heap.size + 1, 0, none⟩) (by exact hlt) (.bool false)).set (p := ⟨w.heap.size + 1, 1, none⟩) (by exact hlt) (.slice a' n n))
          simpa [hn] using hO'
end Go.Proofs.YthiiglhecajhbaaGreat
namespace Go.Proofs.YthiiglhecajhbaaGreat
open Go.RowKit
attribute [local go_sem ↓] Go.wp_at_zero Go.wp_at_succ
theorem add_succ (x : Addr) (n : Nat) : x.add (n + 1) = ⟨x.block, x.off + (n + 1), none⟩ := by simp [Addr.add]
theorem norm_and {n : Bool} {zs : List Int} (h : Norm n zs) : (n && decide (0 < zs.length)) = n := by
  cases n with
  | false => rfl
  | true => have := List.length_pos_iff.2 (h.2 rfl); simp [this]
set_option maxHeartbeats 2000000 in
set_option maxRecDepth 100000 in
theorem To_any (na : Bool) (x : Option Addr) (ca : Nat) (xs : List Int) (w : World) (ha : Row w .i64 65536 x ca xs) (hn : Norm na xs) (hl : xs.length ≤ 1000000) :
    Calls Tryz.prog 43 #[.agg #[.bool na, .slice x xs.length ca]] w fun e w' => ∃ a' cap', e = .returned (.agg #[.bool na, .slice a' (paired xs).length cap']) ∧ Own w' w.heap.size .u32 74 4294967296 a' cap' (paired xs) ∧ Below w.heap.size w w' := by
  obtain ⟨i0, hi, hz0, hz1, hz2⟩ := info_parts Tryz.info74
  have hna : na = true → xs.length ≠ 0 := fun h e => hn.2 h (List.eq_nil_of_length_eq_zero e)
  have hpl := paired_len xs
  clear hn
  go_enter Tryz.func43, Tryz.ntmps43
  go_wp2
  obtain ⟨W, hW, hbW, hlt, c0, c1, c4, c5, f4, f5⟩ := boxes2t w (.bool na) (.slice x xs.length ca) (.bool false) (.slice none 0 0) 32 24
  rw [← hW]
  clear hW
  have haW := ha.next hbW
  go_loopw [3, 4, 5] (fun m i u wr => ∃ (k : Nat) (a' : Option Addr) (cap' : Nat), 2 * k ≤ xs.length + 1 ∧ i = .int .i64 (2 * (k : Int)) ∧ m = .slice a' k cap' ∧ Own wr W.heap.size .u32 74 4294967296 a' cap' (paired (xs.take (2 * k))) ∧ Below W.heap.size W wr) (fun _ i _ _ => xs.length + 1 - (intOf i).toNat)
  case atStart => exact ⟨0, none, 0, by omega, rfl, rfl, Own.empty _ _ _ _ _, Below.refl _ _⟩
  case round =>
    obtain ⟨k, a', cap', hk, rfl, rfl, hown, hbel⟩ := hrel
    have k1 := keep_cell hbel c1
    by_cases hkl : 2 * k < xs.length
    · obtain ⟨x, rfl⟩ := haW.some_of hkl
      obtain ⟨p, hp, hp0, hp1⟩ := ha.words.get (by decide) (2 * k)
      have hce := (haW.next hbel).cell x rfl (2 * k) hkl
      rw [hp] at hce
      have hln : (paired (xs.take (2 * k))).length = k := by rw [paired_len, List.length_take]; omega
      have hs := hbel.size
      by_cases hk2 : 2 * k + 1 < xs.length
      · obtain ⟨q, hq, hq0, hq1⟩ := ha.words.get (by decide) (2 * k + 1)
        have hce2 := (haW.next hbel).cell x rfl (2 * k + 1) hk2
        rw [hq, add_succ] at hce2
        have HT := paired_two xs k hk2
        rw [hp, hq] at HT
        replace HT : Hid _ := HT
        clear hp hq
        have hD : Below wr.heap.size wr (wr.alloc (.cells #[.int .u32 (p + 65536 * q)] 74)) := (Below.refl _ _).alloc (Nat.le_refl _) _
        obtain ⟨a2, cap2, w2, hr, hown2, hb2⟩ := run_append_row (P := Tryz.prog) (wr.alloc (.cells #[.int .u32 (p + 65536 * q)] 74)) 22 22 74 W.heap.size .u32 4 4294967296 i0 Tryz.underlying22 hi hz0 hz1 hz2 a' cap' k _ (hown.next hD) hln ⟨wr.heap.size, 0, none⟩ 1 1 [p + 65536 * q] (Row.alloc1 wr .u32 74 4294967296 _ (by omega)) rfl (by omega) (by omega) (by omega) (by simp; omega)
        replace hr : Hid _ := hr
        rw [← HT.out] at hown2
        have hbel2 : Below W.heap.size W w2 := (hbel.trans (hD.mono hs)).trans hb2
        go_wp2_with (at_builtin; refine wpList_append_run (by rfl) (.tmp 33) (.tmp 36) 22 22 (by rfl) (.slice a' k cap') (.slice (some ⟨wr.heap.size, 0, none⟩) 1 1) (by rfl) (by rfl) _ _ hr.out ?_)
        go_roundw
        case rel => exact ⟨k + 1, a2, cap2, by omega, by go_num, rfl, hown2, hbel2⟩
        case measure => simp [intOf]; omega
      · have HT := paired_one xs k (by omega)
        rw [hp] at HT
        replace HT : Hid _ := HT
        clear hp
        have hD : Below wr.heap.size wr (wr.alloc (.cells #[.int .u32 p] 74)) := (Below.refl _ _).alloc (Nat.le_refl _) _
        obtain ⟨a2, cap2, w2, hr, hown2, hb2⟩ := run_append_row (P := Tryz.prog) (wr.alloc (.cells #[.int .u32 p] 74)) 22 22 74 W.heap.size .u32 4 4294967296 i0 Tryz.underlying22 hi hz0 hz1 hz2 a' cap' k _ (hown.next hD) hln ⟨wr.heap.size, 0, none⟩ 1 1 [p] (Row.alloc1 wr .u32 74 4294967296 _ (by omega)) rfl (by omega) (by omega) (by omega) (by simp; omega)
        replace hr : Hid _ := hr
        rw [← HT.out] at hown2
        have hbel2 : Below W.heap.size W w2 := (hbel.trans (hD.mono hs)).trans hb2
        go_wp2_with (at_builtin; refine wpList_append_run (by rfl) (.tmp 33) (.tmp 36) 22 22 (by rfl) (.slice a' k cap') (.slice (some ⟨wr.heap.size, 0, none⟩) 1 1) (by rfl) (by rfl) _ _ hr.out ?_)
        go_roundw
        case rel => exact ⟨k + 1, a2, cap2, by omega, by go_num, rfl, hown2, hbel2⟩
        case measure => simp [intOf]; omega
    · rw [take_all (by omega)] at hown
      have hkp : (paired xs).length = k := by omega
      replace hkp : Hid _ := hkp
      clear hpl
      have k0 := keep_cell hbel c0
      have k4 := keep_cell hbel c4
      have k5 := keep_cell hbel c5
      have g4 := keep_frozen hbel c4 f4
      have g5 := keep_frozen hbel c5 f5
      have hB := bthen hbW hbel
      have hbs := hbW.size
      cases na with
      | false =>
        clear hna
        go_wp2
        exact bodyPost_ret (v := .agg #[.bool false, .slice a' k cap']) (by simp [results, Tryz.results43, go_sem, k4, k5]) rfl ⟨_, _, by rw [hkp.out], ((hown.set (by exact hlt) _).set (by exact hlt) _).mono hbs, (hB.setCell (by simp) _).setCell (by simp) _⟩
      | true =>
        have hn' : (xs.length : Int) > 0 := by have := hna rfl; omega
        have hn2 : 0 < xs.length := by omega
        clear hna
        go_wp2
        exact bodyPost_ret (v := .agg #[.bool true, .slice a' k cap']) (by simp [results, Tryz.results43, go_sem, k4, k5]) rfl ⟨_, _, by rw [hkp.out], ((hown.set (by exact hlt) _).set (by exact hlt) _).mono hbs, (hB.setCell (by simp) _).setCell (by simp) _⟩
theorem same_at {xs ps : List Int} {j k : Nat} (h : j = k) (e : xs[k]?.getD 0 = ps[k]?.getD 0) : xs[j]?.getD 0 = ps[j]?.getD 0 := by rw [h]; exact e
theorem Row.words_eq {w : World} {k : IntKind} {B : Int} {a b : Option Addr} {c d : Nat} {xs ys : List Int} (_ : Row w k B a c xs) (_ : Row w k B b d ys) (hl : xs.length = ys.length) (h : ∀ i, i < xs.length → xs[i]?.getD 0 = ys[i]?.getD 0) : xs = ys := by
  apply List.ext_getElem? 
  intro i
  by_cases hi : i < xs.length
  · have := h i hi
    rw [List.getElem?_eq_getElem hi, List.getElem?_eq_getElem (by omega)] at this ⊢
    simpa using this
  · rw [List.getElem?_eq_none (by omega), List.getElem?_eq_none (by omega)]
set_option maxHeartbeats 2000000 in
set_option maxRecDepth 100000 in
theorem Is_any (na nb : Bool) (x y : Option Addr) (ca cb : Nat) (xs ys : List Int) (w : World) (ha : Row w .u32 4294967296 x ca xs) (hna : Norm na xs) (hb : Row w .i64 65536 y cb ys) (hnb : Norm nb ys) (hl : xs.length ≤ 1000000) (hlb : ys.length ≤ 1000000) :
    Calls Tryz.prog 15 #[.agg #[.bool na, .slice x xs.length ca], .agg #[.bool nb, .slice y ys.length cb]] w fun e w' => e = .returned (.bool (decide (num 4294967296 na xs = num 65536 nb ys))) ∧ Below w.heap.size w w' := by
  have hkey := paired_unique ha.words hb.words hna hnb
  replace hkey : Hid _ := hkey
  go_enter Tryz.func15, Tryz.ntmps15
  go_wp2_with fail
  obtain ⟨W, hW, hbW, hlt, c0, c1, c4, c5, f4, f5⟩ := boxes2t w (.bool na) (.slice x xs.length ca) (.bool nb) (.slice y ys.length cb) 24 32
  rw [← hW]
  clear hW
  have haW := ha.next hbW
  refine (To_any nb y cb ys W (hb.next hbW) hnb hlb).mono ?_
  rintro e w1 ⟨a', cap', rfl, hown, hb1⟩
  have hrow := hown.row
  have haw1 := haW.next hb1
  have k0 := keep_cell hb1 c0
  have k1 := keep_cell hb1 c1
  have hB := bthen hbW hb1
  have h1l := cell_lt k0
  generalize paired ys = ps at *
  have hB2 : Below w1.heap.size w1 (w1.alloc (.cells #[.bool nb, .slice a' ps.length cap'] 24)) := (Below.refl _ _).alloc (Nat.le_refl _) _
  have hBB := bthen hB hB2
  by_cases hnn : na = nb
  · subst hnn
    by_cases hll : xs.length = ps.length
    · have hll' : ((xs.length : Int) != (ps.length : Int)) = false := by simp [hll]
      replace hll : Hid _ := hll
      have d1 : (w1.alloc (.cells #[.bool na, .slice a' ps.length cap'] 24)).cell? ⟨w1.heap.size, 1, none⟩ = some (.slice a' ps.length cap') := by simp [go_sem]
      have d2 := keep_cell hB2 k1
      have hx2 := haw1.next hB2
      have hy2 := hrow.next hB2
      go_wp2
      clear hB2
      generalize w1.alloc (.cells #[.bool na, .slice a' ps.length cap'] 24) = W2 at *
      clear k0 k1 hown hb1 hrow haw1 hB haW c0 c1 c4 c5 f4 f5
      go_loopw [6] (fun i wr => ∃ k : Nat, k ≤ xs.length ∧ i = .int .i64 k ∧ Hid (∀ j, j < k → xs[j]?.getD 0 = ps[j]?.getD 0) ∧ Below W2.heap.size W2 wr) (fun i _ => xs.length - (intOf i).toNat)
      case atStart => exact ⟨0, by omega, rfl, fun j hj => absurd hj (by omega), Below.refl _ _⟩
      case round =>
        obtain ⟨k, hk, rfl, HE, hbel⟩ := hrel
        have m1 := keep_cell hbel d1
        have m2 := keep_cell hbel d2
        by_cases hkl : k < xs.length
        · have hkp : k < ps.length := by have := hll.out; omega
          obtain ⟨x, rfl⟩ := hx2.some_of hkl
          obtain ⟨a', rfl⟩ := hy2.some_of hkp
          have hca := (hx2.next hbel).cell x rfl k hkl
          have hcb := (hy2.next hbel).cell a' rfl k hkp
          obtain ⟨p, hp, hp0, hp1⟩ := hx2.words.get (by decide) k
          obtain ⟨q, hq, hq0, hq1⟩ := hy2.words.get (by decide) k
          rw [hp] at hca
          rw [hq] at hcb
          replace hp : Hid _ := hp
          replace hq : Hid _ := hq
          by_cases hpq : p = q
          · have hne : (p != q) = false := by simp [hpq]
            replace hpq : Hid _ := hpq
            go_wp2
            go_quiet (fail)
            go_wp2
            go_roundw
            case rel => exact ⟨k + 1, by omega, by go_num, fun j hj => (Nat.lt_or_ge j k).elim (HE.out j) (fun h => same_at (Nat.le_antisymm (Nat.le_of_lt_succ hj) h) (by rw [hp.out, hq.out, hpq.out])), below_drewN hbel _⟩
            case measure => simp [intOf]; omega
          · have hne : (p != q) = true := by simp [hpq]
            have hf : ¬ num 4294967296 na xs = num 65536 na ys := by
              intro e
              exact hpq (by rw [← hp.out, ← hq.out, ← (hkey.out.1 e).2])
            replace hf : Hid _ := hf
            replace hpq : Hid _ := hpq
            go_wp2
            go_quiet (fail)
            go_wp2
            go_ret
            exact ⟨by rw [decide_eq_false hf.out]; rfl, below_drewN (bthen hBB hbel) _⟩
        · obtain rfl : k = xs.length := by omega
          have ht : num 4294967296 na xs = num 65536 na ys := hkey.out.2 ⟨by first | trivial | rfl, hx2.words_eq hy2 hll.out HE.out⟩
          replace ht : Hid _ := ht
          go_wp2
          go_ret
          exact ⟨by rw [decide_eq_true ht.out]; rfl, bthen hBB hbel⟩
    · have hll' : ((xs.length : Int) != (ps.length : Int)) = true := by simp; omega
      have hf : ¬ num 4294967296 na xs = num 65536 na ys := by
        intro e
        exact hll (by rw [(hkey.out.1 e).2])
      replace hf : Hid _ := hf
      replace hll : Hid _ := hll
      go_wp2
      go_ret
      exact ⟨by rw [decide_eq_false hf.out]; rfl, hBB⟩
  · have hne : (na != nb) = true := by simp [hnn]
    have hf : ¬ num 4294967296 na xs = num 65536 nb ys := fun e => hnn (hkey.out.1 e).1
    replace hf : Hid _ := hf
    go_wp2
    go_ret
    exact ⟨by rw [decide_eq_false hf.out]; rfl, hBB⟩
end Go.Proofs.YthiiglhecajhbaaGreat
