/- scan, the second road: operators. -/
import Derived.Test.YtfbacidpjpghiaaGreatDoorTh
import Derived.Test.YtfbacidpjpghiaaGreatDoorSq
import Derived.BigQuiet
namespace Go.Proofs.YtfbacidpjpghiaaGreatDoor
open Go.RowKit
attribute [local go_sem ↓] Go.wp_at_zero Go.wp_at_succ
def ops3 : List (List UInt8) := [[38, 94, 61]]
def ops2 : List (List UInt8) := [[38, 94], [38, 38], [38, 61], [43, 61], [45, 61], [42, 61], [47, 61], [37, 61], [124, 61], [94, 61], [124, 124], [61, 61], [33, 61], [60, 61], [62, 61], [58, 61], [43, 43], [45, 45]]
def ops1 : List (List UInt8) := [[43], [45], [42], [47], [37], [38], [124], [94], [60], [62], [33], [40], [41], [91], [93], [123], [125], [44], [46], [61], [126], [58]]
def opsW : List (List UInt8) := ops3 ++ (ops2 ++ ops1)
/-- The first one of a list that stands at the beginning. -/
def opFind (L : List UInt8) : List (List UInt8) → Nat
  | [] => 0
  | x :: r => if x.length ≤ L.length ∧ L.take x.length = x then x.length else opFind L r
theorem opFind_class (L : List UInt8) (n : Nat) (xs rest : List (List UInt8)) (h : ∀ x ∈ xs, x.length = n) : opFind L (xs ++ rest) = if n ≤ L.length ∧ L.take n ∈ xs then n else opFind L rest := by
  induction xs with
  | nil => simp
  | cons x xs ih =>
    have hx := h x List.mem_cons_self
    have ih' := ih (fun y hy => h y (List.mem_cons_of_mem _ hy))
    rw [List.cons_append, opFind, hx, ih']
    by_cases hl : n ≤ L.length
    · by_cases he : L.take n = x
      · rw [if_pos ⟨hl, he⟩, if_pos ⟨hl, by rw [he]; exact List.mem_cons_self⟩]
      · rw [if_neg (fun h => he h.2)]
        by_cases hm : L.take n ∈ xs
        · rw [if_pos ⟨hl, hm⟩, if_pos ⟨hl, List.mem_cons_of_mem _ hm⟩]
        · rw [if_neg (fun h => hm h.2), if_neg (fun h => by rcases List.mem_cons.1 h.2 with h1 | h1; exact he h1; exact hm h1)]
    · rw [if_neg (fun h => hl h.1), if_neg (fun h => hl h.1), if_neg (fun h => hl h.1)]
theorem opB_in (y : List UInt8) : opB y = true ↔ y ∈ opsW := by
  constructor
  · intro h
    unfold opB at h
    simp only [Bool.or_eq_true, beq_iff_eq] at h
    repeat' (refine Or.elim h ?_ ?_ <;> clear h <;> intro h)
    all_goals subst h; decide
  · have : ∀ y ∈ opsW, opB y = true := by decide
    exact this y
theorem ops_len : (∀ x ∈ ops3, x.length = 3) ∧ (∀ x ∈ ops2, x.length = 2) ∧ (∀ x ∈ ops1, x.length = 1) := by decide
theorem op_class (L : List UInt8) (n : Nat) (hn : n ≤ L.length) : (opB (L.take n) = true) = (L.take n ∈ ops3 ∧ n = 3 ∨ L.take n ∈ ops2 ∧ n = 2 ∨ L.take n ∈ ops1 ∧ n = 1) := by
  have hl : (L.take n).length = n := by rw [List.length_take]; omega
  rw [opB_in]
  unfold opsW
  rw [List.mem_append, List.mem_append]
  obtain ⟨h3, h2, h1⟩ := ops_len
  apply propext
  constructor
  · rintro (h | h | h)
    · exact .inl ⟨h, by have := h3 _ h; omega⟩
    · exact .inr (.inl ⟨h, by have := h2 _ h; omega⟩)
    · exact .inr (.inr ⟨h, by have := h1 _ h; omega⟩)
  · rintro (⟨h, _⟩ | ⟨h, _⟩ | ⟨h, _⟩)
    · exact .inl h
    · exact .inr (.inl h)
    · exact .inr (.inr h)
theorem opFind_eq (L : List UInt8) : opFind L opsW = opL L := by
  obtain ⟨h3, h2, h1⟩ := ops_len
  unfold opsW
  rw [opFind_class L 3 ops3 _ h3, opFind_class L 2 ops2 _ h2]
  have e1 : opFind L ops1 = if 1 ≤ L.length ∧ L.take 1 ∈ ops1 then 1 else 0 := by
    have := opFind_class L 1 ops1 [] h1
    rw [List.append_nil] at this
    exact this
  rw [e1]
  have c3 : 3 ≤ L.length → ((opB (L.take 3) = true) = (L.take 3 ∈ ops3)) := fun h => by rw [op_class L 3 h]; simp
  have c2 : 2 ≤ L.length → ((opB (L.take 2) = true) = (L.take 2 ∈ ops2)) := fun h => by rw [op_class L 2 h]; simp
  have c1 : 1 ≤ L.length → ((opB (L.take 1) = true) = (L.take 1 ∈ ops1)) := fun h => by rw [op_class L 1 h]; simp
  unfold opL
  rcases Nat.lt_or_ge L.length 3 with hl | hl
  · rw [if_neg (fun h => by omega)]
    rcases Nat.lt_or_ge L.length 2 with hl2 | hl2
    · rw [if_neg (fun h => by omega)]
      rcases Nat.lt_or_ge L.length 1 with hl1 | hl1
      · rw [if_neg (fun h => by omega), show min 3 L.length = 0 by omega]
        rfl
      · rw [show min 3 L.length = 1 by omega, opGo, opGo]
        simp only [c1 hl1, hl1, true_and]
    · rw [show min 3 L.length = 2 by omega, opGo, opGo, opGo]
      simp only [c2 hl2, c1 (by omega), hl2, show 1 ≤ L.length by omega, true_and]
  · rw [show min 3 L.length = 3 by omega, opGo, opGo, opGo, opGo]
    simp only [c3 hl, c2 (by omega), c1 (by omega), hl, show 2 ≤ L.length by omega, show 1 ≤ L.length by omega, true_and]
def opCells : Array Value := #[.string ⟨#[38, 94, 61]⟩, .string ⟨#[38, 94]⟩, .string ⟨#[38, 38]⟩, .string ⟨#[38, 61]⟩, .string ⟨#[43, 61]⟩, .string ⟨#[45, 61]⟩, .string ⟨#[42, 61]⟩, .string ⟨#[47, 61]⟩, .string ⟨#[37, 61]⟩, .string ⟨#[124, 61]⟩, .string ⟨#[94, 61]⟩, .string ⟨#[124, 124]⟩, .string ⟨#[61, 61]⟩, .string ⟨#[33, 61]⟩, .string ⟨#[60, 61]⟩, .string ⟨#[62, 61]⟩, .string ⟨#[58, 61]⟩, .string ⟨#[43, 43]⟩, .string ⟨#[45, 45]⟩, .string ⟨#[43]⟩, .string ⟨#[45]⟩, .string ⟨#[42]⟩, .string ⟨#[47]⟩, .string ⟨#[37]⟩, .string ⟨#[38]⟩, .string ⟨#[124]⟩, .string ⟨#[94]⟩, .string ⟨#[60]⟩, .string ⟨#[62]⟩, .string ⟨#[33]⟩, .string ⟨#[40]⟩, .string ⟨#[41]⟩, .string ⟨#[91]⟩, .string ⟨#[93]⟩, .string ⟨#[123]⟩, .string ⟨#[125]⟩, .string ⟨#[44]⟩, .string ⟨#[46]⟩, .string ⟨#[61]⟩, .string ⟨#[126]⟩, .string ⟨#[58]⟩]
theorem opW_cell (w : World) (k : Nat) (hk : k < 41) : ∃ X : ByteArray, (w.alloc (.cells opCells 9)).cell? ⟨w.heap.size, k, none⟩ = some (.string X) ∧ X.toList = opsW[k]?.getD [] := by
  have e : (w.alloc (.cells opCells 9)).cell? ⟨w.heap.size, k, none⟩ = opCells[k]? := by
    have hh : (w.alloc (.cells opCells 9)).heap[w.heap.size]? = some (.cells opCells 9) := by
      show (w.heap.push _)[w.heap.size]? = _
      simp
    unfold World.cell?
    rw [hh]
    rfl
  rw [e]
  match k, hk with
  | 0, _ => exact ⟨_, rfl, by rw [ByteArray.toList_eq]; rfl⟩
  | 1, _ => exact ⟨_, rfl, by rw [ByteArray.toList_eq]; rfl⟩
  | 2, _ => exact ⟨_, rfl, by rw [ByteArray.toList_eq]; rfl⟩
  | 3, _ => exact ⟨_, rfl, by rw [ByteArray.toList_eq]; rfl⟩
  | 4, _ => exact ⟨_, rfl, by rw [ByteArray.toList_eq]; rfl⟩
  | 5, _ => exact ⟨_, rfl, by rw [ByteArray.toList_eq]; rfl⟩
  | 6, _ => exact ⟨_, rfl, by rw [ByteArray.toList_eq]; rfl⟩
  | 7, _ => exact ⟨_, rfl, by rw [ByteArray.toList_eq]; rfl⟩
  | 8, _ => exact ⟨_, rfl, by rw [ByteArray.toList_eq]; rfl⟩
  | 9, _ => exact ⟨_, rfl, by rw [ByteArray.toList_eq]; rfl⟩
  | 10, _ => exact ⟨_, rfl, by rw [ByteArray.toList_eq]; rfl⟩
  | 11, _ => exact ⟨_, rfl, by rw [ByteArray.toList_eq]; rfl⟩
  | 12, _ => exact ⟨_, rfl, by rw [ByteArray.toList_eq]; rfl⟩
  | 13, _ => exact ⟨_, rfl, by rw [ByteArray.toList_eq]; rfl⟩
  | 14, _ => exact ⟨_, rfl, by rw [ByteArray.toList_eq]; rfl⟩
  | 15, _ => exact ⟨_, rfl, by rw [ByteArray.toList_eq]; rfl⟩
  | 16, _ => exact ⟨_, rfl, by rw [ByteArray.toList_eq]; rfl⟩
  | 17, _ => exact ⟨_, rfl, by rw [ByteArray.toList_eq]; rfl⟩
  | 18, _ => exact ⟨_, rfl, by rw [ByteArray.toList_eq]; rfl⟩
  | 19, _ => exact ⟨_, rfl, by rw [ByteArray.toList_eq]; rfl⟩
  | 20, _ => exact ⟨_, rfl, by rw [ByteArray.toList_eq]; rfl⟩
  | 21, _ => exact ⟨_, rfl, by rw [ByteArray.toList_eq]; rfl⟩
  | 22, _ => exact ⟨_, rfl, by rw [ByteArray.toList_eq]; rfl⟩
  | 23, _ => exact ⟨_, rfl, by rw [ByteArray.toList_eq]; rfl⟩
  | 24, _ => exact ⟨_, rfl, by rw [ByteArray.toList_eq]; rfl⟩
  | 25, _ => exact ⟨_, rfl, by rw [ByteArray.toList_eq]; rfl⟩
  | 26, _ => exact ⟨_, rfl, by rw [ByteArray.toList_eq]; rfl⟩
  | 27, _ => exact ⟨_, rfl, by rw [ByteArray.toList_eq]; rfl⟩
  | 28, _ => exact ⟨_, rfl, by rw [ByteArray.toList_eq]; rfl⟩
  | 29, _ => exact ⟨_, rfl, by rw [ByteArray.toList_eq]; rfl⟩
  | 30, _ => exact ⟨_, rfl, by rw [ByteArray.toList_eq]; rfl⟩
  | 31, _ => exact ⟨_, rfl, by rw [ByteArray.toList_eq]; rfl⟩
  | 32, _ => exact ⟨_, rfl, by rw [ByteArray.toList_eq]; rfl⟩
  | 33, _ => exact ⟨_, rfl, by rw [ByteArray.toList_eq]; rfl⟩
  | 34, _ => exact ⟨_, rfl, by rw [ByteArray.toList_eq]; rfl⟩
  | 35, _ => exact ⟨_, rfl, by rw [ByteArray.toList_eq]; rfl⟩
  | 36, _ => exact ⟨_, rfl, by rw [ByteArray.toList_eq]; rfl⟩
  | 37, _ => exact ⟨_, rfl, by rw [ByteArray.toList_eq]; rfl⟩
  | 38, _ => exact ⟨_, rfl, by rw [ByteArray.toList_eq]; rfl⟩
  | 39, _ => exact ⟨_, rfl, by rw [ByteArray.toList_eq]; rfl⟩
  | 40, _ => exact ⟨_, rfl, by rw [ByteArray.toList_eq]; rfl⟩
  | n + 41, h => omega
theorem opW_drop (k : Nat) (hk : k < 41) : opsW.drop k = (opsW[k]?.getD []) :: opsW.drop (k + 1) := by
  have hl : k < opsW.length := hk
  rw [List.drop_eq_getElem_cons hl, List.getElem?_eq_getElem hl]
  rfl
theorem opW_len (k : Nat) (hk : k < 41) : (opsW[k]?.getD []).length ≤ 3 := by
  have : ∀ k : Fin 41, (opsW[k.val]?.getD []).length ≤ 3 := by decide
  exact this ⟨k, hk⟩
/-- Part of the bytes as a text. -/
theorem part_conv (w : World) (ad : Addr) (i n c : Nat) (l : List UInt8) (hB : BytesAt w ad l) (h : i + n ≤ l.length) : (convert 22 9 (.slice (some (ad.add i)) n c)).run Tryz.prog w = .ok (.string (ba ((l.drop i).take n))) w := by
  have hl : ((l.drop i).take n).length = n := by rw [List.length_take, List.length_drop]; omega
  have := Go.run_convert_bytes_back (P := Tryz.prog) w 22 9 5 (ad.add i) c ((l.drop i).take n) Tryz.underlying22 Tryz.underlying5 Tryz.underlying9 ?_
  · rw [hl] at this
    exact this
  · intro j hj
    rw [Addr.add_add, hB (i + j) (by omega), List.getElem_take, List.getElem_drop]
    congr 3
    simp [List.getD, List.getElem?_eq_getElem (show i + j < l.length by omega)]
theorem BytesAt.drewN {w : World} {ad : Addr} {l : List UInt8} (h : BytesAt w ad l) (n : Nat) : BytesAt (w.drewN n) ad l := h
set_option maxRecDepth 100000 in
set_option maxHeartbeats 16000000 in
theorem op_any (w : World) (ad : Addr) (cap i : Nat) (l : List UInt8) (hB : BytesAt w ad l) (hg : ad.block < w.heap.size) (hcap : l.length ≤ cap) (hi : i < l.length) (hl : l.length < 1000000) : Calls Tryz.prog 31 #[.slice (some ad) l.length cap, .int .i64 i] w fun e w' => e = .returned (.int .i64 (opL (l.drop i) : Nat)) ∧ Below w.heap.size w w' := by
  rw [← opFind_eq]
  obtain ⟨R, hR⟩ : ∃ R, R = opFind (l.drop i) opsW := ⟨_, rfl⟩
  rw [← hR]
  obtain ⟨W, hW⟩ : ∃ W, W = w.alloc (.cells opCells 9) := ⟨_, rfl⟩
  have hcell : Hid (∀ k, k < 41 → ∃ X : ByteArray, W.cell? ⟨w.heap.size, k, none⟩ = some (.string X) ∧ X.toList = opsW[k]?.getD []) := by rw [hW]; exact fun k hk => opW_cell w k hk
  have hbW : Below w.heap.size w W := by rw [hW]; exact (Below.refl _ _).alloc (Nat.le_refl _) _
  have hBW : Hid (BytesAt W ad l) := hB.next hbW hg
  replace hR : Hid _ := hR
  unfold opCells at hW
  clear hB
  go_enter Tryz.func31, Tryz.ntmps31
  go_upto_region 2 with fail
  rw [← hW]
  clear hW
  go_wp2
  go_loopw [6] (fun vi wr => ∃ k n : Nat, vi = .int .i64 k ∧ k ≤ 41 ∧ wr = W.drewN n ∧ Hid (R = opFind (l.drop i) (opsW.drop k))) (fun vi _ => 41 - (intOf vi).toNat)
  case atStart => exact ⟨0, 0, rfl, by decide, rfl, by rw [List.drop_zero]; exact hR.out⟩
  case round =>
    obtain ⟨k, n, rfl, hk, rfl, hI⟩ := hrel
    have hI' := hI.out
    clear hI hR
    by_cases hlt : k < 41
    · have d1 : decide ((k : Int) < 41) = true := decide_eq_true (by omega)
      obtain ⟨X, hc, hX⟩ := hcell.out k hlt
      have hXl : X.size ≤ 3 := by rw [← toList_len, hX]; exact opW_len k hlt
      rw [opW_drop k hlt, ← hX] at hI'
      unfold opFind at hI'
      rw [toList_len, List.length_drop] at hI'
      have hw1 : IntKind.i64.wrap ((k : Int) + 1) = ((k + 1 : Nat) : Int) := by rw [IntKind.wrap_i64]; omega
      have hw2 : IntKind.i64.wrap ((l.length : Int) - (i : Int)) = ((l.length - i : Nat) : Int) := by rw [IntKind.wrap_i64]; omega
      have hw3 : IntKind.i64.wrap ((i : Int) + (X.size : Int)) = ((i + X.size : Nat) : Int) := by rw [IntKind.wrap_i64]; omega
      have hb1 : (k : Int) < 41 := by omega
      have hb0 : (0 : Int) ≤ (k : Int) := by omega
      have hc : (W.drewN n).cell? ⟨w.heap.size, k, none⟩ = some (.string X) := hc
      clear hX
      by_cases hge : X.size ≤ l.length - i
      · have d2 : decide (((l.length - i : Nat) : Int) ≥ (X.size : Int)) = true := decide_eq_true (by omega)
        have hcv : ∀ n c, (convert 22 9 (.slice (some (ad.add i)) X.size c)).run Tryz.prog (W.drewN n) = .ok (.string (ba ((l.drop i).take X.size))) (W.drewN n) := fun n c => part_conv (W.drewN n) ad i X.size c l (hBW.out.drewN n) (by omega)
        obtain ⟨J, hJ⟩ : ∃ J, J = i + X.size := ⟨_, rfl⟩
        rw [← hJ] at hw3
        have hsub : J - i = X.size := by omega
        have hle0 : (0 : Int) ≤ (i : Int) := by omega
        have hle1 : (i : Int) ≤ (J : Int) := by omega
        have hle2 : (J : Int) ≤ (cap : Int) := by omega
        have hle3 : J ≤ cap := by omega
        have hle4 : i ≤ J := by omega
        have hle5 : i ≤ cap := by omega
        have hle6 : i < cap := by omega
        have hle7 : (i : Int) < (cap : Int) := by omega
        have hle8 : ¬ (i = cap) := by omega
        have hle9 : cap - i ≠ 0 := by omega
        by_cases he : (l.drop i).take X.size = X.toList
        · rw [if_pos ⟨hge, he⟩] at hI'
          have d3 : ((ba ((l.drop i).take X.size)).toList == X.toList) = true := by rw [ba_toList, he]; simp
          subst hI'
          generalize ba ((l.drop i).take X.size) = Y at *
          clear he hcell hBW
          go_upto_region 5 with fail
          go_quiet (fail)
          have hBf : Below w.heap.size w (W.drewN (n + nq)) := hbW.trans ⟨rfl, rfl, rfl, Nat.le_refl _, fun _ _ => rfl⟩
          go_wp2
          go_ret
          exact ⟨rfl, by simpa using hBf⟩
        · rw [if_neg (fun h => he h.2)] at hI'
          have d3 : ((ba ((l.drop i).take X.size)).toList == X.toList) = false := by rw [ba_toList]; simpa using he
          replace hI' : Hid _ := hI'
          generalize ba ((l.drop i).take X.size) = Y at *
          clear he hcell hBW
          go_upto_region 5 with fail
          go_quiet (fail)
          go_wp2
          go_roundw
          case rel => exact ⟨k + 1, n + nq, by go_num, by omega, by simp, hI'⟩
          case measure => simp [intOf]; omega
      · have d2 : decide (((l.length - i : Nat) : Int) ≥ (X.size : Int)) = false := decide_eq_false (by omega)
        rw [if_neg (fun h => hge h.1)] at hI'
        replace hI' : Hid _ := hI'
        clear hcell hBW
        go_upto_region 5 with fail
        go_quiet (fail)
        go_wp2
        go_roundw
        case rel => exact ⟨k + 1, n + nq, by go_num, by omega, by simp, hI'⟩
        case measure => simp [intOf]; omega
    · obtain rfl : k = 41 := by omega
      have hR0 : R = 0 := hI'
      subst hR0
      have hBf : Below w.heap.size w (W.drewN n) := hbW.trans ⟨rfl, rfl, rfl, Nat.le_refl _, fun _ _ => rfl⟩
      clear hI' hcell hBW
      go_wp2
      go_ret
      exact ⟨rfl, hBf⟩
end Go.Proofs.YtfbacidpjpghiaaGreatDoor
