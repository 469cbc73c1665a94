/- scan: operators, lines, comments, semicolons. -/
import Derived.Test.YtffggadmpdmbdaaGreatDoorSf
import Derived.Lib.QuoteLoop
import Derived.RegionTactic
import Derived.Deep.RegionWith
import Derived.Deep.RegionLaw
import Derived.Deep.CutRange
import Derived.Deep.Cut
import Derived.Deep.LoopGhost
import Derived.Deep.RegionHeld3
namespace Go.Proofs.YtffggadmpdmbdaaGreatDoor
open Go.RowKit
attribute [local go_sem ↓] Go.wp_at_zero Go.wp_at_succ
/-- The longest operator of at most so many bytes. -/
def opGo (l : List UInt8) : Nat → Nat
  | 0 => 0
  | n + 1 => if opB (l.take (n + 1)) = true then n + 1 else opGo l n
def opL (l : List UInt8) : Nat := opGo l (min 3 l.length)
theorem opGo_le (l : List UInt8) (n : Nat) : opGo l n ≤ n := by
  induction n with
  | zero => exact Nat.le_refl _
  | succ n ih =>
    unfold opGo
    split
    · exact Nat.le_refl _
    · omega
set_option maxRecDepth 20000 in
set_option maxHeartbeats 4000000 in
theorem operatorLength_any (s : ByteArray) (w : World) (hs : s.size < 4611686018427387904) : Calls Tryz.prog 56 #[.string s] w fun e w' => e = .returned (.int .i64 (opL s.toList)) ∧ w' = w := by
  obtain ⟨S, hS⟩ : ∃ S, S = opL s.toList := ⟨_, rfl⟩
  rw [← hS]
  have hmn : min (3 : Int) (s.size : Int) = ((min 3 s.size : Nat) : Int) := by omega
  have hi : opL s.toList = opGo s.toList (min 3 s.size) := by unfold opL; rw [toList_len]
  rw [hi] at hS
  have hm3 : min 3 s.size ≤ s.size := Nat.min_le_right _ _
  generalize min 3 s.size = m at *
  replace hS : Hid _ := hS
  clear hi
  go_enter Tryz.func56, Tryz.ntmps56
  go_wp2
  go_loopw [3] (fun n wr => ∃ k : Nat, n = .int .i64 k ∧ k ≤ s.size ∧ Hid (S = opGo s.toList k) ∧ wr = w) (fun n _ => (intOf n).toNat)
  case atStart => exact ⟨m, by first | rfl | (go_num), hm3, hS.out, rfl⟩
  case round =>
    obtain ⟨k, rfl, hk, hI, rfl⟩ := hrel
    cases k with
    | zero =>
      have hI' := hI.out
      unfold opGo at hI'
      go_wp2
      go_ret
      exact ⟨by rw [hI']; rfl, rfl⟩
    | succ k =>
      have d1 : decide (((k + 1 : Nat) : Int) > 0) = true := decide_eq_true (by omega)
      have hI' := hI.out
      unfold opGo at hI'
      have k2 : Hid _ := fun w => isOperator_any (s.extract 0 (k + 1)) w
      rw [toList_take] at k2
      go_wp2_with fail
      refine Calls.mono (k2.out _) ?_
      rintro e w2 ⟨rfl, rfl⟩
      cases hb : opB (s.toList.take (k + 1)) with
      | true =>
        rw [if_pos hb] at hI'
        go_wp2
        go_ret
        exact ⟨by rw [hI']; rfl, rfl⟩
      | false =>
        rw [if_neg (by rw [hb]; decide)] at hI'
        go_wp2
        go_roundw
        case rel => exact ⟨k, by go_num, by omega, hI', by first | trivial | rfl⟩
        case measure => simp [intOf]
def lineM (l : List UInt8) : Int := if 0 ≤ Lib.indexByte l 10 then Lib.indexByte l 10 else l.length
set_option maxRecDepth 20000 in
set_option maxHeartbeats 4000000 in
theorem lineLength_any (s : ByteArray) (w : World) : Calls Tryz.prog 29 #[.string s] w fun e w' => e = .returned (.int .i64 (lineM s.toList)) ∧ w' = w := by
  have k1 : Hid (Calls Tryz.prog 42 #[.string s, .int .u8 10] w fun e w' => e = .returned (.int .i64 (Lib.indexByte s.toList 10)) ∧ w' = w) := by
    have := Tryz.strings_IndexByte s 10 w
    rw [← ByteArray.toList_eq] at this
    exact this
  have hM : Hid (lineM s.toList = if 0 ≤ Lib.indexByte s.toList 10 then Lib.indexByte s.toList 10 else (s.size : Int)) := by show _ = _; unfold lineM; rw [toList_len]
  generalize Lib.indexByte s.toList 10 = n at *
  go_enter Tryz.func29, Tryz.ntmps29
  go_wp2_with fail
  refine Calls.mono k1.out ?_
  rintro e w1 ⟨rfl, rfl⟩
  by_cases hn : 0 ≤ n
  · have d1 : decide (n ≥ 0) = true := decide_eq_true hn
    rw [if_pos hn] at hM
    go_wp2
    go_ret
    exact ⟨by rw [hM.out]; rfl, rfl⟩
  · have d1 : decide (n ≥ 0) = false := decide_eq_false hn
    rw [if_neg hn] at hM
    go_wp2
    go_ret
    exact ⟨by rw [hM.out]; rfl, rfl⟩
/-- What the roads read of the package-level variables. -/
def Glob (w : World) : Prop := (Lib.Utf8Tabs 0 1 w ∧ ∃ te pe, w.cell? ⟨3, 0, none⟩ = some (.iface te pe)) ∧ ∃ m, w.cell? ⟨2, 0, none⟩ = some (.int .i64 m)
theorem Glob.next {w w' : World} (h : Glob w) (hb : Below w.heap.size w w') : Glob w' := by
  obtain ⟨⟨h1, te, pe, h3⟩, m, h2⟩ := h
  exact ⟨⟨Utf8Tabs_below h1 hb, te, pe, keep_cell hb h3⟩, m, keep_cell hb h2⟩
def commentM (l : List UInt8) : Int := if Lib.index (l.drop 2) [42, 47] < 0 then 0 else 2 + Lib.index (l.drop 2) [42, 47] + 2
theorem index_lt (l sub : List UInt8) : Lib.index l sub ≤ l.length := by
  induction l with
  | nil => unfold Lib.index; split <;> simp
  | cons b l ih =>
    unfold Lib.index
    simp only [List.length_cons]
    split
    · omega
    · split <;> omega
set_option maxRecDepth 20000 in
set_option maxHeartbeats 4000000 in
theorem commentLength_any (s : ByteArray) (w : World) (hG : Glob w) (h2 : 2 ≤ s.size) (hs : s.size < 4294967281) : Calls Tryz.prog 43 #[.string s] w fun e w' => e = .returned (.int .i64 (commentM s.toList)) ∧ w' = w := by
  obtain ⟨_, m, hm⟩ := hG
  have k1 : Hid (Calls Tryz.prog 51 #[.string (s.extract 2 s.size), .string ⟨#[42, 47]⟩] w fun e w' => e = .returned (.int .i64 (Lib.index (s.toList.drop 2) [42, 47])) ∧ w' = w) := by
    have := Tryz.strings_Index (s.extract 2 s.size) ⟨#[42, 47]⟩ m w (by rw [ByteArray.size_extract]; omega) hm
    rw [← ByteArray.toList_eq, toList_drop] at this
    exact this
  have hle := index_lt (s.toList.drop 2) [42, 47]
  rw [List.length_drop, toList_len] at hle
  have hM : Hid (commentM s.toList = if Lib.index (s.toList.drop 2) [42, 47] < 0 then 0 else 2 + Lib.index (s.toList.drop 2) [42, 47] + 2) := rfl
  generalize Lib.index (s.toList.drop 2) [42, 47] = n at *
  clear hm
  go_enter Tryz.func43, Tryz.ntmps43
  go_wp2_with fail
  refine Calls.mono k1.out ?_
  rintro e w1 ⟨rfl, rfl⟩
  by_cases hn : n < 0
  · have d1 : decide (n < 0) = true := decide_eq_true hn
    rw [if_pos hn] at hM
    go_wp2
    go_ret
    exact ⟨by rw [hM.out]; rfl, rfl⟩
  · have d1 : decide (n < 0) = false := decide_eq_false hn
    have hw1 : IntKind.i64.wrap (2 + n) = 2 + n := by rw [IntKind.wrap_i64]; omega
    have hw2 : IntKind.i64.wrap (2 + n + 2) = 2 + n + 2 := by rw [IntKind.wrap_i64]; omega
    rw [if_neg hn] at hM
    go_wp2
    go_ret
    exact ⟨by rw [hM.out]; rfl, rfl⟩
/-- Which tokens ask for a semicolon. -/
def asksM (k : Int) (l : List UInt8) : Bool :=
  decide (k = 1) || decide (k = 2) || decide (k = 3) || decide (k = 4) || (decide (k = 6) && (l == [98, 114, 101, 97, 107] || l == [99, 111, 110, 116, 105, 110, 117, 101] || l == [114, 101, 116, 117, 114, 110])) || (decide (k = 5) && (l == [43, 43] || l == [45, 45] || l == [41] || l == [93] || l == [125]))
set_option maxRecDepth 20000 in
set_option maxHeartbeats 4000000 in
theorem asks_any (k a : Int) (s : ByteArray) (w : World) : Calls Tryz.prog 32 #[.agg #[.int .i64 k, .string s, .int .i64 a]] w fun e w' => e = .returned (.bool (asksM k s.toList)) ∧ Below w.heap.size w w' := by
  obtain ⟨W, hW⟩ : ∃ W, W = w.alloc (.cells #[.int .i64 k, .string s, .int .i64 a] 33) := ⟨_, rfl⟩
  have hbW : Below w.heap.size w W := by rw [hW]; exact (Below.refl _ _).alloc (Nat.le_refl _) _
  have e0 : W.cell? ⟨w.heap.size, 0, none⟩ = some (.int .i64 k) := by rw [hW]; simp [go_sem]
  have e1 : W.cell? ⟨w.heap.size, 1, none⟩ = some (.string s) := by rw [hW]; simp [go_sem]
  go_enter Tryz.func32, Tryz.ntmps32
  go_upto_region 1 with fail
  rw [← hW]
  clear hW
  generalize hl : s.toList = l
  replace hbW : Hid _ := hbW
  go_wp2
  all_goals go_ret
  all_goals first
    | (exfalso; simp_all; done)
    | (refine ⟨congrArg (fun b => Ending.returned (.bool b)) ?_, hbW.out⟩; clear hbW; simp_all [asksM]; done)
    | (refine ⟨congrArg (fun b => Ending.returned (.bool b)) ?_, hbW.out⟩; clear hbW; simp_all [asksM]; trace_state; done)
end Go.Proofs.YtffggadmpdmbdaaGreatDoor
