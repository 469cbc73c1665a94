/- What the library's functions answer here: strings.IndexAny, Index of one byte, CutPrefix. -/
import Derived.Test.YtclokcoimdjaeaaGreatDoorChecked
import Derived.Shelf.Strings.IndexAny
import Derived.Shelf.Strings.Search2
import Derived.Shelf.Small.Wraps
import Derived.Ground.NamesProg
import Derived.Test.YtclokcoimdjaeaaGreatDoorFxmm
import Derived.BigQuiet
import Derived.Test.YtclokcoimdjaeaaGreatDoorLeafm
import Derived.Shelf.Strings.IndexAnyAll
import Derived.Shelf.Small.Utf8
import Derived.Laws.RangeAny
import Derived.Laws.Runes
import Derived.Deep.DrawnRows
import Derived.WalkKit
import Derived.WalkLawsBesides
import Derived.WalkSpells
import Derived.Deep.QuietTactic
import Derived.WalkMore
import Derived.Lib.OthersKept
import Derived.Deep.RegionWith
import Derived.RegionTactic
import Derived.Deep.Cut
import Derived.Deep.CutRange
import Derived.Test.YtclokcoimdjaeaaGreatDoorTim
namespace Go.Proofs.YtclokcoimdjaeaaGreatDoor
open Go.Shelf Go.RowKit Go.Lib
def Tryz.indexAny_ren : Go.Shelf.Ren := ⟨fun | 153 => 134 | 152 => 203 | 226 => 204 | 227 => 191 | 228 => 205 | 137 => 252 | 119 => 253 | 224 => 254 | 225 => 255 | 217 => 274 | 266 => 290 | n => n, fun | 9 => 9 | 3 => 3 | 4 => 4 | 5 => 5 | 21 => 21 | 117 => 236 | 116 => 235 | 0 => 0 | 46 => 140 | 124 => 239 | n => n, fun | n => n⟩
theorem Tryz.indexAny : Go.Proofs.Lays.n153 Tryz.prog Tryz.indexAny_ren := {
  mixed := by kernel_rfl
  f119 := Tryz.func253.trans (congrArg some (by kernel_rfl))
  f137 := Tryz.func252.trans (congrArg some (by kernel_rfl))
  f152 := Tryz.func203.trans (congrArg some (by kernel_rfl))
  f153 := Tryz.func134.trans (congrArg some (by kernel_rfl))
  f217 := Tryz.func274.trans (congrArg some (by kernel_rfl))
  f224 := Tryz.func254.trans (congrArg some (by kernel_rfl))
  f225 := Tryz.func255.trans (congrArg some (by kernel_rfl))
  f226 := Tryz.func204.trans (congrArg some (by kernel_rfl))
  f227 := Tryz.func191.trans (congrArg some (by kernel_rfl))
  f228 := Tryz.func205.trans (congrArg some (by kernel_rfl))
  f266 := Tryz.func290.trans (congrArg some (by kernel_rfl))
  t0 := Tryz.underlying0
  a0 := Tryz.isAgg0
  z0 := Tryz.sizeOf0
  v0 := Tryz.zeroValue0
  t3 := Tryz.underlying3
  a3 := Tryz.isAgg3
  z3 := Tryz.sizeOf3
  v3 := Tryz.zeroValue3
  t4 := Tryz.underlying4
  a4 := Tryz.isAgg4
  z4 := Tryz.sizeOf4
  v4 := Tryz.zeroValue4
  t5 := Tryz.underlying5
  a5 := Tryz.isAgg5
  z5 := Tryz.sizeOf5
  v5 := Tryz.zeroValue5
  t9 := Tryz.underlying9
  a9 := Tryz.isAgg9
  z9 := Tryz.sizeOf9
  v9 := Tryz.zeroValue9
  t21 := Tryz.underlying21
  a21 := Tryz.isAgg21
  z21 := Tryz.sizeOf21
  v21 := Tryz.zeroValue21
  t46 := Tryz.underlying140
  a46 := Tryz.isAgg140
  z46 := Tryz.sizeOf140
  v46 := Tryz.zeroValue140
  t116 := Tryz.underlying235
  a116 := Tryz.isAgg235
  z116 := Tryz.sizeOf235
  t117 := Tryz.underlying236
  a117 := Tryz.isAgg236
  z117 := Tryz.sizeOf236
  v117 := Tryz.zeroValue236
  t124 := Tryz.underlying239
  a124 := Tryz.isAgg239
  z124 := Tryz.sizeOf239
  v124 := Tryz.zeroValue239 }
def Tryz.indexLite_ren : Go.Shelf.Ren := ⟨fun | 219 => 249 | 217 => 274 | 225 => 255 | 224 => 254 | 267 => 275 | 266 => 290 | 314 => 291 | n => n, fun | 9 => 9 | 3 => 3 | 4 => 4 | 5 => 5 | 46 => 140 | 146 => 285 | 51 => 139 | n => n, fun | 1 => 0 | n => n⟩
theorem Tryz.indexLite : Go.Proofs.Lays.n219 Tryz.prog Tryz.indexLite_ren := {
  mixed := by kernel_rfl
  f217 := Tryz.func274.trans (congrArg some (by kernel_rfl))
  f219 := Tryz.func249.trans (congrArg some (by kernel_rfl))
  f224 := Tryz.func254.trans (congrArg some (by kernel_rfl))
  f225 := Tryz.func255.trans (congrArg some (by kernel_rfl))
  f266 := Tryz.func290.trans (congrArg some (by kernel_rfl))
  f267 := Tryz.func275.trans (congrArg some (by kernel_rfl))
  f314 := Tryz.func291.trans (congrArg some (by kernel_rfl))
  t3 := Tryz.underlying3
  a3 := Tryz.isAgg3
  z3 := Tryz.sizeOf3
  v3 := Tryz.zeroValue3
  t4 := Tryz.underlying4
  a4 := Tryz.isAgg4
  z4 := Tryz.sizeOf4
  v4 := Tryz.zeroValue4
  t5 := Tryz.underlying5
  a5 := Tryz.isAgg5
  z5 := Tryz.sizeOf5
  v5 := Tryz.zeroValue5
  t9 := Tryz.underlying9
  a9 := Tryz.isAgg9
  z9 := Tryz.sizeOf9
  v9 := Tryz.zeroValue9
  t46 := Tryz.underlying140
  a46 := Tryz.isAgg140
  z46 := Tryz.sizeOf140
  v46 := Tryz.zeroValue140
  t51 := Tryz.underlying139
  a51 := Tryz.isAgg139
  z51 := Tryz.sizeOf139
  v51 := Tryz.zeroValue139
  t146 := Tryz.underlying285
  a146 := Tryz.isAgg285
  z146 := Tryz.sizeOf285
  v146 := Tryz.zeroValue285
  g1 := by kernel_rfl }
end Go.Proofs.YtclokcoimdjaeaaGreatDoor
namespace Go.Proofs.YtclokcoimdjaeaaGreatDoor
open Go.RowKit Go.Shelf Go.Lib
attribute [local go_sem ↓] Go.wp_at_zero Go.wp_at_succ
theorem below_drewN {B : Nat} {a b : World} (h : Below B a b) (n : Nat) : Below B a (b.drewN n) := ⟨h.os, h.tape, h.output, h.size, h.block⟩
end Go.Proofs.YtclokcoimdjaeaaGreatDoor
namespace Go.Proofs.YtclokcoimdjaeaaGreatDoor
open Go.RowKit
attribute [local go_sem ↓] Go.wp_at_zero Go.wp_at_succ
end Go.Proofs.YtclokcoimdjaeaaGreatDoor
namespace Go.Proofs.YtclokcoimdjaeaaGreatDoor
open Go.RowKit Go.Shelf Go.Lib
attribute [local go_sem ↓] Go.wp_at_zero Go.wp_at_succ
set_option maxRecDepth 100000 in
set_option maxHeartbeats 8000000 in
theorem IndexRune_bad (c0 c1 : UInt8) (h0 : c0.toNat < 128) (h1 : c1.toNat < 128) (w : World) : Calls Tryz.prog 203 #[.string ⟨#[c0, c1]⟩, .int .i32 65533] w fun e w' => e = .returned (.int .i64 (-1)) ∧ Below w.heap.size w w' := by
  obtain ⟨S, hS⟩ : ∃ S : ByteArray, S = ⟨#[c0, c1]⟩ := ⟨_, rfl⟩
  have hsz : S.size = 2 := by rw [hS]; rfl
  have hal : ∀ i (h : i < S.size), (S[i]'h).toNat < 128 := by
    intro i h
    subst hS
    match i, h with
    | 0, _ => exact h0
    | 1, _ => exact h1
  rw [← hS]
  clear hS h0 h1
  replace hal : Hid _ := hal
  go_enter Tryz.func203, Tryz.ntmps203
  go_wp2
  go_loopg [5, 6] 2 (fun g _ _ wx => ∃ i : Nat, i + g = 2 ∧ wx = w.iter S i)
  case atStart => exact ⟨0, rfl, rfl⟩
  case round =>
    obtain ⟨i, hig, rfl⟩ := hrel
    have hB : ∀ i, Below w.heap.size w (w.iter S i) := fun i => (Below.refl _ _).alloc (Nat.le_refl _) _
    cases gk with
    | zero =>
      obtain rfl : i = 2 := by omega
      have hnx := fun ty => run_next_end (P := Tryz.prog) w S 2 ty (by omega)
      have hBB := hB 2
      clear hB
      go_wp2
      go_ret
      exact ⟨rfl, hBB⟩
    | succ g =>
      have hi : i < S.size := by omega
      have hx := hal.out i hi
      have hnx := fun ty => run_next_ascii (P := Tryz.prog) w S i ty hi hx
      generalize (S[i]'hi).toNat = X at *
      have hXe : ((X : Int) == 65533) = false := by rw [beq_eq_false_iff_ne]; omega
      clear hB
      go_wp2
      go_roundg g
      case measure => omega
      case rel => exact ⟨i + 1, by omega, rfl⟩
set_option maxRecDepth 100000 in
set_option maxHeartbeats 8000000 in
theorem IndexRune_high (c0 c1 : UInt8) (h0 : c0.toNat < 128) (h1 : c1.toNat < 128) (r : Int) (hr : 128 ≤ r) (w : World) : Calls Tryz.prog 203 #[.string ⟨#[c0, c1]⟩, .int .i32 r] w fun e w' => e = .returned (.int .i64 (-1)) ∧ Below w.heap.size w w' := by
  by_cases hE : r = 65533
  · subst hE
    exact IndexRune_bad c0 c1 h0 h1 w
  · have d1 : decide (r < 128) = false := decide_eq_false (by omega)
    have d0 : decide (0 ≤ r) = true := decide_eq_true (by omega)
    have dE : (r == 65533) = false := by rw [beq_eq_false_iff_ne]; exact hE
    have kv0 := Any.utf8_ValidRune { Tryz.indexAny with } r w
    change Calls Tryz.prog 253 _ _ _ at kv0
    by_cases hv : Lib.validRune r = true
    · rw [hv] at kv0
      have kv : Hid _ := kv0
      have hval : Utf8.valid r = true := by
        unfold Lib.validRune at hv
        simp at hv
        unfold Utf8.valid
        simp
        omega
      obtain ⟨n1, n2, n3⟩ := Go.encode_facts r hval hr
      clear h0 kv0 hval
      generalize hRS : Utf8.encode r = RS at *
      obtain ⟨M, hM⟩ : ∃ M, M = RS.size - 1 := ⟨_, rfl⟩
      have hcv : ∀ W, (convert 21 9 (.int .i32 r)).run Tryz.prog W = .ok (.string RS) W := fun W => by rw [Go.run_convert_int_string W 21 9 .i32 r (by rw [Tryz.underlying21]; rfl) Tryz.underlying9, hRS]
      by_cases h2 : M = 1
      · have hMw : IntKind.i64.wrap ((RS.size : Int) - 1) = 1 := by rw [IntKind.wrap_i64]; omega
        have hMlt : 1 < RS.size := by omega
        have hy : 128 ≤ (RS[1]'hMlt).toNat := by
          have := n3 (by omega)
          have e : RS.size - 1 = 1 := by omega
          simp only [e] at this
          exact this
        have hR1' : (1 : Int) < (RS.size : Int) := by omega
        have hext : (⟨#[c0, c1]⟩ : ByteArray).extract 2 2 = ⟨#[]⟩ := rfl
        have hsz : (⟨#[c0, c1]⟩ : ByteArray).size = 2 := rfl
        have hext3 : (⟨#[c0, c1]⟩ : ByteArray).extract 2 (⟨#[c0, c1]⟩ : ByteArray).size = ⟨#[]⟩ := rfl
        have kib := fun W => Any.strings_IndexByte { Tryz.indexAny with } ⟨#[]⟩ (((RS[1]'hMlt).toNat : Nat) : Int) W
        have kib2 : Hid (∀ W, Calls Tryz.prog 252 #[.string ⟨#[]⟩, .int .u8 (((RS[1]'hMlt).toNat : Nat) : Int)] W fun e w' => e = .returned (.int .i64 (-1)) ∧ w' = W) := kib
        have hne : (((c1.toNat : Nat) : Int) != (((RS[1]'hMlt).toNat : Nat) : Int)) = true := by simp; omega
        have hne2 : (((((⟨#[c0, c1]⟩ : ByteArray)[1]'(show 1 < 2 by decide)).toNat : Nat) : Int) != (((RS[1]'hMlt).toNat : Nat) : Int)) = true := hne
        clear kib hy n3 hM h2 hRS hne
        go_enter Tryz.func203, Tryz.ntmps203
        go_wp2_with fail
        refine Calls.mono kv.out ?_
        rintro e w2 ⟨rfl, rfl⟩
        clear kv
        go_wp2
        go_step3
        go_wp2
        go_loopw [9, 10, 11, 12] (fun v9 v10 _ _ wr => v9 = .int .i64 1 ∧ v10 = .int .i64 0 ∧ wr = w2) (fun _ _ _ _ _ => 0)
        case atStart => exact ⟨rfl, rfl, rfl⟩
        case round =>
          obtain ⟨rfl, rfl, rfl⟩ := hrel
          go_wp2_with fail
          go_step3
          go_upto_region 6 with fail
          go_quiet (fail)
          go_upto_region 7 with fail
          go_region_with (go_at_call 252; refine Calls.mono (kib2.out _) ?_; rintro e w3 ⟨rfl, rfl⟩)
          all_goals go_wp2
          all_goals rw [Exit.noGoto_ret]
          all_goals go_wp2
          all_goals rw [Exit.noGoto_ret]
          all_goals go_ret
          all_goals exact ⟨rfl, rfl, rfl, rfl, Nat.le_refl _, fun _ _ => rfl⟩
      · have hMw : IntKind.i64.wrap ((RS.size : Int) - 1) = (M : Int) := by rw [IntKind.wrap_i64]; omega
        have dM : decide ((M : Int) < 2) = false := decide_eq_false (by omega)
        have hM2 : 2 ≤ M := by omega
        clear n3 hM hRS
        go_enter Tryz.func203, Tryz.ntmps203
        go_wp2_with fail
        refine Calls.mono kv.out ?_
        rintro e w2 ⟨rfl, rfl⟩
        clear kv
        go_wp2
        go_step3
        go_wp2
        go_loopw [9, 10, 11, 12] (fun v9 v10 _ _ wr => v9 = .int .i64 M ∧ v10 = .int .i64 0 ∧ wr = w2) (fun _ _ _ _ _ => 0)
        case atStart => exact ⟨rfl, rfl, rfl⟩
        case round =>
          obtain ⟨rfl, rfl, rfl⟩ := hrel
          go_wp2
          rw [Exit.noGoto_ret]
          go_ret
          exact ⟨rfl, Below.refl _ _⟩
    · rw [show Lib.validRune r = false by simpa using hv] at kv0
      have kv : Hid _ := kv0
      clear kv0
      go_enter Tryz.func203, Tryz.ntmps203
      go_wp2_with fail
      refine Calls.mono kv.out ?_
      rintro e w2 ⟨rfl, rfl⟩
      go_wp2
      go_ret
      exact ⟨rfl, Below.refl _ _⟩
theorem get_bang (s : ByteArray) (i : Nat) (h : i < s.size) : s.get! i = s[i]'h := by
  simp [ByteArray.get!, getElem!_pos, h]
  rfl
theorem decode_cont (s : ByteArray) (i : Nat) (h : i < s.size) (ha : 128 ≤ (s[i]'h).toNat) : ∀ j, i ≤ j → j < i + (Utf8.decode s i).2 → j < s.size ∧ 128 ≤ (s.get! j).toNat := by
  have h0 : (s.get! (i + 0)).toNat = (s[i]'h).toNat := by rw [Nat.add_zero, get_bang s i h]
  have hb : ¬ (s.get! (i + 0)).toNat < 128 := by rw [h0]; omega
  intro j hj
  unfold Utf8.decode
  simp only [hb, if_false]
  split
  · rename_i hc
    simp only [Bool.and_eq_true, beq_iff_eq, decide_eq_true_eq] at hc
    split
    · intro hlt
      simp only at hlt
      have hor : j = i ∨ j = i + 1 := by omega
      rcases hor with rfl | rfl
      · exact ⟨h, by rw [Nat.add_zero] at hb; omega⟩
      · exact ⟨hc.2.1, by have := hc.2.2; omega⟩
    · intro hlt
      simp only at hlt
      obtain rfl : j = i := by omega
      exact ⟨h, by rw [Nat.add_zero] at hb; omega⟩
  · split
    · rename_i hc
      simp only [Bool.and_eq_true, beq_iff_eq, decide_eq_true_eq] at hc
      split
      · intro hlt
        simp only at hlt
        have hor : j = i ∨ j = i + 1 ∨ j = i + 2 := by omega
        rcases hor with rfl | rfl | rfl
        · exact ⟨h, by rw [Nat.add_zero] at hb; omega⟩
        · exact ⟨hc.1.2.1, by have := hc.1.2.2; omega⟩
        · exact ⟨hc.2.1, by have := hc.2.2; omega⟩
      · intro hlt
        simp only at hlt
        obtain rfl : j = i := by omega
        exact ⟨h, by rw [Nat.add_zero] at hb; omega⟩
    · split
      · rename_i hc
        simp only [Bool.and_eq_true, beq_iff_eq, decide_eq_true_eq] at hc
        split
        · intro hlt
          simp only at hlt
          have hor : j = i ∨ j = i + 1 ∨ j = i + 2 ∨ j = i + 3 := by omega
          rcases hor with rfl | rfl | rfl | rfl
          · exact ⟨h, by rw [Nat.add_zero] at hb; omega⟩
          · exact ⟨hc.1.1.2.1, by have := hc.1.1.2.2; omega⟩
          · exact ⟨hc.1.2.1, by have := hc.1.2.2; omega⟩
          · exact ⟨hc.2.1, by have := hc.2.2; omega⟩
        · intro hlt
          simp only at hlt
          obtain rfl : j = i := by omega
          exact ⟨h, by rw [Nat.add_zero] at hb; omega⟩
      · intro hlt
        simp only at hlt
        obtain rfl : j = i := by omega
        exact ⟨h, by rw [Nat.add_zero] at hb; omega⟩
set_option maxRecDepth 100000 in
set_option maxHeartbeats 8000000 in
/-- IndexAny at two letters: the first byte of the text that is one of them. -/
theorem IndexAny_two (c0 c1 : UInt8) (h0 : c0.toNat < 128) (h1 : c1.toNat < 128) (s : ByteArray) (hs : s.size < 1000000) (w : World) : Calls Tryz.prog 134 #[.string s, .string ⟨#[c0, c1]⟩] w fun e w' => e = .returned (.int .i64 (Lib.indexAny s.data.toList [c0, c1])) ∧ Below w.heap.size w w' := by
  by_cases h8 : 8 < s.size
  · have h144 : (Tryz.prog.info? 235).map (fun i => (i.zero, i.size)) = some (some (.agg (Array.replicate 256 (.bool false))), 256) := by kernel_rfl
    have k := Any.strings_IndexAny_long Tryz.indexAny (zero_of_info h144).1 (zero_of_info h144).2 s ⟨#[c0, c1]⟩ w (show 2 ≤ 2 by decide) h8 (by omega) (show 2 < 4294967281 by decide) (fun j b hb => by
      match j, hb with
      | 0, hb => simp at hb; subst hb; exact h0
      | 1, hb => simp at hb; subst hb; exact h1)
    change Calls Tryz.prog 134 _ _ _ at k
    refine k.mono fun e w' ⟨he, hw⟩ => ⟨he, ?_⟩
    rw [hw]
    exact ((Below.refl _ _).alloc (Nat.le_refl _) _).alloc (by simp) _
  · have k115 := fun W => Any.strings_shouldUseASCIISet { Tryz.indexAny with } (s.size : Int) W
    have kA : Hid (∀ W, Calls Tryz.prog 204 #[.int .i64 s.size] W fun e w' => e = .returned (.bool false) ∧ w' = W) := fun W => by
      have := k115 W
      rw [decide_eq_false (by omega)] at this
      exact this
    clear k115
    obtain ⟨R, hR⟩ : ∃ R, R = Lib.indexAny s.data.toList [c0, c1] := ⟨_, rfl⟩
    rw [← hR]
    replace hR : Hid _ := hR
    go_enter Tryz.func134, Tryz.ntmps134
    go_wp2_with fail
    refine Calls.mono (kA.out _) ?_
    rintro e w2 ⟨rfl, rfl⟩
    go_wp2
    go_loopg [9, 10] s.size (fun g _ _ wx => ∃ i : Nat, i + g = s.size ∧ Hid (wx.heap[w2.heap.size]? = some (.stringIter s i)) ∧ Hid (Lib.NoAny s.data.toList [c0, c1] i) ∧ Hid (Below w2.heap.size w2 wx))
    case atStart => exact ⟨0, by omega, by show (w2.heap.push _)[w2.heap.size]? = _; simp, Lib.NoAny.zero _ _, (Below.refl _ _).alloc (Nat.le_refl _) _⟩
    case round =>
      obtain ⟨i, hig, hK, hno, hb⟩ := hrel
      cases gk with
      | zero =>
        obtain rfl : i = s.size := by omega
        have hnx := fun ty => Lib.run_next_end_at (P := Tryz.prog) _ w2.heap.size s s.size ty hK.out (by omega)
        have hend : R = -1 := by rw [hR.out]; exact Lib.indexAny_none (by rw [← Lib.size_eq]; exact hno.out)
        subst hend
        go_wp2
        go_ret
        exact ⟨rfl, hb.out⟩
      | succ g =>
        have hi : i < s.size := by omega
        obtain ⟨x, hx⟩ : ∃ x : UInt8, s[i]'hi = x := ⟨_, rfl⟩
        have hxl : Hid (s.data.toList[i]? = some x) := by show _ = _; rw [← hx]; exact Lib.data_getElem? s i hi
        have hKlt : w2.heap.size < wr.heap.size := (Array.getElem?_eq_some_iff.1 hK.out).1
        by_cases h128 : x.toNat < 128
        · have hnx := fun ty => Lib.run_next_ascii_at (P := Tryz.prog) wr w2.heap.size s i ty hK.out hi (by rw [hx]; exact h128)
          rw [hx] at hnx
          have hK2 : Hid ((wr.iterAt w2.heap.size s (i + 1)).heap[w2.heap.size]? = some (.stringIter s (i + 1))) := Lib.iterAt_heap wr w2.heap.size s i (i + 1) hK.out
          have hb2 : Hid (Below w2.heap.size w2 (wr.iterAt w2.heap.size s (i + 1))) := Lib.below_iterAt hb.out (Nat.le_refl _) s (i + 1)
          have kir0 := Any.strings_IndexRune_ascii { Tryz.indexAny with } ⟨#[c0, c1]⟩ (x.toNat : Int) (wr.iterAt w2.heap.size s (i + 1)) (by omega) (by omega)
          change Calls Tryz.prog 203 _ _ _ at kir0
          have hback : ((x.toNat : Int)).toNat.toUInt8 = x := by simp
          rw [hback] at kir0
          have kir : Hid _ := kir0
          have hcon := Lib.contains_iff_indexByte [c0, c1] x
          clear kir0 hback hx
          generalize wr.iterAt w2.heap.size s (i + 1) = W at *
          generalize x.toNat = X at *
          cases hin : ([c0, c1] : List UInt8).contains x with
          | false =>
            rw [hin] at hcon
            have hlt : ¬ ((0 : Int) ≤ Lib.indexByte [c0, c1] x) := of_decide_eq_false hcon.symm
            have hlt2 : decide (Lib.indexByte [c0, c1] x ≥ 0) = false := decide_eq_false hlt
            have hno2 : Hid (Lib.NoAny s.data.toList [c0, c1] (i + 1)) := hno.out.succ hxl.out hin
            replace hcon : Hid _ := hcon
            generalize Lib.indexByte [c0, c1] x = IB at *
            go_wp2_with fail
            refine Calls.mono kir.out ?_
            rintro e w3 ⟨rfl, rfl⟩
            go_wp2
            go_roundg g
            case measure => omega
            case rel => exact ⟨i + 1, by omega, hK2, hno2, hb2⟩
          | true =>
            rw [hin] at hcon
            have hge : (0 : Int) ≤ Lib.indexByte [c0, c1] x := of_decide_eq_true hcon.symm
            have hge2 : decide (Lib.indexByte [c0, c1] x ≥ 0) = true := decide_eq_true hge
            have hRi : R = (i : Int) := by rw [hR.out]; exact Lib.indexAny_hit hno.out hxl.out hin
            subst hRi
            replace hcon : Hid _ := hcon
            generalize Lib.indexByte [c0, c1] x = IB at *
            go_wp2_with fail
            refine Calls.mono kir.out ?_
            rintro e w3 ⟨rfl, rfl⟩
            go_wp2
            go_ret
            exact ⟨rfl, hb2.out⟩
        · have hnx := fun ty => Lib.run_next_any_at (P := Tryz.prog) wr w2.heap.size s i ty hK.out hi
          have hhi : 128 ≤ (s[i]'hi).toNat := by rw [hx]; omega
          obtain ⟨d1, d2⟩ := Go.decode_high s i hi hhi
          have dc := decode_cont s i hi hhi
          generalize (Utf8.decode s i).1 = CC at *
          generalize (Utf8.decode s i).2 = NN at *
          have hiN : i + NN ≤ s.size := by
            have := (dc (i + NN - 1) (by omega) (by omega)).1
            omega
          have hno2 : Hid (Lib.NoAny s.data.toList [c0, c1] (i + NN)) := by
            intro j b hj hbj
            rcases Nat.lt_or_ge j i with h | h
            · exact hno.out j b h hbj
            · obtain ⟨q1, q2⟩ := dc j h hj
              have hbs : b = s.get! j := by
                rw [Lib.data_getElem? s j q1] at hbj
                rw [get_bang s j q1]
                exact (Option.some.inj hbj).symm
              rw [← hbs] at q2
              simp
              constructor
              · intro hh; rw [hh] at q2; omega
              · intro hh; rw [hh] at q2; omega
          have hK2 : (wr.iterAt w2.heap.size s (i + NN)).heap[w2.heap.size]? = some (.stringIter s (i + NN)) := Lib.iterAt_heap wr w2.heap.size s i (i + NN) hK.out
          have hb2 : Below w2.heap.size w2 (wr.iterAt w2.heap.size s (i + NN)) := Lib.below_iterAt hb.out (Nat.le_refl _) s (i + NN)
          have hKl2 : w2.heap.size < (wr.iterAt w2.heap.size s (i + NN)).heap.size := by rw [Lib.iterAt_size]; exact hKlt
          have kir : Hid _ := IndexRune_high c0 c1 h0 h1 (CC : Int) (by omega) (wr.iterAt w2.heap.size s (i + NN))
          clear dc hx
          generalize wr.iterAt w2.heap.size s (i + NN) = W at *
          replace hK2 : Hid _ := hK2
          replace hb2 : Hid _ := hb2
          go_wp2_with fail
          refine Calls.mono kir.out ?_
          rintro e w3 ⟨rfl, hb3⟩
          have hK3 : Hid (w3.heap[w2.heap.size]? = some (.stringIter s (i + NN))) := by show _ = _; rw [hb3.block _ hKl2]; exact hK2.out
          have hb4 : Hid (Below w2.heap.size w2 w3) := hb2.out.trans (hb3.mono (by omega))
          clear kir hb3
          go_wp2
          go_roundg (g + 1 - NN)
          case measure => omega
          case rel => exact ⟨i + NN, by omega, hK3, hno2, hb4⟩
end Go.Proofs.YtclokcoimdjaeaaGreatDoor
namespace Go.Proofs.YtclokcoimdjaeaaGreatDoor
open Go.RowKit Go.Shelf Go.Lib
attribute [local go_sem ↓] Go.wp_at_zero Go.wp_at_succ
/-- The base that a text begins with. -/
def baseI (s : ByteArray) : Int :=
  if s.size < 2 ∨ (s.get! 0).toNat ≠ 48 then 10 else if (s.get! 1).toNat = 120 ∨ (s.get! 1).toNat = 88 then 16 else if (s.get! 1).toNat = 111 ∨ (s.get! 1).toNat = 79 then 8 else if (s.get! 1).toNat = 98 ∨ (s.get! 1).toNat = 66 then 2 else 10
def restS (s : ByteArray) : ByteArray := if baseI s = 10 then s else s.extract 2 s.size
set_option maxRecDepth 20000 in
set_option maxHeartbeats 4000000 in
theorem cutBase_any (s : ByteArray) (hs : s.size < 1000000) (w : World) : Calls Tryz.prog 124 #[.string s] w fun e w' => e = .returned (.tuple #[.int .i64 (baseI s), .string (restS s)]) ∧ Below w.heap.size w w' := by
  by_cases h2 : s.size < 2
  · have hb : baseI s = 10 := by unfold baseI; rw [if_pos (.inl h2)]
    have hr : restS s = s := by unfold restS; rw [if_pos hb]
    rw [hb, hr]
    have d1 : decide ((s.size : Int) < 2) = true := decide_eq_true (by omega)
    clear hb hr
    go_enter Tryz.func124, Tryz.ntmps124
    go_wp2
    exact bodyPost_ret (v := .tuple #[.int .i64 10, .string s]) (by simp [results, Tryz.results124, go_sem]) rfl ⟨rfl, Below.refl _ _⟩
  · have d1 : decide ((s.size : Int) < 2) = false := decide_eq_false (by omega)
    have p0 : 0 < s.size := by omega
    have p1 : 1 < s.size := by omega
    have p2 : (2 : Int) ≤ (s.size : Int) := by omega
    have p3 : (1 : Int) < (s.size : Int) := by omega
    have g0 : (s.get! 0).toNat = (s[0]'p0).toNat := by rw [get_bang s 0 p0]
    have g1 : (s.get! 1).toNat = (s[1]'p1).toNat := by rw [get_bang s 1 p1]
    by_cases h48 : (s.get! 0).toNat = 48
    · have e48 : (((s[0]'p0).toNat : Int) != 48) = false := by rw [← g0, h48]; rfl
      have hb : baseI s = if (s.get! 1).toNat = 120 ∨ (s.get! 1).toNat = 88 then 16 else if (s.get! 1).toNat = 111 ∨ (s.get! 1).toNat = 79 then 8 else if (s.get! 1).toNat = 98 ∨ (s.get! 1).toNat = 66 then 2 else 10 := by
        unfold baseI
        rw [if_neg (fun h => h.elim h2 (fun h => h h48))]
      rw [g1] at hb
      clear g0 g1 h48
      by_cases h120 : (s[1]'p1).toNat = 120
      · have e120 : (((s[1]'p1).toNat : Int) == 120) = true := by rw [h120]; rfl
        rw [if_pos (.inl h120)] at hb
        have hr : restS s = s.extract 2 s.size := by unfold restS; rw [if_neg (by rw [hb]; decide)]
        rw [hb, hr]
        clear hb hr
        go_enter Tryz.func124, Tryz.ntmps124
        go_wp2_with fail
        go_quiet (fail)
        go_wp2
        exact bodyPost_ret (v := .tuple #[.int .i64 16, .string (s.extract 2 s.size)]) (by simp [results, Tryz.results124, go_sem]) rfl ⟨rfl, below_drewN (Below.refl _ _) _⟩
      · by_cases h88 : (s[1]'p1).toNat = 88
        · have e120 : (((s[1]'p1).toNat : Int) == 120) = false := by rw [beq_eq_false_iff_ne]; omega
          have e88 : (((s[1]'p1).toNat : Int) == 88) = true := by rw [h88]; rfl
          rw [if_pos (.inr h88)] at hb
          have hr : restS s = s.extract 2 s.size := by unfold restS; rw [if_neg (by rw [hb]; decide)]
          rw [hb, hr]
          clear hb hr
          go_enter Tryz.func124, Tryz.ntmps124
          go_wp2_with fail
          go_quiet (fail)
          go_wp2
          exact bodyPost_ret (v := .tuple #[.int .i64 16, .string (s.extract 2 s.size)]) (by simp [results, Tryz.results124, go_sem]) rfl ⟨rfl, below_drewN (Below.refl _ _) _⟩
        · by_cases h111 : (s[1]'p1).toNat = 111
          · have e120 : (((s[1]'p1).toNat : Int) == 120) = false := by rw [beq_eq_false_iff_ne]; omega
            have e88 : (((s[1]'p1).toNat : Int) == 88) = false := by rw [beq_eq_false_iff_ne]; omega
            have e111 : (((s[1]'p1).toNat : Int) == 111) = true := by rw [h111]; rfl
            rw [if_neg (by omega), if_pos (.inl h111)] at hb
            have hr : restS s = s.extract 2 s.size := by unfold restS; rw [if_neg (by rw [hb]; decide)]
            rw [hb, hr]
            clear hb hr
            go_enter Tryz.func124, Tryz.ntmps124
            go_wp2_with fail
            go_quiet (fail)
            go_wp2
            exact bodyPost_ret (v := .tuple #[.int .i64 8, .string (s.extract 2 s.size)]) (by simp [results, Tryz.results124, go_sem]) rfl ⟨rfl, below_drewN (Below.refl _ _) _⟩
          · by_cases h79 : (s[1]'p1).toNat = 79
            · have e120 : (((s[1]'p1).toNat : Int) == 120) = false := by rw [beq_eq_false_iff_ne]; omega
              have e88 : (((s[1]'p1).toNat : Int) == 88) = false := by rw [beq_eq_false_iff_ne]; omega
              have e111 : (((s[1]'p1).toNat : Int) == 111) = false := by rw [beq_eq_false_iff_ne]; omega
              have e79 : (((s[1]'p1).toNat : Int) == 79) = true := by rw [h79]; rfl
              rw [if_neg (by omega), if_pos (.inr h79)] at hb
              have hr : restS s = s.extract 2 s.size := by unfold restS; rw [if_neg (by rw [hb]; decide)]
              rw [hb, hr]
              clear hb hr
              go_enter Tryz.func124, Tryz.ntmps124
              go_wp2_with fail
              go_quiet (fail)
              go_wp2
              exact bodyPost_ret (v := .tuple #[.int .i64 8, .string (s.extract 2 s.size)]) (by simp [results, Tryz.results124, go_sem]) rfl ⟨rfl, below_drewN (Below.refl _ _) _⟩
            · by_cases h98 : (s[1]'p1).toNat = 98
              · have e120 : (((s[1]'p1).toNat : Int) == 120) = false := by rw [beq_eq_false_iff_ne]; omega
                have e88 : (((s[1]'p1).toNat : Int) == 88) = false := by rw [beq_eq_false_iff_ne]; omega
                have e111 : (((s[1]'p1).toNat : Int) == 111) = false := by rw [beq_eq_false_iff_ne]; omega
                have e79 : (((s[1]'p1).toNat : Int) == 79) = false := by rw [beq_eq_false_iff_ne]; omega
                have e98 : (((s[1]'p1).toNat : Int) == 98) = true := by rw [h98]; rfl
                rw [if_neg (by omega), if_neg (by omega), if_pos (.inl h98)] at hb
                have hr : restS s = s.extract 2 s.size := by unfold restS; rw [if_neg (by rw [hb]; decide)]
                rw [hb, hr]
                clear hb hr
                go_enter Tryz.func124, Tryz.ntmps124
                go_wp2_with fail
                go_quiet (fail)
                go_wp2
                exact bodyPost_ret (v := .tuple #[.int .i64 2, .string (s.extract 2 s.size)]) (by simp [results, Tryz.results124, go_sem]) rfl ⟨rfl, below_drewN (Below.refl _ _) _⟩
              · by_cases h66 : (s[1]'p1).toNat = 66
                · have e120 : (((s[1]'p1).toNat : Int) == 120) = false := by rw [beq_eq_false_iff_ne]; omega
                  have e88 : (((s[1]'p1).toNat : Int) == 88) = false := by rw [beq_eq_false_iff_ne]; omega
                  have e111 : (((s[1]'p1).toNat : Int) == 111) = false := by rw [beq_eq_false_iff_ne]; omega
                  have e79 : (((s[1]'p1).toNat : Int) == 79) = false := by rw [beq_eq_false_iff_ne]; omega
                  have e98 : (((s[1]'p1).toNat : Int) == 98) = false := by rw [beq_eq_false_iff_ne]; omega
                  have e66 : (((s[1]'p1).toNat : Int) == 66) = true := by rw [h66]; rfl
                  rw [if_neg (by omega), if_neg (by omega), if_pos (.inr h66)] at hb
                  have hr : restS s = s.extract 2 s.size := by unfold restS; rw [if_neg (by rw [hb]; decide)]
                  rw [hb, hr]
                  clear hb hr
                  go_enter Tryz.func124, Tryz.ntmps124
                  go_wp2_with fail
                  go_quiet (fail)
                  go_wp2
                  exact bodyPost_ret (v := .tuple #[.int .i64 2, .string (s.extract 2 s.size)]) (by simp [results, Tryz.results124, go_sem]) rfl ⟨rfl, below_drewN (Below.refl _ _) _⟩
                · have e120 : (((s[1]'p1).toNat : Int) == 120) = false := by rw [beq_eq_false_iff_ne]; omega
                  have e88 : (((s[1]'p1).toNat : Int) == 88) = false := by rw [beq_eq_false_iff_ne]; omega
                  have e111 : (((s[1]'p1).toNat : Int) == 111) = false := by rw [beq_eq_false_iff_ne]; omega
                  have e79 : (((s[1]'p1).toNat : Int) == 79) = false := by rw [beq_eq_false_iff_ne]; omega
                  have e98 : (((s[1]'p1).toNat : Int) == 98) = false := by rw [beq_eq_false_iff_ne]; omega
                  have e66 : (((s[1]'p1).toNat : Int) == 66) = false := by rw [beq_eq_false_iff_ne]; omega
                  rw [if_neg (by omega), if_neg (by omega), if_neg (by omega)] at hb
                  have hr : restS s = s := by unfold restS; rw [if_pos hb]
                  rw [hb, hr]
                  clear hb hr
                  go_enter Tryz.func124, Tryz.ntmps124
                  go_wp2
                  exact bodyPost_ret (v := .tuple #[.int .i64 10, .string s]) (by simp [results, Tryz.results124, go_sem]) rfl ⟨rfl, Below.refl _ _⟩
    · have e48 : (((s[0]'p0).toNat : Int) != 48) = true := by simp; omega
      have hb : baseI s = 10 := by unfold baseI; rw [if_pos (.inr h48)]
      have hr : restS s = s := by unfold restS; rw [if_pos hb]
      rw [hb, hr]
      clear hb hr h48 g0 g1
      go_enter Tryz.func124, Tryz.ntmps124
      go_wp2
      exact bodyPost_ret (v := .tuple #[.int .i64 10, .string s]) (by simp [results, Tryz.results124, go_sem]) rfl ⟨rfl, Below.refl _ _⟩
set_option maxRecDepth 20000 in
set_option maxHeartbeats 4000000 in
theorem cutExponent_any (s : ByteArray) (hs : s.size < 1000000) (b : Int) (w : World) (I : Int) (hI : I = if b = 16 then Lib.indexAny s.data.toList [112, 80] else Lib.indexAny s.data.toList [101, 69]) : Calls Tryz.prog 125 #[.string s, .int .i64 b] w fun e w' => e = .returned (if I < 0 then .tuple #[.string s, .string ⟨#[]⟩, .bool false] else .tuple #[.string (s.extract 0 I.toNat), .string (s.extract (I.toNat + 1) s.size), .bool true]) ∧ Below w.heap.size w w' := by
  have hI1 : -1 ≤ I ∧ I < s.size := by
    have hb : ∀ c : List UInt8, -1 ≤ Lib.indexAny s.data.toList c ∧ Lib.indexAny s.data.toList c < s.size := by
      intro c
      refine ⟨Lib.indexAny_ge c _, ?_⟩
      have hlen : s.data.toList.length = s.size := (Lib.size_eq s).symm
      rw [← hlen]
      generalize s.data.toList = l
      induction l with
      | nil => show (-1 : Int) < 0; decide
      | cons x l ih =>
        have := Lib.indexAny_ge c l
        unfold Lib.indexAny
        simp only [List.length_cons]
        split
        · omega
        · split <;> omega
    rw [hI]
    split
    · exact hb _
    · exact hb _
  by_cases hb16 : b = 16
  · subst hb16
    rw [if_pos rfl] at hI
    have ki : Hid _ := IndexAny_two 112 80 (by decide) (by decide) s hs w
    rw [← hI] at ki
    clear hI
    by_cases hneg : I < 0
    · have dn : decide (I < 0) = true := decide_eq_true hneg
      rw [if_pos hneg]
      go_enter Tryz.func125, Tryz.ntmps125
      go_wp2_with fail
      refine Calls.mono ki.out ?_
      rintro e w2 ⟨rfl, hb2⟩
      go_wp2
      exact bodyPost_ret (v := .tuple #[.string s, .string ⟨#[]⟩, .bool false]) (by simp [results, Tryz.results125, go_sem]) rfl ⟨rfl, hb2⟩
    · have dn : decide (I < 0) = false := decide_eq_false hneg
      rw [if_neg hneg]
      obtain ⟨N, rfl⟩ : ∃ N : Nat, I = N := ⟨I.toNat, by omega⟩
      have hN : N < s.size := by omega
      have hw1 : IntKind.i64.wrap ((N : Int) + 1) = ((N + 1 : Nat) : Int) := by rw [IntKind.wrap_i64]; omega
      obtain ⟨N1, hN1⟩ : ∃ N1, N1 = N + 1 := ⟨_, rfl⟩
      rw [← hN1] at hw1
      have q1 : (N : Int) ≤ (s.size : Int) := by omega
      have q2 : (N1 : Int) ≤ (s.size : Int) := by omega
      have q3 : (0 : Int) ≤ (N : Int) := by omega
      have q4 : (0 : Int) ≤ (N1 : Int) := by omega
      have hx : s.extract 0 (N : Int).toNat = s.extract 0 N := by simp
      have hx1 : (N : Int).toNat + 1 = N1 := by simp; omega
      rw [hx, hx1]
      clear hx hx1 hN1
      go_enter Tryz.func125, Tryz.ntmps125
      go_wp2_with fail
      refine Calls.mono ki.out ?_
      rintro e w2 ⟨rfl, hb2⟩
      clear ki
      go_wp2_with fail
      go_quiet (fail)
      go_wp2
      exact bodyPost_ret (v := .tuple #[.string (s.extract 0 N), .string (s.extract N1 s.size), .bool true]) (by simp [results, Tryz.results125, go_sem]) rfl ⟨rfl, below_drewN hb2 _⟩
  · rw [if_neg hb16] at hI
    have eb : (b == 16) = false := by rw [beq_eq_false_iff_ne]; exact hb16
    have ki : Hid _ := IndexAny_two 101 69 (by decide) (by decide) s hs w
    rw [← hI] at ki
    clear hI hb16
    by_cases hneg : I < 0
    · have dn : decide (I < 0) = true := decide_eq_true hneg
      rw [if_pos hneg]
      go_enter Tryz.func125, Tryz.ntmps125
      go_wp2_with fail
      refine Calls.mono ki.out ?_
      rintro e w2 ⟨rfl, hb2⟩
      go_wp2
      exact bodyPost_ret (v := .tuple #[.string s, .string ⟨#[]⟩, .bool false]) (by simp [results, Tryz.results125, go_sem]) rfl ⟨rfl, hb2⟩
    · have dn : decide (I < 0) = false := decide_eq_false hneg
      rw [if_neg hneg]
      obtain ⟨N, rfl⟩ : ∃ N : Nat, I = N := ⟨I.toNat, by omega⟩
      have hN : N < s.size := by omega
      have hw1 : IntKind.i64.wrap ((N : Int) + 1) = ((N + 1 : Nat) : Int) := by rw [IntKind.wrap_i64]; omega
      obtain ⟨N1, hN1⟩ : ∃ N1, N1 = N + 1 := ⟨_, rfl⟩
      rw [← hN1] at hw1
      have q1 : (N : Int) ≤ (s.size : Int) := by omega
      have q2 : (N1 : Int) ≤ (s.size : Int) := by omega
      have q3 : (0 : Int) ≤ (N : Int) := by omega
      have q4 : (0 : Int) ≤ (N1 : Int) := by omega
      have hx : s.extract 0 (N : Int).toNat = s.extract 0 N := by simp
      have hx1 : (N : Int).toNat + 1 = N1 := by simp; omega
      rw [hx, hx1]
      clear hx hx1 hN1
      go_enter Tryz.func125, Tryz.ntmps125
      go_wp2_with fail
      refine Calls.mono ki.out ?_
      rintro e w2 ⟨rfl, hb2⟩
      clear ki
      go_wp2_with fail
      go_quiet (fail)
      go_wp2
      exact bodyPost_ret (v := .tuple #[.string (s.extract 0 N), .string (s.extract N1 s.size), .bool true]) (by simp [results, Tryz.results125, go_sem]) rfl ⟨rfl, below_drewN hb2 _⟩
/-- strings.Cut at the point. -/
def cutR (s : ByteArray) (I : Int) : Value := if I < 0 then .tuple #[.string s, .string ⟨#[]⟩, .bool false] else .tuple #[.string (s.extract 0 I.toNat), .string (s.extract (I.toNat + 1) s.size), .bool true]
theorem indexByte_lt (l : List UInt8) (c : UInt8) : -1 ≤ Lib.indexByte l c ∧ Lib.indexByte l c < l.length := by
  refine ⟨Lib.indexByte_ge l c, ?_⟩
  induction l with
  | nil => show (-1 : Int) < 0; decide
  | cons x l ih =>
    have := Lib.indexByte_ge l c
    unfold Lib.indexByte
    simp only [List.length_cons]
    split
    · omega
    · split <;> omega
set_option maxRecDepth 20000 in
set_option maxHeartbeats 4000000 in
theorem cut_any (s : ByteArray) (hs : s.size < 1000000) (w : World) (I : Int) (hI : I = Lib.indexByte s.data.toList 46) : Calls Tryz.prog 126 #[.string s, .string ⟨#[46]⟩] w fun e w' => e = .returned (cutR s I) ∧ Below w.heap.size w w' := by
  have hI1 : -1 ≤ I ∧ I < s.size := by
    rw [hI, Lib.size_eq s]
    exact indexByte_lt _ _
  have k118 : Hid (∀ W, Calls Tryz.prog 249 #[.string s, .string ⟨#[46]⟩] W fun e w' => e = .returned (.int .i64 I) ∧ w' = W) := fun W => by
    have k := Any.stringslite_Index_one Tryz.indexLite s 46 W
    change Calls Tryz.prog 249 _ _ _ at k
    rw [← hI] at k
    exact k
  clear hI
  have k94 : Hid (Calls Tryz.prog 194 #[.string s, .string ⟨#[46]⟩] w fun e w' => e = .returned (cutR s I) ∧ Below w.heap.size w w') := by
    show Calls _ _ _ _ _
    unfold cutR
    by_cases hneg : I < 0
    · have dn : decide (I ≥ 0) = false := decide_eq_false (by omega)
      rw [if_pos hneg]
      go_enter Tryz.func194, Tryz.ntmps194
      go_wp2_with fail
      refine Calls.mono (k118.out _) ?_
      rintro e w2 ⟨rfl, rfl⟩
      go_wp2
      exact bodyPost_ret (v := .tuple #[.string s, .string ⟨#[]⟩, .bool false]) (by simp [results, Tryz.results194, go_sem]) rfl ⟨rfl, Below.refl _ _⟩
    · have dn : decide (I ≥ 0) = true := decide_eq_true (by omega)
      rw [if_neg hneg]
      obtain ⟨N, rfl⟩ : ∃ N : Nat, I = N := ⟨I.toNat, by omega⟩
      have hN : N < s.size := by omega
      have hw1 : IntKind.i64.wrap ((N : Int) + 1) = ((N + 1 : Nat) : Int) := by rw [IntKind.wrap_i64]; omega
      obtain ⟨N1, hN1⟩ : ∃ N1, N1 = N + 1 := ⟨_, rfl⟩
      rw [← hN1] at hw1
      have q1 : (N : Int) ≤ (s.size : Int) := by omega
      have q2 : (N1 : Int) ≤ (s.size : Int) := by omega
      have q3 : (0 : Int) ≤ (N : Int) := by omega
      have q4 : (0 : Int) ≤ (N1 : Int) := by omega
      have hx : s.extract 0 (N : Int).toNat = s.extract 0 N := by simp
      have hx1 : (N : Int).toNat + 1 = N1 := by simp; omega
      rw [hx, hx1]
      clear hx hx1 hN1
      go_enter Tryz.func194, Tryz.ntmps194
      go_wp2_with fail
      refine Calls.mono (k118.out _) ?_
      rintro e w2 ⟨rfl, rfl⟩
      clear k118
      go_wp2_with fail
      go_quiet (fail)
      go_wp2
      exact bodyPost_ret (v := .tuple #[.string (s.extract 0 N), .string (s.extract N1 s.size), .bool true]) (by simp [results, Tryz.results194, go_sem]) rfl ⟨rfl, below_drewN (Below.refl _ _) _⟩
  obtain ⟨x, y, z, hv⟩ : ∃ x y z, cutR s I = .tuple #[x, y, z] := by
    unfold cutR
    split
    · exact ⟨_, _, _, rfl⟩
    · exact ⟨_, _, _, rfl⟩
  rw [hv] at k94 ⊢
  go_enter Tryz.func126, Tryz.ntmps126
  go_wp2_with fail
  refine Calls.mono k94.out ?_
  rintro e w2 ⟨rfl, hb2⟩
  go_wp2
  exact bodyPost_ret (v := .tuple #[x, y, z]) (by simp [results, Tryz.results126, go_sem]) rfl ⟨rfl, hb2⟩
end Go.Proofs.YtclokcoimdjaeaaGreatDoor
namespace Go.Proofs.YtclokcoimdjaeaaGreatDoor
open Go.RowKit
attribute [local go_sem ↓] Go.wp_at_zero Go.wp_at_succ
end Go.Proofs.YtclokcoimdjaeaaGreatDoor
namespace Go.Proofs.YtclokcoimdjaeaaGreatDoor
open Go.RowKit
attribute [local go_sem ↓] Go.wp_at_zero Go.wp_at_succ
theorem outE_tight {w : World} {v : Value} {z : Int} {n : Nat} (h : OutE w v z n) (k : Nat) (hz : -(4294967296 ^ k) < z ∧ z < 4294967296 ^ k) : OutE w v z k := by
  obtain ⟨b, neg, a, cap, ds, r1, r2, r3, r4, r5⟩ := h
  refine ⟨b, neg, a, cap, ds, r1, r2, r3, r4, nrm_len (B := 4294967296) (by decide) r2.row.words r3.1 ?_⟩
  cases neg <;> simp [num] at r4 <;> omega
end Go.Proofs.YtclokcoimdjaeaaGreatDoor
namespace Go.Proofs.YtclokcoimdjaeaaGreatDoor
open Go.RowKit
attribute [local go_sem ↓] Go.wp_at_zero Go.wp_at_succ
theorem getD' {a : Array Value} {t : Nat} {v : Value} (h : a.getD t undef = v) : a[t]?.getD undef = v := by rwa [Array.getD_eq_getD_getElem?] at h
theorem low_uniq {p q x y : Int} (hq : 0 < q) (hy : 0 < y) (h1 : Nat.gcd p.natAbs q.natAbs = 1) (h2 : Nat.gcd x.natAbs y.natAbs = 1) (e : p * y = x * q) : p = x ∧ q = y := by
  have e' : p.natAbs * y.natAbs = x.natAbs * q.natAbs := by rw [← Int.natAbs_mul, ← Int.natAbs_mul, e]
  have d1 : q.natAbs ∣ y.natAbs := Nat.Coprime.dvd_of_dvd_mul_left (m := p.natAbs) (by unfold Nat.Coprime; rw [Nat.gcd_comm]; exact h1) (by rw [e']; exact Nat.dvd_mul_left _ _)
  have d2 : y.natAbs ∣ q.natAbs := Nat.Coprime.dvd_of_dvd_mul_left (m := x.natAbs) (by unfold Nat.Coprime; rw [Nat.gcd_comm]; exact h2) (by rw [← e']; exact Nat.dvd_mul_left _ _)
  have e3 := Nat.dvd_antisymm d1 d2
  have e4 : q = y := by omega
  subst e4
  exact ⟨Int.eq_of_mul_eq_mul_right (by omega) e, rfl⟩
end Go.Proofs.YtclokcoimdjaeaaGreatDoor
namespace Go.Proofs.YtclokcoimdjaeaaGreatDoor
open Go.RowKit Go.Shelf Go.Lib
attribute [local go_sem ↓] Go.wp_at_zero Go.wp_at_succ
/-- The digits of an exponent. -/
def expDigits (s : ByteArray) : ByteArray := if Lib.hasPrefix s.data.toList [45] = true then ⟨(Lib.trimPrefix s.data.toList [45]).toArray⟩ else ⟨(Lib.trimPrefix s.data.toList [43]).toArray⟩
/-- What parseExponent answers. -/
def expAns (s : ByteArray) (has : Bool) (p : Int) (ok : Bool) : Prop :=
  (has = false ∧ p = 0 ∧ ok = true) ∨ (has = true ∧ ¬ (goodT (expDigits s) 10 ∧ hor 10 (digs (expDigits s)) ≤ 999) ∧ p = 0 ∧ ok = false) ∨
  (has = true ∧ goodT (expDigits s) 10 ∧ hor 10 (digs (expDigits s)) ≤ 999 ∧ ok = true ∧ p = if Lib.hasPrefix s.data.toList [45] = true then -(hor 10 (digs (expDigits s))) else hor 10 (digs (expDigits s)))
end Go.Proofs.YtclokcoimdjaeaaGreatDoor
namespace Go.Proofs.YtclokcoimdjaeaaGreatDoor
open Go.RowKit
attribute [local go_sem ↓] Go.wp_at_zero Go.wp_at_succ
end Go.Proofs.YtclokcoimdjaeaaGreatDoor
namespace Go.Proofs.YtclokcoimdjaeaaGreatDoor
open Go.RowKit
attribute [local go_sem ↓] Go.wp_at_zero Go.wp_at_succ
theorem lowE_zero {w : World} {v : Value} {m : Nat} (h : FracE w v 0 1 m) : LowE w v 0 1 m := ⟨0, 1, h, by decide, by decide, by decide⟩
/-- Does a decimal number begin with a nought that it may not have? -/
def leadB (s : ByteArray) (b : Int) : Bool := decide (b = 10) && decide (1 < s.size) && decide ((s.get! 0).toNat = 48)
def WholeAns (w' : World) (s : ByteArray) (b : Int) (t : Value) (ok : Bool) : Prop :=
  (ok = true ∧ goodT s b ∧ leadB s b = false ∧ LowE w' t (hor b (digs s)) 1 (s.size + 5)) ∨ (ok = false ∧ ¬ (goodT s b ∧ leadB s b = false) ∧ LowE w' t 0 1 2)
set_option maxRecDepth 20000 in
set_option maxHeartbeats 8000000 in
theorem parseWhole_lead (s : ByteArray) (b : Int) (w : World) (hlead : leadB s b = true) : Calls Tryz.prog 127 #[.string s, .int .i64 b] w fun e w' => ∃ t ok, e = .returned (.tuple #[t, .bool ok]) ∧ WholeAns w' s b t ok ∧ Below w.heap.size w w' := by
  have x0 := Box4.new w false none 0 0 false none 0 0 30 (by decide)
  have hbW : Below w.heap.size w (w.alloc (.cells #[.bool false, .slice none 0 0, .bool false, .slice none 0 0] 30)) := (Below.refl _ _).alloc (Nat.le_refl _) _
  obtain ⟨W, hW⟩ : ∃ W, W = w.alloc (.cells #[.bool false, .slice none 0 0, .bool false, .slice none 0 0] 30) := ⟨_, rfl⟩
  have hlt : w.heap.size < W.heap.size := by rw [hW]; simp
  rw [← hW] at x0 hbW
  have hA : Hid (∀ w' t, LowE w' t 0 1 2 → WholeAns w' s b t false) := fun w' t h => .inr ⟨rfl, (fun h2 => by rw [hlead] at h2; cases h2.2), h⟩
  unfold leadB at hlead
  simp only [Bool.and_eq_true, decide_eq_true_eq] at hlead
  obtain ⟨⟨rfl, h1⟩, h48⟩ := hlead
  have p0 : 0 < s.size := by omega
  rw [get_bang s 0 p0] at h48
  have e48 : (((s[0]'p0).toNat : Int) == 48) = true := by rw [h48]; rfl
  have d1 : decide ((s.size : Int) > 1) = true := decide_eq_true (by omega)
  have kz : Hid _ := fun w => zero_any w
  clear h48
  go_enter Tryz.func127, Tryz.ntmps127
  go_upto_region 1 with fail
  rw [← hW]
  clear hW
  go_wp2_with fail
  refine Calls.mono (kz.out _) ?_
  rintro e w7 ⟨t, rfl, hF, b8⟩
  have hL := lowE_zero hF
  obtain ⟨n4, a4, l4, c4, n5, a5, l5, c5, rfl⟩ := hL.form
  have y0 := x0.next b8
  obtain ⟨_, _, _, _, _, _, _, _, j0, j1, j2, j3, f⟩ := y0.cells
  have f0 := f 0
  have f1 := f 1
  have f2 := f 2
  have f3 := f 3
  clear f
  have hbx : Hid _ := put4_boxed (base := w.heap.size) y0.noint (by omega) n4 a4 l4 c4 n5 a5 l5 c5
  have hBf := bthen hbW b8
  have hLf : Hid _ := hbx.out.lowE hL
  clear hL hF kz
  go_wp2
  exact bodyPost_ret (v := .tuple #[.agg #[.bool n4, .slice a4 l4 c4, .bool n5, .slice a5 l5 c5], .bool false]) (by simp [results, Tryz.results127, go_sem, j0, j1, j2, j3]) rfl ⟨_, _, rfl, hA.out _ _ hLf.out, hbx.out.keep hBf (Nat.le_refl _) hBf.size⟩
set_option maxRecDepth 20000 in
set_option maxHeartbeats 8000000 in
theorem parseWhole_any (s : ByteArray) (b : Int) (hs : s.size ≤ 100) (w : World) : Calls Tryz.prog 127 #[.string s, .int .i64 b] w fun e w' => ∃ t ok, e = .returned (.tuple #[t, .bool ok]) ∧ WholeAns w' s b t ok ∧ Below w.heap.size w w' := by
  cases hlead : leadB s b with
  | true => exact parseWhole_lead s b w hlead
  | false =>
    have x0 := Box4.new w false none 0 0 false none 0 0 30 (by decide)
    have hbW : Below w.heap.size w (w.alloc (.cells #[.bool false, .slice none 0 0, .bool false, .slice none 0 0] 30)) := (Below.refl _ _).alloc (Nat.le_refl _) _
    obtain ⟨W, hW⟩ : ∃ W, W = w.alloc (.cells #[.bool false, .slice none 0 0, .bool false, .slice none 0 0] 30) := ⟨_, rfl⟩
    have hlt : w.heap.size < W.heap.size := by rw [hW]; simp
    rw [← hW] at x0 hbW
    have kz : Hid _ := fun w => zero_any w
    by_cases hg : goodT s b
    · obtain ⟨V, hV⟩ : ∃ V, V = hor b (digs s) := ⟨_, rfl⟩
      have hA : Hid (∀ w' t, LowE w' t V 1 (s.size + 1 + 4) → WholeAns w' s b t true) := fun w' t h => .inl ⟨rfl, hg, hlead, by rw [← hV]; exact h⟩
      replace hV : Hid _ := hV
      have hs9 : s.size ≤ 100000 := by omega
      by_cases hb10 : b = 10
      · have eb : (b == 10) = true := by rw [hb10]; rfl
        by_cases h1 : 1 < s.size
        · have p0 : 0 < s.size := by omega
          have h48 : (s[0]'p0).toNat ≠ 48 := by
            rw [← get_bang s 0 p0]
            intro h
            unfold leadB at hlead
            rw [decide_eq_true hb10, decide_eq_true h1, decide_eq_true h] at hlead
            cases hlead
          have d1 : decide ((s.size : Int) > 1) = true := decide_eq_true (by omega)
          have e48 : (((s[0]'p0).toNat : Int) == 48) = false := by rw [beq_eq_false_iff_ne]; omega
          clear h48 hb10
          have kP : Hid _ := Parse_ok s b W hg.2.1 hg.1 hs9 hg.2.2
          rw [← hV.out] at kP
          clear hg hlead hV
          go_enter Tryz.func127, Tryz.ntmps127
          go_upto_region 1 with fail
          rw [← hW]
          clear hW
          go_wp2_with fail
          refine Calls.mono kP.out ?_
          rintro e w1 ⟨v, rfl, hO, hb1⟩
          clear kP
          obtain ⟨n1, a1, l1, d1, rfl⟩ := hO.form
          obtain ⟨W1, hW1, hbW1, hlt1, ⟨c0, c1⟩, ff, hnI⟩ := box2 w1 n1 a1 l1 d1
          have hN := hO.num.next hbW1
          have k6 : Hid _ := Whole_num hN (by omega)
          have b2 := bthen hb1 hbW1
          clear ff hN hO hnI
          go_wp2_with fail
          rw [← hW1]
          clear hW1
          refine Calls.mono k6.out ?_
          rintro e w7 ⟨t, rfl, hL, b8⟩
          clear k6
          have b9 := bthen b2 b8
          obtain ⟨n4, a4, l4, c4, n5, a5, l5, c5, rfl⟩ := hL.form
          have y0 := x0.next b9
          obtain ⟨_, _, _, _, _, _, _, _, j0, j1, j2, j3, f⟩ := y0.cells
          have f0 := f 0
          have f1 := f 1
          have f2 := f 2
          have f3 := f 3
          clear f
          have hbx : Hid _ := put4_boxed (base := w.heap.size) y0.noint (by omega) n4 a4 l4 c4 n5 a5 l5 c5
          have hBf := bthen hbW b9
          have hLf : Hid _ := hbx.out.lowE hL
          clear hL
          go_wp2
          exact bodyPost_ret (v := .tuple #[.agg #[.bool n4, .slice a4 l4 c4, .bool n5, .slice a5 l5 c5], .bool true]) (by simp [results, Tryz.results127, go_sem, j0, j1, j2, j3]) rfl ⟨_, _, rfl, hA.out _ _ hLf.out, hbx.out.keep hBf (Nat.le_refl _) hBf.size⟩
        · have d1 : decide ((s.size : Int) > 1) = false := decide_eq_false (by omega)
          clear hb10
          have kP : Hid _ := Parse_ok s b W hg.2.1 hg.1 hs9 hg.2.2
          rw [← hV.out] at kP
          clear hg hlead hV
          go_enter Tryz.func127, Tryz.ntmps127
          go_upto_region 1 with fail
          rw [← hW]
          clear hW
          go_wp2_with fail
          refine Calls.mono kP.out ?_
          rintro e w1 ⟨v, rfl, hO, hb1⟩
          clear kP
          obtain ⟨n1, a1, l1, d1, rfl⟩ := hO.form
          obtain ⟨W1, hW1, hbW1, hlt1, ⟨c0, c1⟩, ff, hnI⟩ := box2 w1 n1 a1 l1 d1
          have hN := hO.num.next hbW1
          have k6 : Hid _ := Whole_num hN (by omega)
          have b2 := bthen hb1 hbW1
          clear ff hN hO hnI
          go_wp2_with fail
          rw [← hW1]
          clear hW1
          refine Calls.mono k6.out ?_
          rintro e w7 ⟨t, rfl, hL, b8⟩
          clear k6
          have b9 := bthen b2 b8
          obtain ⟨n4, a4, l4, c4, n5, a5, l5, c5, rfl⟩ := hL.form
          have y0 := x0.next b9
          obtain ⟨_, _, _, _, _, _, _, _, j0, j1, j2, j3, f⟩ := y0.cells
          have f0 := f 0
          have f1 := f 1
          have f2 := f 2
          have f3 := f 3
          clear f
          have hbx : Hid _ := put4_boxed (base := w.heap.size) y0.noint (by omega) n4 a4 l4 c4 n5 a5 l5 c5
          have hBf := bthen hbW b9
          have hLf : Hid _ := hbx.out.lowE hL
          clear hL
          go_wp2
          exact bodyPost_ret (v := .tuple #[.agg #[.bool n4, .slice a4 l4 c4, .bool n5, .slice a5 l5 c5], .bool true]) (by simp [results, Tryz.results127, go_sem, j0, j1, j2, j3]) rfl ⟨_, _, rfl, hA.out _ _ hLf.out, hbx.out.keep hBf (Nat.le_refl _) hBf.size⟩
      · have eb : (b == 10) = false := by rw [beq_eq_false_iff_ne]; exact hb10
        have kP : Hid _ := Parse_ok s b W hg.2.1 hg.1 hs9 hg.2.2
        rw [← hV.out] at kP
        clear hg hlead hV
        go_enter Tryz.func127, Tryz.ntmps127
        go_upto_region 1 with fail
        rw [← hW]
        clear hW
        go_wp2_with fail
        refine Calls.mono kP.out ?_
        rintro e w1 ⟨v, rfl, hO, hb1⟩
        clear kP
        obtain ⟨n1, a1, l1, d1, rfl⟩ := hO.form
        obtain ⟨W1, hW1, hbW1, hlt1, ⟨c0, c1⟩, ff, hnI⟩ := box2 w1 n1 a1 l1 d1
        have hN := hO.num.next hbW1
        have k6 : Hid _ := Whole_num hN (by omega)
        have b2 := bthen hb1 hbW1
        clear ff hN hO hnI
        go_wp2_with fail
        rw [← hW1]
        clear hW1
        refine Calls.mono k6.out ?_
        rintro e w7 ⟨t, rfl, hL, b8⟩
        clear k6
        have b9 := bthen b2 b8
        obtain ⟨n4, a4, l4, c4, n5, a5, l5, c5, rfl⟩ := hL.form
        have y0 := x0.next b9
        obtain ⟨_, _, _, _, _, _, _, _, j0, j1, j2, j3, f⟩ := y0.cells
        have f0 := f 0
        have f1 := f 1
        have f2 := f 2
        have f3 := f 3
        clear f
        have hbx : Hid _ := put4_boxed (base := w.heap.size) y0.noint (by omega) n4 a4 l4 c4 n5 a5 l5 c5
        have hBf := bthen hbW b9
        have hLf : Hid _ := hbx.out.lowE hL
        clear hL
        go_wp2
        exact bodyPost_ret (v := .tuple #[.agg #[.bool n4, .slice a4 l4 c4, .bool n5, .slice a5 l5 c5], .bool true]) (by simp [results, Tryz.results127, go_sem, j0, j1, j2, j3]) rfl ⟨_, _, rfl, hA.out _ _ hLf.out, hbx.out.keep hBf (Nat.le_refl _) hBf.size⟩
    · have hA : Hid (∀ w' t, LowE w' t 0 1 2 → WholeAns w' s b t false) := fun w' t h => .inr ⟨rfl, (fun h2 => hg h2.1), h⟩
      have hs9 : s.size ≤ 100000 := by omega
      by_cases hb10 : b = 10
      · have eb : (b == 10) = true := by rw [hb10]; rfl
        by_cases h1 : 1 < s.size
        · have p0 : 0 < s.size := by omega
          have h48 : (s[0]'p0).toNat ≠ 48 := by
            rw [← get_bang s 0 p0]
            intro h
            unfold leadB at hlead
            rw [decide_eq_true hb10, decide_eq_true h1, decide_eq_true h] at hlead
            cases hlead
          have d1 : decide ((s.size : Int) > 1) = true := decide_eq_true (by omega)
          have e48 : (((s[0]'p0).toNat : Int) == 48) = false := by rw [beq_eq_false_iff_ne]; omega
          clear h48 hb10
          have kP : Hid _ := Parse_no s b W hs9 hg
          clear hg hlead
          go_enter Tryz.func127, Tryz.ntmps127
          go_upto_region 1 with fail
          rw [← hW]
          clear hW
          go_wp2_with fail
          refine Calls.mono kP.out ?_
          rintro e w1 ⟨rfl, hb1⟩
          clear kP
          have b2 : Below W.heap.size W (w1.alloc (.cells #[.bool false, .slice none 0 0] 28)) := hb1.alloc hb1.size _
          go_wp2_with fail
          refine Calls.mono (kz.out _) ?_
          rintro e w7 ⟨t, rfl, hF, b8⟩
          have b9 := bthen b2 b8
          have hL := lowE_zero hF
          obtain ⟨n4, a4, l4, c4, n5, a5, l5, c5, rfl⟩ := hL.form
          have y0 := x0.next b9
          obtain ⟨_, _, _, _, _, _, _, _, j0, j1, j2, j3, f⟩ := y0.cells
          have f0 := f 0
          have f1 := f 1
          have f2 := f 2
          have f3 := f 3
          clear f
          have hbx : Hid _ := put4_boxed (base := w.heap.size) y0.noint (by omega) n4 a4 l4 c4 n5 a5 l5 c5
          have hBf := bthen hbW b9
          have hLf : Hid _ := hbx.out.lowE hL
          clear hL hF kz
          go_wp2
          exact bodyPost_ret (v := .tuple #[.agg #[.bool n4, .slice a4 l4 c4, .bool n5, .slice a5 l5 c5], .bool false]) (by simp [results, Tryz.results127, go_sem, j0, j1, j2, j3]) rfl ⟨_, _, rfl, hA.out _ _ hLf.out, hbx.out.keep hBf (Nat.le_refl _) hBf.size⟩
        · have d1 : decide ((s.size : Int) > 1) = false := decide_eq_false (by omega)
          clear hb10
          have kP : Hid _ := Parse_no s b W hs9 hg
          clear hg hlead
          go_enter Tryz.func127, Tryz.ntmps127
          go_upto_region 1 with fail
          rw [← hW]
          clear hW
          go_wp2_with fail
          refine Calls.mono kP.out ?_
          rintro e w1 ⟨rfl, hb1⟩
          clear kP
          have b2 : Below W.heap.size W (w1.alloc (.cells #[.bool false, .slice none 0 0] 28)) := hb1.alloc hb1.size _
          go_wp2_with fail
          refine Calls.mono (kz.out _) ?_
          rintro e w7 ⟨t, rfl, hF, b8⟩
          have b9 := bthen b2 b8
          have hL := lowE_zero hF
          obtain ⟨n4, a4, l4, c4, n5, a5, l5, c5, rfl⟩ := hL.form
          have y0 := x0.next b9
          obtain ⟨_, _, _, _, _, _, _, _, j0, j1, j2, j3, f⟩ := y0.cells
          have f0 := f 0
          have f1 := f 1
          have f2 := f 2
          have f3 := f 3
          clear f
          have hbx : Hid _ := put4_boxed (base := w.heap.size) y0.noint (by omega) n4 a4 l4 c4 n5 a5 l5 c5
          have hBf := bthen hbW b9
          have hLf : Hid _ := hbx.out.lowE hL
          clear hL hF kz
          go_wp2
          exact bodyPost_ret (v := .tuple #[.agg #[.bool n4, .slice a4 l4 c4, .bool n5, .slice a5 l5 c5], .bool false]) (by simp [results, Tryz.results127, go_sem, j0, j1, j2, j3]) rfl ⟨_, _, rfl, hA.out _ _ hLf.out, hbx.out.keep hBf (Nat.le_refl _) hBf.size⟩
      · have eb : (b == 10) = false := by rw [beq_eq_false_iff_ne]; exact hb10
        have kP : Hid _ := Parse_no s b W hs9 hg
        clear hg hlead
        go_enter Tryz.func127, Tryz.ntmps127
        go_upto_region 1 with fail
        rw [← hW]
        clear hW
        go_wp2_with fail
        refine Calls.mono kP.out ?_
        rintro e w1 ⟨rfl, hb1⟩
        clear kP
        have b2 : Below W.heap.size W (w1.alloc (.cells #[.bool false, .slice none 0 0] 28)) := hb1.alloc hb1.size _
        go_wp2_with fail
        refine Calls.mono (kz.out _) ?_
        rintro e w7 ⟨t, rfl, hF, b8⟩
        have b9 := bthen b2 b8
        have hL := lowE_zero hF
        obtain ⟨n4, a4, l4, c4, n5, a5, l5, c5, rfl⟩ := hL.form
        have y0 := x0.next b9
        obtain ⟨_, _, _, _, _, _, _, _, j0, j1, j2, j3, f⟩ := y0.cells
        have f0 := f 0
        have f1 := f 1
        have f2 := f 2
        have f3 := f 3
        clear f
        have hbx : Hid _ := put4_boxed (base := w.heap.size) y0.noint (by omega) n4 a4 l4 c4 n5 a5 l5 c5
        have hBf := bthen hbW b9
        have hLf : Hid _ := hbx.out.lowE hL
        clear hL hF kz
        go_wp2
        exact bodyPost_ret (v := .tuple #[.agg #[.bool n4, .slice a4 l4 c4, .bool n5, .slice a5 l5 c5], .bool false]) (by simp [results, Tryz.results127, go_sem, j0, j1, j2, j3]) rfl ⟨_, _, rfl, hA.out _ _ hLf.out, hbx.out.keep hBf (Nat.le_refl _) hBf.size⟩
end Go.Proofs.YtclokcoimdjaeaaGreatDoor
