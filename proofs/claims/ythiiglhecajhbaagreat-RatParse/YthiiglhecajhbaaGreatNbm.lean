/- ratio: strings.IndexAny at two letters, whatever the text. -/
import Derived.Test.YthiiglhecajhbaaGreatFly
import Derived.Test.YthiiglhecajhbaaGreatBase
import Derived.Shelf.Strings.IndexAnyAll
import Derived.Shelf.Small.Utf8
import Derived.Laws.RangeAny
import Derived.Laws.Runes
import Derived.BigQuiet
import Derived.Deep.DrawnRows
import Derived.WalkKit
import Derived.WalkLawsBesides
import Derived.WalkSpells
import Derived.Deep.QuietTactic
import Derived.WalkMore
import Derived.Lib.OthersKept
import Derived.Deep.RegionWith
import Derived.RegionTactic
import Derived.Deep.Cut
import Derived.Deep.CutRange
import Derived.Test.YthiiglhecajhbaaGreatFem
namespace Go.Proofs.YthiiglhecajhbaaGreat
open Go.RowKit Go.Shelf Go.Lib
attribute [local go_sem ↓] Go.wp_at_zero Go.wp_at_succ
set_option maxRecDepth 100000 in
set_option maxHeartbeats 8000000 in
theorem IndexRune_bad (c0 c1 : UInt8) (h0 : c0.toNat < 128) (h1 : c1.toNat < 128) (w : World) : Calls Tryz.prog 114 #[.string ⟨#[c0, c1]⟩, .int .i32 65533] w fun e w' => e = .returned (.int .i64 (-1)) ∧ Below w.heap.size w w' := by
  obtain ⟨S, hS⟩ : ∃ S : ByteArray, S = ⟨#[c0, c1]⟩ := ⟨_, rfl⟩
  have hsz : S.size = 2 := by rw [hS]; rfl
  have hal : ∀ i (h : i < S.size), (S[i]'h).toNat < 128 := by
    intro i h
    subst hS
    match i, h with
    | 0, _ => exact h0
    | 1, _ => exact h1
  rw [← hS]
  clear hS h0 h1
  replace hal : Hid _ := hal
  go_enter Tryz.func114, Tryz.ntmps114
  go_wp2
  go_loopg [5, 6] 2 (fun g _ _ wx => ∃ i : Nat, i + g = 2 ∧ wx = w.iter S i)
  case atStart => exact ⟨0, rfl, rfl⟩
  case round =>
    obtain ⟨i, hig, rfl⟩ := hrel
    have hB : ∀ i, Below w.heap.size w (w.iter S i) := fun i => (Below.refl _ _).alloc (Nat.le_refl _) _
    cases gk with
    | zero =>
      obtain rfl : i = 2 := by omega
      have hnx := fun ty => run_next_end (P := Tryz.prog) w S 2 ty (by omega)
      have hBB := hB 2
      clear hB
      go_wp2
      go_ret
      exact ⟨rfl, hBB⟩
    | succ g =>
      have hi : i < S.size := by omega
      have hx := hal.out i hi
      have hnx := fun ty => run_next_ascii (P := Tryz.prog) w S i ty hi hx
      generalize (S[i]'hi).toNat = X at *
      have hXe : ((X : Int) == 65533) = false := by rw [beq_eq_false_iff_ne]; omega
      clear hB
      go_wp2
      go_roundg g
      case measure => omega
      case rel => exact ⟨i + 1, by omega, rfl⟩
set_option maxRecDepth 100000 in
set_option maxHeartbeats 8000000 in
theorem IndexRune_high (c0 c1 : UInt8) (h0 : c0.toNat < 128) (h1 : c1.toNat < 128) (r : Int) (hr : 128 ≤ r) (w : World) : Calls Tryz.prog 114 #[.string ⟨#[c0, c1]⟩, .int .i32 r] w fun e w' => e = .returned (.int .i64 (-1)) ∧ Below w.heap.size w w' := by
  by_cases hE : r = 65533
  · subst hE
    exact IndexRune_bad c0 c1 h0 h1 w
  · have d1 : decide (r < 128) = false := decide_eq_false (by omega)
    have d0 : decide (0 ≤ r) = true := decide_eq_true (by omega)
    have dE : (r == 65533) = false := by rw [beq_eq_false_iff_ne]; exact hE
    have kv0 := Any.utf8_ValidRune { Tryz.indexAny with } r w
    change Calls Tryz.prog 129 _ _ _ at kv0
    by_cases hv : Lib.validRune r = true
    · rw [hv] at kv0
      have kv : Hid _ := kv0
      have hval : Utf8.valid r = true := by
        unfold Lib.validRune at hv
        simp at hv
        unfold Utf8.valid
        simp
        omega
      obtain ⟨n1, n2, n3⟩ := Go.encode_facts r hval hr
      clear h0 kv0 hval
      generalize hRS : Utf8.encode r = RS at *
      obtain ⟨M, hM⟩ : ∃ M, M = RS.size - 1 := ⟨_, rfl⟩
      have hcv : ∀ W, (convert 21 9 (.int .i32 r)).run Tryz.prog W = .ok (.string RS) W := fun W => by rw [Go.run_convert_int_string W 21 9 .i32 r (by rw [Tryz.underlying21]; rfl) Tryz.underlying9, hRS]
      by_cases h2 : M = 1
      · have hMw : IntKind.i64.wrap ((RS.size : Int) - 1) = 1 := by rw [IntKind.wrap_i64]; omega
        have hMlt : 1 < RS.size := by omega
        have hy : 128 ≤ (RS[1]'hMlt).toNat := by
          have := n3 (by omega)
          have e : RS.size - 1 = 1 := by omega
          simp only [e] at this
          exact this
        have hR1' : (1 : Int) < (RS.size : Int) := by omega
        have hext : (⟨#[c0, c1]⟩ : ByteArray).extract 2 2 = ⟨#[]⟩ := rfl
        have hsz : (⟨#[c0, c1]⟩ : ByteArray).size = 2 := rfl
        have hext3 : (⟨#[c0, c1]⟩ : ByteArray).extract 2 (⟨#[c0, c1]⟩ : ByteArray).size = ⟨#[]⟩ := rfl
        have kib := fun W => Any.strings_IndexByte { Tryz.indexAny with } ⟨#[]⟩ (((RS[1]'hMlt).toNat : Nat) : Int) W
        have kib2 : Hid (∀ W, Calls Tryz.prog 128 #[.string ⟨#[]⟩, .int .u8 (((RS[1]'hMlt).toNat : Nat) : Int)] W fun e w' => e = .returned (.int .i64 (-1)) ∧ w' = W) := kib
        have hne : (((c1.toNat : Nat) : Int) != (((RS[1]'hMlt).toNat : Nat) : Int)) = true := by simp; omega
        have hne2 : (((((⟨#[c0, c1]⟩ : ByteArray)[1]'(show 1 < 2 by decide)).toNat : Nat) : Int) != (((RS[1]'hMlt).toNat : Nat) : Int)) = true := hne
        clear kib hy n3 hM h2 hRS hne
        go_enter Tryz.func114, Tryz.ntmps114
        go_wp2_with fail
        refine Calls.mono kv.out ?_
        rintro e w2 ⟨rfl, rfl⟩
        clear kv
        go_wp2
        go_step3
        go_wp2
        go_loopw [9, 10, 11, 12] (fun v9 v10 _ _ wr => v9 = .int .i64 1 ∧ v10 = .int .i64 0 ∧ wr = w2) (fun _ _ _ _ _ => 0)
        case atStart => exact ⟨rfl, rfl, rfl⟩
        case round =>
          obtain ⟨rfl, rfl, rfl⟩ := hrel
          go_wp2_with fail
          go_step3
          go_upto_region 6 with fail
          go_quiet (fail)
          go_upto_region 7 with fail
          go_region_with (go_at_call 128; refine Calls.mono (kib2.out _) ?_; rintro e w3 ⟨rfl, rfl⟩)
          all_goals go_wp2
          all_goals rw [Exit.noGoto_ret]
          all_goals go_wp2
          all_goals rw [Exit.noGoto_ret]
          all_goals go_ret
          all_goals exact ⟨rfl, rfl, rfl, rfl, Nat.le_refl _, fun _ _ => rfl⟩
      · have hMw : IntKind.i64.wrap ((RS.size : Int) - 1) = (M : Int) := by rw [IntKind.wrap_i64]; omega
        have dM : decide ((M : Int) < 2) = false := decide_eq_false (by omega)
        have hM2 : 2 ≤ M := by omega
        clear n3 hM hRS
        go_enter Tryz.func114, Tryz.ntmps114
        go_wp2_with fail
        refine Calls.mono kv.out ?_
        rintro e w2 ⟨rfl, rfl⟩
        clear kv
        go_wp2
        go_step3
        go_wp2
        go_loopw [9, 10, 11, 12] (fun v9 v10 _ _ wr => v9 = .int .i64 M ∧ v10 = .int .i64 0 ∧ wr = w2) (fun _ _ _ _ _ => 0)
        case atStart => exact ⟨rfl, rfl, rfl⟩
        case round =>
          obtain ⟨rfl, rfl, rfl⟩ := hrel
          go_wp2
          rw [Exit.noGoto_ret]
          go_ret
          exact ⟨rfl, Below.refl _ _⟩
    · rw [show Lib.validRune r = false by simpa using hv] at kv0
      have kv : Hid _ := kv0
      clear kv0
      go_enter Tryz.func114, Tryz.ntmps114
      go_wp2_with fail
      refine Calls.mono kv.out ?_
      rintro e w2 ⟨rfl, rfl⟩
      go_wp2
      go_ret
      exact ⟨rfl, Below.refl _ _⟩
theorem get_bang (s : ByteArray) (i : Nat) (h : i < s.size) : s.get! i = s[i]'h := by
  simp [ByteArray.get!, getElem!_pos, h]
  rfl
theorem decode_cont (s : ByteArray) (i : Nat) (h : i < s.size) (ha : 128 ≤ (s[i]'h).toNat) : ∀ j, i ≤ j → j < i + (Utf8.decode s i).2 → j < s.size ∧ 128 ≤ (s.get! j).toNat := by
  have h0 : (s.get! (i + 0)).toNat = (s[i]'h).toNat := by rw [Nat.add_zero, get_bang s i h]
  have hb : ¬ (s.get! (i + 0)).toNat < 128 := by rw [h0]; omega
  intro j hj
  unfold Utf8.decode
  simp only [hb, if_false]
  split
  · rename_i hc
    simp only [Bool.and_eq_true, beq_iff_eq, decide_eq_true_eq] at hc
    split
    · intro hlt
      simp only at hlt
      have hor : j = i ∨ j = i + 1 := by omega
      rcases hor with rfl | rfl
      · exact ⟨h, by rw [Nat.add_zero] at hb; omega⟩
      · exact ⟨hc.2.1, by have := hc.2.2; omega⟩
    · intro hlt
      simp only at hlt
      obtain rfl : j = i := by omega
      exact ⟨h, by rw [Nat.add_zero] at hb; omega⟩
  · split
    · rename_i hc
      simp only [Bool.and_eq_true, beq_iff_eq, decide_eq_true_eq] at hc
      split
      · intro hlt
        simp only at hlt
        have hor : j = i ∨ j = i + 1 ∨ j = i + 2 := by omega
        rcases hor with rfl | rfl | rfl
        · exact ⟨h, by rw [Nat.add_zero] at hb; omega⟩
        · exact ⟨hc.1.2.1, by have := hc.1.2.2; omega⟩
        · exact ⟨hc.2.1, by have := hc.2.2; omega⟩
      · intro hlt
        simp only at hlt
        obtain rfl : j = i := by omega
        exact ⟨h, by rw [Nat.add_zero] at hb; omega⟩
    · split
      · rename_i hc
        simp only [Bool.and_eq_true, beq_iff_eq, decide_eq_true_eq] at hc
        split
        · intro hlt
          simp only at hlt
          have hor : j = i ∨ j = i + 1 ∨ j = i + 2 ∨ j = i + 3 := by omega
          rcases hor with rfl | rfl | rfl | rfl
          · exact ⟨h, by rw [Nat.add_zero] at hb; omega⟩
          · exact ⟨hc.1.1.2.1, by have := hc.1.1.2.2; omega⟩
          · exact ⟨hc.1.2.1, by have := hc.1.2.2; omega⟩
          · exact ⟨hc.2.1, by have := hc.2.2; omega⟩
        · intro hlt
          simp only at hlt
          obtain rfl : j = i := by omega
          exact ⟨h, by rw [Nat.add_zero] at hb; omega⟩
      · intro hlt
        simp only at hlt
        obtain rfl : j = i := by omega
        exact ⟨h, by rw [Nat.add_zero] at hb; omega⟩
set_option maxRecDepth 100000 in
set_option maxHeartbeats 8000000 in
/-- IndexAny at two letters: the first byte of the text that is one of them. -/
theorem IndexAny_two (c0 c1 : UInt8) (h0 : c0.toNat < 128) (h1 : c1.toNat < 128) (s : ByteArray) (hs : s.size < 1000000) (w : World) : Calls Tryz.prog 93 #[.string s, .string ⟨#[c0, c1]⟩] w fun e w' => e = .returned (.int .i64 (Lib.indexAny s.data.toList [c0, c1])) ∧ Below w.heap.size w w' := by
  by_cases h8 : 8 < s.size
  · have h144 : (Tryz.prog.info? 144).map (fun i => (i.zero, i.size)) = some (some (.agg (Array.replicate 256 (.bool false))), 256) := by kernel_rfl
    have k := Any.strings_IndexAny_long Tryz.indexAny (zero_of_info h144).1 (zero_of_info h144).2 s ⟨#[c0, c1]⟩ w (show 2 ≤ 2 by decide) h8 (by omega) (show 2 < 4294967281 by decide) (fun j b hb => by
      match j, hb with
      | 0, hb => simp at hb; subst hb; exact h0
      | 1, hb => simp at hb; subst hb; exact h1)
    change Calls Tryz.prog 93 _ _ _ at k
    refine k.mono fun e w' ⟨he, hw⟩ => ⟨he, ?_⟩
    rw [hw]
    exact ((Below.refl _ _).alloc (Nat.le_refl _) _).alloc (by simp) _
  · have k115 := fun W => Any.strings_shouldUseASCIISet { Tryz.indexAny with } (s.size : Int) W
    have kA : Hid (∀ W, Calls Tryz.prog 115 #[.int .i64 s.size] W fun e w' => e = .returned (.bool false) ∧ w' = W) := fun W => by
      have := k115 W
      rw [decide_eq_false (by omega)] at this
      exact this
    clear k115
    obtain ⟨R, hR⟩ : ∃ R, R = Lib.indexAny s.data.toList [c0, c1] := ⟨_, rfl⟩
    rw [← hR]
    replace hR : Hid _ := hR
    go_enter Tryz.func93, Tryz.ntmps93
    go_wp2_with fail
    refine Calls.mono (kA.out _) ?_
    rintro e w2 ⟨rfl, rfl⟩
    go_wp2
    go_loopg [9, 10] s.size (fun g _ _ wx => ∃ i : Nat, i + g = s.size ∧ Hid (wx.heap[w2.heap.size]? = some (.stringIter s i)) ∧ Hid (Lib.NoAny s.data.toList [c0, c1] i) ∧ Hid (Below w2.heap.size w2 wx))
    case atStart => exact ⟨0, by omega, by show (w2.heap.push _)[w2.heap.size]? = _; simp, Lib.NoAny.zero _ _, (Below.refl _ _).alloc (Nat.le_refl _) _⟩
    case round =>
      obtain ⟨i, hig, hK, hno, hb⟩ := hrel
      cases gk with
      | zero =>
        obtain rfl : i = s.size := by omega
        have hnx := fun ty => Lib.run_next_end_at (P := Tryz.prog) _ w2.heap.size s s.size ty hK.out (by omega)
        have hend : R = -1 := by rw [hR.out]; exact Lib.indexAny_none (by rw [← Lib.size_eq]; exact hno.out)
        subst hend
        go_wp2
        go_ret
        exact ⟨rfl, hb.out⟩
      | succ g =>
        have hi : i < s.size := by omega
        obtain ⟨x, hx⟩ : ∃ x : UInt8, s[i]'hi = x := ⟨_, rfl⟩
        have hxl : Hid (s.data.toList[i]? = some x) := by show _ = _; rw [← hx]; exact Lib.data_getElem? s i hi
        have hKlt : w2.heap.size < wr.heap.size := (Array.getElem?_eq_some_iff.1 hK.out).1
        by_cases h128 : x.toNat < 128
        · have hnx := fun ty => Lib.run_next_ascii_at (P := Tryz.prog) wr w2.heap.size s i ty hK.out hi (by rw [hx]; exact h128)
          rw [hx] at hnx
          have hK2 : Hid ((wr.iterAt w2.heap.size s (i + 1)).heap[w2.heap.size]? = some (.stringIter s (i + 1))) := Lib.iterAt_heap wr w2.heap.size s i (i + 1) hK.out
          have hb2 : Hid (Below w2.heap.size w2 (wr.iterAt w2.heap.size s (i + 1))) := Lib.below_iterAt hb.out (Nat.le_refl _) s (i + 1)
          have kir0 := Any.strings_IndexRune_ascii { Tryz.indexAny with } ⟨#[c0, c1]⟩ (x.toNat : Int) (wr.iterAt w2.heap.size s (i + 1)) (by omega) (by omega)
          change Calls Tryz.prog 114 _ _ _ at kir0
          have hback : ((x.toNat : Int)).toNat.toUInt8 = x := by simp
          rw [hback] at kir0
          have kir : Hid _ := kir0
          have hcon := Lib.contains_iff_indexByte [c0, c1] x
          clear kir0 hback hx
          generalize wr.iterAt w2.heap.size s (i + 1) = W at *
          generalize x.toNat = X at *
          cases hin : ([c0, c1] : List UInt8).contains x with
          | false =>
            rw [hin] at hcon
            have hlt : ¬ ((0 : Int) ≤ Lib.indexByte [c0, c1] x) := of_decide_eq_false hcon.symm
            have hlt2 : decide (Lib.indexByte [c0, c1] x ≥ 0) = false := decide_eq_false hlt
            have hno2 : Hid (Lib.NoAny s.data.toList [c0, c1] (i + 1)) := hno.out.succ hxl.out hin
            replace hcon : Hid _ := hcon
            generalize Lib.indexByte [c0, c1] x = IB at *
            go_wp2_with fail
            refine Calls.mono kir.out ?_
            rintro e w3 ⟨rfl, rfl⟩
            go_wp2
            go_roundg g
            case measure => omega
            case rel => exact ⟨i + 1, by omega, hK2, hno2, hb2⟩
          | true =>
            rw [hin] at hcon
            have hge : (0 : Int) ≤ Lib.indexByte [c0, c1] x := of_decide_eq_true hcon.symm
            have hge2 : decide (Lib.indexByte [c0, c1] x ≥ 0) = true := decide_eq_true hge
            have hRi : R = (i : Int) := by rw [hR.out]; exact Lib.indexAny_hit hno.out hxl.out hin
            subst hRi
            replace hcon : Hid _ := hcon
            generalize Lib.indexByte [c0, c1] x = IB at *
            go_wp2_with fail
            refine Calls.mono kir.out ?_
            rintro e w3 ⟨rfl, rfl⟩
            go_wp2
            go_ret
            exact ⟨rfl, hb2.out⟩
        · have hnx := fun ty => Lib.run_next_any_at (P := Tryz.prog) wr w2.heap.size s i ty hK.out hi
          have hhi : 128 ≤ (s[i]'hi).toNat := by rw [hx]; omega
          obtain ⟨d1, d2⟩ := Go.decode_high s i hi hhi
          have dc := decode_cont s i hi hhi
          generalize (Utf8.decode s i).1 = CC at *
          generalize (Utf8.decode s i).2 = NN at *
          have hiN : i + NN ≤ s.size := by
            have := (dc (i + NN - 1) (by omega) (by omega)).1
            omega
          have hno2 : Hid (Lib.NoAny s.data.toList [c0, c1] (i + NN)) := by
            intro j b hj hbj
            rcases Nat.lt_or_ge j i with h | h
            · exact hno.out j b h hbj
            · obtain ⟨q1, q2⟩ := dc j h hj
              have hbs : b = s.get! j := by
                rw [Lib.data_getElem? s j q1] at hbj
                rw [get_bang s j q1]
                exact (Option.some.inj hbj).symm
              rw [← hbs] at q2
              simp
              constructor
              · intro hh; rw [hh] at q2; omega
              · intro hh; rw [hh] at q2; omega
          have hK2 : (wr.iterAt w2.heap.size s (i + NN)).heap[w2.heap.size]? = some (.stringIter s (i + NN)) := Lib.iterAt_heap wr w2.heap.size s i (i + NN) hK.out
          have hb2 : Below w2.heap.size w2 (wr.iterAt w2.heap.size s (i + NN)) := Lib.below_iterAt hb.out (Nat.le_refl _) s (i + NN)
          have hKl2 : w2.heap.size < (wr.iterAt w2.heap.size s (i + NN)).heap.size := by rw [Lib.iterAt_size]; exact hKlt
          have kir : Hid _ := IndexRune_high c0 c1 h0 h1 (CC : Int) (by omega) (wr.iterAt w2.heap.size s (i + NN))
          clear dc hx
          generalize wr.iterAt w2.heap.size s (i + NN) = W at *
          replace hK2 : Hid _ := hK2
          replace hb2 : Hid _ := hb2
          go_wp2_with fail
          refine Calls.mono kir.out ?_
          rintro e w3 ⟨rfl, hb3⟩
          have hK3 : Hid (w3.heap[w2.heap.size]? = some (.stringIter s (i + NN))) := by show _ = _; rw [hb3.block _ hKl2]; exact hK2.out
          have hb4 : Hid (Below w2.heap.size w2 w3) := hb2.out.trans (hb3.mono (by omega))
          clear kir hb3
          go_wp2
          go_roundg (g + 1 - NN)
          case measure => omega
          case rel => exact ⟨i + NN, by omega, hK3, hno2, hb4⟩
end Go.Proofs.YthiiglhecajhbaaGreat
namespace Go.Proofs.YthiiglhecajhbaaGreat
open Go.RowKit Go.Shelf Go.Lib
attribute [local go_sem ↓] Go.wp_at_zero Go.wp_at_succ
/-- The base that a text begins with. -/
def baseI (s : ByteArray) : Int :=
  if s.size < 2 ∨ (s.get! 0).toNat ≠ 48 then 10 else if (s.get! 1).toNat = 120 ∨ (s.get! 1).toNat = 88 then 16 else if (s.get! 1).toNat = 111 ∨ (s.get! 1).toNat = 79 then 8 else if (s.get! 1).toNat = 98 ∨ (s.get! 1).toNat = 66 then 2 else 10
def restS (s : ByteArray) : ByteArray := if baseI s = 10 then s else s.extract 2 s.size
set_option maxRecDepth 20000 in
set_option maxHeartbeats 4000000 in
theorem cutBase_any (s : ByteArray) (hs : s.size < 1000000) (w : World) : Calls Tryz.prog 58 #[.string s] w fun e w' => e = .returned (.tuple #[.int .i64 (baseI s), .string (restS s)]) ∧ Below w.heap.size w w' := by
  by_cases h2 : s.size < 2
  · have hb : baseI s = 10 := by unfold baseI; rw [if_pos (.inl h2)]
    have hr : restS s = s := by unfold restS; rw [if_pos hb]
    rw [hb, hr]
    have d1 : decide ((s.size : Int) < 2) = true := decide_eq_true (by omega)
    clear hb hr
    go_enter Tryz.func58, Tryz.ntmps58
    go_wp2
    exact bodyPost_ret (v := .tuple #[.int .i64 10, .string s]) (by simp [results, Tryz.results58, go_sem]) rfl ⟨rfl, Below.refl _ _⟩
  · have d1 : decide ((s.size : Int) < 2) = false := decide_eq_false (by omega)
    have p0 : 0 < s.size := by omega
    have p1 : 1 < s.size := by omega
    have p2 : (2 : Int) ≤ (s.size : Int) := by omega
    have p3 : (1 : Int) < (s.size : Int) := by omega
    have g0 : (s.get! 0).toNat = (s[0]'p0).toNat := by rw [get_bang s 0 p0]
    have g1 : (s.get! 1).toNat = (s[1]'p1).toNat := by rw [get_bang s 1 p1]
    by_cases h48 : (s.get! 0).toNat = 48
    · have e48 : (((s[0]'p0).toNat : Int) != 48) = false := by rw [← g0, h48]; rfl
      have hb : baseI s = if (s.get! 1).toNat = 120 ∨ (s.get! 1).toNat = 88 then 16 else if (s.get! 1).toNat = 111 ∨ (s.get! 1).toNat = 79 then 8 else if (s.get! 1).toNat = 98 ∨ (s.get! 1).toNat = 66 then 2 else 10 := by
        unfold baseI
        rw [if_neg (fun h => h.elim h2 (fun h => h h48))]
      rw [g1] at hb
      clear g0 g1 h48
      by_cases h120 : (s[1]'p1).toNat = 120
      · have e120 : (((s[1]'p1).toNat : Int) == 120) = true := by rw [h120]; rfl
        rw [if_pos (.inl h120)] at hb
        have hr : restS s = s.extract 2 s.size := by unfold restS; rw [if_neg (by rw [hb]; decide)]
        rw [hb, hr]
        clear hb hr
        go_enter Tryz.func58, Tryz.ntmps58
        go_wp2_with fail
        go_quiet (fail)
        go_wp2
        exact bodyPost_ret (v := .tuple #[.int .i64 16, .string (s.extract 2 s.size)]) (by simp [results, Tryz.results58, go_sem]) rfl ⟨rfl, below_drewN (Below.refl _ _) _⟩
      · by_cases h88 : (s[1]'p1).toNat = 88
        · have e120 : (((s[1]'p1).toNat : Int) == 120) = false := by rw [beq_eq_false_iff_ne]; omega
          have e88 : (((s[1]'p1).toNat : Int) == 88) = true := by rw [h88]; rfl
          rw [if_pos (.inr h88)] at hb
          have hr : restS s = s.extract 2 s.size := by unfold restS; rw [if_neg (by rw [hb]; decide)]
          rw [hb, hr]
          clear hb hr
          go_enter Tryz.func58, Tryz.ntmps58
          go_wp2_with fail
          go_quiet (fail)
          go_wp2
          exact bodyPost_ret (v := .tuple #[.int .i64 16, .string (s.extract 2 s.size)]) (by simp [results, Tryz.results58, go_sem]) rfl ⟨rfl, below_drewN (Below.refl _ _) _⟩
        · by_cases h111 : (s[1]'p1).toNat = 111
          · have e120 : (((s[1]'p1).toNat : Int) == 120) = false := by rw [beq_eq_false_iff_ne]; omega
            have e88 : (((s[1]'p1).toNat : Int) == 88) = false := by rw [beq_eq_false_iff_ne]; omega
            have e111 : (((s[1]'p1).toNat : Int) == 111) = true := by rw [h111]; rfl
            rw [if_neg (by omega), if_pos (.inl h111)] at hb
            have hr : restS s = s.extract 2 s.size := by unfold restS; rw [if_neg (by rw [hb]; decide)]
            rw [hb, hr]
            clear hb hr
            go_enter Tryz.func58, Tryz.ntmps58
            go_wp2_with fail
            go_quiet (fail)
            go_wp2
            exact bodyPost_ret (v := .tuple #[.int .i64 8, .string (s.extract 2 s.size)]) (by simp [results, Tryz.results58, go_sem]) rfl ⟨rfl, below_drewN (Below.refl _ _) _⟩
          · by_cases h79 : (s[1]'p1).toNat = 79
            · have e120 : (((s[1]'p1).toNat : Int) == 120) = false := by rw [beq_eq_false_iff_ne]; omega
              have e88 : (((s[1]'p1).toNat : Int) == 88) = false := by rw [beq_eq_false_iff_ne]; omega
              have e111 : (((s[1]'p1).toNat : Int) == 111) = false := by rw [beq_eq_false_iff_ne]; omega
              have e79 : (((s[1]'p1).toNat : Int) == 79) = true := by rw [h79]; rfl
              rw [if_neg (by omega), if_pos (.inr h79)] at hb
              have hr : restS s = s.extract 2 s.size := by unfold restS; rw [if_neg (by rw [hb]; decide)]
              rw [hb, hr]
              clear hb hr
              go_enter Tryz.func58, Tryz.ntmps58
              go_wp2_with fail
              go_quiet (fail)
              go_wp2
              exact bodyPost_ret (v := .tuple #[.int .i64 8, .string (s.extract 2 s.size)]) (by simp [results, Tryz.results58, go_sem]) rfl ⟨rfl, below_drewN (Below.refl _ _) _⟩
            · by_cases h98 : (s[1]'p1).toNat = 98
              · have e120 : (((s[1]'p1).toNat : Int) == 120) = false := by rw [beq_eq_false_iff_ne]; omega
                have e88 : (((s[1]'p1).toNat : Int) == 88) = false := by rw [beq_eq_false_iff_ne]; omega
                have e111 : (((s[1]'p1).toNat : Int) == 111) = false := by rw [beq_eq_false_iff_ne]; omega
                have e79 : (((s[1]'p1).toNat : Int) == 79) = false := by rw [beq_eq_false_iff_ne]; omega
                have e98 : (((s[1]'p1).toNat : Int) == 98) = true := by rw [h98]; rfl
                rw [if_neg (by omega), if_neg (by omega), if_pos (.inl h98)] at hb
                have hr : restS s = s.extract 2 s.size := by unfold restS; rw [if_neg (by rw [hb]; decide)]
                rw [hb, hr]
                clear hb hr
                go_enter Tryz.func58, Tryz.ntmps58
                go_wp2_with fail
                go_quiet (fail)
                go_wp2
                exact bodyPost_ret (v := .tuple #[.int .i64 2, .string (s.extract 2 s.size)]) (by simp [results, Tryz.results58, go_sem]) rfl ⟨rfl, below_drewN (Below.refl _ _) _⟩
              · by_cases h66 : (s[1]'p1).toNat = 66
                · have e120 : (((s[1]'p1).toNat : Int) == 120) = false := by rw [beq_eq_false_iff_ne]; omega
                  have e88 : (((s[1]'p1).toNat : Int) == 88) = false := by rw [beq_eq_false_iff_ne]; omega
                  have e111 : (((s[1]'p1).toNat : Int) == 111) = false := by rw [beq_eq_false_iff_ne]; omega
                  have e79 : (((s[1]'p1).toNat : Int) == 79) = false := by rw [beq_eq_false_iff_ne]; omega
                  have e98 : (((s[1]'p1).toNat : Int) == 98) = false := by rw [beq_eq_false_iff_ne]; omega
                  have e66 : (((s[1]'p1).toNat : Int) == 66) = true := by rw [h66]; rfl
                  rw [if_neg (by omega), if_neg (by omega), if_pos (.inr h66)] at hb
                  have hr : restS s = s.extract 2 s.size := by unfold restS; rw [if_neg (by rw [hb]; decide)]
                  rw [hb, hr]
                  clear hb hr
                  go_enter Tryz.func58, Tryz.ntmps58
                  go_wp2_with fail
                  go_quiet (fail)
                  go_wp2
                  exact bodyPost_ret (v := .tuple #[.int .i64 2, .string (s.extract 2 s.size)]) (by simp [results, Tryz.results58, go_sem]) rfl ⟨rfl, below_drewN (Below.refl _ _) _⟩
                · have e120 : (((s[1]'p1).toNat : Int) == 120) = false := by rw [beq_eq_false_iff_ne]; omega
                  have e88 : (((s[1]'p1).toNat : Int) == 88) = false := by rw [beq_eq_false_iff_ne]; omega
                  have e111 : (((s[1]'p1).toNat : Int) == 111) = false := by rw [beq_eq_false_iff_ne]; omega
                  have e79 : (((s[1]'p1).toNat : Int) == 79) = false := by rw [beq_eq_false_iff_ne]; omega
                  have e98 : (((s[1]'p1).toNat : Int) == 98) = false := by rw [beq_eq_false_iff_ne]; omega
                  have e66 : (((s[1]'p1).toNat : Int) == 66) = false := by rw [beq_eq_false_iff_ne]; omega
                  rw [if_neg (by omega), if_neg (by omega), if_neg (by omega)] at hb
                  have hr : restS s = s := by unfold restS; rw [if_pos hb]
                  rw [hb, hr]
                  clear hb hr
                  go_enter Tryz.func58, Tryz.ntmps58
                  go_wp2
                  exact bodyPost_ret (v := .tuple #[.int .i64 10, .string s]) (by simp [results, Tryz.results58, go_sem]) rfl ⟨rfl, Below.refl _ _⟩
    · have e48 : (((s[0]'p0).toNat : Int) != 48) = true := by simp; omega
      have hb : baseI s = 10 := by unfold baseI; rw [if_pos (.inr h48)]
      have hr : restS s = s := by unfold restS; rw [if_pos hb]
      rw [hb, hr]
      clear hb hr h48 g0 g1
      go_enter Tryz.func58, Tryz.ntmps58
      go_wp2
      exact bodyPost_ret (v := .tuple #[.int .i64 10, .string s]) (by simp [results, Tryz.results58, go_sem]) rfl ⟨rfl, Below.refl _ _⟩
set_option maxRecDepth 20000 in
set_option maxHeartbeats 4000000 in
theorem cutExponent_any (s : ByteArray) (hs : s.size < 1000000) (b : Int) (w : World) (I : Int) (hI : I = if b = 16 then Lib.indexAny s.data.toList [112, 80] else Lib.indexAny s.data.toList [101, 69]) : Calls Tryz.prog 59 #[.string s, .int .i64 b] w fun e w' => e = .returned (if I < 0 then .tuple #[.string s, .string ⟨#[]⟩, .bool false] else .tuple #[.string (s.extract 0 I.toNat), .string (s.extract (I.toNat + 1) s.size), .bool true]) ∧ Below w.heap.size w w' := by
  have hI1 : -1 ≤ I ∧ I < s.size := by
    have hb : ∀ c : List UInt8, -1 ≤ Lib.indexAny s.data.toList c ∧ Lib.indexAny s.data.toList c < s.size := by
      intro c
      refine ⟨Lib.indexAny_ge c _, ?_⟩
      have hlen : s.data.toList.length = s.size := (Lib.size_eq s).symm
      rw [← hlen]
      generalize s.data.toList = l
      induction l with
      | nil => show (-1 : Int) < 0; decide
      | cons x l ih =>
        have := Lib.indexAny_ge c l
        unfold Lib.indexAny
        simp only [List.length_cons]
        split
        · omega
        · split <;> omega
    rw [hI]
    split
    · exact hb _
    · exact hb _
  by_cases hb16 : b = 16
  · subst hb16
    rw [if_pos rfl] at hI
    have ki : Hid _ := IndexAny_two 112 80 (by decide) (by decide) s hs w
    rw [← hI] at ki
    clear hI
    by_cases hneg : I < 0
    · have dn : decide (I < 0) = true := decide_eq_true hneg
      rw [if_pos hneg]
      go_enter Tryz.func59, Tryz.ntmps59
      go_wp2_with fail
      refine Calls.mono ki.out ?_
      rintro e w2 ⟨rfl, hb2⟩
      go_wp2
      exact bodyPost_ret (v := .tuple #[.string s, .string ⟨#[]⟩, .bool false]) (by simp [results, Tryz.results59, go_sem]) rfl ⟨rfl, hb2⟩
    · have dn : decide (I < 0) = false := decide_eq_false hneg
      rw [if_neg hneg]
      obtain ⟨N, rfl⟩ : ∃ N : Nat, I = N := ⟨I.toNat, by omega⟩
      have hN : N < s.size := by omega
      have hw1 : IntKind.i64.wrap ((N : Int) + 1) = ((N + 1 : Nat) : Int) := by rw [IntKind.wrap_i64]; omega
      obtain ⟨N1, hN1⟩ : ∃ N1, N1 = N + 1 := ⟨_, rfl⟩
      rw [← hN1] at hw1
      have q1 : (N : Int) ≤ (s.size : Int) := by omega
      have q2 : (N1 : Int) ≤ (s.size : Int) := by omega
      have q3 : (0 : Int) ≤ (N : Int) := by omega
      have q4 : (0 : Int) ≤ (N1 : Int) := by omega
      have hx : s.extract 0 (N : Int).toNat = s.extract 0 N := by simp
      have hx1 : (N : Int).toNat + 1 = N1 := by simp; omega
      rw [hx, hx1]
      clear hx hx1 hN1
      go_enter Tryz.func59, Tryz.ntmps59
      go_wp2_with fail
      refine Calls.mono ki.out ?_
      rintro e w2 ⟨rfl, hb2⟩
      clear ki
      go_wp2_with fail
      go_quiet (fail)
      go_wp2
      exact bodyPost_ret (v := .tuple #[.string (s.extract 0 N), .string (s.extract N1 s.size), .bool true]) (by simp [results, Tryz.results59, go_sem]) rfl ⟨rfl, below_drewN hb2 _⟩
  · rw [if_neg hb16] at hI
    have eb : (b == 16) = false := by rw [beq_eq_false_iff_ne]; exact hb16
    have ki : Hid _ := IndexAny_two 101 69 (by decide) (by decide) s hs w
    rw [← hI] at ki
    clear hI hb16
    by_cases hneg : I < 0
    · have dn : decide (I < 0) = true := decide_eq_true hneg
      rw [if_pos hneg]
      go_enter Tryz.func59, Tryz.ntmps59
      go_wp2_with fail
      refine Calls.mono ki.out ?_
      rintro e w2 ⟨rfl, hb2⟩
      go_wp2
      exact bodyPost_ret (v := .tuple #[.string s, .string ⟨#[]⟩, .bool false]) (by simp [results, Tryz.results59, go_sem]) rfl ⟨rfl, hb2⟩
    · have dn : decide (I < 0) = false := decide_eq_false hneg
      rw [if_neg hneg]
      obtain ⟨N, rfl⟩ : ∃ N : Nat, I = N := ⟨I.toNat, by omega⟩
      have hN : N < s.size := by omega
      have hw1 : IntKind.i64.wrap ((N : Int) + 1) = ((N + 1 : Nat) : Int) := by rw [IntKind.wrap_i64]; omega
      obtain ⟨N1, hN1⟩ : ∃ N1, N1 = N + 1 := ⟨_, rfl⟩
      rw [← hN1] at hw1
      have q1 : (N : Int) ≤ (s.size : Int) := by omega
      have q2 : (N1 : Int) ≤ (s.size : Int) := by omega
      have q3 : (0 : Int) ≤ (N : Int) := by omega
      have q4 : (0 : Int) ≤ (N1 : Int) := by omega
      have hx : s.extract 0 (N : Int).toNat = s.extract 0 N := by simp
      have hx1 : (N : Int).toNat + 1 = N1 := by simp; omega
      rw [hx, hx1]
      clear hx hx1 hN1
      go_enter Tryz.func59, Tryz.ntmps59
      go_wp2_with fail
      refine Calls.mono ki.out ?_
      rintro e w2 ⟨rfl, hb2⟩
      clear ki
      go_wp2_with fail
      go_quiet (fail)
      go_wp2
      exact bodyPost_ret (v := .tuple #[.string (s.extract 0 N), .string (s.extract N1 s.size), .bool true]) (by simp [results, Tryz.results59, go_sem]) rfl ⟨rfl, below_drewN hb2 _⟩
/-- strings.Cut at the point. -/
def cutR (s : ByteArray) (I : Int) : Value := if I < 0 then .tuple #[.string s, .string ⟨#[]⟩, .bool false] else .tuple #[.string (s.extract 0 I.toNat), .string (s.extract (I.toNat + 1) s.size), .bool true]
theorem indexByte_lt (l : List UInt8) (c : UInt8) : -1 ≤ Lib.indexByte l c ∧ Lib.indexByte l c < l.length := by
  refine ⟨Lib.indexByte_ge l c, ?_⟩
  induction l with
  | nil => show (-1 : Int) < 0; decide
  | cons x l ih =>
    have := Lib.indexByte_ge l c
    unfold Lib.indexByte
    simp only [List.length_cons]
    split
    · omega
    · split <;> omega
set_option maxRecDepth 20000 in
set_option maxHeartbeats 4000000 in
theorem cut_any (s : ByteArray) (hs : s.size < 1000000) (w : World) (I : Int) (hI : I = Lib.indexByte s.data.toList 46) : Calls Tryz.prog 60 #[.string s, .string ⟨#[46]⟩] w fun e w' => e = .returned (cutR s I) ∧ Below w.heap.size w w' := by
  have hI1 : -1 ≤ I ∧ I < s.size := by
    rw [hI, Lib.size_eq s]
    exact indexByte_lt _ _
  have k118 : Hid (∀ W, Calls Tryz.prog 118 #[.string s, .string ⟨#[46]⟩] W fun e w' => e = .returned (.int .i64 I) ∧ w' = W) := fun W => by
    have k := Any.stringslite_Index_one Tryz.indexLite s 46 W
    change Calls Tryz.prog 118 _ _ _ at k
    rw [← hI] at k
    exact k
  clear hI
  have k94 : Hid (Calls Tryz.prog 94 #[.string s, .string ⟨#[46]⟩] w fun e w' => e = .returned (cutR s I) ∧ Below w.heap.size w w') := by
    show Calls _ _ _ _ _
    unfold cutR
    by_cases hneg : I < 0
    · have dn : decide (I ≥ 0) = false := decide_eq_false (by omega)
      rw [if_pos hneg]
      go_enter Tryz.func94, Tryz.ntmps94
      go_wp2_with fail
      refine Calls.mono (k118.out _) ?_
      rintro e w2 ⟨rfl, rfl⟩
      go_wp2
      exact bodyPost_ret (v := .tuple #[.string s, .string ⟨#[]⟩, .bool false]) (by simp [results, Tryz.results94, go_sem]) rfl ⟨rfl, Below.refl _ _⟩
    · have dn : decide (I ≥ 0) = true := decide_eq_true (by omega)
      rw [if_neg hneg]
      obtain ⟨N, rfl⟩ : ∃ N : Nat, I = N := ⟨I.toNat, by omega⟩
      have hN : N < s.size := by omega
      have hw1 : IntKind.i64.wrap ((N : Int) + 1) = ((N + 1 : Nat) : Int) := by rw [IntKind.wrap_i64]; omega
      obtain ⟨N1, hN1⟩ : ∃ N1, N1 = N + 1 := ⟨_, rfl⟩
      rw [← hN1] at hw1
      have q1 : (N : Int) ≤ (s.size : Int) := by omega
      have q2 : (N1 : Int) ≤ (s.size : Int) := by omega
      have q3 : (0 : Int) ≤ (N : Int) := by omega
      have q4 : (0 : Int) ≤ (N1 : Int) := by omega
      have hx : s.extract 0 (N : Int).toNat = s.extract 0 N := by simp
      have hx1 : (N : Int).toNat + 1 = N1 := by simp; omega
      rw [hx, hx1]
      clear hx hx1 hN1
      go_enter Tryz.func94, Tryz.ntmps94
      go_wp2_with fail
      refine Calls.mono (k118.out _) ?_
      rintro e w2 ⟨rfl, rfl⟩
      clear k118
      go_wp2_with fail
      go_quiet (fail)
      go_wp2
      exact bodyPost_ret (v := .tuple #[.string (s.extract 0 N), .string (s.extract N1 s.size), .bool true]) (by simp [results, Tryz.results94, go_sem]) rfl ⟨rfl, below_drewN (Below.refl _ _) _⟩
  obtain ⟨x, y, z, hv⟩ : ∃ x y z, cutR s I = .tuple #[x, y, z] := by
    unfold cutR
    split
    · exact ⟨_, _, _, rfl⟩
    · exact ⟨_, _, _, rfl⟩
  rw [hv] at k94 ⊢
  go_enter Tryz.func60, Tryz.ntmps60
  go_wp2_with fail
  refine Calls.mono k94.out ?_
  rintro e w2 ⟨rfl, hb2⟩
  go_wp2
  exact bodyPost_ret (v := .tuple #[x, y, z]) (by simp [results, Tryz.results60, go_sem]) rfl ⟨rfl, hb2⟩
end Go.Proofs.YthiiglhecajhbaaGreat
