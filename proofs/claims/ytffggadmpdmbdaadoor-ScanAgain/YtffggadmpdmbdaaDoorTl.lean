/- scan, the second road: Value. -/
import Derived.Test.YtffggadmpdmbdaaDoorTi
import Derived.Test.YtffggadmpdmbdaaDoorTj
import Derived.Lib.BufferRead
import Derived.Laws.OwnMore
namespace Go.Proofs.YtffggadmpdmbdaaDoor
open Go.RowKit
attribute [local go_sem ↓] Go.wp_at_zero Go.wp_at_succ
/-- A row's bytes as a text. -/
theorem row_text (w : World) (B : Nat) (v : Value) (out : List UInt8) (h : w.ownsRow B 5 1 v out.length (Lib.byteCells out)) : (convert 22 9 v).run Tryd.prog w = .ok (.string (ba out)) w := by
  rcases Nat.eq_zero_or_pos out.length with h0 | h0
  · obtain rfl := List.length_eq_zero_iff.1 h0
    rcases h.2 with ⟨rfl, _⟩ | ⟨g, cap, cur, rfl, _⟩
    · exact Lib.run_convert_nil_bytes w _ _ _ 0 Tryd.underlying22 Tryd.underlying5 Tryd.underlying9
    · exact Go.run_convert_bytes_back (P := Tryd.prog) w 22 9 5 ⟨g, 0, none⟩ cap [] Tryd.underlying22 Tryd.underlying5 Tryd.underlying9 (fun j hj => absurd hj (Nat.not_lt_zero _))
  · obtain ⟨g, cap, rfl, _, _⟩ := h.form h0
    refine Go.run_convert_bytes_back (P := Tryd.prog) w 22 9 5 ⟨g, 0, none⟩ cap out Tryd.underlying22 Tryd.underlying5 Tryd.underlying9 ?_
    intro j hj
    rw [addr_add, Nat.zero_add, h.cellAt j (by omega)]
    unfold Lib.byteCells
    rw [List.getElem?_map, List.getElem?_eq_getElem hj]
    rfl
set_option maxRecDepth 100000 in
set_option maxHeartbeats 4000000 in
theorem refValue_any (s : ByteArray) (w : World) (hs : s.size < 1000000) (t : List UInt8) (ok : Bool) (hM : valM s.toList = some (t, ok)) : Calls Tryd.prog 10 #[.string s] w fun e w' => e = .returned (.tuple #[.string (ba t), .bool ok]) ∧ Below w.heap.size w w' := by
  have hz : s.toList = [] ↔ s.size = 0 := by rw [← toList_len]; exact List.length_eq_zero_iff.symm
  by_cases h0 : s.size = 0
  · have he := hz.2 h0
    rw [val_none _ (by rw [he]; simp)] at hM
    obtain ⟨rfl, rfl⟩ := Prod.mk.inj (Option.some.inj hM)
    have d0 : (s.toList == []) = true := by rw [he]; rfl
    clear hM hz
    go_enter Tryd.func10, Tryd.ntmps10
    go_wp2
    exact bodyPost_ret (v := .tuple #[.string ⟨#[]⟩, .bool false]) (by simp [results, Tryd.results10, go_sem]) rfl ⟨rfl, Below.refl _ _⟩
  · have he : ¬ s.toList = [] := fun h => h0 (hz.1 h)
    have hpos : 0 < s.size := by omega
    have hpl : 0 < s.toList.length := by rw [toList_len]; exact hpos
    have d0 : (s.toList == []) = false := by simpa using he
    have d0' : s.toList.isEmpty = false := by simpa using he
    have hb0 := byteAt_lt s hpos
    have hc0 : (s[0]'hpos).toNat = (s.toList.getD 0 0).toNat := by
      have h1 := byteAt_get s.toList 0 hpl
      rw [hb0] at h1
      exact Int.ofNat.inj h1
    clear he hz
    by_cases hq : (s[0]'hpos).toNat = 34 ∨ (s[0]'hpos).toNat = 96
    · obtain ⟨r, out, h1, h2⟩ := val_text s.toList hpl (by rw [hb0]; omega)
      rw [hM] at h2
      obtain ⟨ht, hok⟩ := Prod.mk.inj (Option.some.inj h2)
      rw [toList_len] at ht hok
      rw [hb0] at h1
      have hcv := Lib.run_convert_string_bytes (P := Tryd.prog) w 9 22 5 s (u := .string) Tryd.underlying9 Tryd.underlying22 Tryd.underlying5
      have hbw := Lib.bytesWorld_below w 5 s
      have hsz := Lib.bytesWorld_size w 5 s
      have hge := grownCap_ge w s.size 0 5
      have hB : BytesAt (Lib.bytesWorld w 5 s) w.heap.size s.toList := by
        intro j hj
        rw [toList_len] at hj
        have := Lib.bytesWorld_cell w 5 s j hj
        rw [ByteArray.toList_eq]
        exact this
      generalize Lib.bytesWorld w 5 s = W at *
      generalize grownCap w s.size 0 5 = cap at *
      have kt : Hid _ := text_any W w.heap.size cap 0 s.toList hB (by omega) (by rw [toList_len]; exact hge) hpl (by rw [toList_len]; exact hs) (s[0]'hpos).toNat hc0 hq (s.toList.length + 1) r out h1
      rw [toList_len] at kt
      clear hM h2 hB h1 hpl hge hb0
      clear hc0
      rcases hq with hq | hq
      · have e1 : (((s[0]'hpos).toNat : Int) != 34) = false := by rw [hq]; rfl
        clear hq
        go_enter Tryd.func10, Tryd.ntmps10
        go_wp2_with fail
        refine Calls.mono kt.out ?_
        rintro e w2 ⟨v, rfl, hO, hb2⟩
        clear kt
        have hB2 : Below w.heap.size w w2 := hbw.trans (hb2.mono hbw.size)
        have hcv2 := row_text w2 _ v out hO
        clear hO hb2
        by_cases hr : r = s.size
        · rw [if_pos hr] at ht
          rw [decide_eq_true hr] at hok
          subst ht hok
          subst hr
          go_wp2
          exact bodyPost_ret (v := .tuple #[.string (ba t), .bool true]) (by simp [results, Tryd.results10, go_sem]) rfl ⟨rfl, hB2⟩
        · rw [if_neg hr] at ht
          rw [decide_eq_false hr] at hok
          subst ht hok
          have dr : ((r : Int) != s.size) = true := by simp; omega
          clear hr
          go_wp2
          exact bodyPost_ret (v := .tuple #[.string ⟨#[]⟩, .bool false]) (by simp [results, Tryd.results10, go_sem]) rfl ⟨rfl, hB2⟩
      · have e1 : (((s[0]'hpos).toNat : Int) != 34) = true := by rw [hq]; rfl
        have e2 : (((s[0]'hpos).toNat : Int) != 96) = false := by rw [hq]; rfl
        clear hq
        go_enter Tryd.func10, Tryd.ntmps10
        go_wp2_with fail
        refine Calls.mono kt.out ?_
        rintro e w2 ⟨v, rfl, hO, hb2⟩
        clear kt
        have hB2 : Below w.heap.size w w2 := hbw.trans (hb2.mono hbw.size)
        have hcv2 := row_text w2 _ v out hO
        clear hO hb2
        by_cases hr : r = s.size
        · rw [if_pos hr] at ht
          rw [decide_eq_true hr] at hok
          subst ht hok
          subst hr
          go_wp2
          exact bodyPost_ret (v := .tuple #[.string (ba t), .bool true]) (by simp [results, Tryd.results10, go_sem]) rfl ⟨rfl, hB2⟩
        · rw [if_neg hr] at ht
          rw [decide_eq_false hr] at hok
          subst ht hok
          have dr : ((r : Int) != s.size) = true := by simp; omega
          clear hr
          go_wp2
          exact bodyPost_ret (v := .tuple #[.string ⟨#[]⟩, .bool false]) (by simp [results, Tryd.results10, go_sem]) rfl ⟨rfl, hB2⟩
    · rw [val_none _ (by rw [hb0]; omega)] at hM
      obtain ⟨rfl, rfl⟩ := Prod.mk.inj (Option.some.inj hM)
      clear hM hpl hb0 hc0
      have e1 : (((s[0]'hpos).toNat : Int) != 34) = true := by simp; omega
      have e2 : (((s[0]'hpos).toNat : Int) != 96) = true := by simp; omega
      clear hq
      go_enter Tryd.func10, Tryd.ntmps10
      go_wp2
      exact bodyPost_ret (v := .tuple #[.string ⟨#[]⟩, .bool false]) (by simp [results, Tryd.results10, go_sem]) rfl ⟨rfl, Below.refl _ _⟩
end Go.Proofs.YtffggadmpdmbdaaDoor
