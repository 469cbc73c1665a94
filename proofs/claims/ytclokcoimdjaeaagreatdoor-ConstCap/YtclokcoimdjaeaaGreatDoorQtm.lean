/- constants: leading noughts off. -/
import Derived.Test.YtclokcoimdjaeaaGreatDoorQrm
import Derived.Test.YtclokcoimdjaeaaGreatDoorNemm
import Derived.Test.YtclokcoimdjaeaaGreatDoorSom
namespace Go.Proofs.YtclokcoimdjaeaaGreatDoor
open Go.RowKit Go.Shelf Go.Lib
attribute [local go_sem ↓] Go.wp_at_zero Go.wp_at_succ
theorem ext_size (s : ByteArray) (k : Nat) (h : k ≤ s.size) : (s.extract k s.size).size = s.size - k := by rw [ByteArray.size_extract]; omega
theorem ext_next (s : ByteArray) (k : Nat) (h : k + 1 ≤ s.size) : (s.extract k s.size).extract 1 (s.extract k s.size).size = s.extract (k + 1) s.size := by
  rw [ext_size s k (by omega), ByteArray.extract_extract]
  congr 1
  omega
theorem ext_all (s : ByteArray) : s.extract 0 s.size = s := by rw [ByteArray.extract_zero_size]
theorem ext_head (s : ByteArray) (k : Nat) (h : k < s.size) (h' : 0 < (s.extract k s.size).size) : (s.extract k s.size)[0]'h' = s[k]'h := by
  simp [ByteArray.getElem_extract]
set_option maxRecDepth 20000 in
set_option maxHeartbeats 2000000 in
theorem trimByte_any (s : ByteArray) (_hs : s.size < 1000000) (w : World) :
    Calls Tryz.prog 190 #[.string s, .int .u8 48] w fun e w' => ∃ k, k ≤ s.size ∧ e = .returned (.string (s.extract k s.size)) ∧ (∀ j (h : j < s.size), j < k → (s[j]'h).toNat = 48) ∧ (∀ h : k < s.size, (s[k]'h).toNat ≠ 48) ∧ Below w.heap.size w w' := by
  go_enter Tryz.func190, Tryz.ntmps190
  go_wp2
  go_loopg [0] s.size (fun g v wx => ∃ k : Nat, k + g = s.size ∧ v = .string (s.extract k s.size) ∧ Hid (∀ j (h : j < s.size), j < k → (s[j]'h).toNat = 48) ∧ Hid (Below w.heap.size w wx))
  case atStart => exact ⟨0, by omega, by rw [ext_all], fun j h h0 => absurd h0 (by omega), Below.refl _ _⟩
  case round =>
    obtain ⟨k, hkg, rfl, hz, hb⟩ := hrel
    have hsz := ext_size s k (by omega)
    cases gk with
    | zero =>
      obtain ⟨S, hS⟩ : ∃ S, S = s.extract k s.size := ⟨_, rfl⟩
      rw [← hS] at hsz ⊢
      have d1 : decide ((S.size : Int) > 0) = false := decide_eq_false (by omega)
      have hfin : Hid (∀ w', Below w.heap.size w w' → ∃ k, k ≤ s.size ∧ Ending.returned (.string S) = .returned (.string (s.extract k s.size)) ∧ (∀ j (h : j < s.size), j < k → (s[j]'h).toNat = 48) ∧ (∀ h : k < s.size, (s[k]'h).toNat ≠ 48) ∧ Below w.heap.size w w') := fun w' h => ⟨k, by omega, by rw [hS], hz.out, fun h => absurd h (by omega), h⟩
      clear hS hz
      go_wp2
      exact bodyPost_ret (v := .string S) (by simp [results, Tryz.results190, go_sem]) rfl (hfin.out _ hb.out)
    | succ g =>
      have hk : k < s.size := by omega
      have hp : 0 < (s.extract k s.size).size := by omega
      have hh := ext_head s k hk hp
      have hn := ext_next s k (by omega)
      obtain ⟨S, hS⟩ : ∃ S, S = s.extract k s.size := ⟨_, rfl⟩
      have hx : (S[0]'(by rw [hS]; exact hp)).toNat = (s[k]'hk).toNat := by subst hS; rw [hh]
      rw [← hS] at hsz hn ⊢
      have hp0 : 0 < S.size := by omega
      clear hh
      have d1 : decide ((S.size : Int) > 0) = true := decide_eq_true (by omega)
      have d2 : (1 : Int) ≤ (S.size : Int) := by omega
      by_cases h48 : (s[k]'hk).toNat = 48
      · have e48 : (((S[0]'hp0).toNat : Int) == 48) = true := by rw [hx, h48]; rfl
        have hz2 : Hid (∀ j (h : j < s.size), j < k + 1 → (s[j]'h).toNat = 48) := fun j h hj => by
          by_cases hjk : j = k
          · subst hjk; exact h48
          · exact hz.out j h (by omega)
        have hbd : Hid (∀ n, Below w.heap.size w (wr.drewN n)) := fun n => below_drewN hb.out _
        clear hx hp hS h48 hz
        go_wp2
        go_roundg g
        case measure => omega
        case rel => exact ⟨k + 1, by omega, by rw [← hsz, hn], hz2, by first | exact hb | exact hbd.out _⟩
      · have e48 : (((S[0]'hp0).toNat : Int) == 48) = false := by rw [hx, beq_eq_false_iff_ne]; omega
        have hfin : Hid (∀ w', Below w.heap.size w w' → ∃ k, k ≤ s.size ∧ Ending.returned (.string S) = .returned (.string (s.extract k s.size)) ∧ (∀ j (h : j < s.size), j < k → (s[j]'h).toNat = 48) ∧ (∀ h : k < s.size, (s[k]'h).toNat ≠ 48) ∧ Below w.heap.size w w') := fun w' h => ⟨k, by omega, by rw [hS], hz.out, fun h => h48, h⟩
        clear hx hp hS h48 hz hn
        go_wp2
        first
          | exact bodyPost_ret (v := .string S) (by simp [results, Tryz.results190, go_sem]) rfl (hfin.out _ hb.out)
          | exact bodyPost_ret (v := .string S) (by simp [results, Tryz.results190, go_sem]) rfl (hfin.out _ (below_drewN hb.out _))
/-- A text without its leading noughts. -/
def Off (s : ByteArray) (w : World) (e : Ending) (w' : World) : Prop := ∃ k, k ≤ s.size ∧ e = .returned (.string (s.extract k s.size)) ∧ (∀ j (h : j < s.size), j < k → (s[j]'h).toNat = 48) ∧ (∀ h : k < s.size, (s[k]'h).toNat ≠ 48) ∧ Below w.heap.size w w'
set_option maxRecDepth 20000 in
set_option maxHeartbeats 2000000 in
theorem TrimLeft_any (s : ByteArray) (hs : s.size < 1000000) (w : World) :
    Calls Tryz.prog 123 #[.string s, .string ⟨#[48]⟩] w fun e w' => Off s w e w' := by
  by_cases h0 : s.size = 0
  · obtain rfl : s = ⟨#[]⟩ := by
      rcases s with ⟨⟨l⟩⟩
      cases l with
      | nil => rfl
      | cons => simp [ByteArray.size] at h0
    have hfin : Hid (∀ w', Below w.heap.size w w' → Off ⟨#[]⟩ w (.returned (.string ⟨#[]⟩)) w') := fun w' h => ⟨0, Nat.zero_le _, rfl, fun j h h0 => absurd h0 (by omega), fun h => absurd h (by decide), h⟩
    go_enter Tryz.func123, Tryz.ntmps123
    go_wp2
    exact bodyPost_ret (v := .string ⟨#[]⟩) (by simp [results, Tryz.results123, go_sem]) rfl (hfin.out _ (by first | exact Below.refl _ _ | exact below_drewN (Below.refl _ _) _))
  · have hemp : s.toList.isEmpty = false := by
      rw [← decide_eq_emptyBytes]
      exact decide_eq_false (fun h => h0 (by rw [h]; rfl))
    have k1 : Hid (∀ W, Below w.heap.size w W → Calls Tryz.prog 190 #[.string s, .int .u8 48] W fun e w' => Off s w e w') := fun W hW => (trimByte_any s hs W).mono (fun e w' ⟨k, a, b, c, d, h⟩ => ⟨k, a, b, c, d, hW.trans (h.mono hW.size)⟩)
    have hrefl : Below w.heap.size w w := Below.refl _ _
    go_enter Tryz.func123, Tryz.ntmps123
    go_wp2_with fail
    refine Calls.mono (k1.out _ (by first | exact hrefl | exact below_drewN hrefl _)) ?_
    rintro e w1 ⟨k, ha, rfl, hc, hd, hb⟩
    have hfin : Hid (Off s w (.returned (.string (s.extract k s.size))) w1) := ⟨k, ha, rfl, hc, hd, hb⟩
    clear hc hd hb ha
    generalize s.extract k s.size = S at *
    go_wp2
    exact bodyPost_ret (v := .string S) (by simp [results, Tryz.results123, go_sem]) rfl hfin.out
/-- What leadingOff takes the noughts off. -/
def leadS (s : ByteArray) : ByteArray := if h : 2 < s.size then (if (s[0]'(by omega)).toNat = 48 then s.extract 2 s.size else s) else s
theorem leadS_size (s : ByteArray) : (leadS s).size ≤ s.size := by
  unfold leadS
  split
  · split
    · rw [ext_size s 2 (by omega)]; omega
    · exact Nat.le_refl _
  · exact Nat.le_refl _
set_option maxRecDepth 20000 in
set_option maxHeartbeats 2000000 in
theorem leadingOff_any (s : ByteArray) (hs : s.size < 1000000) (w : World) :
    Calls Tryz.prog 72 #[.string s] w fun e w' => Off (leadS s) w e w' := by
  have hL : (leadS s).size < 1000000 := Nat.lt_of_le_of_lt (leadS_size s) hs
  by_cases h2 : 2 < s.size
  · have p0 : 0 < s.size := by omega
    have d1 : decide ((s.size : Int) > 2) = true := decide_eq_true (by omega)
    have p2 : (2 : Int) ≤ (s.size : Int) := by omega
    by_cases h48 : (s[0]'p0).toNat = 48
    · have e48 : (((s[0]'p0).toNat : Int) == 48) = true := by rw [h48]; rfl
      have e : leadS s = s.extract 2 s.size := by unfold leadS; rw [dif_pos h2, if_pos h48]
      obtain ⟨L, hLd⟩ : ∃ L, L = leadS s := ⟨_, rfl⟩
      rw [← hLd] at hL e ⊢
      clear hLd
      have k1 : Hid (∀ W, Below w.heap.size w W → Calls Tryz.prog 123 #[.string L, .string ⟨#[48]⟩] W fun e w' => Off L w e w') := fun W hW => (TrimLeft_any L hL W).mono (fun e w' ⟨k, a, b, c, d, h⟩ => ⟨k, a, b, c, d, hW.trans (h.mono hW.size)⟩)
      have hrefl : Below w.heap.size w w := Below.refl _ _
      go_enter Tryz.func72, Tryz.ntmps72
      go_wp2_with fail
      rw [← e]
      refine Calls.mono (k1.out _ (by first | exact hrefl | exact below_drewN hrefl _)) ?_
      rintro e w1 ⟨k, ha, rfl, hc, hd, hb⟩
      have hfin : Hid (Off L w (.returned (.string (L.extract k L.size))) w1) := ⟨k, ha, rfl, hc, hd, hb⟩
      clear hc hd hb ha
      generalize L.extract k L.size = S at *
      go_wp2
      exact bodyPost_ret (v := .string S) (by simp [results, Tryz.results72, go_sem]) rfl hfin.out
    · have e48 : (((s[0]'p0).toNat : Int) == 48) = false := by rw [beq_eq_false_iff_ne]; omega
      have e : leadS s = s := by unfold leadS; rw [dif_pos h2, if_neg h48]
      rw [e] at hL ⊢
      clear e
      have k1 : Hid (∀ W, Below w.heap.size w W → Calls Tryz.prog 123 #[.string s, .string ⟨#[48]⟩] W fun e w' => Off s w e w') := fun W hW => (TrimLeft_any s hL W).mono (fun e w' ⟨k, a, b, c, d, h⟩ => ⟨k, a, b, c, d, hW.trans (h.mono hW.size)⟩)
      have hrefl : Below w.heap.size w w := Below.refl _ _
      go_enter Tryz.func72, Tryz.ntmps72
      go_wp2_with fail
      refine Calls.mono (k1.out _ (by first | exact hrefl | exact below_drewN hrefl _)) ?_
      rintro e w1 ⟨k, ha, rfl, hc, hd, hb⟩
      have hfin : Hid (Off s w (.returned (.string (s.extract k s.size))) w1) := ⟨k, ha, rfl, hc, hd, hb⟩
      clear hc hd hb ha
      generalize s.extract k s.size = S at *
      go_wp2
      exact bodyPost_ret (v := .string S) (by simp [results, Tryz.results72, go_sem]) rfl hfin.out
  · have d1 : decide ((s.size : Int) > 2) = false := decide_eq_false (by omega)
    have e : leadS s = s := by unfold leadS; rw [dif_neg h2]
    rw [e] at hL ⊢
    clear e
    have k1 : Hid (∀ W, Below w.heap.size w W → Calls Tryz.prog 123 #[.string s, .string ⟨#[48]⟩] W fun e w' => Off s w e w') := fun W hW => (TrimLeft_any s hL W).mono (fun e w' ⟨k, a, b, c, d, h⟩ => ⟨k, a, b, c, d, hW.trans (h.mono hW.size)⟩)
    have hrefl : Below w.heap.size w w := Below.refl _ _
    go_enter Tryz.func72, Tryz.ntmps72
    go_wp2_with fail
    refine Calls.mono (k1.out _ (by first | exact hrefl | exact below_drewN hrefl _)) ?_
    rintro e w1 ⟨k, ha, rfl, hc, hd, hb⟩
    have hfin : Hid (Off s w (.returned (.string (s.extract k s.size))) w1) := ⟨k, ha, rfl, hc, hd, hb⟩
    clear hc hd hb ha
    generalize s.extract k s.size = S at *
    go_wp2
    exact bodyPost_ret (v := .string S) (by simp [results, Tryz.results72, go_sem]) rfl hfin.out
end Go.Proofs.YtclokcoimdjaeaaGreatDoor
namespace Go.Proofs.YtclokcoimdjaeaaGreatDoor
open Go.RowKit Go.Shelf Go.Lib
attribute [local go_sem ↓] Go.wp_at_zero Go.wp_at_succ
theorem bytes_conv (w : World) (s : ByteArray) (cap : Nat) : (convert 113 9 (.slice (some ⟨w.heap.size, 0, none⟩) s.size cap)).run Tryz.prog (Lib.bytesWorld w 5 s) = .ok (.string s) (Lib.bytesWorld w 5 s) := by
  have hl : s.data.toList.length = s.size := rfl
  have := Go.run_convert_bytes_back (P := Tryz.prog) (Lib.bytesWorld w 5 s) 113 9 5 ⟨w.heap.size, 0, none⟩ cap s.data.toList Tryz.underlying113 Tryz.underlying5 Tryz.underlying9 ?_
  · rw [hl] at this
    rw [this]
  · intro j hj
    rw [addr_add, Nat.zero_add, Lib.bytesWorld_cell w 5 s j hj]
    simp [List.getD, List.getElem?_eq_getElem hj]
set_option maxRecDepth 20000 in
set_option maxHeartbeats 2000000 in
theorem isToken_at (s : ByteArray) (K : Int) (hs : s.size < 1000000) (w : World) (hG : Glob w) (hB2 : 4 < w.heap.size) (x : Tok) (ts : List Tok) (hM : scanM s.toList = some (.good (x :: ts))) (B : Bool) (hK : (x.kind == K) = true) (hB : (x.text.toList == s.toList) = B) :
    Calls Tryz.prog 71 #[.string s, .int .i64 K] w fun e w' => e = .returned (.bool B) ∧ Below w.heap.size w w' := by
  have hcv := Lib.run_convert_string_bytes (P := Tryz.prog) w 9 113 5 s (u := .string) Tryz.underlying9 Tryz.underlying113 Tryz.underlying5
  have hcb := bytes_conv w s (grownCap w s.size 0 5)
  have hbW := Lib.bytesWorld_below w 5 s
  generalize grownCap w s.size 0 5 = cp at *
  obtain ⟨W, hW⟩ : ∃ W, W = Lib.bytesWorld w 5 s := ⟨_, rfl⟩
  rw [← hW] at hcv hcb hbW
  clear hW
  have kS : Hid _ := Scan_any W s _ hcb (hG.next hbW) (by have := hbW.size; omega) (by omega) _ hM
  clear hcb hM hG
  go_enter Tryz.func71, Tryz.ntmps71
  go_wp2_with fail
  refine Calls.mono kS.out ?_
  rintro e w1 ⟨⟨a, l, c, rfl, hO⟩, hb1⟩
  clear kS hcv
  obtain ⟨g, cap, e, hg1, hg2⟩ := hO.form (by simp)
  cases e
  have c0 : w1.cell? ⟨g, 0, none⟩ = some (.int .i64 x.kind) := hO.cellAt 0 (by rw [List.length_cons]; omega)
  have c1 : w1.cell? ⟨g, 1, none⟩ = some (.string x.text) := hO.cellAt 1 (by rw [List.length_cons]; omega)
  have hlen : (x :: ts).length = ts.length + 1 := rfl
  have hB1 : Hid (Below w.heap.size w w1) := bthen hbW hb1
  rw [hlen]
  clear hO hlen hb1 hbW hg2
  generalize ts.length = n at *
  obtain ⟨kd, tx, at0⟩ := x
  dsimp only at c0 c1 hK hB
  go_wp2
  exact bodyPost_ret (v := .bool B) (by simp [results, Tryz.results71, go_sem]) rfl ⟨rfl, hB1.out⟩
theorem scan_0x10 : scanM [48, 120, 49, 48] = some (.good [⟨2, ba [48, 120, 49, 48], 0⟩, ⟨7, ba [10], 4⟩, ⟨0, ba [], 4⟩]) := by kernel_rfl
theorem tok_0x10 (w : World) (hG : Glob w) (hB2 : 4 < w.heap.size) : Calls Tryz.prog 71 #[.string ⟨#[48, 120, 49, 48]⟩, .int .i64 2] w fun e w' => e = .returned (.bool true) ∧ Below w.heap.size w w' :=
  isToken_at ⟨#[48, 120, 49, 48]⟩ 2 (by decide) w hG hB2 _ _ (by rw [show (⟨#[48, 120, 49, 48]⟩ : ByteArray) = ba [48, 120, 49, 48] from rfl, ba_toList]; exact scan_0x10) true rfl (by rw [show (⟨#[48, 120, 49, 48]⟩ : ByteArray) = ba [48, 120, 49, 48] from rfl, ba_toList]; rfl)
end Go.Proofs.YtclokcoimdjaeaaGreatDoor
