/- scan, the second road: comments. -/
import Derived.Test.YtfbacidpjpghiaaGreatDoorVd
namespace Go.Proofs.YtfbacidpjpghiaaGreatDoor
open Go.RowKit
attribute [local go_sem ↓] Go.wp_at_zero Go.wp_at_succ
theorem drop_cons (l : List UInt8) (k : Nat) (h : k < l.length) : l.drop k = l.getD k 0 :: l.drop (k + 1) := by
  rw [List.drop_eq_getElem_cons h]
  simp [List.getD, List.getElem?_eq_getElem h]
def cmtN : Option (Nat × Bool) → Nat
  | none => 0
  | some x => x.1 + 4
def cmtF : Option (Nat × Bool) → Bool
  | none => false
  | some x => x.2
theorem u8_val (c : UInt8) (n : UInt8) : (((c.toNat : Nat) : Int) == ((n.toNat : Nat) : Int)) = decide (c = n) := by
  by_cases h : c = n
  · subst h; simp
  · rw [decide_eq_false h, beq_eq_false_iff_ne]
    exact fun h2 => h (UInt8.toNat_inj.1 (Int.ofNat.inj h2))
set_option maxRecDepth 100000 in
set_option maxHeartbeats 8000000 in
theorem comment_line (w : World) (ad : Addr) (cap i : Nat) (l : List UInt8) (hB : BytesAt w ad l) (hi : i + 1 < l.length) (hl : l.length < 1000000) (h1 : (l.getD (i + 1) 0).toNat = 47) : Calls Tryz.prog 25 #[.slice (some ad) l.length cap, .int .i64 i] w fun e w' => e = .returned (.tuple #[.int .i64 ((spanL notNl (l.drop i) : Nat) : Int), .bool false]) ∧ w' = w := by
  obtain ⟨S, hS⟩ : ∃ S, S = spanL notNl (l.drop i) := ⟨_, rfl⟩
  rw [← hS]
  have hc1 := hB (i + 1) hi
  rw [h1] at hc1
  have hc1' := hc1
  rw [add_succ] at hc1'
  have hSl : S ≤ l.length - i := by rw [hS, ← List.length_drop]; exact spanL_le _ _
  replace hS : Hid _ := hS
  replace hB : Hid _ := hB
  go_enter Tryz.func25, Tryz.ntmps25
  go_wp2
  go_loop [6] (fun vk => ∃ k : Nat, vk = .int .i64 k ∧ i ≤ k ∧ k ≤ l.length ∧ Hid (S = k - i + spanL notNl (l.drop k))) (fun vk => l.length - (intOf vk).toNat)
  case atStart => exact ⟨i, rfl, Nat.le_refl _, by omega, by show S = _; rw [Nat.sub_self, Nat.zero_add]; exact hS.out⟩
  case round =>
    obtain ⟨k, rfl, hik, hk, hI⟩ := hrel
    have hI' := hI.out
    clear hI hS
    have hw2 : IntKind.i64.wrap ((k : Int) - (i : Int)) = ((k - i : Nat) : Int) := by rw [IntKind.wrap_i64]; omega
    by_cases hlt : k < l.length
    · have d1 : decide ((k : Int) < l.length) = true := decide_eq_true (by omega)
      have hc := hB.out k hlt
      rw [drop_cons l k hlt] at hI'
      unfold spanL at hI'
      have hw1 : IntKind.i64.wrap ((k : Int) + 1) = ((k + 1 : Nat) : Int) := by rw [IntKind.wrap_i64]; omega
      generalize (l.getD k 0).toNat = C at *
      by_cases hC : C = 10
      · have e10 : ((C : Int) != 10) = false := by simp; omega
        rw [if_neg (by unfold notNl; simp; omega)] at hI'
        have hSk : S = k - i := by omega
        rw [← hSk] at hw2
        clear hB hI' hC hSk
        go_wp2
        exact bodyPost_ret (v := .tuple #[.int .i64 S, .bool false]) (by simp [results, Tryz.results25, go_sem]) rfl ⟨rfl, rfl⟩
      · have e10 : ((C : Int) != 10) = true := by simp; omega
        rw [if_pos (by unfold notNl; simp; omega)] at hI'
        have hI2 : Hid (S = k + 1 - i + spanL notNl (l.drop (k + 1))) := by show S = _; omega
        clear hB hI' hC hw2
        go_wp2
        refine ⟨⟨k + 1, by go_num, by omega, by omega, hI2⟩, by simp [intOf]; omega⟩
    · have d1 : decide ((k : Int) < l.length) = false := decide_eq_false (by omega)
      rw [List.drop_eq_nil_of_le (by omega)] at hI'
      have hSk : S = k - i := by simpa [spanL] using hI'
      rw [← hSk] at hw2
      clear hB hI' hSk
      go_wp2
      exact bodyPost_ret (v := .tuple #[.int .i64 S, .bool false]) (by simp [results, Tryz.results25, go_sem]) rfl ⟨rfl, rfl⟩
set_option maxRecDepth 100000 in
set_option maxHeartbeats 8000000 in
theorem comment_star (w : World) (ad : Addr) (cap i : Nat) (l : List UInt8) (hB : BytesAt w ad l) (hi : i + 1 < l.length) (hl : l.length < 1000000) (h1 : (l.getD (i + 1) 0).toNat = 42) (Z : Option (Nat × Bool)) (hZ : Z = cmtGo (l.drop (i + 2)) false) : Calls Tryz.prog 25 #[.slice (some ad) l.length cap, .int .i64 i] w fun e w' => e = .returned (.tuple #[.int .i64 ((cmtN Z : Nat) : Int), .bool (cmtF Z)]) ∧ w' = w := by
  obtain ⟨N, hN⟩ : ∃ N : Nat, N = cmtN Z := ⟨_, rfl⟩
  obtain ⟨F, hF⟩ : ∃ F : Bool, F = cmtF Z := ⟨_, rfl⟩
  rw [← hN, ← hF]
  replace hN : Hid _ := hN
  replace hF : Hid _ := hF
  have hc1 := hB (i + 1) hi
  rw [h1] at hc1
  have hc1' := hc1
  rw [add_succ] at hc1'
  replace hZ : Hid _ := hZ
  replace hB : Hid _ := hB
  have hw0 : IntKind.i64.wrap ((i : Int) + 2) = ((i + 2 : Nat) : Int) := by rw [IntKind.wrap_i64]; omega
  go_enter Tryz.func25, Tryz.ntmps25
  go_wp2
  go_loop [7, 8] (fun vf vk => ∃ (f : Bool) (k : Nat), vf = .bool f ∧ vk = .int .i64 k ∧ i + 2 ≤ k ∧ k ≤ l.length ∧ Hid (Z = (cmtGo (l.drop k) f).map (fun x => (x.1 + (k - (i + 2)), x.2)))) (fun _ vk => l.length + 1 - (intOf vk).toNat)
  case atStart => exact ⟨false, i + 2, rfl, by go_num, Nat.le_refl _, by omega, by show Z = _; rw [Nat.sub_self, ← hZ.out]; cases Z <;> rfl⟩
  case round =>
    obtain ⟨f, k, rfl, rfl, hik, hk, hI⟩ := hrel
    have hI' := hI.out
    clear hI hZ
    have hw1 : IntKind.i64.wrap ((k : Int) + 1) = ((k + 1 : Nat) : Int) := by rw [IntKind.wrap_i64]; omega
    by_cases hlt : k + 1 < l.length
    · have d1 : decide (((k + 1 : Nat) : Int) < l.length) = true := decide_eq_true (by omega)
      have hc := hB.out k (by omega)
      have hcn := hB.out (k + 1) hlt
      have hcn' := hcn
      rw [add_succ] at hcn'
      rw [drop_cons l k (by omega), drop_cons l (k + 1) hlt] at hI'
      unfold cmtGo at hI'
      rw [← drop_cons l (k + 1) hlt] at hI'
      have u1 := u8_val (l.getD k 0) 42
      have u2 := u8_val (l.getD (k + 1) 0) 47
      have u3 := u8_val (l.getD k 0) 10
      generalize l.getD k 0 = A at *
      generalize l.getD (k + 1) 0 = D at *
      obtain ⟨K2, hK2⟩ : ∃ K2, K2 = k + 2 := ⟨_, rfl⟩
      have hw2 : IntKind.i64.wrap ((k : Int) + 2) = ((K2 : Nat) : Int) := by rw [IntKind.wrap_i64]; omega
      have hw3 : IntKind.i64.wrap (((K2 : Nat) : Int) - (i : Int)) = ((K2 - i : Nat) : Int) := by rw [IntKind.wrap_i64]; omega
      have e42 : (((A.toNat : Nat) : Int) == 42) = decide (A = 42) := u1
      have e47 : (((D.toNat : Nat) : Int) == 47) = decide (D = 47) := u2
      have e10 : (((A.toNat : Nat) : Int) == 10) = decide (A = 10) := u3
      clear u1 u2 u3
      generalize A.toNat = AN at *
      generalize D.toNat = DN at *
      by_cases hA : A = 42
      · rw [decide_eq_true hA] at e42
        rw [decide_eq_false (by rw [hA]; decide)] at e10
        by_cases hD : D = 47
        · rw [decide_eq_true hD] at e47
          rw [if_pos ⟨hA, hD⟩] at hI'
          have hZe : Z = some (k - (i + 2), f) := by rw [hI']; simp
          have hNk : N = K2 - i := by rw [hN.out, hZe]; simp only [cmtN]; omega
          have hFf : F = f := by rw [hF.out, hZe]; rfl
          subst hFf
          rw [← hNk] at hw3
          clear hI' hB hA hD hNk hZe hN hF hK2
          go_wp2
          exact bodyPost_ret (v := .tuple #[.int .i64 N, .bool F]) (by simp [results, Tryz.results25, go_sem]) rfl ⟨rfl, rfl⟩
        · rw [decide_eq_false hD] at e47
          rw [if_neg (fun h => hD h.2)] at hI'
          rw [← decide_eq_false (show ¬ A = 10 by rw [hA]; decide)] at e10
          have hI2 : Hid (Z = (cmtGo (l.drop (k + 1)) (f || decide (A = 10))).map (fun x => (x.1 + (k + 1 - (i + 2)), x.2))) := by
            show Z = _
            rw [hI', Option.map_map]
            congr 1
            funext x
            exact Prod.ext (by simp only [Function.comp]; omega) rfl
          clear hI' hB hw2 hw3 hK2
          cases f with
          | true =>
            clear e10
            rw [Bool.true_or] at hI2
            go_wp2
            refine ⟨⟨true, k + 1, rfl, by go_num, by omega, by omega, hI2⟩, by simp [intOf]; omega⟩
          | false =>
            rw [Bool.false_or] at hI2
            generalize decide (A = 10) = G at *
            go_wp2
            refine ⟨⟨G, k + 1, rfl, by go_num, by omega, by omega, hI2⟩, by simp [intOf]; omega⟩
      · rw [decide_eq_false hA] at e42
        rw [if_neg (fun h => hA h.1)] at hI'
        have hI2 : Hid (Z = (cmtGo (l.drop (k + 1)) (f || decide (A = 10))).map (fun x => (x.1 + (k + 1 - (i + 2)), x.2))) := by
          show Z = _
          rw [hI', Option.map_map]
          congr 1
          funext x
          exact Prod.ext (by simp only [Function.comp]; omega) rfl
        clear hI' hB hw2 hw3 hK2
        cases f with
        | true =>
          clear e10
          rw [Bool.true_or] at hI2
          go_wp2
          refine ⟨⟨true, k + 1, rfl, by go_num, by omega, by omega, hI2⟩, by simp [intOf]; omega⟩
        | false =>
          rw [Bool.false_or] at hI2
          generalize decide (A = 10) = G at *
          go_wp2
          refine ⟨⟨G, k + 1, rfl, by go_num, by omega, by omega, hI2⟩, by simp [intOf]; omega⟩
    · have d1 : decide (((k + 1 : Nat) : Int) < l.length) = false := decide_eq_false (by omega)
      have hZe : Z = none := by
        rw [hI']
        have : (l.drop k).length ≤ 1 := by rw [List.length_drop]; omega
        match l.drop k, this with
        | [], _ => rfl
        | [_], _ => rfl
      have hN0 : N = 0 := by rw [hN.out, hZe]; rfl
      have hF0 : F = false := by rw [hF.out, hZe]; rfl
      subst hN0 hF0
      clear hI' hB hZe hN hF
      go_wp2
      exact bodyPost_ret (v := .tuple #[.int .i64 0, .bool false]) (by simp [results, Tryz.results25, go_sem]) rfl ⟨rfl, rfl⟩
end Go.Proofs.YtfbacidpjpghiaaGreatDoor
