/- scan, the second road: which tokens end a line; comments. -/
import Derived.Test.YtfbacidpjpghiaaGreatDoorVa
import Derived.Test.YtfbacidpjpghiaaGreatDoorSom
namespace Go.Proofs.YtfbacidpjpghiaaGreatDoor
open Go.RowKit
attribute [local go_sem ↓] Go.wp_at_zero Go.wp_at_succ
/-- Does the last token ask for a semicolon? -/
def endsB (ts : List Tok) : Bool := match ts.getLast? with
  | none => false
  | some t => asksM t.kind t.text.toList
theorem endL_ends (ts : List Tok) (a : Int) : endL ts a = if endsB ts = true then ts ++ [⟨7, ⟨#[10]⟩, a⟩] else ts := by
  unfold endL endsB
  cases ts.getLast? with
  | none => rfl
  | some t => rfl
set_option maxRecDepth 20000 in
set_option maxHeartbeats 8000000 in
theorem ends_any (w : World) (B : Nat) (a : Option Addr) (n c : Nat) (ts : List Tok) (hO : w.ownsRow B 32 3 (.slice a n c) ts.length (flatT ts)) (hl : ts.length < 1000000000) : Calls Tryz.prog 32 #[.slice a n c] w fun e w' => e = .returned (.bool (endsB ts)) ∧ Below w.heap.size w w' := by
  rcases Nat.eq_zero_or_pos ts.length with h0 | h0
  · have ht : ts = [] := List.eq_nil_of_length_eq_zero h0
    subst ht
    have hn : n = 0 := by
      rcases hO.2 with ⟨e, _⟩ | ⟨g', cap, cur, e, _⟩
      · cases e; rfl
      · cases e; rfl
    subst hn
    clear hO h0
    go_enter Tryz.func32, Tryz.ntmps32
    go_wp2
    go_ret
    exact ⟨rfl, Below.refl _ _⟩
  · obtain ⟨g, cap, e, hg1, hg2⟩ := hO.form h0
    cases e
    obtain ⟨m, hm⟩ : ∃ m, ts.length = m + 1 := ⟨ts.length - 1, by omega⟩
    have hlt : m < ts.length := by omega
    obtain ⟨f0, f1, f2⟩ := flatT_get ts m hlt
    have q0 := hO.cellAt (m * 3) (by omega)
    have q1 := hO.cellAt (m * 3 + 1) (by omega)
    have q2 := hO.cellAt (m * 3 + 2) (by omega)
    rw [f0] at q0
    rw [f1] at q1
    rw [f2] at q2
    have hlast : ts.getLast? = some ts[m] := by
      rw [List.getLast?_eq_getElem?, hm]
      simp
    have hE : endsB ts = asksM ts[m].kind ts[m].text.toList := by unfold endsB; rw [hlast]
    rw [hE]
    generalize ts[m] = t at *
    obtain ⟨tk, tt, ta⟩ := t
    simp only at q0 q1 q2
    have hw1 : IntKind.i64.wrap ((ts.length : Int) - 1) = (m : Int) := by rw [IntKind.wrap_i64]; omega
    have hd0 : ((ts.length : Int) == 0) = false := by rw [beq_eq_false_iff_ne]; omega
    obtain ⟨W, hW⟩ : ∃ W, W = w.alloc (.cells #[.int .i64 tk, .string tt, .int .i64 ta] 32) := ⟨_, rfl⟩
    have hbW : Below w.heap.size w W := by rw [hW]; exact (Below.refl _ _).alloc (Nat.le_refl _) _
    have e0 : W.cell? ⟨w.heap.size, 0, none⟩ = some (.int .i64 tk) := by rw [hW]; simp [go_sem]
    have e1 : W.cell? ⟨w.heap.size, 1, none⟩ = some (.string tt) := by rw [hW]; simp [go_sem]
    clear hO f0 f1 f2 hlast hE
    go_enter Tryz.func32, Tryz.ntmps32
    go_upto_region 4 with fail
    rw [← hW]
    clear hW q0 q1 q2
    generalize hlL : tt.toList = lL
    replace hbW : Hid _ := hbW
    go_wp2
    all_goals go_ret
    all_goals first
      | (exfalso; simp_all; done)
      | (refine ⟨congrArg (fun b => Ending.returned (.bool b)) ?_, hbW.out⟩; clear hbW; simp_all [asksM]; done)
theorem idx_mem (l : List UInt8) (c : UInt8) : 0 ≤ Lib.indexByte l c ↔ c ∈ l := by
  induction l with
  | nil => simp [Lib.indexByte]
  | cons b l ih =>
    unfold Lib.indexByte
    by_cases hb : b = c
    · subst hb; simp
    · have h1 : (b == c) = false := by simpa using hb
      have hge := Lib.indexByte_ge l c
      rw [h1]
      simp only [Bool.false_eq_true, if_false, List.mem_cons]
      by_cases hm : Lib.indexByte l c = -1
      · rw [hm]
        simp only [beq_self_eq_true, if_true]
        have : ¬ c ∈ l := fun h => by have := ih.2 h; omega
        constructor
        · intro h; omega
        · rintro (h | h)
          · exact absurd h.symm hb
          · exact absurd h this
      · rw [if_neg (by simpa using hm)]
        have hc : c ∈ l := ih.1 (by omega)
        exact ⟨fun _ => .inr hc, fun _ => by omega⟩
def notNl (c : Int) : Bool := decide (c ≠ 10)
theorem line_span (L : List UInt8) : lineM L = (spanL notNl L : Int) := by
  unfold lineM
  induction L with
  | nil => rfl
  | cons b l ih =>
    have hge := Lib.indexByte_ge l 10
    unfold Lib.indexByte spanL
    by_cases hb : b = 10
    · subst hb; rfl
    · have h1 : (b == 10) = false := by simpa using hb
      have h2 : notNl ((b.toNat : Nat) : Int) = true := by
        unfold notNl
        apply decide_eq_true
        intro h
        apply hb
        apply UInt8.toNat_inj.1
        show b.toNat = 10
        omega
      rw [h1, if_pos h2]
      simp only [Bool.false_eq_true, if_false]
      by_cases hm : Lib.indexByte l 10 = -1
      · rw [hm] at ih ⊢
        simp only [beq_self_eq_true, if_true] at ih ⊢
        rw [if_neg (by decide)] at ih ⊢
        simp only [List.length_cons]
        omega
      · have hbm : (Lib.indexByte l 10 == -1) = false := by simpa using hm
        rw [hbm]
        simp only [Bool.false_eq_true, if_false]
        rw [if_pos (by omega)] at ih ⊢
        omega
/-- The end of a comment: where it stands, and whether a newline was met. -/
def cmtGo : List UInt8 → Bool → Option (Nat × Bool)
  | a :: b :: r, f => if a = 42 ∧ b = 47 then some (0, f) else (cmtGo (b :: r) (f || decide (a = 10))).map (fun x => (x.1 + 1, x.2))
  | _, _ => none
theorem cmt_index (X : List UInt8) (f : Bool) : (cmtGo X f = none ∧ Lib.index X [42, 47] = -1) ∨ ∃ n f' r, cmtGo X f = some (n, f') ∧ Lib.index X [42, 47] = (n : Int) ∧ X.drop n = 42 :: 47 :: r ∧ f' = (f || decide ((10 : UInt8) ∈ X.take n)) := by
  induction X generalizing f with
  | nil => exact .inl ⟨rfl, rfl⟩
  | cons a X ih =>
    cases X with
    | nil => exact .inl ⟨rfl, by unfold Lib.index; simp [List.isPrefixOf, Lib.index]⟩
    | cons b r =>
      unfold cmtGo Lib.index
      by_cases h : a = 42 ∧ b = 47
      · obtain ⟨rfl, rfl⟩ := h
        refine .inr ⟨0, f, r, by rw [if_pos ⟨rfl, rfl⟩], by simp [List.isPrefixOf], rfl, by simp⟩
      · have hp : [42, 47].isPrefixOf (a :: b :: r) = false := by
          rcases hq : [42, 47].isPrefixOf (a :: b :: r) with _ | _
          · rfl
          · exfalso
            simp [List.isPrefixOf] at hq
            exact h ⟨hq.1.symm, hq.2.symm⟩
        rw [if_neg h, hp]
        simp only [Bool.false_eq_true, if_false]
        rcases ih (f || decide (a = 10)) with ⟨h1, h2⟩ | ⟨n, f', r', h1, h2, h3, h4⟩
        · rw [h1, h2]
          exact .inl ⟨rfl, by simp⟩
        · rw [h1, h2]
          refine .inr ⟨n + 1, f', r', rfl, ?_, h3, ?_⟩
          · rw [if_neg (by simp)]
            rfl
          · rw [h4, List.take_succ_cons, Bool.or_assoc]
            congr 1
            rw [← Bool.decide_or]
            congr 1
            apply propext
            rw [List.mem_cons, eq_comm]
end Go.Proofs.YtfbacidpjpghiaaGreatDoor
