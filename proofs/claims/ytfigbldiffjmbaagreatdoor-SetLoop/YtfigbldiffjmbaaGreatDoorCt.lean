/- Closed runs: operations, sixth part: parts of slices, maps asked and filled, builtins. -/
import Derived.Test.YtfigbldiffjmbaaGreatDoorCs
import Derived.Laws.Append
namespace Go.Proofs.YtfigbldiffjmbaaGreatDoor
namespace Cx
open Go

section
variable {P : Program} {G B : Nat} {μ : Mu} {h : Hp} {w : World} {e : En} {a : Act}

theorem natOf_VR {v v' : Value} {n : Nat} (hv : VR μ v v') (hn : natOf v = some n) : ∃ k, v' = .int k (.ofNat n) := by
  unfold natOf at hn
  split at hn
  · simp at hn; subst hn; cases hv; exact ⟨_, rfl⟩
  · cases hn
theorem bound_some (hg : GR G μ) (he : TR μ e a.tmps) {d l y : Nat} {x : Operand} {code : BoundsCode} (hb : bound G e d (some x) = some l) (hle : l ≤ y) : (Instr.sliceBound (a.eval x) y code).run P w = .ok l w := by
  have hb' : (match ev G e x with | some v => natOf v | none => none) = some l := hb
  split at hb'
  · rename_i v hv
    obtain ⟨k, hk⟩ := natOf_VR (ev_ok hg he hv) hb'
    have c : 0 ≤ Int.ofNat l ∧ Int.ofNat l ≤ (y : Int) := by constructor <;> simp <;> omega
    simp only [Instr.sliceBound, hk, asIntOf, Sem.run_bind, Sem.run_pure, Result.andThen_ok]
    rw [if_pos c]
    rfl
  · cases hb'
theorem bounds_ok (hg : GR G μ) (he : TR μ e a.tmps) {isSlice : Bool} {l u n cap : Nat} {lo hi : Option Operand} (h1 : bound G e 0 lo = some l) (h2 : bound G e n hi = some u) (hlu : l ≤ u) (hun : u ≤ n) (hnc : n ≤ cap) :
    (Instr.sliceBounds isSlice n cap (lo.map a.eval) (hi.map a.eval) none).run P w = .ok (l, u, cap) w := by
  cases hi with
  | none =>
    have hu : n = u := by have : some n = some u := h2; simpa using this
    subst hu
    cases lo with
    | none =>
      have hl : 0 = l := by have : some 0 = some l := h1; simpa using this
      subst hl
      cases isSlice <;> simp [Instr.sliceBounds]
    | some y =>
      have e2 := fun c2 => bound_some (P := P) (w := w) (code := c2) hg he h1 hlu
      cases isSlice <;> simp [Instr.sliceBounds, e2]
  | some x =>
    have e1 := fun c1 => bound_some (P := P) (w := w) (code := c1) hg he h2 (by omega : u ≤ cap)
    cases lo with
    | none =>
      have hl : 0 = l := by have : some 0 = some l := h1; simpa using this
      subst hl
      cases isSlice <;> simp [Instr.sliceBounds, e1]
    | some y =>
      have e2 := fun c2 => bound_some (P := P) (w := w) (code := c2) hg he h1 hlu
      cases isSlice <;> simp [Instr.sliceBounds, e1, e2]
theorem sliceV_ok (hr : HR B μ h.n h.t.get w) (hg : GR G μ) (he : TR μ e a.tmps) {t : TypeId} {lo hi : Option Operand} {x x' v : Value} {h' : Hp} (hx : VR μ x x') (hv : sliceV P G e h t lo hi x = .value v h') : VOk P B μ h w (Instr.sliceAt t x' (lo.map a.eval) (hi.map a.eval) none) v h' := by
  unfold sliceV at hv
  split at hv
  · rename_i s
    cases hx
    split at hv
    · rename_i l u hd hl hu
      cases hc : (Nat.ble l u && Nat.ble u s.data.toList.length) with
      | false => rw [hc] at hv; cases hv
      | true =>
        rw [hc] at hv
        simp only [cond_true, Out.value.injEq] at hv; obtain ⟨rfl, rfl⟩ := hv
        simp only [Bool.and_eq_true, Nat.ble_eq] at hc
        have hsz : s.size = s.data.toList.length := by rw [Array.length_toList]; rfl
        rw [← hsz] at hc hu
        have hb := bounds_ok (P := P) (w := w) (isSlice := false) (cap := s.size) hg he hl hu hc.1 hc.2 (Nat.le_refl _)
        refine .pure hr (v' := .string (s.extract l u)) ?_ (.string _)
        simp only [Instr.sliceAt, Instr.slice, Sem.run_bind, run_underlying t hd, Result.andThen_ok, Option.isSome_none, Bool.false_eq_true, if_false, hb, Sem.run_pure]
    · cases hv
  · rename_i ad n es
    split at hv
    · rename_i el l u hel hl hu
      cases hc : (Nat.ble l u && Nat.ble u n) with
      | false => rw [hc] at hv; cases hv
      | true =>
        rw [hc] at hv
        simp only [cond_true] at hv
        simp only [Bool.and_eq_true, Nat.ble_eq] at hc
        have hd := elemOf_inv hel
        split at hv
        · rename_i k o
          split at hv
          · rename_i m hm
            cases hme : Nat.beq m es with
            | false => rw [hme] at hv; cases hv
            | true =>
              rw [hme] at hv
              simp only [cond_true, Out.value.injEq] at hv; obtain ⟨rfl, rfl⟩ := hv
              rw [beqN] at hme
              have hme' : m = es := by simpa using hme
              subst hme'
              cases hx with
              | slice hk hn hcap hes =>
                rename_i b p s cap adr
                have hb := bounds_ok (P := P) (w := w) (isSlice := true) (cap := cap) hg he hl hu hc.1 hc.2 hn
                refine .pure hr (v' := .slice (some ⟨b, if cap = l then adr else adr + l * m, none⟩) (u - l) (cap - l)) ?_ (VR.slice hk (by show u - l ≤ cap - l; omega) ?_ hes)
                · simp only [Instr.sliceAt, Instr.slice, Sem.run_bind, run_underlying t hd, Result.andThen_ok, hb, run_size el hm, Sem.run_pure]
                  by_cases hcl : cap = l
                  · simp [hcl]
                  · simp [hcl, addA]
                · by_cases hcl : cap = l
                  · left; omega
                  · right
                    obtain ⟨rfl, h2⟩ := hcap.resolve_left (by omega)
                    simp only [hcl, if_false]
                    have e1 : l * m + (cap - l) * m = cap * m := by rw [← Nat.add_mul]; congr 1; omega
                    exact ⟨by show p + o + l * m = p + (o + l * m); omega, by show o + l * m + (cap - l) * m ≤ s; omega⟩
          · cases hv
        · split at hv
          · rename_i m hm
            simp only [Out.value.injEq] at hv; obtain ⟨rfl, rfl⟩ := hv
            cases hx
            have hu0 : u = 0 := by omega
            have hl0 : l = 0 := by omega
            subst hu0; subst hl0
            have hb := bounds_ok (P := P) (w := w) (isSlice := true) (cap := 0) hg he hl hu (Nat.le_refl _) (Nat.le_refl _) (Nat.le_refl _)
            refine .pure hr (v' := .slice none 0 0) ?_ (.nilSlice 0)
            simp only [Instr.sliceAt, Instr.slice, Sem.run_bind, run_underlying t hd, Result.andThen_ok, hb, run_size el hm, Sem.run_pure]
            rfl
          · cases hv
        · cases hv
    · cases hv
  · rename_i k o
    split at hv
    · rename_i n el hd
      split at hv
      · rename_i es l u hes hl hu
        cases hc : (Nat.ble l u && Nat.ble u n && Nat.blt 0 es && arrIn h k (Nat.add o (Nat.mul n es))) with
        | false => rw [hc] at hv; cases hv
        | true =>
          rw [hc] at hv
          simp only [cond_true, Out.value.injEq] at hv; obtain ⟨rfl, rfl⟩ := hv
          simp only [Bool.and_eq_true, Nat.ble_eq, blt_iff] at hc
          obtain ⟨⟨⟨c1, c2⟩, c3⟩, c4⟩ := hc
          cases hx with
          | ptr hk =>
            rename_i b p s
            have hs : o + n * es ≤ s := by
              unfold arrIn at c4
              split at c4
              · rename_i vs hvs
                obtain ⟨c, ty, lo', hi', q1, q2, q3, _⟩ := hr.obj k b p s _ hk hvs
                have : o + n * es ≤ vs.length := Nat.le_of_ble_eq_true c4
                omega
              · cases c4
            have hb := bounds_ok (P := P) (w := w) (isSlice := false) (cap := n) hg he hl hu c1 c2 (Nat.le_refl _)
            refine .pure hr (v' := .slice (some ⟨b, if n = l then p + o else p + o + l * es, none⟩) (u - l) (n - l)) ?_ (VR.slice hk (by show u - l ≤ n - l; omega) ?_ c3)
            · simp only [Instr.sliceAt, Sem.run_bind, run_underlying t hd, Result.andThen_ok, hb, run_size el hes, Sem.run_pure, Instr.sureAddr]
              by_cases hcl : n = l
              · simp [hcl]
              · simp [hcl, addA]
            · by_cases hcl : n = l
              · left; omega
              · right
                simp only [hcl, if_false]
                have e1 : l * es + (n - l) * es = n * es := by rw [← Nat.add_mul]; congr 1; omega
                exact ⟨by show p + o + l * es = p + (o + l * es); omega, by show o + l * es + (n - l) * es ≤ s; omega⟩
      · cases hv
    · cases hv
  · cases hv
theorem opSlice_ok (hr : HR B μ h.n h.t.get w) (hg : GR G μ) (he : TR μ e a.tmps) {t : TypeId} {x : Operand} {lo hi mx : Option Operand} {v : Value} {h' : Hp} (hv : opSlice P G e h t x lo hi mx = .value v h') : VOk P B μ h w (Instr.sliceAt t (a.eval x) (lo.map a.eval) (hi.map a.eval) (mx.map a.eval)) v h' := by
  unfold opSlice at hv
  split at hv
  · rename_i u hx; exact sliceV_ok hr hg he (ev_ok hg he hx) hv
  · cases hv
theorem opIndexAddr_ok (hr : HR B μ h.n h.t.get w) (hg : GR G μ) (he : TR μ e a.tmps) {t : TypeId} {x y : Operand} {v : Value} {h' : Hp} (hv : opIndexAddr P G e h t x y = .value v h') : VOk P B μ h w (Instr.indexAt t (a.eval x) (a.eval y)) v h' := by
  unfold opIndexAddr at hv
  split at hv
  · rename_i u k i hx hy
    have hye := ev_ok hg he hy
    generalize a.eval y = y' at hye
    cases hye
    exact idxV_ok hr (ev_ok hg he hx) hv
  · cases hv
end
end Cx
end Go.Proofs.YtfigbldiffjmbaaGreatDoor
