/- Closed runs: reading and writing. -/
import Derived.Test.YtfigbldiffjmbaaGreatDoorCz
import Derived.Laws.IdiomCopy
import Derived.Laws.Cells
namespace Go.Proofs.YtfigbldiffjmbaaGreatDoor
namespace Cx
open Go

theorem cut0_cons {α : Type} (x : α) (l : List α) (n : Nat) : cut0 (x :: l) n = cond (Nat.beq n 0) (some []) (match cut0 l (Nat.pred n) with | some r => some (x :: r) | none => none) := rfl
theorem cut0_spec {α : Type} : ∀ (l : List α) (n : Nat) (r : List α), cut0 l n = some r → n ≤ l.length ∧ r = l.take n
  | [], n, r, h => by
    have h' : cond (Nat.beq n 0) (some ([] : List α)) none = some r := h
    rw [beq0] at h'
    by_cases hn : n = 0
    · simp [hn] at h'; exact ⟨by simp [hn], by simp [hn, ← h']⟩
    · simp [hn] at h'
  | x :: l, n, r, h => by
    rw [cut0_cons, beq0] at h
    by_cases hn : n = 0
    · simp [hn] at h; exact ⟨by simp [hn], by simp [hn, ← h]⟩
    · simp only [hn, decide_false, cond_false] at h
      cases hq : cut0 l (Nat.pred n) with
      | none => rw [hq] at h; simp at h
      | some q =>
        rw [hq] at h; simp at h
        obtain ⟨h1, h2⟩ := cut0_spec l _ _ hq
        obtain ⟨m, rfl⟩ : ∃ m, n = m + 1 := ⟨n - 1, by omega⟩
        simp at h1 h2
        exact ⟨by simp; omega, by rw [← h, h2]; simp⟩
theorem cut_spec {α : Type} : ∀ (l : List α) (o n : Nat) (r : List α), cut l o n = some r → o + n ≤ l.length ∧ r = (l.drop o).take n
  | [], o, n, r, h => by
    have h' : cond (Nat.beq o 0) (cut0 ([] : List α) n) none = some r := h
    rw [beq0] at h'
    by_cases ho : o = 0
    · simp [ho] at h'; obtain ⟨h1, h2⟩ := cut0_spec _ _ _ h'; exact ⟨by simpa [ho] using h1, by simpa [ho] using h2⟩
    · simp [ho] at h'
  | x :: l, o, n, r, h => by
    have h' : cond (Nat.beq o 0) (cut0 (x :: l) n) (cut l (Nat.pred o) n) = some r := h
    rw [beq0] at h'
    by_cases ho : o = 0
    · simp [ho] at h'; obtain ⟨h1, h2⟩ := cut0_spec _ _ _ h'; exact ⟨by simpa [ho] using h1, by simpa [ho] using h2⟩
    · simp only [ho, decide_false, cond_false] at h'
      obtain ⟨h1, h2⟩ := cut_spec l _ _ _ h'
      obtain ⟨m, rfl⟩ : ∃ m, o = m + 1 := ⟨o - 1, by omega⟩
      simp at h1 h2
      exact ⟨by simp; omega, by simpa using h2⟩
theorem cut_get {α : Type} {l r : List α} {o n : Nat} (h : cut l o n = some r) : r.length = n ∧ o + n ≤ l.length ∧ ∀ i, i < n → r[i]? = l[o + i]? := by
  obtain ⟨h1, rfl⟩ := cut_spec l o n r h
  refine ⟨by simp; omega, h1, fun i hi => ?_⟩
  simp [hi]

theorem over0_spec {α : Type} : ∀ (l r q : List α), over0 l r = some q → r.length ≤ l.length ∧ q = r ++ l.drop r.length
  | [], [], q, h => by have h' : some ([] : List α) = some q := h; simp at h'; simp [← h']
  | [], y :: r, q, h => by have h' : (none : Option (List α)) = some q := h; simp at h'
  | x :: l, [], q, h => by have h' : some (x :: l) = some q := h; simp at h'; simp [← h']
  | x :: l, y :: r, q, h => by
    have h' : (match over0 l r with | some q => some (y :: q) | none => none) = some q := h
    cases hq : over0 l r with
    | none => rw [hq] at h'; simp at h'
    | some q' =>
      rw [hq] at h'; simp at h'
      obtain ⟨h1, h2⟩ := over0_spec l r q' hq
      exact ⟨by simpa using h1, by rw [← h', h2]; simp⟩
theorem over_spec {α : Type} : ∀ (l : List α) (o : Nat) (r q : List α), over l o r = some q → o + r.length ≤ l.length ∧ q = l.take o ++ (r ++ l.drop (o + r.length))
  | [], o, r, q, h => by
    have h' : cond (Nat.beq o 0) (over0 [] r) none = some q := h
    rw [beq0] at h'
    by_cases ho : o = 0
    · simp [ho] at h'; obtain ⟨h1, h2⟩ := over0_spec _ _ _ h'; exact ⟨by simpa [ho] using h1, by simpa [ho] using h2⟩
    · simp [ho] at h'
  | x :: l, o, r, q, h => by
    have h' : cond (Nat.beq o 0) (over0 (x :: l) r) (match over l (Nat.pred o) r with | some q => some (x :: q) | none => none) = some q := h
    rw [beq0] at h'
    by_cases ho : o = 0
    · simp [ho] at h'; obtain ⟨h1, h2⟩ := over0_spec _ _ _ h'; exact ⟨by simpa [ho] using h1, by simpa [ho] using h2⟩
    · simp only [ho, decide_false, cond_false] at h'
      cases hq : over l (Nat.pred o) r with
      | none => rw [hq] at h'; simp at h'
      | some q' =>
        rw [hq] at h'; simp at h'
        obtain ⟨h1, h2⟩ := over_spec l _ r q' hq
        obtain ⟨m, rfl⟩ : ∃ m, o = m + 1 := ⟨o - 1, by omega⟩
        simp at h1 h2
        refine ⟨by simp; omega, ?_⟩
        rw [← h', h2]
        simp [show m + 1 + r.length = (m + r.length) + 1 by omega]
theorem over_get {α : Type} {l r q : List α} {o : Nat} (h : over l o r = some q) : q.length = l.length ∧ o + r.length ≤ l.length ∧ (∀ i, i < r.length → q[o + i]? = r[i]?) ∧ (∀ i, (i < o ∨ o + r.length ≤ i) → q[i]? = l[i]?) := by
  obtain ⟨h1, rfl⟩ := over_spec l o r q h
  have hl : (l.take o).length = o := by simp; omega
  refine ⟨by simp; omega, h1, fun i hi => ?_, fun i hi => ?_⟩
  · rw [List.getElem?_append_right (by omega), hl, List.getElem?_append_left (by omega)]
    congr 1; omega
  · rcases hi with hi | hi
    · rw [List.getElem?_append_left (by omega)]; simp [hi]
    · rw [List.getElem?_append_right (by omega), hl, List.getElem?_append_right (by omega), List.getElem?_drop]
      congr 1; omega

theorem addA (b p i : Nat) : (⟨b, p, none⟩ : Addr).add i = ⟨b, p + i, none⟩ := by unfold Addr.add; split <;> simp_all
theorem cell_of {w : World} {b : Nat} {c : Array Value} {ty : TypeId} {fr : Nat × Nat} (hb : w.heap[b]? = some (.cells c ty fr)) (i : Nat) : w.cell? ⟨b, i, none⟩ = c[i]? := by
  simp [World.cell?, hb]
theorem frozen_of {w : World} {b : Nat} {c : Array Value} {ty : TypeId} {lo hi : Nat} (hb : w.heap[b]? = some (.cells c ty (lo, hi))) (i : Nat) : w.frozen? ⟨b, i, none⟩ = (decide (lo ≤ i) && decide (i < hi)) := by
  simp [World.frozen?, hb]

section
variable {P : Program} {B : Nat} {μ : Mu} {h : Hp} {w : World}

/-- what cells read as -/
theorem read_ok {vs : List Value} {c : Array Value} {p o n : Nat} {l : List Value} (hv : ∀ (i : Nat) (v : Value), vs[i]? = some v → ∃ v', c[p + i]? = some v' ∧ VR μ v v') (hl : cut vs o n = some l) :
    ∃ l', VRL μ l l' ∧ l'.length = n ∧ ∀ (j : Nat) (v : Value), l'[j]? = some v → c[p + o + j]? = some v := by
  obtain ⟨h1, h2, h3⟩ := cut_get hl
  have hex : ∀ j, j < n → ∃ v v', l[j]? = some v ∧ c[p + o + j]? = some v' ∧ VR μ v v' := fun j hj => by
    have hlt : o + j < vs.length := by omega
    obtain ⟨v', g1, g2⟩ := hv (o + j) _ (List.getElem?_eq_getElem hlt)
    exact ⟨_, v', (h3 j hj).trans (List.getElem?_eq_getElem hlt), by rw [Nat.add_assoc]; exact g1, g2⟩
  have hin : ∀ j, j < n → p + o + j < c.size := fun j hj => by
    obtain ⟨_, _, _, g, _⟩ := hex j hj
    exact (Array.getElem?_eq_some_iff.1 g).1
  refine ⟨(c.toList.drop (p + o)).take n, ?_, ?_, ?_⟩
  · refine VRL.of ?_ ?_
    · rw [h1]; simp
      rcases Nat.eq_zero_or_pos n with h0 | h0
      · omega
      · have := hin (n - 1) (by omega); omega
    · intro i v e
      have hi : i < n := by have := (List.getElem?_eq_some_iff.1 e).1; omega
      obtain ⟨u, v', g1, g2, g3⟩ := hex i hi
      rw [g1] at e; simp at e; subst e
      exact ⟨v', by simpa [List.getElem?_take, hi] using g2, g3⟩
  · simp
    rcases Nat.eq_zero_or_pos n with h0 | h0
    · omega
    · have := hin (n - 1) (by omega); omega
  · intro j v e
    have hj : j < n := by have := (List.getElem?_eq_some_iff.1 e).1; simp at this; omega
    simpa [List.getElem?_take, hj] using e

theorem rd_ok (hr : HR B μ h.n h.t.get w) {k o n b p s : Nat} {l : List Value} (hk : μ k = some (b, p, s)) (hl : h.rd k o n = some l) :
    ∃ l', VRL μ l l' ∧ l'.length = n ∧ ∀ (j : Nat) (v : Value), l'[j]? = some v → w.cell? ((⟨b, p + o, none⟩ : Addr).add j) = some v := by
  unfold Hp.rd at hl
  split at hl
  · rename_i vs hv
    obtain ⟨c, ty, lo, hi, h1, h2, h3, h4, h5⟩ := hr.obj k b p s _ hk hv
    obtain ⟨l', g1, g2, g3⟩ := read_ok h5 hl
    exact ⟨l', g1, g2, fun j v e => by rw [addA, cell_of h1]; exact g3 j v e⟩
  · rename_i vs hv
    obtain ⟨c, ty, fr, h1, h5⟩ := hr.obj k b p s _ hk hv
    obtain ⟨l', g1, g2, g3⟩ := read_ok h5 hl
    exact ⟨l', g1, g2, fun j v e => by rw [addA, cell_of h1]; exact g3 j v e⟩
  · cases hl

theorem run_underlying (t : TypeId) {d : TypeDesc} (hd : P.underlying t = some d) : (underlying t).run P w = .ok d w := by
  simp [underlying, program, Sem.run, hd]
theorem run_size (t : TypeId) {n : Nat} (hn : size P t = some n) : (sizeOf t).run P w = .ok n w := by
  unfold size at hn
  split at hn
  · rename_i i hi; simp at hn; simp [sizeOf, typeInfo, program, Sem.run, hi, hn]
  · cases hn
theorem run_isAgg (t : TypeId) {b : Bool} (hb : agg P t = some b) : (isAgg t).run P w = .ok b w := by
  unfold agg at hb
  split at hb
  · rename_i fs hd; simp at hb; subst hb; simp [isAgg, run_underlying t hd]
  · rename_i x y hd; simp at hb; subst hb; simp [isAgg, run_underlying t hd]
  · rename_i d h1 h2 hd
    simp at hb; subst hb
    simp only [isAgg, Sem.run_bind, run_underlying t hd, Result.andThen_ok]
    cases d <;> first | rfl | exact absurd hd (h1 _) | exact absurd hd (h2 _ _)
  · cases hb
theorem run_zero (t : TypeId) {z : Value} (hz : zero P t = some z) : (zeroValue t).run P w = .ok z w ∧ constOk z = true := by
  unfold zero at hz
  split at hz
  · rename_i i hi
    split at hz
    · rename_i z' hz'
      cases hc : constOk z' with
      | false => rw [hc] at hz; cases hz
      | true =>
        rw [hc] at hz; simp at hz; subst hz
        exact ⟨by simp [zeroValue, typeInfo, program, Sem.run, hi, hz'], hc⟩
    · cases hz
  · cases hz

theorem ld_ok (hr : HR B μ h.n h.t.get w) {t : TypeId} {k o b p s : Nat} {v : Value} (hk : μ k = some (b, p, s)) (hv : ldAt P h t k o = some v) :
    ∃ v', (loadVar t ⟨b, p + o, none⟩).run P w = .ok v' w ∧ VR μ v v' := by
  unfold ldAt at hv
  split at hv
  · rename_i hag
    split at hv
    · rename_i n hn
      split at hv
      · rename_i l hl
        simp at hv; subst hv
        obtain ⟨l', g1, g2, g3⟩ := rd_ok hr hk hl
        refine ⟨.agg l'.toArray, ?_, .agg (by simpa using g1)⟩
        have := run_loadCells_list (P := P) w ⟨b, p + o, none⟩ l' g3
        rw [g2] at this
        simp [loadVar, run_isAgg t hag, run_size t hn, this]
      · cases hv
    · cases hv
  · rename_i hag
    split at hv
    · rename_i u hl
      simp at hv; subst hv
      obtain ⟨l', g1, g2, g3⟩ := rd_ok hr hk hl
      cases g1 with
      | cons hu ht =>
        cases ht
        rename_i u'
        refine ⟨u', ?_, hu⟩
        have := g3 0 u' rfl
        rw [addA] at this
        simp at this
        simp [loadVar, run_isAgg t hag, load, Sem.run, this]
    · cases hv
  · cases hv
end
end Cx
end Go.Proofs.YtfigbldiffjmbaaGreatDoor
