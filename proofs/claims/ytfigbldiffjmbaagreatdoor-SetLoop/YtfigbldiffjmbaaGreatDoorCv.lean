/- Closed runs: stores, and appending. -/
import Derived.Test.YtfigbldiffjmbaaGreatDoorCu
namespace Go.Proofs.YtfigbldiffjmbaaGreatDoor
set_option linter.unusedVariables false
namespace Cx
open Go

theorem setCell_block {w : World} {b o : Nat} {c : Array Value} {ty : TypeId} {fr : Nat × Nat} (hb : w.heap[b]? = some (.cells c ty fr)) (v : Value) : (w.setCell ⟨b, o, none⟩ v).heap[b]? = some (.cells (c.setIfInBounds o v) ty fr) := by
  simp [World.setCell, Array.getElem?_modify, hb]
theorem setCell_other {w : World} {b b' o : Nat} (hne : b' ≠ b) (v : Value) : (w.setCell ⟨b, o, none⟩ v).heap[b']? = w.heap[b']? := by
  simp [World.setCell, Array.getElem?_modify, Ne.symm hne]
theorem setCells_block : ∀ (vs : List Value) (o : Nat) (w : World) (b : Nat) (c : Array Value) (ty : TypeId) (fr : Nat × Nat), w.heap[b]? = some (.cells c ty fr) →
    ∃ c', (w.setCells b o vs).heap[b]? = some (.cells c' ty fr) ∧ c'.size = c.size ∧ (∀ i, i < vs.length → o + i < c.size → c'[o + i]? = vs[i]?) ∧ (∀ i, (i < o ∨ o + vs.length ≤ i) → c'[i]? = c[i]?)
  | [], o, w, b, c, ty, fr, hb => ⟨c, hb, rfl, fun i hi => by simp at hi, fun _ _ => rfl⟩
  | v :: r, o, w, b, c, ty, fr, hb => by
    obtain ⟨c', h1, h2, h3, h4⟩ := setCells_block r (o + 1) _ b _ ty fr (setCell_block (o := o) hb v)
    refine ⟨c', h1, by simpa using h2, ?_, ?_⟩
    · intro i hi hlt
      cases i with
      | zero =>
        rw [Nat.add_zero, h4 o (by omega)]
        simp at hlt
        simp [hlt]
      | succ i =>
        have := h3 i (by simpa using hi) (by simp; omega)
        rw [show o + (i + 1) = o + 1 + i by omega, this]; simp
    · intro i hi
      simp at hi
      rw [h4 i (by omega), Array.getElem?_setIfInBounds_ne (by omega)]
theorem setCells_other : ∀ (vs : List Value) (o : Nat) (w : World) (b b' : Nat), b' ≠ b → (w.setCells b o vs).heap[b']? = w.heap[b']?
  | [], _, _, _, _, _ => rfl
  | v :: r, o, w, b, b', hne => by rw [World.setCells, setCells_other r _ _ _ _ hne, setCell_other hne]
theorem setCells_rest : ∀ (vs : List Value) (o : Nat) (w : World) (b : Nat), (w.setCells b o vs).heap.size = w.heap.size ∧ (w.setCells b o vs).os = w.os ∧ (w.setCells b o vs).tape = w.tape ∧ (w.setCells b o vs).output = w.output
  | [], _, _, _ => ⟨rfl, rfl, rfl, rfl⟩
  | v :: r, o, w, b => by
    obtain ⟨h1, h2, h3, h4⟩ := setCells_rest r (o + 1) (w.setCell ⟨b, o, none⟩ v) b
    exact ⟨by rw [World.setCells, h1]; simp [World.setCell], h2, h3, h4⟩

theorem VR.one {μ : Mu} {v v' : Value} (h : VR μ v v') (hs : one v = true) : v'.oneCell' = true := by
  cases h <;> first | rfl | (simp [Cx.one] at hs)
theorem VRL.one {μ : Mu} {l l' : List Value} (h : VRL μ l l') (hs : l.all Cx.one = true) : ∀ v ∈ l', v.oneCell' = true := by
  induction l generalizing l' with
  | nil => cases h; simp
  | cons v l ih =>
    cases h with
    | cons h t =>
      simp at hs
      intro u hu
      rcases List.mem_cons.1 hu with e | e
      · subst e; exact h.one hs.1
      · exact ih t (by simpa using hs.2) u e

section
variable {P : Program} {B : Nat} {μ : Mu} {h : Hp} {w : World}

theorem wr_ok (hr : HR B μ h.n h.t.get w) {k o b p s : Nat} {vs vs' : List Value} {h' : Hp} (hk : μ k = some (b, p, s)) (hw : h.wr k o vs = some h') (hv : VRL μ vs vs') :
    ∃ w', (storeCells ⟨b, p + o, none⟩ vs' 0).run P w = .ok () w' ∧ Good B μ h w μ h' w' := by
  unfold Hp.wr at hw
  split at hw
  · rename_i us hu
    cases ha : vs.all one with
    | false => rw [ha] at hw; cases hw
    | true =>
      rw [ha] at hw
      simp only [cond_true] at hw
      split at hw
      · rename_i q hq
        simp at hw; subst hw
        obtain ⟨c, ty, lo, hi, h1, h2, h3, h4, h5⟩ := hr.obj k b p s _ hk hu
        obtain ⟨g1, g2, g3, g4⟩ := over_get hq
        have hlen := hv.length
        refine ⟨w.setCells b (p + o) vs', ?_, ?_⟩
        · have := run_storeCells_cells (P := P) b (p + o) vs' 0 w (fun j hj => ?_) (fun j hj => ?_) (hv.one ha)
          · simpa using this
          · rw [cell_of h1, Nat.add_zero, Array.getElem?_eq_getElem (by omega)]; rfl
          · rw [frozen_of h1, Nat.add_zero]
            have := h4.2 (p + o + j) (by omega)
            simpa using this
        · obtain ⟨c', k1, k2, k3, k4⟩ := setCells_block vs' (p + o) w b c ty (lo, hi) h1
          obtain ⟨r1, r2, r3, r4⟩ := setCells_rest vs' (p + o) w b
          refine set_ok hr hk hu rfl rfl rfl r2 r3 r4 r1 (fun b' hne => setCells_other vs' _ w b b' hne) ?_
          refine ⟨c', ty, lo, hi, k1, by omega, by omega, ⟨h4.1, fun i hi' => h4.2 i (by omega)⟩, fun i v e => ?_⟩
          by_cases hin : o ≤ i ∧ i < o + vs.length
          · obtain ⟨j, rfl⟩ : ∃ j, i = o + j := ⟨i - o, by omega⟩
            rw [g3 j (by omega)] at e
            obtain ⟨v', e1, e2⟩ := hv.get j v e
            refine ⟨v', ?_, e2⟩
            rw [← Nat.add_assoc, k3 j (by omega) (by omega)]; exact e1
          · rw [g4 i (by omega)] at e
            obtain ⟨v', e1, e2⟩ := h5 i v e
            exact ⟨v', by rw [k4 (p + i) (by omega)]; exact e1, e2⟩
      · cases hw
  · cases hw

/-- a row taken over by another one: in its own cells, and those behind it -/
theorem take_ok (hr : HR B μ h.n h.t.get w) {k b p s o m : Nat} {us q : List Value} {w' : World} (hk : μ k = some (b, p, s)) (hu : h.t.get k = some (.cells us))
    (hos : w'.os = w.os) (ht : w'.tape = w.tape) (hout : w'.output = w.output) (hsz : w'.heap.size = w.heap.size) (hother : ∀ b', b' ≠ b → w'.heap[b']? = w.heap[b']?)
    (hm : o + m ≤ s) (ho : ∀ μ', Mu.le μ μ' → OR μ' w' b (p + o) m (.cells q)) :
    Good B μ h w (μ.add h.n (b, p + o, m)) ((h.set k .dead).new (.cells q)) w' := by
  have hkn := (hr.lt k b p s hk).1
  have hle : Mu.le μ (μ.add h.n (b, p + o, m)) := Mu.add_le fun y e => by have := hr.dom _ _ e; omega
  have hlow := set_low h k .dead
  have hget : ∀ j, ((h.set k .dead).new (.cells q)).t.get j = if j = h.n then some (.cells q) else if j = k then some .dead else h.t.get j := fun j => by
    show (T.put _ _ _).get j = _
    rw [T.get_put]
    have : (h.set k .dead).n = h.n := rfl
    rw [this]
    by_cases hj : j = h.n
    · simp [hj]
    · simp only [hj, if_false]; exact set_get h k .dead j
  refine ⟨⟨?_, ?_, ?_, ?_⟩, ⟨hle, ?_, Nat.le_succ _, hlow.1, ?_, ?_, hos, ht, hout, by rw [hsz]; exact Nat.le_refl _, ?_, ?_⟩⟩
  · intro j b' p' s' e
    unfold Mu.add at e
    by_cases hj : j = h.n
    · simp [hj] at e; obtain ⟨rfl, rfl, rfl⟩ := e; exact ⟨by subst hj; exact Nat.lt_succ_self _, by rw [hsz]; exact (hr.lt k _ p s hk).2⟩
    · simp [hj] at e; have := hr.lt j b' p' s' e; exact ⟨Nat.lt_succ_of_lt this.1, by rw [hsz]; exact this.2⟩
  · intro j b' p' s' o' e1 e2
    rw [hget] at e2
    unfold Mu.add at e1
    by_cases hj : j = h.n
    · simp [hj] at e1 e2; obtain ⟨rfl, rfl, rfl⟩ := e1; subst e2; exact ho _ hle
    · simp [hj] at e1 e2
      by_cases hjk : j = k
      · simp [hjk] at e2; subst e2; trivial
      · simp [hjk] at e2
        by_cases hb : b' = b
        · subst hb
          by_cases hl : o'.live = true
          · exact absurd (hr.inj j k b' p' s' p s o' _ e1 hk e2 hu hl rfl) hjk
          · cases o' <;> first | trivial | exact absurd rfl hl
        · exact ((hr.obj j b' p' s' o' e1 e2).mono hle).same (hother b' hb)
  · intro j j' b' p' s' p'' s'' o1 o2 e1 e2 e3 e4 l1 l2
    rw [hget] at e3 e4
    unfold Mu.add at e1 e2
    have key : ∀ i p3 s3 o3, i ≠ h.n → μ i = some (b, p3, s3) → (if i = k then some LObj.dead else h.t.get i) = some o3 → o3.live = true → False := fun i p3 s3 o3 hi f1 f2 f3 => by
      by_cases hik : i = k
      · simp [hik] at f2; subst f2; cases f3
      · simp [hik] at f2; exact hik (hr.inj i k b p3 s3 p s o3 _ f1 hk f2 hu f3 rfl)
    by_cases hj : j = h.n
    · by_cases hj' : j' = h.n
      · rw [hj, hj']
      · simp [hj] at e1; simp [hj'] at e2 e4; obtain ⟨rfl, _⟩ := e1; exact (key j' _ _ o2 hj' e2 e4 l2).elim
    · by_cases hj' : j' = h.n
      · simp [hj'] at e2; simp [hj] at e1 e3; obtain ⟨rfl, _⟩ := e2; exact (key j _ _ o1 hj e1 e3 l1).elim
      · simp [hj] at e1 e3; simp [hj'] at e2 e4
        by_cases hjk : j = k
        · simp [hjk] at e3; subst e3; cases l1
        · by_cases hjk' : j' = k
          · simp [hjk'] at e4; subst e4; cases l2
          · simp [hjk] at e3; simp [hjk'] at e4; exact hr.inj j j' b' p' s' p'' s'' o1 o2 e1 e2 e3 e4 l1 l2
  · intro j b' p' s' o' e1 e2 l
    rw [hget] at e2
    unfold Mu.add at e1
    by_cases hj : j = h.n
    · simp [hj] at e1; obtain ⟨rfl, _⟩ := e1
      rcases hr.own k _ p s _ hk hu rfl with h1 | h1
      · cases h1
      · exact .inr h1
    · simp [hj] at e1 e2
      by_cases hjk : j = k
      · simp [hjk] at e2; subst e2; cases l
      · simp [hjk] at e2; exact hr.own j b' p' s' o' e1 e2 l
  · intro j hj
    have : j ≠ h.n := by omega
    simp [Mu.add, this]
  · intro j hj hl
    have hl' : j < (h.set k .dead).low := hl
    have h1 : j ≠ h.n := by omega
    have h2 : j ≠ k := by omega
    rw [hget]; simp [h1, h2]
  · intro j o' hj e hl
    have h1 : j ≠ h.n := by omega
    rw [hget] at e; simp [h1] at e
    by_cases hjk : j = k
    · simp [hjk] at e; subst e; cases hl
    · simp [hjk] at e; exact ⟨o', e, hl, rfl⟩
  · intro b' hb' hno
    refine hother b' fun hbb => ?_
    subst hbb
    rcases hno k p s _ hk hu rfl with hh | hh
    · cases hh
    · have hh' : k < (h.set k .dead).low := hh
      omega
  · intro j b' p' s' hj e
    unfold Mu.add at e
    by_cases hj' : j = h.n
    · simp [hj'] at e; obtain ⟨rfl, _⟩ := e
      exact .inr ⟨k, p, s, _, hk, hu, rfl, rfl, hlow.2⟩
    · simp [hj'] at e; exact absurd (hr.lt j b' p' s' e).1 (by omega)
/-- a block that counts no more -/
theorem kill_ok (hr : HR B μ h.n h.t.get w) {k b p s : Nat} {o0 : LObj} (hk : μ k = some (b, p, s)) (h0 : h.t.get k = some o0) (l0 : o0.live = true) (r0 : o0.isRo = false) : Good B μ h w μ (h.set k .dead) w :=
  set_ok hr hk h0 l0 r0 rfl rfl rfl rfl rfl (fun _ _ => rfl) trivial
end
end Cx
end Go.Proofs.YtfigbldiffjmbaaGreatDoor
