/- Closed runs: stores, and appending. -/
import Derived.Test.YtkljlbilhcdjhaaGreatDoorCum
import Derived.Laws.Sem
import Derived.Laws.BytesString
import Derived.Laws.MakeOwn
namespace Go.Proofs.YtkljlbilhcdjhaaGreatDoor
set_option linter.unusedVariables false
namespace Cx
open Go

theorem setCell_block {w : World} {b o : Nat} {c : Array Value} {ty : TypeId} {fr : Nat × Nat} (hb : w.heap[b]? = some (.cells c ty fr)) (v : Value) : (w.setCell ⟨b, o, none⟩ v).heap[b]? = some (.cells (c.setIfInBounds o v) ty fr) := by
  simp [World.setCell, Array.getElem?_modify, hb]
theorem setCell_other {w : World} {b b' o : Nat} (hne : b' ≠ b) (v : Value) : (w.setCell ⟨b, o, none⟩ v).heap[b']? = w.heap[b']? := by
  simp [World.setCell, Array.getElem?_modify, Ne.symm hne]
theorem setCells_block : ∀ (vs : List Value) (o : Nat) (w : World) (b : Nat) (c : Array Value) (ty : TypeId) (fr : Nat × Nat), w.heap[b]? = some (.cells c ty fr) →
    ∃ c', (w.setCells b o vs).heap[b]? = some (.cells c' ty fr) ∧ c'.size = c.size ∧ (∀ i, i < vs.length → o + i < c.size → c'[o + i]? = vs[i]?) ∧ (∀ i, (i < o ∨ o + vs.length ≤ i) → c'[i]? = c[i]?)
  | [], o, w, b, c, ty, fr, hb => ⟨c, hb, rfl, fun i hi => by simp at hi, fun _ _ => rfl⟩
  | v :: r, o, w, b, c, ty, fr, hb => by
    obtain ⟨c', h1, h2, h3, h4⟩ := setCells_block r (o + 1) _ b _ ty fr (setCell_block (o := o) hb v)
    refine ⟨c', h1, by simpa using h2, ?_, ?_⟩
    · intro i hi hlt
      cases i with
      | zero =>
        rw [Nat.add_zero, h4 o (by omega)]
        simp at hlt
        simp [hlt]
      | succ i =>
        have := h3 i (by simpa using hi) (by simp; omega)
        rw [show o + (i + 1) = o + 1 + i by omega, this]; simp
    · intro i hi
      simp at hi
      rw [h4 i (by omega), Array.getElem?_setIfInBounds_ne (by omega)]
theorem setCells_other : ∀ (vs : List Value) (o : Nat) (w : World) (b b' : Nat), b' ≠ b → (w.setCells b o vs).heap[b']? = w.heap[b']?
  | [], _, _, _, _, _ => rfl
  | v :: r, o, w, b, b', hne => by rw [World.setCells, setCells_other r _ _ _ _ hne, setCell_other hne]
theorem setCells_rest : ∀ (vs : List Value) (o : Nat) (w : World) (b : Nat), (w.setCells b o vs).heap.size = w.heap.size ∧ (w.setCells b o vs).os = w.os ∧ (w.setCells b o vs).tape = w.tape ∧ (w.setCells b o vs).output = w.output
  | [], _, _, _ => ⟨rfl, rfl, rfl, rfl⟩
  | v :: r, o, w, b => by
    obtain ⟨h1, h2, h3, h4⟩ := setCells_rest r (o + 1) (w.setCell ⟨b, o, none⟩ v) b
    exact ⟨by rw [World.setCells, h1]; simp [World.setCell], h2, h3, h4⟩

theorem VR.one {μ : Mu} {v v' : Value} (h : VR μ v v') (hs : one v = true) : v'.oneCell' = true := by
  cases h <;> first | rfl | (simp [Cx.one] at hs)
theorem VRL.one {μ : Mu} {l l' : List Value} (h : VRL μ l l') (hs : l.all Cx.one = true) : ∀ v ∈ l', v.oneCell' = true := by
  induction l generalizing l' with
  | nil => cases h; simp
  | cons v l ih =>
    cases h with
    | cons h t =>
      simp at hs
      intro u hu
      rcases List.mem_cons.1 hu with e | e
      · subst e; exact h.one hs.1
      · exact ih t (by simpa using hs.2) u e

section
variable {P : Program} {B : Nat} {μ : Mu} {h : Hp} {w : World}

theorem wr_ok (hr : HR B μ h.n h.t.get w) {k o b p s : Nat} {vs vs' : List Value} {h' : Hp} (hk : μ k = some (b, p, s)) (hw : h.wr k o vs = some h') (hv : VRL μ vs vs') :
    ∃ w', (storeCells ⟨b, p + o, none⟩ vs' 0).run P w = .ok () w' ∧ Good B μ h w μ h' w' := by
  unfold Hp.wr at hw
  split at hw
  · rename_i us hu
    cases ha : vs.all one with
    | false => rw [ha] at hw; cases hw
    | true =>
      rw [ha] at hw
      simp only [cond_true] at hw
      split at hw
      · rename_i q hq
        simp at hw; subst hw
        obtain ⟨c, ty, lo, hi, h1, h2, h3, h4, h5⟩ := hr.obj k b p s _ hk hu
        obtain ⟨g1, g2, g3, g4⟩ := over_get hq
        have hlen := hv.length
        refine ⟨w.setCells b (p + o) vs', ?_, ?_⟩
        · have := run_storeCells_cells (P := P) b (p + o) vs' 0 w (fun j hj => ?_) (fun j hj => ?_) (hv.one ha)
          · simpa using this
          · rw [cell_of h1, Nat.add_zero, Array.getElem?_eq_getElem (by omega)]; rfl
          · rw [frozen_of h1, Nat.add_zero]
            have := h4.2 (p + o + j) (by omega)
            simpa using this
        · obtain ⟨c', k1, k2, k3, k4⟩ := setCells_block vs' (p + o) w b c ty (lo, hi) h1
          obtain ⟨r1, r2, r3, r4⟩ := setCells_rest vs' (p + o) w b
          refine set_ok hr hk hu rfl rfl rfl r2 r3 r4 r1 (fun b' hne => setCells_other vs' _ w b b' hne) ?_
          refine ⟨c', ty, lo, hi, k1, by omega, by omega, ⟨h4.1, fun i hi' => h4.2 i (by omega)⟩, fun i v e => ?_⟩
          by_cases hin : o ≤ i ∧ i < o + vs.length
          · obtain ⟨j, rfl⟩ : ∃ j, i = o + j := ⟨i - o, by omega⟩
            rw [g3 j (by omega)] at e
            obtain ⟨v', e1, e2⟩ := hv.get j v e
            refine ⟨v', ?_, e2⟩
            rw [← Nat.add_assoc, k3 j (by omega) (by omega)]; exact e1
          · rw [g4 i (by omega)] at e
            obtain ⟨v', e1, e2⟩ := h5 i v e
            exact ⟨v', by rw [k4 (p + i) (by omega)]; exact e1, e2⟩
      · cases hw
  · cases hw

/-- a row taken over by another one: in its own cells, and those behind it -/
theorem take_ok (hr : HR B μ h.n h.t.get w) {k b p s o m : Nat} {us q : List Value} {w' : World} (hk : μ k = some (b, p, s)) (hu : h.t.get k = some (.cells us))
    (hos : w'.os = w.os) (ht : w'.tape = w.tape) (hout : w'.output = w.output) (hsz : w'.heap.size = w.heap.size) (hother : ∀ b', b' ≠ b → w'.heap[b']? = w.heap[b']?)
    (hm : o + m ≤ s) (ho : ∀ μ', Mu.le μ μ' → OR μ' w' b (p + o) m (.cells q)) :
    Good B μ h w (μ.add h.n (b, p + o, m)) ((h.set k .dead).new (.cells q)) w' := by
  have hkn := (hr.lt k b p s hk).1
  have hle : Mu.le μ (μ.add h.n (b, p + o, m)) := Mu.add_le fun y e => by have := hr.dom _ _ e; omega
  have hlow := set_low h k .dead
  have hget : ∀ j, ((h.set k .dead).new (.cells q)).t.get j = if j = h.n then some (.cells q) else if j = k then some .dead else h.t.get j := fun j => by
    show (T.put _ _ _).get j = _
    rw [T.get_put]
    have : (h.set k .dead).n = h.n := rfl
    rw [this]
    by_cases hj : j = h.n
    · simp [hj]
    · simp only [hj, if_false]; exact set_get h k .dead j
  refine ⟨⟨?_, ?_, ?_, ?_⟩, ⟨hle, ?_, Nat.le_succ _, hlow.1, ?_, ?_, hos, ht, hout, by rw [hsz]; exact Nat.le_refl _, ?_, ?_⟩⟩
  · intro j b' p' s' e
    unfold Mu.add at e
    by_cases hj : j = h.n
    · simp [hj] at e; obtain ⟨rfl, rfl, rfl⟩ := e; exact ⟨by subst hj; exact Nat.lt_succ_self _, by rw [hsz]; exact (hr.lt k _ p s hk).2⟩
    · simp [hj] at e; have := hr.lt j b' p' s' e; exact ⟨Nat.lt_succ_of_lt this.1, by rw [hsz]; exact this.2⟩
  · intro j b' p' s' o' e1 e2
    rw [hget] at e2
    unfold Mu.add at e1
    by_cases hj : j = h.n
    · simp [hj] at e1 e2; obtain ⟨rfl, rfl, rfl⟩ := e1; subst e2; exact ho _ hle
    · simp [hj] at e1 e2
      by_cases hjk : j = k
      · simp [hjk] at e2; subst e2; trivial
      · simp [hjk] at e2
        by_cases hb : b' = b
        · subst hb
          by_cases hl : o'.live = true
          · exact absurd (hr.inj j k b' p' s' p s o' _ e1 hk e2 hu hl rfl) hjk
          · cases o' <;> first | trivial | exact absurd rfl hl
        · exact ((hr.obj j b' p' s' o' e1 e2).mono hle).same (hother b' hb)
  · intro j j' b' p' s' p'' s'' o1 o2 e1 e2 e3 e4 l1 l2
    rw [hget] at e3 e4
    unfold Mu.add at e1 e2
    have key : ∀ i p3 s3 o3, i ≠ h.n → μ i = some (b, p3, s3) → (if i = k then some LObj.dead else h.t.get i) = some o3 → o3.live = true → False := fun i p3 s3 o3 hi f1 f2 f3 => by
      by_cases hik : i = k
      · simp [hik] at f2; subst f2; cases f3
      · simp [hik] at f2; exact hik (hr.inj i k b p3 s3 p s o3 _ f1 hk f2 hu f3 rfl)
    by_cases hj : j = h.n
    · by_cases hj' : j' = h.n
      · rw [hj, hj']
      · simp [hj] at e1; simp [hj'] at e2 e4; obtain ⟨rfl, _⟩ := e1; exact (key j' _ _ o2 hj' e2 e4 l2).elim
    · by_cases hj' : j' = h.n
      · simp [hj'] at e2; simp [hj] at e1 e3; obtain ⟨rfl, _⟩ := e2; exact (key j _ _ o1 hj e1 e3 l1).elim
      · simp [hj] at e1 e3; simp [hj'] at e2 e4
        by_cases hjk : j = k
        · simp [hjk] at e3; subst e3; cases l1
        · by_cases hjk' : j' = k
          · simp [hjk'] at e4; subst e4; cases l2
          · simp [hjk] at e3; simp [hjk'] at e4; exact hr.inj j j' b' p' s' p'' s'' o1 o2 e1 e2 e3 e4 l1 l2
  · intro j b' p' s' o' e1 e2 l
    rw [hget] at e2
    unfold Mu.add at e1
    by_cases hj : j = h.n
    · simp [hj] at e1; obtain ⟨rfl, _⟩ := e1
      rcases hr.own k _ p s _ hk hu rfl with h1 | h1
      · cases h1
      · exact .inr h1
    · simp [hj] at e1 e2
      by_cases hjk : j = k
      · simp [hjk] at e2; subst e2; cases l
      · simp [hjk] at e2; exact hr.own j b' p' s' o' e1 e2 l
  · intro j hj
    have : j ≠ h.n := by omega
    simp [Mu.add, this]
  · intro j hj hl
    have hl' : j < (h.set k .dead).low := hl
    have h1 : j ≠ h.n := by omega
    have h2 : j ≠ k := by omega
    rw [hget]; simp [h1, h2]
  · intro j o' hj e hl
    have h1 : j ≠ h.n := by omega
    rw [hget] at e; simp [h1] at e
    by_cases hjk : j = k
    · simp [hjk] at e; subst e; cases hl
    · simp [hjk] at e; exact ⟨o', e, hl, rfl⟩
  · intro b' hb' hno
    refine hother b' fun hbb => ?_
    subst hbb
    rcases hno k p s _ hk hu rfl with hh | hh
    · cases hh
    · have hh' : k < (h.set k .dead).low := hh
      omega
  · intro j b' p' s' hj e
    unfold Mu.add at e
    by_cases hj' : j = h.n
    · simp [hj'] at e; obtain ⟨rfl, _⟩ := e
      exact .inr ⟨k, p, s, _, hk, hu, rfl, rfl, hlow.2⟩
    · simp [hj'] at e; exact absurd (hr.lt j b' p' s' e).1 (by omega)
/-- a block that counts no more -/
theorem kill_ok (hr : HR B μ h.n h.t.get w) {k b p s : Nat} {o0 : LObj} (hk : μ k = some (b, p, s)) (h0 : h.t.get k = some o0) (l0 : o0.live = true) (r0 : o0.isRo = false) : Good B μ h w μ (h.set k .dead) w :=
  set_ok hr hk h0 l0 r0 rfl rfl rfl rfl rfl (fun _ _ => rfl) trivial
end
end Cx
end Go.Proofs.YtkljlbilhcdjhaaGreatDoor
namespace Go.Proofs.YtkljlbilhcdjhaaGreatDoor
namespace Cx
open Go

theorem pureRun_ok {α : Type} {P : Program} : ∀ (s : Sem α) {a : α}, pureRun P s = some a → ∀ w, s.run P w = .ok a w
  | .pure a, b, h, w => by simp [pureRun] at h; subst h; rfl
  | .program k, b, h, w => by
    have h' : pureRun P (k P) = some b := h
    exact pureRun_ok (k P) h' w
  | .mark m k, b, h, w => by
    have h' : pureRun P k = some b := h
    exact pureRun_ok k h' w
  | .load _ _ _, _, h, _ => by simp [pureRun] at h
  | .store _ _ _ _, _, h, _ => by simp [pureRun] at h
  | .new _ _, _, h, _ => by simp [pureRun] at h
  | .shape _ _, _, h, _ => by simp [pureRun] at h
  | .freeze _ _ _, _, h, _ => by simp [pureRun] at h
  | .frozen _ _, _, h, _ => by simp [pureRun] at h
  | .getObj _ _, _, h, _ => by simp [pureRun] at h
  | .setObj _ _ _, _, h, _ => by simp [pureRun] at h
  | .choose _ _, _, h, _ => by simp [pureRun] at h
  | .sys _ _, _, h, _ => by simp [pureRun] at h
  | .halt _, _, h, _ => by simp [pureRun] at h

section
variable {P : Program} {G : GS} {B : Nat} {μ : Mu} {h : Hp} {w : World} {e : En} {a : Act}

/-- the globals lie where the model has them -/
def GR (G : GS) (μ : Mu) : Prop := ∀ g, g < G.n → ∃ s, μ g = some (g, 0, s)
theorem GR.mono {μ' : Mu} (hg : GR G μ) (hm : Mu.le μ μ') : GR G μ' := fun g hlt => let ⟨s, hs⟩ := hg g hlt; ⟨s, hm _ _ hs⟩

theorem blt_iff {n m : Nat} : Nat.blt n m = true ↔ n < m := by
  unfold Nat.blt; rw [Nat.ble_eq]; exact Iff.rfl

theorem ev_ok (hg : GR G μ) (he : TR μ e a.tmps) {x : Operand} {v : Value} (hv : ev G e x = some v) : VR μ v (a.eval x) := by
  cases x with
  | tmp t =>
    obtain ⟨v', h1, h2⟩ := he.get t v hv
    simp [Act.eval, h1]; exact h2
  | const u =>
    have hv' : cond (constOk u) (some u) none = some v := hv
    cases hc : constOk u with
    | false => rw [hc] at hv'; cases hv'
    | true => rw [hc] at hv'; simp at hv'; subst hv'; exact constOk_refl μ hc
  | global g =>
    have hv' : cond (Nat.blt g G.n) (some (Value.pointer (some ⟨g, 0, none⟩))) none = some v := hv
    cases hc : Nat.blt g G.n with
    | false => rw [hc] at hv'; cases hv'
    | true =>
      rw [hc] at hv'; simp at hv'; subst hv'
      obtain ⟨s, hs⟩ := hg g (blt_iff.1 hc)
      exact VR.ptr (o := 0) hs
  | func f =>
    have hv' : some (Value.func (.func f) #[] #[]) = some v := hv
    simp at hv'; subst hv'
    exact .func f .nil .nil
theorem evs_cons (x : Operand) (l : List Operand) : evs G e (x :: l) = (match ev G e x with
    | some v => (match evs G e l with | some l => some (v :: l) | none => none)
    | none => none) := rfl
theorem evs_ok (hg : GR G μ) (he : TR μ e a.tmps) : ∀ {l : List Operand} {vs : List Value}, evs G e l = some vs → VRL μ vs (l.map a.eval)
  | [], vs, hv => by have hv' : some ([] : List Value) = some vs := hv; simp at hv'; subst hv'; exact .nil
  | x :: l, vs, hv => by
    rw [evs_cons] at hv
    split at hv
    · rename_i v h1
      split at hv
      · rename_i q h2; simp at hv; subst hv; exact .cons (ev_ok hg he h1) (evs_ok hg he h2)
      · cases hv
    · cases hv
inductive PRL (μ : Mu) : List (Nat × Value) → List (Nat × Value) → Prop
  | nil : PRL μ [] []
  | cons {i : Nat} {v v' : Value} {l l' : List (Nat × Value)} (h : VR μ v v') (t : PRL μ l l') : PRL μ ((i, v) :: l) ((i, v') :: l')
theorem evp_cons (x : Nat × Operand) (l : List (Nat × Operand)) : evp G e (x :: l) = (match ev G e x.2 with
    | some v => (match evp G e l with | some l => some ((x.1, v) :: l) | none => none)
    | none => none) := rfl
theorem evp_ok (hg : GR G μ) (he : TR μ e a.tmps) : ∀ {l : List (Nat × Operand)} {vs : List (Nat × Value)}, evp G e l = some vs → PRL μ vs (l.map fun x => (x.1, a.eval x.2))
  | [], vs, hv => by have hv' : some ([] : List (Nat × Value)) = some vs := hv; simp at hv'; subst hv'; exact .nil
  | (i, x) :: l, vs, hv => by
    rw [evp_cons] at hv
    split at hv
    · rename_i v h1
      split at hv
      · rename_i q h2; simp at hv; subst hv; exact .cons (ev_ok hg he h1) (evp_ok hg he h2)
      · cases hv
    · cases hv

/-- An operation that gives a value: so does the model's. -/
def VOk (P : Program) (B : Nat) (μ : Mu) (h : Hp) (w : World) (s : Sem Value) (v : Value) (h' : Hp) : Prop :=
  ∃ v' w' μ', s.run P w = .ok v' w' ∧ VR μ' v v' ∧ Good B μ h w μ' h' w'
def UOk (P : Program) (B : Nat) (μ : Mu) (h : Hp) (w : World) (s : Sem Unit) (v : Value) (h' : Hp) : Prop :=
  v = undef ∧ ∃ w' μ', s.run P w = .ok () w' ∧ Good B μ h w μ' h' w'
theorem VOk.pure {s : Sem Value} {v v' : Value} (hr : HR B μ h.n h.t.get w) (hs : s.run P w = .ok v' w) (hv : VR μ v v') : VOk P B μ h w s v h := ⟨v', w, μ, hs, hv, .refl hr⟩

theorem ofV_inv {o : Option Value} {v : Value} {h' : Hp} (hh : Out.ofV h o = .value v h') : o = some v ∧ h' = h := by
  cases o with
  | none => cases hh
  | some u => simp [Out.ofV] at hh; exact ⟨by rw [hh.1], hh.2.symm⟩

/-- a new variable, or a new row -/
theorem newRow_ok (hr : HR B μ h.n h.t.get w) (hB : B ≤ w.heap.size) (t : TypeId) {vs vs' : List Value} (hv : VRL μ vs vs') (rest : List Value) :
    ∃ μ', (newRow t (vs' ++ rest).toArray).run P w = .ok ⟨w.heap.size, 0, none⟩ { w with heap := w.heap.push (.cells (vs' ++ rest).toArray t) } ∧ μ' h.n = some (w.heap.size, 0, (vs' ++ rest).length) ∧ Mu.le μ μ' ∧
      Good B μ h w μ' (h.new (.cells vs)) { w with heap := w.heap.push (.cells (vs' ++ rest).toArray t) } := by
  refine ⟨μ.add h.n (w.heap.size, 0, (vs' ++ rest).length), rfl, by simp [Mu.add], Mu.add_le fun y e => by have := hr.dom _ _ e; omega, ?_⟩
  have hle : Mu.le μ (μ.add h.n (w.heap.size, 0, (vs' ++ rest).length)) := Mu.add_le fun y e => by have := hr.dom _ _ e; omega
  refine new_ok hr hB _ _ _ rfl ?_
  refine ⟨(vs' ++ rest).toArray, t, 0, 0, by simp, by simp, by have := hv.length; simp; omega, ⟨Nat.le_refl _, fun i _ hh => by omega⟩, fun i v e => ?_⟩
  obtain ⟨v', h1, h2⟩ := hv.get i v e
  have hi := (List.getElem?_eq_some_iff.1 h1).1
  exact ⟨v', by simp [List.getElem?_append_left hi, h1], h2.mono hle⟩
theorem newVar_ok (hr : HR B μ h.n h.t.get w) (hB : B ≤ w.heap.size) (t : TypeId) {v v' : Value} (hv : VR μ v v') :
    VOk P B μ h w (do pure (.pointer (some (← newVar t v')))) (.pointer (some ⟨h.n, 0, none⟩)) (h.new (.cells v.cells.toList)) := by
  obtain ⟨μ', h1, h2, h3, h4⟩ := newRow_ok (P := P) hr hB t hv.cells []
  simp only [List.append_nil, Array.toArray_toList] at h1 h2 h4
  exact ⟨.pointer (some ⟨w.heap.size, 0, none⟩), _, μ', by simp [newVar, h1], VR.ptr (o := 0) h2, h4⟩

theorem opAlloc_ok (hr : HR B μ h.n h.t.get w) (hB : B ≤ w.heap.size) {t : TypeId} {v : Value} {h' : Hp} (hv : opAlloc P h t = .value v h') : VOk P B μ h w (Instr.alloc t true (.tuple #[])) v h' := by
  unfold opAlloc at hv
  split at hv
  · rename_i z hz
    obtain ⟨h1, h2⟩ := run_zero (w := w) t hz
    simp [outNew] at hv; obtain ⟨rfl, rfl⟩ := hv
    obtain ⟨v', w', μ', g1, g2, g3⟩ := newVar_ok (P := P) hr hB t (constOk_refl μ h2)
    exact ⟨v', w', μ', by simpa [Instr.alloc, h1] using g1, g2, g3⟩
  · cases hv
theorem opBox_ok (hr : HR B μ h.n h.t.get w) (hB : B ≤ w.heap.size) (hg : GR G μ) (he : TR μ e a.tmps) {t : TypeId} {x : Operand} {v : Value} {h' : Hp} (hv : opBox G e h x = .value v h') : VOk P B μ h w (Instr.box t (a.eval x)) v h' := by
  unfold opBox at hv
  split at hv
  · rename_i z hz
    simp [outNew] at hv; obtain ⟨rfl, rfl⟩ := hv
    exact newVar_ok (P := P) hr hB t (ev_ok hg he hz)
  · cases hv
theorem opLoad_ok (hr : HR B μ h.n h.t.get w) {t : TypeId} {p p' v : Value} (hp : VR μ p p') (hv : ld P h t p = some v) : VOk P B μ h w (Instr.loadAt t p') v h := by
  unfold ld at hv
  split at hv
  · rename_i k o
    cases hp with
    | ptr hk =>
      obtain ⟨v', h1, h2⟩ := ld_ok hr hk hv
      exact .pure hr (by simp [Instr.loadAt, Instr.sureAddr, h1]) h2
  · cases hv
theorem opStore_ok (hr : HR B μ h.n h.t.get w) (hg : GR G μ) (he : TR μ e a.tmps) {t : TypeId} {x y : Operand} {v : Value} {h' : Hp} (hv : opStore P G e h t x y = .value v h') : UOk P B μ h w (Instr.storeAt t (a.eval x) (a.eval y)) v h' := by
  unfold opStore at hv
  split at hv
  · rename_i k o u hx hy
    split at hv
    · rename_i n hn
      have hc : cond (Nat.beq u.cells.size n) (match h.wr k o u.cells.toList with | some h => Out.value undef h | none => .fail) .fail = .value v h' := hv
      rw [beqN] at hc
      by_cases hsz : u.cells.size = n
      · simp only [hsz, decide_true, cond_true] at hc
        split at hc
        · rename_i h1 hw
          simp at hc; obtain ⟨rfl, rfl⟩ := hc
          have hp := ev_ok hg he hx
          have hu := ev_ok hg he hy
          generalize hpe : a.eval x = p' at hp
          cases hp with
          | ptr hk =>
            obtain ⟨w', g1, g2⟩ := wr_ok (P := P) hr hk hw hu.cells
            have hl := hu.cells.length
            simp at hl
            exact ⟨rfl, w', μ, by simp [Instr.storeAt, Instr.sureAddr, storeVar, run_size t hn, hl, hsz, g1], g2⟩
        · cases hc
      · simp [hsz] at hc
    · cases hv
  · cases hv
theorem opPick_ok (hr : HR B μ h.n h.t.get w) (hg : GR G μ) (he : TR μ e a.tmps) {c x y : Operand} {v : Value} {h' : Hp} (hv : opPick e h c x y (ev G) = .value v h') : VOk P B μ h w (do pure (if ← asBool (a.eval c) then a.eval x else a.eval y)) v h' := by
  unfold opPick at hv
  split at hv
  · rename_i hc
    obtain ⟨h1, rfl⟩ := ofV_inv hv
    have := ev_ok hg he hc
    generalize hce : a.eval c = c' at this
    cases this
    exact .pure hr (by simp [asBool]) (ev_ok hg he h1)
  · rename_i hc
    obtain ⟨h1, rfl⟩ := ofV_inv hv
    have := ev_ok hg he hc
    generalize hce : a.eval c = c' at this
    cases this
    exact .pure hr (by simp [asBool]) (ev_ok hg he h1)
  · cases hv
theorem opFieldAddr_ok (hr : HR B μ h.n h.t.get w) (hg : GR G μ) (he : TR μ e a.tmps) {s : TypeId} {x : Operand} {f : Nat} {v : Value} {h' : Hp} (hv : opFieldAddr P G e h s x f = .value v h') : VOk P B μ h w (Instr.fieldAt s (a.eval x) f) v h' := by
  unfold opFieldAddr at hv
  split at hv
  · rename_i k o fs hx hs
    split at hv
    · rename_i fd hf
      split at hv
      · rename_i n hn
        cases hb : Nat.blt 0 n with
        | false => rw [hb] at hv; cases hv
        | true =>
          rw [hb] at hv
          have hn0 : n ≠ 0 := by have := blt_iff.1 hb; omega
          simp [outP] at hv; obtain ⟨rfl, rfl⟩ := hv
          have hp := ev_ok hg he hx
          generalize hpe : a.eval x = p' at hp
          cases hp with
          | ptr hk =>
            refine .pure hr (v' := .pointer (some ⟨_, _ + o + fd.offset, none⟩)) ?_ (by rw [Nat.add_assoc]; exact VR.ptr hk)
            simp [Instr.fieldAt, run_underlying s hs, hf, Instr.sureAddr, fieldPlace, run_size fd.type hn, hn0, addA]
      · cases hv
    · cases hv
  · cases hv
theorem opFunc_ok (hr : HR B μ h.n h.t.get w) (hg : GR G μ) (he : TR μ e a.tmps) {fn : Fn} {first captured : Array Operand} {v : Value} {h' : Hp} (hv : opFunc G e h fn first.toList captured.toList = .value v h') : VOk P B μ h w (Instr.makeFunc fn (first.map a.eval) (captured.map a.eval)) v h' := by
  unfold opFunc at hv
  split at hv
  · rename_i f x y hx hy
    simp at hv; obtain ⟨rfl, rfl⟩ := hv
    refine .pure hr rfl (.func f ?_ ?_)
    · have := evs_ok hg he hx; simpa using this
    · have := evs_ok hg he hy; simpa using this
  · cases hv
theorem opIface_ok (hr : HR B μ h.n h.t.get w) (hg : GR G μ) (he : TR μ e a.tmps) {t : TypeId} {x : Operand} {v : Value} {h' : Hp} (hv : opIface P G e h t x = .value v h') : VOk P B μ h w (Instr.makeInterface t (a.eval x)) v h' := by
  unfold opIface at hv
  split at hv
  · cases hv
  · rename_i u d hnot hx hd
    simp at hv; obtain ⟨rfl, rfl⟩ := hv
    refine .pure hr (v' := .iface t (a.eval x)) ?_ (.iface t (ev_ok hg he hx))
    simp only [Instr.makeInterface, Sem.run_bind, run_underlying t hd, Result.andThen_ok]
    cases d <;> first | rfl | exact (hnot _ rfl).elim
  · cases hv
theorem opExtract_ok (hr : HR B μ h.n h.t.get w) (hg : GR G μ) (he : TR μ e a.tmps) {t : Operand} {ix : Nat} {v : Value} {h' : Hp} (hv : opExtract G e h t ix = .value v h') : VOk P B μ h w (Instr.extract (a.eval t) ix) v h' := by
  unfold opExtract at hv
  split at hv
  · rename_i vs ht
    obtain ⟨h1, rfl⟩ := ofV_inv hv
    have hp := ev_ok hg he ht
    generalize hpe : a.eval t = p' at hp
    cases hp with
    | tuple hl =>
      rename_i a'
      obtain ⟨v', g1, g2⟩ := hl.get ix v (by simpa using h1)
      refine .pure hr ?_ g2
      have : a'[ix]? = some v' := by simpa using g1
      simp [Instr.extract, this]
  · cases hv
theorem fieldV_ok {s : TypeId} {f : Nat} {x x' v : Value} (hx : VR μ x x') (hv : fieldV P s f x = some v) : ∃ v', (Instr.field s x' f).run P w = .ok v' w ∧ VR μ v v' := by
  unfold fieldV at hv
  split at hv
  · rename_i a
    cases hx with
    | agg hl =>
      rename_i a'
      split at hv
      · rename_i fs hs
        split at hv
        · rename_i fd hf
          have hrun : ∀ u, (part fd.type a' fd.offset).run P w = .ok u w → (Instr.field s (.agg a') f).run P w = .ok u w := fun u hu => by
            simp only [Instr.field, Sem.run_bind, run_underlying s hs, Result.andThen_ok, hf, asAgg, Sem.run_pure, hu]
          unfold partV at hv
          split at hv
          · rename_i n ha hn
            split at hv
            · rename_i r hr
              simp at hv; subst hv
              obtain ⟨c1, c2, c3⟩ := cut_get hr
              have hlen := hl.length
              refine ⟨.agg (a'.extract fd.offset (fd.offset + n)), hrun _ ?_, .agg (VRL.of ?_ fun i u e => ?_)⟩
              · simp only [part, Sem.run_bind, run_isAgg fd.type ha, run_size fd.type hn, Result.andThen_ok, if_true, Sem.run_pure]
              · have h9 : a'.size = a'.toList.length := Array.length_toList.symm
                rw [Array.length_toList, Array.size_extract, c1]; omega
              · have hi : i < n := by have := (List.getElem?_eq_some_iff.1 e).1; simp at this; omega
                obtain ⟨u', g1, g2⟩ := hl.get (fd.offset + i) u (by rw [← c3 i hi]; simpa using e)
                have hlt := (List.getElem?_eq_some_iff.1 g1).1
                refine ⟨u', ?_, g2⟩
                simp only [Array.length_toList] at hlt
                simp only [Array.getElem?_toList, Array.getElem?_extract] at g1 ⊢
                rw [if_pos (by omega)]
                exact g1
            · cases hv
          · rename_i ha
            obtain ⟨u', g1, g2⟩ := hl.get fd.offset v (by simpa using hv)
            refine ⟨u', hrun _ ?_, g2⟩
            have : a'[fd.offset]? = some u' := by simpa using g1
            simp only [part, Sem.run_bind, run_isAgg fd.type ha, Result.andThen_ok, this]
            rfl
          · cases hv
        · cases hv
      · cases hv
  · cases hv
theorem opField_ok (hr : HR B μ h.n h.t.get w) (hg : GR G μ) (he : TR μ e a.tmps) {s : TypeId} {x : Operand} {f : Nat} {v : Value} {h' : Hp} (hv : opField P G e h s x f = .value v h') : VOk P B μ h w (Instr.field s (a.eval x) f) v h' := by
  unfold opField at hv
  split at hv
  · rename_i u hx
    obtain ⟨h1, rfl⟩ := ofV_inv hv
    obtain ⟨v', g1, g2⟩ := fieldV_ok (w := w) (ev_ok hg he hx) h1
    exact .pure hr g1 g2
  · cases hv
end
end Cx
end Go.Proofs.YtkljlbilhcdjhaaGreatDoor
namespace Go.Proofs.YtkljlbilhcdjhaaGreatDoor
namespace Cx
open Go

section
variable {P : Program} {G : GS} {B : Nat} {μ : Mu} {h : Hp} {w : World} {e : En} {a : Act}

/-- values written over cells, one behind the other -/
theorem foldl_set (off : Nat) : ∀ (vs : List Value) (i : Nat) (cells : Array Value), ((vs.zipIdx i).foldl (fun cs (x : Value × Nat) => cs.setIfInBounds (off + x.2) x.1) cells).size = cells.size ∧
    ∀ j, ((vs.zipIdx i).foldl (fun cs (x : Value × Nat) => cs.setIfInBounds (off + x.2) x.1) cells)[j]? = if off + i ≤ j ∧ j < off + i + vs.length ∧ j < cells.size then vs[j - (off + i)]? else cells[j]?
  | [], i, cells => ⟨rfl, fun j => by
    have : ¬ (off + i ≤ j ∧ j < off + i + ([] : List Value).length ∧ j < cells.size) := by simp; omega
    rw [if_neg this]; rfl⟩
  | v :: r, i, cells => by
    obtain ⟨h1, h2⟩ := foldl_set off r (i + 1) (cells.setIfInBounds (off + i) v)
    refine ⟨by simpa using h1, fun j => ?_⟩
    simp only [List.zipIdx_cons, List.foldl_cons]
    rw [h2 j]
    by_cases hj : j = off + i
    · subst hj
      have c1 : ¬ (off + (i + 1) ≤ off + i ∧ off + i < off + (i + 1) + r.length ∧ off + i < (cells.setIfInBounds (off + i) v).size) := by omega
      rw [if_neg c1]
      by_cases hlt : off + i < cells.size
      · simp [hlt]
      · simp [hlt]
    · by_cases hin : off + i < j ∧ j < off + i + 1 + r.length ∧ j < cells.size
      · have c1 : off + (i + 1) ≤ j ∧ j < off + (i + 1) + r.length ∧ j < (cells.setIfInBounds (off + i) v).size := by simp; omega
        have c2 : off + i ≤ j ∧ j < off + i + (v :: r).length ∧ j < cells.size := by simp; omega
        rw [if_pos c1, if_pos c2]
        rw [show j - (off + i) = (j - (off + (i + 1))) + 1 by omega]
        simp
      · have c1 : ¬ (off + (i + 1) ≤ j ∧ j < off + (i + 1) + r.length ∧ j < (cells.setIfInBounds (off + i) v).size) := by simp; omega
        have c2 : ¬ (off + i ≤ j ∧ j < off + i + (v :: r).length ∧ j < cells.size) := by simp; omega
        rw [if_neg c1, if_neg c2, Array.getElem?_setIfInBounds_ne (by omega)]

theorem fillL_cons (place : Nat → Option (Nat × Nat)) (p : Nat × Value) (ps : List (Nat × Value)) (cells : List Value) : fillL place (p :: ps) cells = (match place p.1 with
    | some q => cond (Nat.beq p.2.cells.size q.2) (match over cells q.1 p.2.cells.toList with | some r => fillL place ps r | none => none) none
    | none => none) := rfl
theorem fill_ok {place : Nat → Option (Nat × Nat)} : ∀ {ps ps' : List (Nat × Value)} (_ : PRL μ ps ps') (cells l : List Value) (cells' : Array Value), VRL μ cells cells'.toList → fillL place ps cells = some l →
    ∃ l', Instr.fill place cells' ps' = some l' ∧ VRL μ l l'.toList
  | [], _, .nil, cells, l, cells', hc, hf => by
    have hf' : some cells = some l := hf
    simp at hf'; subst hf'
    exact ⟨cells', rfl, hc⟩
  | (i, v) :: ps, (_, v') :: ps', .cons hv ht, cells, l, cells', hc, hf => by
    rw [fillL_cons] at hf
    split at hf
    · rename_i q hq
      obtain ⟨o, n⟩ := q
      rw [beqN] at hf
      by_cases hs : v.cells.size = n
      · simp only [hs, decide_true, cond_true] at hf
        split at hf
        · rename_i r hr
          obtain ⟨g1, g2, g3, g4⟩ := over_get hr
          have hvl := hv.cells.length
          have hcl := hc.length
          simp at hvl hcl g2
          obtain ⟨k1, k2⟩ := foldl_set o v'.cells.toList 0 cells'
          have hfold : v'.cells.zipIdx.foldl (fun cs (x : Value × Nat) => cs.setIfInBounds (o + x.2) x.1) cells' = (v'.cells.toList.zipIdx 0).foldl (fun cs (x : Value × Nat) => cs.setIfInBounds (o + x.2) x.1) cells' := by
            rw [← Array.foldl_toList, Array.toList_zipIdx]
          have hnew : VRL μ r (v'.cells.zipIdx.foldl (fun cs (x : Value × Nat) => cs.setIfInBounds (o + x.2) x.1) cells').toList := by
            rw [hfold]
            refine VRL.of (by simp [k1]; omega) fun j u e => ?_
            have hj : j < cells.length := by rw [← g1]; exact (List.getElem?_eq_some_iff.1 e).1
            rw [Array.getElem?_toList, k2 j]
            by_cases hin : o ≤ j ∧ j < o + v.cells.size
            · have c1 : o + 0 ≤ j ∧ j < o + 0 + v'.cells.toList.length ∧ j < cells'.size := by simp; omega
              rw [if_pos c1]
              obtain ⟨m, rfl⟩ : ∃ m, j = o + m := ⟨j - o, by omega⟩
              rw [g3 m (by simp; omega)] at e
              obtain ⟨u', e1, e2⟩ := hv.cells.get m u e
              exact ⟨u', by rw [show o + m - (o + 0) = m by omega]; exact e1, e2⟩
            · have c1 : ¬ (o + 0 ≤ j ∧ j < o + 0 + v'.cells.toList.length ∧ j < cells'.size) := by simp; omega
              rw [if_neg c1]
              rw [g4 j (by simp; omega)] at e
              obtain ⟨u', e1, e2⟩ := hc.get j u e
              exact ⟨u', by simpa using e1, e2⟩
          obtain ⟨l', m1, m2⟩ := fill_ok ht r l _ hnew hf
          refine ⟨l', ?_, m2⟩
          have n1 : ¬ (v'.cells.size ≠ n || o + v'.cells.size > cells'.size) = true := by simp; omega
          simp only [Instr.fill, hq]
          rw [if_neg n1]
          exact m1
        · cases hf
      · simp [hs] at hf
    · cases hf

theorem mapM_list {α β : Type} (f : α → Sem β) (g : α → β) : ∀ (l : List α), (∀ x ∈ l, (f x).run P w = .ok (g x) w) → (l.mapM f).run P w = .ok (l.map g) w
  | [], _ => by simp
  | x :: l, hf => by
    rw [List.mapM_cons]
    simp only [Sem.run_bind, hf x (by simp), Result.andThen_ok, mapM_list f g l fun y hy => hf y (by simp [hy])]
    rfl
theorem mapM_array {α β : Type} (fs : Array α) (f : α → Sem β) (g : α → β) (hf : ∀ x ∈ fs.toList, (f x).run P w = .ok (g x) w) : (fs.mapM f).run P w = .ok (fs.map g) w := by
  rw [Array.mapM_eq_mapM_toList, Sem.run_map, mapM_list f g fs.toList hf, Result.andThen_ok]
  congr 1
  rw [← Array.toList_map]

theorem opBuild_ok (hr : HR B μ h.n h.t.get w) (hg : GR G μ) (he : TR μ e a.tmps) {t : TypeId} {parts : Array (Nat × Operand)} {v : Value} {h' : Hp} (hv : opBuild P G e h t parts.toList = .value v h') : VOk P B μ h w (Instr.build t (parts.map fun (i, x) => (i, a.eval x))) v h' := by
  unfold opBuild at hv
  split at hv
  · rename_i z ps hz hps
    obtain ⟨z1, z2⟩ := run_zero (w := w) t hz
    have hp := evp_ok hg he hps
    have hpl : (parts.map fun (i, x) => (i, a.eval x)).toList = parts.toList.map fun x => (x.1, a.eval x.2) := by simp
    have hzz := (constOk_refl μ z2).cells
    split at hv
    · rename_i fs hd
      cases hs : sizesOk P fs with
      | false => rw [hs] at hv; cases hv
      | true =>
        rw [hs] at hv
        simp only [cond_true] at hv
        split at hv
        · rename_i l hl
          simp at hv; obtain ⟨rfl, rfl⟩ := hv
          have hsz : ∀ f ∈ fs.toList, ∃ n, size P f.type = some n := fun f hf => Option.isSome_iff_exists.1 (List.all_eq_true.1 hs f hf)
          have hmap := mapM_array (P := P) (w := w) fs (fun f => do pure (f.offset, ← sizeOf f.type)) (fun f => (f.offset, (size P f.type).getD 0)) (fun f hf => by obtain ⟨n, hn⟩ := hsz f hf; simp [run_size f.type hn, hn])
          have hplace : (fun i => (fs.map fun f => (f.offset, (size P f.type).getD 0))[i]?) = placeS P fs := by
            funext i
            unfold placeS
            cases hfi : fs[i]? with
            | none => simp [hfi]
            | some f =>
              have hmem : f ∈ fs.toList := by simpa using Array.mem_of_getElem? hfi
              obtain ⟨n, hn⟩ := hsz f hmem
              simp [hfi, hn]
          obtain ⟨l', g1, g2⟩ := fill_ok hp _ _ z.cells hzz hl
          refine .pure hr (v' := .agg l') ?_ (.agg (by simpa using g2))
          simp only [Instr.build, Sem.run_bind, z1, Result.andThen_ok, run_underlying t hd, hmap, hplace, hpl, g1]
          rfl
        · cases hv
    · rename_i x el hd
      split at hv
      · rename_i n hn
        split at hv
        · rename_i l hl
          simp at hv; obtain ⟨rfl, rfl⟩ := hv
          obtain ⟨l', g1, g2⟩ := fill_ok (place := fun i => some (i * n, n)) hp _ _ z.cells hzz hl
          refine .pure hr (v' := .agg l') ?_ (.agg (by simpa using g2))
          simp only [Instr.build, Sem.run_bind, z1, Result.andThen_ok, run_underlying t hd, run_size el hn, hpl, g1]
          rfl
        · cases hv
      · cases hv
    · cases hv
  · cases hv
end
end Cx
end Go.Proofs.YtkljlbilhcdjhaaGreatDoor
namespace Go.Proofs.YtkljlbilhcdjhaaGreatDoor
namespace Cx
open Go

section
variable {P : Program} {G : GS} {B : Nat} {μ : Mu} {h : Hp} {w : World} {e : En} {a : Act}

theorem rep_succ (z : List Value) (n : Nat) : rep z (n + 1) = z ++ rep z n := rfl
theorem rep_length (z : List Value) : ∀ n, (rep z n).length = n * z.length
  | 0 => by rw [Nat.zero_mul]; rfl
  | n + 1 => by rw [rep_succ]; simp [rep_length z n, Nat.succ_mul, Nat.add_comm]
theorem rep_get (z : List Value) (hz : 0 < z.length) : ∀ (n i : Nat), i < n * z.length → (rep z n)[i]? = z[i % z.length]?
  | 0, i, hi => by simp at hi
  | n + 1, i, hi => by
    rw [rep_succ]
    by_cases h1 : i < z.length
    · rw [List.getElem?_append_left h1, Nat.mod_eq_of_lt h1]
    · rw [List.getElem?_append_right (by omega), rep_get z hz n (i - z.length) (by rw [Nat.succ_mul] at hi; omega)]
      congr 1
      rw [Nat.mod_eq_sub_mod (by omega : i ≥ z.length)]
theorem rep_refl {z : List Value} (hz : ∀ v ∈ z, VR μ v v) : ∀ n, VRL μ (rep z n) (rep z n)
  | 0 => .nil
  | n + 1 => by rw [rep_succ]; exact (VRL.refl hz).append (rep_refl hz n)
theorem VRL.self {l : List Value} (hl : VRL μ l l) : ∀ v ∈ l, VR μ v v := by
  intro v hv
  obtain ⟨i, hi, e⟩ := List.mem_iff_getElem.1 hv
  obtain ⟨v', h1, h2⟩ := hl.get i v (by rw [List.getElem?_eq_getElem hi, e])
  rw [List.getElem?_eq_getElem hi, e] at h1
  simp at h1; subst h1; exact h2
/-- the zero cells of a row as the model makes them -/
theorem zeros_eq {z : Array Value} (hz : 0 < z.size) (n : Nat) : (Array.range (n * z.size)).map (z[· % z.size]!) = (rep z.toList n).toArray := by
  apply Array.ext_getElem?
  intro i
  by_cases hi : i < n * z.size
  · have hm : i % z.size < z.size := Nat.mod_lt _ hz
    simp [hi, rep_get z.toList (by simpa using hz) n i (by simpa using hi), hm, getElem!_pos]
  · have h1 : (rep z.toList n).length ≤ i := by rw [rep_length]; simp; omega
    simp [hi, List.getElem?_eq_none h1]

theorem opBuildSlice_ok (hr : HR B μ h.n h.t.get w) (hB : B ≤ w.heap.size) (hg : GR G μ) (he : TR μ e a.tmps) {t : TypeId} {len : Nat} {parts : Array (Nat × Operand)} {v : Value} {h' : Hp} (hv : opBuildSlice P G e h t len parts.toList = .value v h') : VOk P B μ h w (Instr.buildSlice t len (parts.map fun (i, x) => (i, a.eval x))) v h' := by
  unfold opBuildSlice at hv
  split at hv
  · rename_i el ps hel hps
    split at hv
    · rename_i n z hn hz
      cases hc : (Nat.beq z.cells.size n && Nat.blt 0 n && Nat.ble (Nat.mul len n) 65536) with
      | false => rw [hc] at hv; cases hv
      | true =>
        rw [hc] at hv
        simp only [cond_true] at hv
        simp only [Bool.and_eq_true, blt_iff, beqN, decide_eq_true_eq] at hc
        obtain ⟨⟨c1, c2⟩, c3⟩ := hc
        have c3' : len * n ≤ 65536 := Nat.le_of_ble_eq_true c3
        split at hv
        · rename_i l hl
          simp [outRow] at hv; obtain ⟨rfl, rfl⟩ := hv
          obtain ⟨z1, z2⟩ := run_zero (w := w) el hz
          have hd : P.underlying t = some (.slice el) := by
            unfold elemOf at hel; split at hel
            · rename_i x hx; simp at hel; rw [hx, hel]
            · cases hel
          have hp := evp_ok hg he hps
          have hpl : (parts.map fun (i, x) => (i, a.eval x)).toList = parts.toList.map fun x => (x.1, a.eval x.2) := by simp
          have hrep : VRL μ (rep z.cells.toList len) (rep z.cells.toList len) := rep_refl (VRL.self (constOk_refl μ z2).cells) len
          obtain ⟨l', g1, g2⟩ := fill_ok (place := fun i => some (i * n, n)) hp _ _ (rep z.cells.toList len).toArray hrep hl
          obtain ⟨μ', k1, k2, k3, k4⟩ := newRow_ok (P := P) hr hB el g2 []
          simp only [List.append_nil, Array.toArray_toList] at k1 k2 k4
          have hlen : l'.size = len * n := by
            have q1 := g2.length
            have : ∀ (ps : List (Nat × Value)) (cells l : List Value), fillL (fun i => some (Nat.mul i n, n)) ps cells = some l → l.length = cells.length := by
              intro ps
              induction ps with
              | nil => intro cells l hf; have hf' : some cells = some l := hf; simp at hf'; rw [hf']
              | cons p ps ih =>
                intro cells l hf
                rw [fillL_cons] at hf
                simp only at hf
                cases hb : Nat.beq p.2.cells.size n with
                | false => rw [hb] at hf; cases hf
                | true =>
                  rw [hb] at hf; simp only [cond_true] at hf
                  split at hf
                  · rename_i r hr'; rw [ih _ _ hf, (over_get hr').1]
                  · cases hf
            have q2 := this _ _ _ hl
            rw [rep_length] at q2
            simp only [Array.length_toList] at q1 q2
            rw [q1, q2, c1]
          refine ⟨.slice (some ⟨w.heap.size, 0, none⟩) len len, _, μ', ?_, ?_, k4⟩
          · have n1 : ¬ len * n > 2 ^ 24 := by omega
            have hcells : (Array.range (len * n)).map (z.cells[· % z.cells.size]!) = (rep z.cells.toList len).toArray := by rw [← c1]; exact zeros_eq (by omega) len
            simp only [Instr.buildSlice, Sem.run_bind, run_underlying t hd, Result.andThen_ok, run_size el hn]
            rw [if_neg n1]
            by_cases h0 : len * n = 0
            · have hl0 : len = 0 := by rcases Nat.mul_eq_zero.1 h0 with h | h <;> omega
              subst hl0
              have e1 : ∀ (q : Array Value), (Array.range 0).map (q[· % q.size]!) = #[] := fun q => by simp
              have e0 : (rep z.cells.toList 0).toArray = #[] := rfl
              rw [e0] at g1
              simp only [Nat.zero_mul, if_true, Sem.run_pure, Result.andThen_ok, e1, hpl, g1, Sem.run_bind, k1]
            · simp only [h0, if_false, Sem.run_bind, z1, Result.andThen_ok, Sem.run_pure, hcells, hpl, g1, k1]
          · exact VR.slice (μ := μ') (k := h.n) (o := 0) (n := len) (es := n) (cap := len) k2 (Nat.le_refl _) (.inr ⟨rfl, by simp [hlen]⟩) c2
        · cases hv
    · cases hv
  · cases hv

theorem scalar_guard {op : BinOp} {t : TypeId} {x y : Operand} {u v : Value} (hu : scalar u = true) : (eqGuard op t x y u v).run P w = .ok () w := by
  unfold eqGuard
  cases op <;> (cases u <;> first | rfl | (simp [scalar] at hu; done) | (cases v <;> rfl))
theorem scalar_VR {v : Value} (hs : scalar v = true) : VR μ v v := by
  cases v <;> first | (simp [scalar] at hs; done) | constructor
theorem pureS_ok {s : Sem Value} {v : Value} (hs : pureS P s = some v) : s.run P w = .ok v w ∧ VR μ v v := by
  unfold pureS at hs
  split at hs
  · rename_i u hu
    cases hc : scalar u with
    | false => rw [hc] at hs; cases hs
    | true => rw [hc] at hs; simp at hs; subst hs; exact ⟨pureRun_ok _ hu w, scalar_VR hc⟩
  · cases hs
theorem bin_run {op : BinOp} {t : TypeId} {x y : Operand} {u u' v : Value} (h1 : (eqGuard op t x y u u').run P w = .ok () w) (h2 : (binOp op t u u').run P w = .ok v w) : (do eqGuard op t x y u u'; binOp op t u u' : Sem Value).run P w = .ok v w := by
  simp only [Sem.run_bind, h1, Result.andThen_ok, h2]
theorem max_succ : Op.maxDepth = 9999 + 1 := rfl
theorem equal_of {t : TypeId} {d : TypeDesc} {u u' : Value} {c r : Bool} (hd : P.underlying t = some d) (hn : nilEq c d u u' = some r) : (Op.equal t u u').run P w = .ok r w := by
  unfold Op.equal
  rw [max_succ]
  unfold nilEq at hn
  split at hn
  all_goals first
    | (simp at hn; subst hn; rw [Op.equalIn]; simp only [Sem.run_bind, run_underlying t hd, Result.andThen_ok]; rfl)
    | (cases c <;> simp at hn; subst hn; rw [Op.equalIn]; simp only [Sem.run_bind, run_underlying t hd, Result.andThen_ok]; rfl)
    | cases hn
theorem nil_guard {op : BinOp} {t : TypeId} {x y : Operand} {d : TypeDesc} {u u' : Value} {r : Bool} (hn : nilEq (isConst x || isConst y) d u u' = some r) : (eqGuard op t x y u u').run P w = .ok () w := by
  unfold nilEq at hn
  split at hn
  all_goals first
    | (cases op <;> rfl)
    | (cases hc : (isConst x || isConst y)
       · rw [hc] at hn; cases hn
       · cases op <;> first | rfl | (cases x <;> cases y <;> first | rfl | (simp [isConst] at hc)))
    | cases hn
theorem bin_eql {t : TypeId} {d : TypeDesc} {u u' : Value} {c r : Bool} (hd : P.underlying t = some d) (hn : nilEq c d u u' = some r) : (binOp .eql t u u').run P w = .ok (.bool r) w := by
  have he := equal_of (w := w) hd hn
  have : binOp .eql t u u' = (do pure (.bool (← Op.equal t u u')) : Sem Value) := by
    unfold nilEq at hn
    split at hn <;> first | rfl | cases hn
  rw [this]
  simp only [Sem.run_bind, he, Result.andThen_ok, Sem.run_pure]
theorem bin_neq {t : TypeId} {d : TypeDesc} {u u' : Value} {c r : Bool} (hd : P.underlying t = some d) (hn : nilEq c d u u' = some r) : (binOp .neq t u u').run P w = .ok (.bool !r) w := by
  have he := equal_of (w := w) hd hn
  have : binOp .neq t u u' = (do pure (.bool (!(← Op.equal t u u'))) : Sem Value) := by
    unfold nilEq at hn
    split at hn <;> first | rfl | cases hn
  rw [this]
  simp only [Sem.run_bind, he, Result.andThen_ok, Sem.run_pure]
theorem nilEq_VR {c r : Bool} {d : TypeDesc} {u u2 x' y' : Value} (r1 : VR μ u x') (r2 : VR μ u2 y') (hn : nilEq c d u u2 = some r) : nilEq c d x' y' = some r := by
  unfold nilEq at hn
  split at hn
  all_goals first
    | (cases r1 <;> cases r2 <;> exact hn)
    | cases hn
theorem opBin_ok (hr : HR B μ h.n h.t.get w) (hg : GR G μ) (he : TR μ e a.tmps) {op : BinOp} {t : TypeId} {x y : Operand} {v : Value} {h' : Hp} (hv : opBin P G e h op t x y = .value v h') : VOk P B μ h w (do eqGuard op t x y (a.eval x) (a.eval y); binOp op t (a.eval x) (a.eval y)) v h' := by
  unfold opBin at hv
  split at hv
  · rename_i u u2 hx hy
    obtain ⟨h1, rfl⟩ := ofV_inv hv
    unfold binV at h1
    have r1 := ev_ok hg he hx
    have r2 := ev_ok hg he hy
    generalize a.eval x = x' at r1
    generalize a.eval y = y' at r2
    cases hs : (scalar u && scalar u2) with
    | true =>
      rw [hs] at h1
      simp only [cond_true] at h1
      simp only [Bool.and_eq_true] at hs
      rw [r1.scalar hs.1, r2.scalar hs.2]
      obtain ⟨p1, p2⟩ := pureS_ok (w := w) (μ := μ) h1
      exact .pure hr (bin_run (scalar_guard hs.1) p1) p2
    | false =>
      rw [hs] at h1
      simp only [cond_false] at h1
      unfold binNil at h1
      split at h1
      · rename_i d hd
        split at h1
        · rename_i r hn
          have hn' := nilEq_VR r1 r2 hn
          split at h1
          · simp at h1; subst h1
            exact .pure hr (bin_run (nil_guard hn') (bin_eql hd hn')) (.bool _)
          · simp at h1; subst h1
            exact .pure hr (bin_run (nil_guard hn') (bin_neq hd hn')) (.bool _)
          · cases h1
        · cases h1
      · cases h1
  · cases hv
end
end Cx
end Go.Proofs.YtkljlbilhcdjhaaGreatDoor
namespace Go.Proofs.YtkljlbilhcdjhaaGreatDoor
namespace Cx
open Go

section
variable {P : Program} {G : GS} {B : Nat} {μ : Mu} {h : Hp} {w : World} {e : En} {a : Act}

theorem opUn_ok (hr : HR B μ h.n h.t.get w) (hg : GR G μ) (he : TR μ e a.tmps) {op : UnOp} {x : Operand} {v : Value} {h' : Hp} (hv : opUn P G e h op x = .value v h') : VOk P B μ h w (Op.unary op (a.eval x)) v h' := by
  unfold opUn at hv
  split at hv
  · rename_i u hx
    cases hs : scalar u with
    | false => rw [hs] at hv; cases hv
    | true =>
      rw [hs] at hv
      obtain ⟨h1, rfl⟩ := ofV_inv hv
      obtain ⟨p1, p2⟩ := pureS_ok (w := w) (μ := μ) h1
      rw [(ev_ok hg he hx).scalar hs]
      exact .pure hr p1 p2
  · cases hv
theorem opIndex_ok (hr : HR B μ h.n h.t.get w) (hg : GR G μ) (he : TR μ e a.tmps) {t : TypeId} {x y : Operand} {v : Value} {h' : Hp} (hv : opIndex P G e h t x y = .value v h') : VOk P B μ h w (Instr.index t (a.eval x) (a.eval y)) v h' := by
  unfold opIndex at hv
  split at hv
  · rename_i u u2 hx hy
    cases hs : (scalar u && scalar u2) with
    | false => rw [hs] at hv; cases hv
    | true =>
      rw [hs] at hv
      simp only [Bool.and_eq_true] at hs
      obtain ⟨h1, rfl⟩ := ofV_inv hv
      obtain ⟨p1, p2⟩ := pureS_ok (w := w) (μ := μ) h1
      rw [(ev_ok hg he hx).scalar hs.1, (ev_ok hg he hy).scalar hs.2]
      exact .pure hr p1 p2
  · cases hv

theorem bytesOf_cons (v : Value) (l : List Value) : bytesOf (v :: l) = (match v with
    | .int .u8 n => (match bytesOf l with | some l => some (UInt8.ofNat n.toNat :: l) | none => none)
    | _ => none) := rfl
theorem bytesOf_ok {l l' : List Value} (hl : VRL μ l l') : ∀ {bs : List UInt8}, bytesOf l = some bs → ∃ ns : List Int, l' = ns.map (Value.int .u8) ∧ bs = ns.map fun n => UInt8.ofNat n.toNat := by
  induction l generalizing l' with
  | nil => intro bs hb; have hb' : some ([] : List UInt8) = some bs := hb; simp at hb'; subst hb'; cases hl; exact ⟨[], rfl, rfl⟩
  | cons v l ih =>
    intro bs hb
    rw [bytesOf_cons] at hb
    split at hb
    · rename_i n
      split at hb
      · rename_i q hq
        simp at hb; subst hb
        cases hl with
        | cons h1 t1 =>
          obtain ⟨ns, g1, g2⟩ := ih t1 hq
          cases h1
          exact ⟨n :: ns, by simp [g1], by simp [g2]⟩
      · cases hb
    · cases hb
theorem foldl_push : ∀ (ns : List Int) (s : ByteArray), ns.foldl (fun r n => r.push (UInt8.ofNat n.toNat)) s = ⟨(s.data.toList ++ ns.map fun n => UInt8.ofNat n.toNat).toArray⟩
  | [], s => by simp
  | n :: ns, s => by
    rw [List.foldl_cons, foldl_push ns]
    simp [ByteArray.push]
/-- a new row in a world that has drawn -/
theorem row_new (hr : HR B μ h.n h.t.get w) (hB : B ≤ w.heap.size) (w1 : World) (e1 : w1.heap = w.heap) (e2 : w1.os = w.os) (e3 : w1.tape = w.tape) (e4 : w1.output = w.output) (t : TypeId) {vs vs' : List Value} (hv : VRL μ vs vs') (rest : List Value) (lo hi : Nat)
    (hfr : lo ≤ hi ∧ ∀ i, i < (vs' ++ rest).length → ¬ (lo ≤ i ∧ i < hi)) :
    ∃ μ', μ' h.n = some (w.heap.size, 0, (vs' ++ rest).length) ∧ Mu.le μ μ' ∧ Good B μ h w μ' (h.new (.cells vs)) { w1 with heap := w1.heap.push (.cells (vs' ++ rest).toArray t (lo, hi)) } := by
  have hr1 : HR B μ h.n h.t.get w1 := hr.heap e1
  have hle : Mu.le μ (μ.add h.n (w.heap.size, 0, (vs' ++ rest).length)) := Mu.add_le fun y e => by have := hr.dom _ _ e; omega
  refine ⟨μ.add h.n (w.heap.size, 0, (vs' ++ rest).length), by simp [Mu.add], hle, ?_⟩
  have hn := new_ok (μ := μ) (h := h) (w := w1) hr1 (by rw [e1]; exact hB) (.cells (vs' ++ rest).toArray t (lo, hi)) (.cells vs) (vs' ++ rest).length rfl (by
    rw [e1]
    refine ⟨(vs' ++ rest).toArray, t, lo, hi, by simp, by simp, by have := hv.length; simp; omega, ⟨hfr.1, fun i hi' => hfr.2 i (by simpa using hi')⟩, fun i v e => ?_⟩
    obtain ⟨v', h1, h2⟩ := hv.get i v e
    have hi := (List.getElem?_eq_some_iff.1 h1).1
    exact ⟨v', by simp [List.getElem?_append_left hi, h1], h2.mono hle⟩)
  rw [e1] at hn ⊢
  exact Good.trans hr (Good.drew hr e1 e2 e3 e4) hn
/-- the row of a string's bytes -/
theorem bytes_row (w : World) (el : TypeId) (l : List Value) (n cap : Nat) (hl : l.length = cap) :
    ((newRow el l.toArray).run P w).andThen (fun a w' => ((markStringish a).run P w').andThen fun _ w' => (pure (.slice (some a) n cap) : Sem Value).run P w') =
      .ok (.slice (some ⟨w.heap.size, 0, none⟩) n cap) { w with heap := w.heap.push (.cells l.toArray el (cap, cap + 1)) } := by
  have h1 : (newRow el l.toArray).run P w = .ok ⟨w.heap.size, 0, none⟩ { w with heap := w.heap.push (.cells l.toArray el) } := rfl
  rw [h1, Result.andThen_ok]
  have h2 : ({ w with heap := w.heap.push (.cells l.toArray el) } : World).shape? w.heap.size = some (el, cap) := by simp [World.shape?, hl]
  have h3 : ({ w with heap := w.heap.push (.cells l.toArray el) } : World).freeze { block := w.heap.size, off := cap } 1 = { w with heap := w.heap.push (.cells l.toArray el (cap, cap + 1)) } := by
    have hh : (w.heap.push (.cells l.toArray el)).modify w.heap.size (fun | .cells c elem (lo, hi) => .cells c elem (if lo == hi then (cap, cap + 1) else (min lo cap, max hi (cap + 1))) | o => o) = w.heap.push (.cells l.toArray el (cap, cap + 1)) := by
      apply Array.ext_getElem?
      intro i
      rw [Array.getElem?_modify]
      by_cases hi : w.heap.size = i
      · subst hi; simp
      · simp only [hi, if_false, Array.getElem?_push]
        have : ¬ i = w.heap.size := fun e => hi e.symm
        simp [this]
    simp only [World.freeze, Nat.one_ne_zero, if_false]
    exact congrArg (fun x => ({ w with heap := x } : World)) hh
  have h4 : (shape w.heap.size).run P { w with heap := w.heap.push (.cells l.toArray el) } = .ok (some (el, cap)) { w with heap := w.heap.push (.cells l.toArray el) } := by
    show Result.ok _ _ = _
    rw [h2]
  simp only [markStringish, Sem.run_bind, h4, Result.andThen_ok]
  show (Result.ok _ (World.freeze _ _ _)).andThen _ = _
  rw [h3]
  rfl
/-- a row that is written out as a text: the mark lies behind its end -/
theorem freeze_block {w : World} {b : Nat} {c : Array Value} {ty : TypeId} {lo hi : Nat} (hb : w.heap[b]? = some (.cells c ty (lo, hi))) (h4 : lo ≤ hi ∧ ∀ i, i < c.size → ¬ (lo ≤ i ∧ i < hi)) :
    ∃ lo' hi', (w.freeze ⟨b, c.size, none⟩ 1).heap[b]? = some (.cells c ty (lo', hi')) ∧ lo' ≤ hi' ∧ ∀ i, i < c.size → ¬ (lo' ≤ i ∧ i < hi') := by
  have hx : (w.freeze ⟨b, c.size, none⟩ 1).heap[b]? = some (.cells c ty (if lo == hi then (c.size, c.size + 1) else (min lo c.size, max hi (c.size + 1)))) := by
    simp only [World.freeze, Nat.one_ne_zero, if_false]
    rw [Array.getElem?_modify, hb]
    simp
  by_cases hl : lo = hi
  · subst hl
    refine ⟨c.size, c.size + 1, by simpa using hx, by omega, fun i hi => by omega⟩
  · have hge : c.size ≤ lo := by
      rcases Nat.lt_or_ge lo c.size with h | h
      · exact absurd ⟨Nat.le_refl lo, by omega⟩ (h4.2 lo h)
      · exact h
    have hbq : (lo == hi) = false := by simpa using hl
    rw [hbq] at hx
    refine ⟨min lo c.size, max hi (c.size + 1), by simpa using hx, by omega, fun i hi => by omega⟩
theorem convB_ok (hr : HR B μ h.n h.t.get w) {src dst : TypeId} {es el : TypeId} (hs : P.underlying src = some (.slice es)) (hd : P.underlying dst = some (.slice el)) {k o n c cc : Nat} {x' v : Value} {h' : Hp} (hx : VR μ (.slice (some ⟨k, o, none⟩) n cc) x') (hc : c = cc)
    (hv : convB h k o n c (Nat.beq src dst) (P.underlying el) (h.t.get k) = .value v h') : VOk P B μ h w (convert src dst x') v h' := by
  subst hc
  unfold convB at hv
  split at hv
  · rename_i hsd hel hob
    rename_i vs
    simp only [Out.value.injEq] at hv
    obtain ⟨rfl, rfl⟩ := hv
    have hsd' := Nat.eq_of_beq_eq_true hsd
    subst hsd'
    have hse : es = el := by rw [hs] at hd; simpa using hd
    subst hse
    cases hx with
    | slice hk hn hcp he =>
      rename_i b p s cap adr
      obtain ⟨cc, ty, lo, hi, q1, q2, q3, q4, q5⟩ := hr.obj k b p s _ hk hob
      obtain ⟨lo', hi', g1, g2⟩ := freeze_block q1 q4
      refine ⟨.slice (some ⟨b, adr, none⟩) n cap, w.freeze ⟨b, cc.size, none⟩ 1, μ, ?_, .slice hk hn hcp he, ?_⟩
      · have h2 : w.shape? b = some (ty, cc.size) := by simp [World.shape?, q1]
        have h4 : (shape b).run P w = .ok (some (ty, cc.size)) w := by
          show Result.ok _ _ = _
          rw [h2]
        simp only [convert, Sem.run_bind, run_underlying src hs, run_underlying es hel, Result.andThen_ok, markStringish, beq_self_eq_true, h4]
        rfl
      · refine set_ok hr hk hob rfl rfl rfl rfl rfl rfl ?_ (fun b' hne => ?_) ⟨cc, ty, lo', hi', g1, q2, q3, g2, q5⟩
        · simp [World.freeze]
        · simp only [World.freeze, Nat.one_ne_zero, if_false]
          rw [Array.getElem?_modify, if_neg (fun e => hne e.symm)]
  · cases hv
theorem convV_ok (hr : HR B μ h.n h.t.get w) (hB : B ≤ w.heap.size) {src dst : TypeId} {x x' v : Value} {h' : Hp} (hx : VR μ x x') (hv : convV P h src dst x = .value v h') : VOk P B μ h w (convert src dst x') v h' := by
  unfold convV at hv
  split at hv
  · rename_i k o n es
    split at hv
    · rename_i el hs hd
      split at hv
      · rename_i hel
        split at hv
        · rename_i l hl
          split at hv
          · rename_i bs hbs
            simp at hv; obtain ⟨rfl, rfl⟩ := hv
            cases hx with
            | slice hk hn hc he =>
              rename_i b p s cap adr
              obtain ⟨l', g1, g2, g3⟩ := rd_ok hr hk hl
              obtain ⟨ns, q1, q2⟩ := bytesOf_ok g1 hbs
              have hload := run_loadCells_list (P := P) w ⟨b, adr, none⟩ l' (by
                rcases hc with hc | ⟨rfl, _⟩
                · intro j v e; have := (List.getElem?_eq_some_iff.1 e).1; omega
                · exact g3)
              rw [g2] at hload
              have := run_bytesToString (P := P) w ⟨b, adr, none⟩ n cap ns (by rw [hload, q1])
              refine .pure hr (v' := .string ⟨bs.toArray⟩) ?_ (.string _)
              simp only [convert, Sem.run_bind, run_underlying src hs, run_underlying dst hd, run_underlying el hel, Result.andThen_ok, this, foldl_push, q2]
              rfl
          · cases hv
        · cases hv
      · cases hv
    · rename_i es0 el hs hd
      exact convB_ok hr hs hd hx rfl hv
    · cases hv
  · split at hv
    · rename_i el hs hd
      split at hv
      · rename_i hel
        simp at hv; obtain ⟨rfl, rfl⟩ := hv
        cases hx
        refine .pure hr (v' := .string ⟨#[]⟩) ?_ (.string _)
        simp only [convert, Sem.run_bind, run_underlying src hs, run_underlying dst hd, run_underlying el hel, Result.andThen_ok]
        rfl
      · cases hv
    · cases hv
  · rename_i s
    cases hx
    split at hv
    · rename_i el hs hd
      split at hv
      · rename_i hel
        cases hc : Nat.ble s.data.toList.length 16777216 with
        | false => rw [hc] at hv; cases hv
        | true =>
          rw [hc] at hv
          have c1 : s.data.toList.length ≤ 16777216 := Nat.le_of_ble_eq_true hc
          simp only [cond_true, outRow, Out.value.injEq] at hv; obtain ⟨rfl, rfl⟩ := hv
          have hsz : s.size = s.data.toList.length := by rw [Array.length_toList]; rfl
          obtain ⟨cap, hcap⟩ : ∃ cap, cap = (Question.appendCap s.size 0 el).cut (w.tape w.drawn (.appendCap s.size 0 el)) := ⟨_, rfl⟩
          have hge : s.size ≤ cap := by rw [hcap]; exact Nat.le_add_right _ _
          have hself : VRL μ (s.data.toList.map fun b => Value.int .u8 b.toNat) (s.data.toList.map fun b => Value.int .u8 b.toNat) := VRL.refl fun v hv => by
            obtain ⟨b, _, rfl⟩ := List.mem_map.1 hv
            exact .int _ _
          have hlen : ((s.data.toList.map fun b => Value.int .u8 b.toNat) ++ List.replicate (cap - s.size) (Value.int .u8 0)).length = cap := by rw [List.length_append, List.length_map, List.length_replicate, ← hsz]; omega
          obtain ⟨μ', g1, g2, g3⟩ := row_new hr hB { w with drawn := w.drawn + 1 } rfl rfl rfl rfl el hself (List.replicate (cap - s.size) (.int .u8 0)) cap (cap + 1) ⟨by omega, fun i hi => by rw [hlen] at hi; omega⟩
          refine ⟨.slice (some ⟨w.heap.size, 0, none⟩) s.size cap, _, μ', ?_, ?_, g3⟩
          · have harr : (s.data.map fun b => Value.int .u8 (b.toNat : Int)) ++ Array.replicate (cap - s.size) (Value.int .u8 0) = ((s.data.toList.map fun b => Value.int .u8 b.toNat) ++ List.replicate (cap - s.size) (Value.int .u8 0)).toArray := by
              apply Array.ext'; simp
            have hcv : (convert src dst (.string s)).run P w = (Conv.stringToBytes el s).run P w := by
              simp only [convert, Sem.run_bind, run_underlying src hs, run_underlying dst hd, run_underlying el hel, Result.andThen_ok]
            rw [hcv]
            have hq : (choose (.appendCap s.size 0 el)).run P w = .ok cap { w with drawn := w.drawn + 1 } := by
              rw [hcap]; rfl
            simp only [Conv.stringToBytes, Sem.run_bind, hq, Result.andThen_ok]
            rw [harr]
            exact bytes_row _ _ _ _ _ hlen
          · rw [← hsz]
            exact VR.slice (μ := μ') (k := h.n) (o := 0) (n := s.size) (es := 1) (cap := cap) g1 hge (.inr ⟨rfl, by rw [hlen]; omega⟩) (by omega)
      · cases hv
    · rename_i hs hd
      simp at hv; obtain ⟨rfl, rfl⟩ := hv
      refine .pure hr (v' := .string s) ?_ (.string _)
      simp only [convert, Sem.run_bind, run_underlying src hs, run_underlying dst hd, Result.andThen_ok]
      rfl
    · cases hv
  · cases hs : scalar x with
    | false => rw [hs] at hv; cases hv
    | true =>
      rw [hs] at hv
      obtain ⟨h1, rfl⟩ := ofV_inv hv
      obtain ⟨p1, p2⟩ := pureS_ok (w := w) (μ := μ) h1
      rw [hx.scalar hs]
      exact .pure hr p1 p2
theorem opConv_ok (hr : HR B μ h.n h.t.get w) (hB : B ≤ w.heap.size) (hg : GR G μ) (he : TR μ e a.tmps) {src dst : TypeId} {x : Operand} {v : Value} {h' : Hp} (hv : opConv P G e h src dst x = .value v h') : VOk P B μ h w (convert src dst (a.eval x)) v h' := by
  unfold opConv at hv
  split at hv
  · rename_i u hx; exact convV_ok hr hB (ev_ok hg he hx) hv
  · cases hv

theorem idxV_ok (hr : HR B μ h.n h.t.get w) {t : TypeId} {i : Nat} {ki : IntKind} {x x' v : Value} {h' : Hp} (hx : VR μ x x') (hv : idxV P h t i x = .value v h') : VOk P B μ h w (Instr.indexAt t x' (.int ki (.ofNat i))) v h' := by
  unfold idxV at hv
  split at hv
  · rename_i k o n es
    split at hv
    · rename_i el hel
      split at hv
      · rename_i m hm
        cases hc : (Nat.blt i n && Nat.beq m es) with
        | false => rw [hc] at hv; cases hv
        | true =>
          rw [hc] at hv
          simp only [Bool.and_eq_true, blt_iff, beqN, decide_eq_true_eq] at hc
          obtain ⟨c1, rfl⟩ := hc
          simp [outP] at hv; obtain ⟨rfl, rfl⟩ := hv
          have hd : P.underlying t = some (.slice el) := by
            unfold elemOf at hel; split at hel
            · rename_i x hx; simp at hel; rw [hx, hel]
            · cases hel
          cases hx with
          | slice hk hn hcap he =>
            rename_i b p s cap adr
            obtain ⟨rfl, _⟩ : adr = p + o ∧ o + cap * m ≤ s := hcap.resolve_left (by omega)
            refine .pure hr (v' := .pointer (some ⟨b, p + o + i * m, none⟩)) ?_ (by rw [Nat.add_assoc]; exact VR.ptr hk)
            have c2 : 0 ≤ (Int.ofNat i) ∧ (Int.ofNat i) < (n : Int) := by constructor <;> simp <;> omega
            simp only [Instr.indexAt, asIntOf, Sem.run_bind, Sem.run_pure, Result.andThen_ok, run_underlying t hd]
            rw [if_pos c2]
            simp [run_size el hm, addA]
      · cases hv
    · cases hv
  · rename_i k o
    split at hv
    · rename_i n el hd
      split at hv
      · rename_i es hes
        cases hc : Nat.blt i n with
        | false => rw [hc] at hv; cases hv
        | true =>
          rw [hc] at hv
          have c1 := blt_iff.1 hc
          simp [outP] at hv; obtain ⟨rfl, rfl⟩ := hv
          cases hx with
          | ptr hk =>
            rename_i b p s
            refine .pure hr (v' := .pointer (some ⟨b, p + o + i * es, none⟩)) ?_ (by rw [Nat.add_assoc]; exact VR.ptr hk)
            have c2 : 0 ≤ (Int.ofNat i) ∧ (Int.ofNat i) < (n : Int) := by constructor <;> simp <;> omega
            simp only [Instr.indexAt, asIntOf, Sem.run_bind, Sem.run_pure, Result.andThen_ok, run_underlying t hd, Instr.sureAddr]
            rw [if_pos c2]
            simp [run_size el hes, addA]
      · cases hv
    · cases hv
  · cases hv
end
end Cx
end Go.Proofs.YtkljlbilhcdjhaaGreatDoor
