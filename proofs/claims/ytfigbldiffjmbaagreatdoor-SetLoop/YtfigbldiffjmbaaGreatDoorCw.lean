/- Closed runs: operations, first part. -/
import Derived.Test.YtfigbldiffjmbaaGreatDoorCv
namespace Go.Proofs.YtfigbldiffjmbaaGreatDoor
namespace Cx
open Go

theorem pureRun_ok {α : Type} {P : Program} : ∀ (s : Sem α) {a : α}, pureRun P s = some a → ∀ w, s.run P w = .ok a w
  | .pure a, b, h, w => by simp [pureRun] at h; subst h; rfl
  | .program k, b, h, w => by
    have h' : pureRun P (k P) = some b := h
    exact pureRun_ok (k P) h' w
  | .mark m k, b, h, w => by
    have h' : pureRun P k = some b := h
    exact pureRun_ok k h' w
  | .load _ _ _, _, h, _ => by simp [pureRun] at h
  | .store _ _ _ _, _, h, _ => by simp [pureRun] at h
  | .new _ _, _, h, _ => by simp [pureRun] at h
  | .shape _ _, _, h, _ => by simp [pureRun] at h
  | .freeze _ _ _, _, h, _ => by simp [pureRun] at h
  | .frozen _ _, _, h, _ => by simp [pureRun] at h
  | .getObj _ _, _, h, _ => by simp [pureRun] at h
  | .setObj _ _ _, _, h, _ => by simp [pureRun] at h
  | .choose _ _, _, h, _ => by simp [pureRun] at h
  | .sys _ _, _, h, _ => by simp [pureRun] at h
  | .halt _, _, h, _ => by simp [pureRun] at h

section
variable {P : Program} {G B : Nat} {μ : Mu} {h : Hp} {w : World} {e : En} {a : Act}

/-- the globals lie where the model has them -/
def GR (G : Nat) (μ : Mu) : Prop := ∀ g, g < G → ∃ s, μ g = some (g, 0, s)
theorem GR.mono {μ' : Mu} (hg : GR G μ) (hm : Mu.le μ μ') : GR G μ' := fun g hlt => let ⟨s, hs⟩ := hg g hlt; ⟨s, hm _ _ hs⟩

theorem blt_iff {n m : Nat} : Nat.blt n m = true ↔ n < m := by
  unfold Nat.blt; rw [Nat.ble_eq]; exact Iff.rfl

theorem ev_ok (hg : GR G μ) (he : TR μ e a.tmps) {x : Operand} {v : Value} (hv : ev G e x = some v) : VR μ v (a.eval x) := by
  cases x with
  | tmp t =>
    obtain ⟨v', h1, h2⟩ := he.get t v hv
    simp [Act.eval, h1]; exact h2
  | const u =>
    have hv' : cond (constOk u) (some u) none = some v := hv
    cases hc : constOk u with
    | false => rw [hc] at hv'; cases hv'
    | true => rw [hc] at hv'; simp at hv'; subst hv'; exact constOk_refl μ hc
  | global g =>
    have hv' : cond (Nat.blt g G) (some (Value.pointer (some ⟨g, 0, none⟩))) none = some v := hv
    cases hc : Nat.blt g G with
    | false => rw [hc] at hv'; cases hv'
    | true =>
      rw [hc] at hv'; simp at hv'; subst hv'
      obtain ⟨s, hs⟩ := hg g (blt_iff.1 hc)
      exact VR.ptr (o := 0) hs
  | func f =>
    have hv' : some (Value.func (.func f) #[] #[]) = some v := hv
    simp at hv'; subst hv'
    exact .func f .nil .nil
theorem evs_cons (x : Operand) (l : List Operand) : evs G e (x :: l) = (match ev G e x with
    | some v => (match evs G e l with | some l => some (v :: l) | none => none)
    | none => none) := rfl
theorem evs_ok (hg : GR G μ) (he : TR μ e a.tmps) : ∀ {l : List Operand} {vs : List Value}, evs G e l = some vs → VRL μ vs (l.map a.eval)
  | [], vs, hv => by have hv' : some ([] : List Value) = some vs := hv; simp at hv'; subst hv'; exact .nil
  | x :: l, vs, hv => by
    rw [evs_cons] at hv
    split at hv
    · rename_i v h1
      split at hv
      · rename_i q h2; simp at hv; subst hv; exact .cons (ev_ok hg he h1) (evs_ok hg he h2)
      · cases hv
    · cases hv
inductive PRL (μ : Mu) : List (Nat × Value) → List (Nat × Value) → Prop
  | nil : PRL μ [] []
  | cons {i : Nat} {v v' : Value} {l l' : List (Nat × Value)} (h : VR μ v v') (t : PRL μ l l') : PRL μ ((i, v) :: l) ((i, v') :: l')
theorem evp_cons (x : Nat × Operand) (l : List (Nat × Operand)) : evp G e (x :: l) = (match ev G e x.2 with
    | some v => (match evp G e l with | some l => some ((x.1, v) :: l) | none => none)
    | none => none) := rfl
theorem evp_ok (hg : GR G μ) (he : TR μ e a.tmps) : ∀ {l : List (Nat × Operand)} {vs : List (Nat × Value)}, evp G e l = some vs → PRL μ vs (l.map fun x => (x.1, a.eval x.2))
  | [], vs, hv => by have hv' : some ([] : List (Nat × Value)) = some vs := hv; simp at hv'; subst hv'; exact .nil
  | (i, x) :: l, vs, hv => by
    rw [evp_cons] at hv
    split at hv
    · rename_i v h1
      split at hv
      · rename_i q h2; simp at hv; subst hv; exact .cons (ev_ok hg he h1) (evp_ok hg he h2)
      · cases hv
    · cases hv

/-- An operation that gives a value: so does the model's. -/
def VOk (P : Program) (B : Nat) (μ : Mu) (h : Hp) (w : World) (s : Sem Value) (v : Value) (h' : Hp) : Prop :=
  ∃ v' w' μ', s.run P w = .ok v' w' ∧ VR μ' v v' ∧ Good B μ h w μ' h' w'
def UOk (P : Program) (B : Nat) (μ : Mu) (h : Hp) (w : World) (s : Sem Unit) (v : Value) (h' : Hp) : Prop :=
  v = undef ∧ ∃ w' μ', s.run P w = .ok () w' ∧ Good B μ h w μ' h' w'
theorem VOk.pure {s : Sem Value} {v v' : Value} (hr : HR B μ h.n h.t.get w) (hs : s.run P w = .ok v' w) (hv : VR μ v v') : VOk P B μ h w s v h := ⟨v', w, μ, hs, hv, .refl hr⟩

theorem ofV_inv {o : Option Value} {v : Value} {h' : Hp} (hh : Out.ofV h o = .value v h') : o = some v ∧ h' = h := by
  cases o with
  | none => cases hh
  | some u => simp [Out.ofV] at hh; exact ⟨by rw [hh.1], hh.2.symm⟩

/-- a new variable, or a new row -/
theorem newRow_ok (hr : HR B μ h.n h.t.get w) (hB : B ≤ w.heap.size) (t : TypeId) {vs vs' : List Value} (hv : VRL μ vs vs') (rest : List Value) :
    ∃ μ', (newRow t (vs' ++ rest).toArray).run P w = .ok ⟨w.heap.size, 0, none⟩ { w with heap := w.heap.push (.cells (vs' ++ rest).toArray t) } ∧ μ' h.n = some (w.heap.size, 0, (vs' ++ rest).length) ∧ Mu.le μ μ' ∧
      Good B μ h w μ' (h.new (.cells vs)) { w with heap := w.heap.push (.cells (vs' ++ rest).toArray t) } := by
  refine ⟨μ.add h.n (w.heap.size, 0, (vs' ++ rest).length), rfl, by simp [Mu.add], Mu.add_le fun y e => by have := hr.dom _ _ e; omega, ?_⟩
  have hle : Mu.le μ (μ.add h.n (w.heap.size, 0, (vs' ++ rest).length)) := Mu.add_le fun y e => by have := hr.dom _ _ e; omega
  refine new_ok hr hB _ _ _ rfl ?_
  refine ⟨(vs' ++ rest).toArray, t, 0, 0, by simp, by simp, by have := hv.length; simp; omega, ⟨Nat.le_refl _, fun i _ hh => by omega⟩, fun i v e => ?_⟩
  obtain ⟨v', h1, h2⟩ := hv.get i v e
  have hi := (List.getElem?_eq_some_iff.1 h1).1
  exact ⟨v', by simp [List.getElem?_append_left hi, h1], h2.mono hle⟩
theorem newVar_ok (hr : HR B μ h.n h.t.get w) (hB : B ≤ w.heap.size) (t : TypeId) {v v' : Value} (hv : VR μ v v') :
    VOk P B μ h w (do pure (.pointer (some (← newVar t v')))) (.pointer (some ⟨h.n, 0, none⟩)) (h.new (.cells v.cells.toList)) := by
  obtain ⟨μ', h1, h2, h3, h4⟩ := newRow_ok (P := P) hr hB t hv.cells []
  simp only [List.append_nil, Array.toArray_toList] at h1 h2 h4
  exact ⟨.pointer (some ⟨w.heap.size, 0, none⟩), _, μ', by simp [newVar, h1], VR.ptr (o := 0) h2, h4⟩

theorem opAlloc_ok (hr : HR B μ h.n h.t.get w) (hB : B ≤ w.heap.size) {t : TypeId} {v : Value} {h' : Hp} (hv : opAlloc P h t = .value v h') : VOk P B μ h w (Instr.alloc t true (.tuple #[])) v h' := by
  unfold opAlloc at hv
  split at hv
  · rename_i z hz
    obtain ⟨h1, h2⟩ := run_zero (w := w) t hz
    simp [outNew] at hv; obtain ⟨rfl, rfl⟩ := hv
    obtain ⟨v', w', μ', g1, g2, g3⟩ := newVar_ok (P := P) hr hB t (constOk_refl μ h2)
    exact ⟨v', w', μ', by simpa [Instr.alloc, h1] using g1, g2, g3⟩
  · cases hv
theorem opBox_ok (hr : HR B μ h.n h.t.get w) (hB : B ≤ w.heap.size) (hg : GR G μ) (he : TR μ e a.tmps) {t : TypeId} {x : Operand} {v : Value} {h' : Hp} (hv : opBox G e h x = .value v h') : VOk P B μ h w (Instr.box t (a.eval x)) v h' := by
  unfold opBox at hv
  split at hv
  · rename_i z hz
    simp [outNew] at hv; obtain ⟨rfl, rfl⟩ := hv
    exact newVar_ok (P := P) hr hB t (ev_ok hg he hz)
  · cases hv
theorem opLoad_ok (hr : HR B μ h.n h.t.get w) {t : TypeId} {p p' v : Value} (hp : VR μ p p') (hv : ld P h t p = some v) : VOk P B μ h w (Instr.loadAt t p') v h := by
  unfold ld at hv
  split at hv
  · rename_i k o
    cases hp with
    | ptr hk =>
      obtain ⟨v', h1, h2⟩ := ld_ok hr hk hv
      exact .pure hr (by simp [Instr.loadAt, Instr.sureAddr, h1]) h2
  · cases hv
theorem opStore_ok (hr : HR B μ h.n h.t.get w) (hg : GR G μ) (he : TR μ e a.tmps) {t : TypeId} {x y : Operand} {v : Value} {h' : Hp} (hv : opStore P G e h t x y = .value v h') : UOk P B μ h w (Instr.storeAt t (a.eval x) (a.eval y)) v h' := by
  unfold opStore at hv
  split at hv
  · rename_i k o u hx hy
    split at hv
    · rename_i n hn
      have hc : cond (Nat.beq u.cells.size n) (match h.wr k o u.cells.toList with | some h => Out.value undef h | none => .fail) .fail = .value v h' := hv
      rw [beqN] at hc
      by_cases hsz : u.cells.size = n
      · simp only [hsz, decide_true, cond_true] at hc
        split at hc
        · rename_i h1 hw
          simp at hc; obtain ⟨rfl, rfl⟩ := hc
          have hp := ev_ok hg he hx
          have hu := ev_ok hg he hy
          generalize hpe : a.eval x = p' at hp
          cases hp with
          | ptr hk =>
            obtain ⟨w', g1, g2⟩ := wr_ok (P := P) hr hk hw hu.cells
            have hl := hu.cells.length
            simp at hl
            exact ⟨rfl, w', μ, by simp [Instr.storeAt, Instr.sureAddr, storeVar, run_size t hn, hl, hsz, g1], g2⟩
        · cases hc
      · simp [hsz] at hc
    · cases hv
  · cases hv
theorem opPick_ok (hr : HR B μ h.n h.t.get w) (hg : GR G μ) (he : TR μ e a.tmps) {c x y : Operand} {v : Value} {h' : Hp} (hv : opPick e h c x y (ev G) = .value v h') : VOk P B μ h w (do pure (if ← asBool (a.eval c) then a.eval x else a.eval y)) v h' := by
  unfold opPick at hv
  split at hv
  · rename_i hc
    obtain ⟨h1, rfl⟩ := ofV_inv hv
    have := ev_ok hg he hc
    generalize hce : a.eval c = c' at this
    cases this
    exact .pure hr (by simp [asBool]) (ev_ok hg he h1)
  · rename_i hc
    obtain ⟨h1, rfl⟩ := ofV_inv hv
    have := ev_ok hg he hc
    generalize hce : a.eval c = c' at this
    cases this
    exact .pure hr (by simp [asBool]) (ev_ok hg he h1)
  · cases hv
theorem opFieldAddr_ok (hr : HR B μ h.n h.t.get w) (hg : GR G μ) (he : TR μ e a.tmps) {s : TypeId} {x : Operand} {f : Nat} {v : Value} {h' : Hp} (hv : opFieldAddr P G e h s x f = .value v h') : VOk P B μ h w (Instr.fieldAt s (a.eval x) f) v h' := by
  unfold opFieldAddr at hv
  split at hv
  · rename_i k o fs hx hs
    split at hv
    · rename_i fd hf
      split at hv
      · rename_i n hn
        cases hb : Nat.blt 0 n with
        | false => rw [hb] at hv; cases hv
        | true =>
          rw [hb] at hv
          have hn0 : n ≠ 0 := by have := blt_iff.1 hb; omega
          simp [outP] at hv; obtain ⟨rfl, rfl⟩ := hv
          have hp := ev_ok hg he hx
          generalize hpe : a.eval x = p' at hp
          cases hp with
          | ptr hk =>
            refine .pure hr (v' := .pointer (some ⟨_, _ + o + fd.offset, none⟩)) ?_ (by rw [Nat.add_assoc]; exact VR.ptr hk)
            simp [Instr.fieldAt, run_underlying s hs, hf, Instr.sureAddr, fieldPlace, run_size fd.type hn, hn0, addA]
      · cases hv
    · cases hv
  · cases hv
theorem opFunc_ok (hr : HR B μ h.n h.t.get w) (hg : GR G μ) (he : TR μ e a.tmps) {fn : Fn} {first captured : Array Operand} {v : Value} {h' : Hp} (hv : opFunc G e h fn first.toList captured.toList = .value v h') : VOk P B μ h w (Instr.makeFunc fn (first.map a.eval) (captured.map a.eval)) v h' := by
  unfold opFunc at hv
  split at hv
  · rename_i f x y hx hy
    simp at hv; obtain ⟨rfl, rfl⟩ := hv
    refine .pure hr rfl (.func f ?_ ?_)
    · have := evs_ok hg he hx; simpa using this
    · have := evs_ok hg he hy; simpa using this
  · cases hv
theorem opIface_ok (hr : HR B μ h.n h.t.get w) (hg : GR G μ) (he : TR μ e a.tmps) {t : TypeId} {x : Operand} {v : Value} {h' : Hp} (hv : opIface P G e h t x = .value v h') : VOk P B μ h w (Instr.makeInterface t (a.eval x)) v h' := by
  unfold opIface at hv
  split at hv
  · cases hv
  · rename_i u d hnot hx hd
    simp at hv; obtain ⟨rfl, rfl⟩ := hv
    refine .pure hr (v' := .iface t (a.eval x)) ?_ (.iface t (ev_ok hg he hx))
    simp only [Instr.makeInterface, Sem.run_bind, run_underlying t hd, Result.andThen_ok]
    cases d <;> first | rfl | exact (hnot _ rfl).elim
  · cases hv
theorem opExtract_ok (hr : HR B μ h.n h.t.get w) (hg : GR G μ) (he : TR μ e a.tmps) {t : Operand} {ix : Nat} {v : Value} {h' : Hp} (hv : opExtract G e h t ix = .value v h') : VOk P B μ h w (Instr.extract (a.eval t) ix) v h' := by
  unfold opExtract at hv
  split at hv
  · rename_i vs ht
    obtain ⟨h1, rfl⟩ := ofV_inv hv
    have hp := ev_ok hg he ht
    generalize hpe : a.eval t = p' at hp
    cases hp with
    | tuple hl =>
      rename_i a'
      obtain ⟨v', g1, g2⟩ := hl.get ix v (by simpa using h1)
      refine .pure hr ?_ g2
      have : a'[ix]? = some v' := by simpa using g1
      simp [Instr.extract, this]
  · cases hv
theorem fieldV_ok {s : TypeId} {f : Nat} {x x' v : Value} (hx : VR μ x x') (hv : fieldV P s f x = some v) : ∃ v', (Instr.field s x' f).run P w = .ok v' w ∧ VR μ v v' := by
  unfold fieldV at hv
  split at hv
  · rename_i a
    cases hx with
    | agg hl =>
      rename_i a'
      split at hv
      · rename_i fs hs
        split at hv
        · rename_i fd hf
          have hrun : ∀ u, (part fd.type a' fd.offset).run P w = .ok u w → (Instr.field s (.agg a') f).run P w = .ok u w := fun u hu => by
            simp only [Instr.field, Sem.run_bind, run_underlying s hs, Result.andThen_ok, hf, asAgg, Sem.run_pure, hu]
          unfold partV at hv
          split at hv
          · rename_i n ha hn
            split at hv
            · rename_i r hr
              simp at hv; subst hv
              obtain ⟨c1, c2, c3⟩ := cut_get hr
              have hlen := hl.length
              refine ⟨.agg (a'.extract fd.offset (fd.offset + n)), hrun _ ?_, .agg (VRL.of ?_ fun i u e => ?_)⟩
              · simp only [part, Sem.run_bind, run_isAgg fd.type ha, run_size fd.type hn, Result.andThen_ok, if_true, Sem.run_pure]
              · have h9 : a'.size = a'.toList.length := Array.length_toList.symm
                rw [Array.length_toList, Array.size_extract, c1]; omega
              · have hi : i < n := by have := (List.getElem?_eq_some_iff.1 e).1; simp at this; omega
                obtain ⟨u', g1, g2⟩ := hl.get (fd.offset + i) u (by rw [← c3 i hi]; simpa using e)
                have hlt := (List.getElem?_eq_some_iff.1 g1).1
                refine ⟨u', ?_, g2⟩
                simp only [Array.length_toList] at hlt
                simp only [Array.getElem?_toList, Array.getElem?_extract] at g1 ⊢
                rw [if_pos (by omega)]
                exact g1
            · cases hv
          · rename_i ha
            obtain ⟨u', g1, g2⟩ := hl.get fd.offset v (by simpa using hv)
            refine ⟨u', hrun _ ?_, g2⟩
            have : a'[fd.offset]? = some u' := by simpa using g1
            simp only [part, Sem.run_bind, run_isAgg fd.type ha, Result.andThen_ok, this]
            rfl
          · cases hv
        · cases hv
      · cases hv
  · cases hv
theorem opField_ok (hr : HR B μ h.n h.t.get w) (hg : GR G μ) (he : TR μ e a.tmps) {s : TypeId} {x : Operand} {f : Nat} {v : Value} {h' : Hp} (hv : opField P G e h s x f = .value v h') : VOk P B μ h w (Instr.field s (a.eval x) f) v h' := by
  unfold opField at hv
  split at hv
  · rename_i u hx
    obtain ⟨h1, rfl⟩ := ofV_inv hv
    obtain ⟨v', g1, g2⟩ := fieldV_ok (w := w) (ev_ok hg he hx) h1
    exact .pure hr g1 g2
  · cases hv
end
end Cx
end Go.Proofs.YtfigbldiffjmbaaGreatDoor
