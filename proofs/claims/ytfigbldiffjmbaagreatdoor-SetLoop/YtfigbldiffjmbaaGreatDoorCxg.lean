/- Closed runs: a region that draws its order: what each operation of it is. -/
import Derived.Test.YtfigbldiffjmbaaGreatDoorCxf
namespace Go.Proofs.YtfigbldiffjmbaaGreatDoor
namespace Cx
open Go

section
variable {P : Program} {G B : Nat} {call : FuncId → List Value → Hp → CRes} {round : Nat → List Value → Hp → CRes} {ops : Array Oper}

/-- the kinds of an operation on the executor's way -/
inductive Kd (P : Program) (G : Nat) (call : FuncId → List Value → Hp → CRes) (round : Nat → List Value → Hp → CRes) (ops : Array Oper) (y : Way) (i : Nat) (o : Oper) : Prop
  | none (hw : y.W i = false) (hv : y.V i = undef) (hh : y.H (i + 1) = y.H i) (ha : y.A (i + 1) = y.A i)
  | slot (hw : y.W i = true) (ht : touch G (y.E i) o.op = none) (hs : slotOp o.op = true) (hv : ∀ h2, opC P G (y.E i) h2 o = .value (y.V i) h2) (hh : y.H (i + 1) = ⟨(y.H i).n, (y.H i).t, cond (Nat.ble (y.H i).low (y.H i).n) (y.H i).low (y.H i).n⟩) (ha : y.A (i + 1) = y.A i)
  | new (ob : LObj) (hw : y.W i = true) (ht : touch G (y.E i) o.op = none) (hs : slotOp o.op = false) (hnw : isNew o.op = true) (hl : loadStore o.op = false) (hv : ∀ h2 : Hp, h2.n = (y.H i).n → opC P G (y.E i) h2 o = .value (y.V i) (h2.new ob)) (hh : y.H (i + 1) = ⟨(y.H i).n + 1, T.put ob (y.H i).t (y.H i).n, cond (Nat.ble (y.H i).low (y.H i).n) (y.H i).low (y.H i).n⟩) (ha : y.A (i + 1) = (i, .nw (y.H i).n) :: y.A i)
  | load (t : TypeId) (x : Operand) (k off : Nat) (hw : y.W i = true) (ht : touch G (y.E i) o.op = some (false, k)) (hd : opDone call round (y.H i) (opC P G (y.E i) (y.H i) o) = .ok (y.V i) (y.H (i + 1))) (ho : o.op = .load t x) (hx : ev G (y.E i) x = some (.pointer (some ⟨k, off, none⟩))) (hl : ldAt P (y.H i) t k off = some (y.V i)) (hh : y.H (i + 1) = y.H i) (hac : accOk ops i false k (y.A i) = true) (ha : y.A (i + 1) = (i, .ld k) :: y.A i)
  | store (t : TypeId) (x z : Operand) (k off : Nat) (u : Value) (us q : List Value) (hw : y.W i = true) (ht : touch G (y.E i) o.op = some (true, k)) (hd : opDone call round (y.H i) (opC P G (y.E i) (y.H i) o) = .ok (y.V i) (y.H (i + 1))) (ho : o.op = .store t x z) (hx : ev G (y.E i) x = some (.pointer (some ⟨k, off, none⟩))) (hz : ev G (y.E i) z = some u) (hsz : size P t = some u.cells.size) (hu : (y.H i).t.get k = some (.cells us)) (hone : u.cells.toList.all one = true) (hq : over us off u.cells.toList = some q)
      (hv : y.V i = undef) (hh : y.H (i + 1) = (y.H i).set k (.cells q)) (hac : accOk ops i true k (y.A i) = true) (hb : barrierS ops i = true) (ha : y.A (i + 1) = (i, .st k) :: y.A i)
  | other (h' : Hp) (hw : y.W i = true) (ht : touch G (y.E i) o.op = none) (hs : slotOp o.op = false) (hnw : isNew o.op = false) (hl : loadStore o.op = false) (hd : opDone call round ⟨(y.H i).n, (y.H i).t, (y.H i).n⟩ (opC P G (y.E i) ⟨(y.H i).n, (y.H i).t, (y.H i).n⟩ o) = .ok (y.V i) h')
      (hh : y.H (i + 1) = ⟨h'.n, h'.t, cond (Nat.ble (y.H i).low h'.low) (y.H i).low h'.low⟩) (hc : (y.H i).n ≤ h'.low ∨ (barrier ops i = true ∧ accB ops i (y.H i) h' (y.A i) = true)) (ha : y.A (i + 1) = (i, .ch (y.H i) (y.H (i + 1))) :: y.A i)

theorem touch_none {e : En} {op : Op} {st : Bool} {k : Nat} (h : touch G e op = some (st, k)) : loadStore op = true := by
  cases op <;> first | rfl | (simp [touch] at h)
theorem kind_of {y : Way} {i : Nat} {o : Oper} (s : StepT P G call round ops y i o) : Kd P G call round ops y i o := by
  cases hw : y.W i with
  | false => obtain ⟨h1, h2, h3⟩ := s.no hw; exact .none hw h1 h2 h3
  | true =>
    obtain ⟨h1, h2⟩ := s.yes hw
    cases ht : touch G (y.E i) o.op with
    | none =>
      rw [ht] at h1 h2
      have h1' : cond (loadStore o.op) CRes.fail (drawRest ops i (y.H i) (y.A i) (opDone call round ⟨(y.H i).n, (y.H i).t, (y.H i).n⟩ (opC P G (y.E i) ⟨(y.H i).n, (y.H i).t, (y.H i).n⟩ o))) = .ok (y.V i) (y.H (i + 1)) := h1
      cases hls : loadStore o.op with
      | true => rw [hls] at h1'; cases h1'
      | false =>
        rw [hls] at h1'
        simp only [cond_false] at h1'
        cases hd : opDone call round ⟨(y.H i).n, (y.H i).t, (y.H i).n⟩ (opC P G (y.E i) ⟨(y.H i).n, (y.H i).t, (y.H i).n⟩ o) with
        | fail => rw [hd] at h1'; cases h1'
        | panic v h' => rw [hd] at h1'; cases h1'
        | ok v h' =>
          rw [hd] at h1'
          have h3 : cond (Nat.ble (y.H i).n h'.low || (barrier ops i && accB ops i (y.H i) h' (y.A i))) (CRes.ok v ⟨h'.n, h'.t, cond (Nat.ble (y.H i).low h'.low) (y.H i).low h'.low⟩) .fail = .ok (y.V i) (y.H (i + 1)) := h1'
          cases hb : (Nat.ble (y.H i).n h'.low || (barrier ops i && accB ops i (y.H i) h' (y.A i))) with
          | false => rw [hb] at h3; cases h3
          | true =>
            rw [hb] at h3
            simp only [cond_true, CRes.ok.injEq] at h3
            obtain ⟨rfl, h4⟩ := h3
            simp only [Bool.or_eq_true, Nat.ble_eq, Bool.and_eq_true] at hb
            cases hs : slotOp o.op with
            | false =>
              rw [hs] at h2
              cases hnw : isNew o.op with
              | false => rw [hnw] at h2; exact .other h' hw ht hs hnw hls hd h4.symm hb h2
              | true =>
                rw [hnw] at h2
                rcases new_NU (P := P) (G := G) (e := y.E i) hnw (y.H i).n with hf | ⟨u, ob, hf⟩
                · have hf' : opC P G (y.E i) ⟨(y.H i).n, (y.H i).t, (y.H i).n⟩ o = .fail := hf _ rfl
                  rw [hf'] at hd; cases hd
                · have hf' : ∀ h2 : Hp, h2.n = (y.H i).n → opC P G (y.E i) h2 o = .value u (h2.new ob) := hf
                  rw [hf' ⟨(y.H i).n, (y.H i).t, (y.H i).n⟩ rfl] at hd
                  have hd' : CRes.ok u ((⟨(y.H i).n, (y.H i).t, (y.H i).n⟩ : Hp).new ob) = .ok (y.V i) h' := hd
                  simp only [CRes.ok.injEq] at hd'
                  obtain ⟨e1, e2⟩ := hd'
                  exact .new ob hw ht hs hnw hls (fun h2 hn => by rw [hf' h2 hn, e1]) (by rw [← h4, ← e2]; rfl) h2
            | true =>
              rw [hs] at h2
              rcases slot_HU (P := P) (G := G) (e := y.E i) hs with hf | ⟨u, hf⟩
              · have hf' : opC P G (y.E i) ⟨(y.H i).n, (y.H i).t, (y.H i).n⟩ o = .fail := hf _
                rw [hf'] at hd; cases hd
              · have hf' : ∀ h2, opC P G (y.E i) h2 o = .value u h2 := hf
                rw [hf'] at hd
                have hd' : CRes.ok u ⟨(y.H i).n, (y.H i).t, (y.H i).n⟩ = .ok (y.V i) h' := hd
                simp only [CRes.ok.injEq] at hd'
                obtain ⟨e1, e2⟩ := hd'
                exact .slot hw ht hs (fun h2 => by rw [hf', e1]) (by rw [← h4, ← e2]) h2
    | some sk =>
      obtain ⟨st, k⟩ := sk
      have hls := touch_none ht
      have htt := ht
      rw [ht] at h1 h2
      have h1' : cond (accOk ops i st k (y.A i) && (!st || barrierS ops i)) (opDone call round (y.H i) (opC P G (y.E i) (y.H i) o)) .fail = .ok (y.V i) (y.H (i + 1)) := h1
      cases hb : (accOk ops i st k (y.A i) && (!st || barrierS ops i)) with
      | false => rw [hb] at h1'; cases h1'
      | true =>
        rw [hb] at h1'
        simp only [cond_true] at h1'
        simp only [Bool.and_eq_true, Bool.or_eq_true] at hb
        obtain ⟨hb1, hb2⟩ := hb
        have hd0 := h1'
        cases hop : o.op with
        | load t x =>
          rw [hop] at htt
          have htt' : (match ev G (y.E i) x with | some (.pointer (some ⟨k, _, _⟩)) => some (false, k) | _ => none) = some (st, k) := htt
          have hoc : opC P G (y.E i) (y.H i) o = onlyV (match ev G (y.E i) x with | some p => Out.ofV (y.H i) (ld P (y.H i) t p) | none => .fail) := by unfold opC; rw [hop]; rfl
          rw [hoc] at h1'
          split at htt'
          · rename_i k' off sp hx
            simp only [Option.some.injEq, Prod.mk.injEq] at htt'
            obtain ⟨rfl, rfl⟩ := htt'
            rw [hx] at h1'
            cases sp with
            | some z => cases h1'
            | none =>
              have hld : ld P (y.H i) t (.pointer (some ⟨k', off, none⟩)) = ldAt P (y.H i) t k' off := rfl
              simp only [hld] at h1'
              cases hl : ldAt P (y.H i) t k' off with
              | none => rw [hl] at h1'; cases h1'
              | some v =>
                rw [hl] at h1'
                have h5 : CRes.ok v (y.H i) = .ok (y.V i) (y.H (i + 1)) := h1'
                simp only [CRes.ok.injEq] at h5
                exact .load t x k' off hw (by rw [ht]) hd0 hop hx (by rw [hl, h5.1]) h5.2.symm hb1 h2
          · cases htt'
        | store t x z =>
          rw [hop] at htt
          have htt' : (match ev G (y.E i) x with | some (.pointer (some ⟨k, _, _⟩)) => some (true, k) | _ => none) = some (st, k) := htt
          have hoc : opC P G (y.E i) (y.H i) o = onlyV (opStore P G (y.E i) (y.H i) t x z) := by unfold opC; rw [hop]; rfl
          rw [hoc] at h1'
          split at htt'
          · rename_i k' off sp hx
            simp only [Option.some.injEq, Prod.mk.injEq] at htt'
            obtain ⟨rfl, rfl⟩ := htt'
            have hb3 : barrierS ops i = true := by simpa using hb2
            unfold opStore at h1'
            rw [hx] at h1'
            cases hz : ev G (y.E i) z with
            | none => rw [hz] at h1'; cases sp <;> cases h1'
            | some u =>
              rw [hz] at h1'
              cases sp with
              | some q => cases h1'
              | none =>
                simp only at h1'
                cases hsz : size P t with
                | none => rw [hsz] at h1'; cases h1'
                | some n =>
                  rw [hsz] at h1'
                  simp only [beqN] at h1'
                  by_cases hn : u.cells.size = n
                  · simp only [hn, decide_true, cond_true] at h1'
                    cases hwr : (y.H i).wr k' off u.cells.toList with
                    | none => rw [hwr] at h1'; cases h1'
                    | some h3 =>
                      rw [hwr] at h1'
                      have h5 : CRes.ok undef h3 = .ok (y.V i) (y.H (i + 1)) := h1'
                      simp only [CRes.ok.injEq] at h5
                      unfold Hp.wr at hwr
                      split at hwr
                      · rename_i us hu
                        cases hall : u.cells.toList.all one with
                        | false => rw [hall] at hwr; cases hwr
                        | true =>
                          rw [hall] at hwr
                          simp only [cond_true] at hwr
                          split at hwr
                          · rename_i q hq
                            simp only [Option.some.injEq] at hwr
                            exact .store t x z k' off u us q hw (by rw [ht]) hd0 hop hx hz (by rw [hsz, hn]) hu hall hq h5.1.symm (by rw [← h5.2, ← hwr]) hb1 hb3 h2
                          · cases hwr
                      · cases hwr
                  · simp [hn] at h1'; cases h1'
          · cases htt'
        | _ => rw [hop] at hls; cases hls

theorem accB_same {i : Nat} {h h' : Hp} {low : Nat} {acc : List (Nat × AE)} (hc : accB ops i h h' acc = true) : accB ops i h ⟨h'.n, h'.t, low⟩ acc = true := by
  rw [← hc]
  unfold accB
  congr 1
/-- what an operation changes -/
def Wr (G : Nat) (ops : Array Oper) (y : Way) (i k : Nat) : Prop := ∃ o, ops[i]? = some o ∧ y.W i = true ∧ (touch G (y.E i) o.op = some (true, k) ∨ touch G (y.E i) o.op = none ∧ slotOp o.op = false ∧ isNew o.op = false ∧ barrier ops i = true ∧ accB ops i (y.H i) (y.H (i + 1)) (y.A i) = true ∧ k < (y.H i).n ∧ (y.H (i + 1)).t.get k ≠ (y.H i).t.get k)
def Ds (ops : Array Oper) (i t : Nat) : Prop := ∃ o, ops[i]? = some o ∧ o.dst = some t

/-- one step of the executor's own order -/
theorem step_ref (hf : SF P G B call) (hrd : SR P G B round) {y : Way} {i : Nat} {o : Oper} (ho : ops[i]? = some o) (s : StepT P G call round ops y i o) {μ : Mu} {a : Act} {w : World} (c : Cond G B μ (y.H i) w) (he : AR μ (y.E i) a) :
    (∃ μ1 v' w1, VR μ1 (y.V i) v' ∧ Good B μ (y.H i) w μ1 (y.H (i + 1)) w1) ∧ (∀ k, k < (y.H i).n → ¬ Wr G ops y i k → (y.H (i + 1)).t.get k = (y.H i).t.get k) := by
  cases kind_of s with
  | none hw hv hh ha => rw [hv, hh]; exact ⟨⟨μ, undef, w, undef_refl μ, .refl c.hr⟩, fun _ _ _ => rfl⟩
  | slot hw ht hs hv hh ha =>
    obtain ⟨μ1, v', w1, g1, g2⟩ := op_exists (o := o) (h := ⟨(y.H i).n, (y.H i).t, (y.H i).n⟩) hf hrd ⟨c.hr, c.gr, c.hB⟩ he (by rw [hv]; rfl)
    refine ⟨⟨μ1, v', w1, g1, ?_⟩, fun k _ _ => by rw [hh]⟩
    rw [hh]
    exact g2.relow
  | new ob hw ht hs hnw hl hv hh ha =>
    obtain ⟨μ1, v', w1, g1, g2⟩ := op_exists (o := o) (h := ⟨(y.H i).n, (y.H i).t, (y.H i).n⟩) (h1 := (⟨(y.H i).n, (y.H i).t, (y.H i).n⟩ : Hp).new ob) (v := y.V i) hf hrd ⟨c.hr, c.gr, c.hB⟩ he (by rw [hv ⟨(y.H i).n, (y.H i).t, (y.H i).n⟩ rfl]; rfl)
    refine ⟨⟨μ1, v', w1, g1, ?_⟩, fun k hk _ => ?_⟩
    · rw [hh]
      exact g2.relow
    · rw [hh]
      show (T.put ob (y.H i).t (y.H i).n).get k = _
      rw [T.get_put]
      have : ¬ k = (y.H i).n := by omega
      simp [this]
  | load t x k off hw ht hd hop hx hl hh hac ha =>
    obtain ⟨μ1, v', w1, g1, g2⟩ := op_exists (o := o) hf hrd c he hd
    exact ⟨⟨μ1, v', w1, g1, g2⟩, fun k _ _ => by rw [hh]⟩
  | store t x z k off u us q hw ht hd hop hx hz hsz hu hone hq hv hh hac hb ha =>
    obtain ⟨μ1, v', w1, g1, g2⟩ := op_exists (o := o) hf hrd c he hd
    refine ⟨⟨μ1, v', w1, g1, g2⟩, fun k' _ hnw => ?_⟩
    rw [hh, set_get]
    have : ¬ k' = k := fun e => hnw ⟨o, ho, hw, .inl (by rw [ht, e])⟩
    simp [this]
  | other h' hw ht hs hnw hl hd hh hc ha =>
    obtain ⟨μ1, v', w1, g1, g2⟩ := op_exists (o := o) (h := ⟨(y.H i).n, (y.H i).t, (y.H i).n⟩) hf hrd ⟨c.hr, c.gr, c.hB⟩ he hd
    refine ⟨⟨μ1, v', w1, g1, by rw [hh]; exact g2.relow⟩, fun k hk hnW => ?_⟩
    rcases hc with hc | ⟨hc1, hc2⟩
    · rw [hh]; exact g2.st.kept k hk (Nat.lt_of_lt_of_le hk hc)
    · exact Classical.byContradiction fun hne => hnW ⟨o, ho, hw, .inr ⟨ht, hs, hnw, hc1, by rw [hh]; exact accB_same hc2, hk, hne⟩⟩

/-- what is known of the executor's way by itself -/
structure Loc (G : Nat) (ops : Array Oper) (y : Way) : Prop where
  n : ∀ i, i < ops.size → (y.H i).n ≤ (y.H (i + 1)).n
  same : ∀ i k, i < ops.size → k < (y.H i).n → ¬ Wr G ops y i k → (y.H (i + 1)).t.get k = (y.H i).t.get k
  keptE : ∀ i t, i < ops.size → ¬ Ds ops i t → (y.E (i + 1)).t.get t = (y.E i).t.get t
  putE : ∀ i t, i < ops.size → Ds ops i t → (y.E (i + 1)).t.get t = some (y.V i)
  sz : ∀ i, i < ops.size → (y.E (i + 1)).sz = (y.E i).sz
  mks : ∀ i, i < ops.size → (y.E (i + 1)).mks = (y.E i).mks
  dlt : ∀ i t, i < ops.size → Ds ops i t → t < (y.E i).sz
  low : ∀ i, i < ops.size → (y.H (i + 1)).low ≤ (y.H i).low
  alive : ∀ i k o, i < ops.size → k < (y.H i).n → (y.H (i + 1)).t.get k = some o → o.live = true → ∃ o0, (y.H i).t.get k = some o0 ∧ o0.live = true ∧ o0.isRo = o.isRo
theorem putD_spec {e e' : En} {d : Option Tmp} {v : Value} (h : putD e d v = some e') : e'.sz = e.sz ∧ e'.mks = e.mks ∧ (∀ t, d ≠ some t → e'.t.get t = e.t.get t) ∧ (∀ t, d = some t → e'.t.get t = some v ∧ t < e.sz) := by
  unfold putD at h
  split at h
  · rename_i d
    cases hb : Nat.blt d e.sz with
    | false => rw [hb] at h; cases h
    | true =>
      rw [hb] at h
      simp only [cond_true, Option.some.injEq] at h
      subst h
      refine ⟨rfl, rfl, fun t ht => ?_, fun t ht => ?_⟩
      · have : ¬ t = d := fun e => ht (by rw [e])
        simp only
        rw [T.get_put]; simp [this]
      · simp only [Option.some.injEq] at ht
        subst ht
        exact ⟨by simp only; rw [T.get_put]; simp, blt_iff.1 hb⟩
  · simp only [Option.some.injEq] at h
    subst h
    exact ⟨rfl, rfl, fun _ _ => rfl, fun t ht => by cases ht⟩
/-- the operations once in their own order -/
theorem loc_of (hf : SF P G B call) (hrd : SR P G B round) {y : Way} (hst : ∀ i o, ops[i]? = some o → StepT P G call round ops y i o) {μ : Mu} {a : Act} {w : World} (c : Cond G B μ (y.H 0) w) (he : AR μ (y.E 0) a) :
    Loc G ops y ∧ ∃ μ' w', Good B μ (y.H 0) w μ' (y.H ops.size) w' := by
  have href : ∀ i, i ≤ ops.size → ∃ μ1 a1 w1, Cond G B μ1 (y.H i) w1 ∧ AR μ1 (y.E i) a1 ∧ Good B μ (y.H 0) w μ1 (y.H i) w1 := by
    intro i
    induction i with
    | zero => intro _; exact ⟨μ, a, w, c, he, .refl c.hr⟩
    | succ i ih =>
      intro hi
      obtain ⟨μ1, a1, w1, c1, he1, g1⟩ := ih (by omega)
      have ho : ops[i]? = some ops[i] := Array.getElem?_eq_getElem (by omega)
      have s := hst i _ ho
      obtain ⟨⟨μ2, v', w2, q1, q2⟩, _⟩ := step_ref hf hrd ho s c1 he1
      exact ⟨μ2, _, w2, c1.next q2, putD_ok (he1.mono q2.st.le) q1 s.put, Good.trans c.hr g1 q2⟩
  refine ⟨⟨?_, ?_, ?_, ?_, ?_, ?_, ?_, ?_, ?_⟩, ?_⟩
  · intro i hi
    obtain ⟨μ1, a1, w1, c1, he1, g1⟩ := href i (by omega)
    have ho : ops[i]? = some ops[i] := Array.getElem?_eq_getElem hi
    obtain ⟨⟨μ2, v', w2, q1, q2⟩, _⟩ := step_ref hf hrd ho (hst i _ ho) c1 he1
    exact q2.st.n
  · intro i k hi hk hnw
    obtain ⟨μ1, a1, w1, c1, he1, g1⟩ := href i (by omega)
    have ho : ops[i]? = some ops[i] := Array.getElem?_eq_getElem hi
    exact (step_ref hf hrd ho (hst i _ ho) c1 he1).2 k hk hnw
  · intro i t hi hnd
    have ho : ops[i]? = some ops[i] := Array.getElem?_eq_getElem hi
    exact (putD_spec (hst i _ ho).put).2.2.1 t fun e => hnd ⟨_, ho, e⟩
  · rintro i t hi ⟨o, ho, hd⟩
    exact ((putD_spec (hst i o ho).put).2.2.2 t hd).1
  · intro i hi
    have ho : ops[i]? = some ops[i] := Array.getElem?_eq_getElem hi
    exact (putD_spec (hst i _ ho).put).1
  · intro i hi
    have ho : ops[i]? = some ops[i] := Array.getElem?_eq_getElem hi
    exact (putD_spec (hst i _ ho).put).2.1
  · rintro i t hi ⟨o, ho, hd⟩
    exact ((putD_spec (hst i o ho).put).2.2.2 t hd).2
  · intro i hi
    obtain ⟨μ1, a1, w1, c1, he1, g1⟩ := href i (by omega)
    have ho : ops[i]? = some ops[i] := Array.getElem?_eq_getElem hi
    obtain ⟨⟨μ2, v', w2, q1, q2⟩, _⟩ := step_ref hf hrd ho (hst i _ ho) c1 he1
    exact q2.st.low
  · intro i k o hi hk hq hl
    obtain ⟨μ1, a1, w1, c1, he1, g1⟩ := href i (by omega)
    have ho : ops[i]? = some ops[i] := Array.getElem?_eq_getElem hi
    obtain ⟨⟨μ2, v', w2, q1, q2⟩, _⟩ := step_ref hf hrd ho (hst i _ ho) c1 he1
    exact q2.st.alive k o hk hq hl
  · obtain ⟨μ1, a1, w1, c1, he1, g1⟩ := href ops.size (Nat.le_refl _)
    exact ⟨μ1, w1, g1⟩
end
end Cx
end Go.Proofs.YtfigbldiffjmbaaGreatDoor
