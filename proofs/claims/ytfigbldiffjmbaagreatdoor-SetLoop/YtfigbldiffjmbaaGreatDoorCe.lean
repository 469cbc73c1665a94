/- Closed runs: calls. -/
import Derived.Test.YtfigbldiffjmbaaGreatDoorCk
import Derived.RecoverIn
namespace Go.Proofs.YtfigbldiffjmbaaGreatDoor
namespace Cx
open Go

section
variable {P : Program} {G B : Nat}

theorem envOf_cons (v : Value) (l : List Value) (i : Nat) (t : T Value) : envOf (v :: l) i t = envOf l (i + 1) (T.put v t i) := rfl
theorem envOf_get : ∀ (l : List Value) (i : Nat) (t : T Value) (k : Nat), (envOf l i t).get k = if i ≤ k ∧ k < i + l.length then l[k - i]? else t.get k
  | [], i, t, k => by
    have : ¬ (i ≤ k ∧ k < i + ([] : List Value).length) := by
      intro ⟨h1, h2⟩
      rw [List.length_nil] at h2
      omega
    rw [if_neg this]; rfl
  | v :: l, i, t, k => by
    rw [envOf_cons, envOf_get l (i + 1) _ k, T.get_put]
    by_cases hk : k = i
    · subst hk
      have c1 : ¬ (k + 1 ≤ k ∧ k < k + 1 + l.length) := by omega
      have c2 : k ≤ k ∧ k < k + (v :: l).length := by simp
      rw [if_neg c1, if_pos c2]; simp
    · by_cases hin : i + 1 ≤ k ∧ k < i + 1 + l.length
      · have c2 : i ≤ k ∧ k < i + (v :: l).length := by simp; omega
        rw [if_pos hin, if_pos c2, show k - i = (k - (i + 1)) + 1 by omega]; simp
      · have c2 : ¬ (i ≤ k ∧ k < i + (v :: l).length) := by simp; omega
        rw [if_neg hin, if_neg c2]; simp [hk]

theorem resOf_cons (e : En) (h : Hp) (r : ResultVar) (l : List ResultVar) : resOf P e h (r :: l) = (match (match r with | .tmp t => e.t.get t | .cell a t => (match e.t.get a with | some p => ld P h t p | none => none) : Option Value) with
    | some v => (match resOf P e h l with | some l => some (v :: l) | none => none)
    | none => none) := rfl
/-- what a function's result is read from -/
def resSem (tmps : Array Value) : ResultVar → Sem Value
  | .tmp t => pure (tmps.getD t undef)
  | .cell a t => do loadVar t (← asAddr (tmps.getD a undef))
theorem resOf_ok {μ : Mu} {e : En} {h : Hp} {w : World} {tmps : Array Value} (hr : HR B μ h.n h.t.get w) (he : TR μ e tmps) : ∀ (l : List ResultVar) (vs : List Value), resOf P e h l = some vs → ∃ vs', VRL μ vs vs' ∧ (l.mapM (resSem tmps)).run P w = .ok vs' w
  | [], vs, hv => by have hv' : some ([] : List Value) = some vs := hv; simp at hv'; subst hv'; exact ⟨[], .nil, by simp⟩
  | r :: l, vs, hv => by
    rw [resOf_cons] at hv
    split at hv
    · rename_i v h1
      split at hv
      · rename_i q h2
        simp at hv; subst hv
        obtain ⟨vs', g1, g2⟩ := resOf_ok hr he l q h2
        have hone : ∃ v', (resSem tmps r).run P w = .ok v' w ∧ VR μ v v' := by
          cases r with
          | tmp t =>
            obtain ⟨v', q1, q2⟩ := he.get t v h1
            exact ⟨v', by simp [resSem, q1], q2⟩
          | cell a t =>
            simp only at h1
            split at h1
            · rename_i p hp
              obtain ⟨p', q1, q2⟩ := he.get a p hp
              unfold ld at h1
              split at h1
              · rename_i k o
                cases q2 with
                | ptr hk =>
                  obtain ⟨v', z1, z2⟩ := ld_ok hr hk h1
                  exact ⟨v', by simp [resSem, q1, asAddr, z1], z2⟩
              · cases h1
            · cases h1
        obtain ⟨v', z1, z2⟩ := hone
        refine ⟨v' :: vs', .cons z2 g1, ?_⟩
        rw [List.mapM_cons]
        simp only [Sem.run_bind, z1, Result.andThen_ok, g2, Sem.run_pure]
      · cases hv
    · cases hv
theorem results_eq (fn : Func) (tmps : Array Value) : results fn tmps = (do let vs ← fn.results.mapM (resSem tmps); pure (if h : vs.size = 1 then vs[0] else .tuple vs)) := by
  unfold results
  congr 1
theorem results_ok {μ : Mu} {e : En} {h : Hp} {w : World} {fn : Func} {tmps : Array Value} (hr : HR B μ h.n h.t.get w) (he : TR μ e tmps) {vs : List Value} (hv : resOf P e h fn.results.toList = some vs) : ∃ v', (results fn tmps).run P w = .ok v' w ∧ VR μ (tupOf vs) v' := by
  obtain ⟨vs', g1, g2⟩ := resOf_ok hr he _ _ hv
  rw [results_eq]
  have hm : (fn.results.mapM (resSem tmps)).run P w = .ok vs'.toArray w := by
    rw [Array.mapM_eq_mapM_toList, Sem.run_map, g2, Result.andThen_ok]
  refine ⟨if h : vs'.toArray.size = 1 then vs'.toArray[0] else .tuple vs'.toArray, by simp only [Sem.run_bind, hm, Result.andThen_ok, Sem.run_pure], ?_⟩
  have hlen := g1.length
  by_cases h1 : vs'.toArray.size = 1
  · rw [dif_pos h1]
    cases g1 with
    | nil => simp at h1
    | cons hq ht =>
      cases ht with
      | nil => exact hq
      | cons _ _ => simp at h1
  · rw [dif_neg h1]
    cases g1 with
    | nil => exact .tuple .nil
    | cons hq ht =>
      cases ht with
      | nil => simp at h1
      | cons hv2 ht2 => exact .tuple (.cons hq (.cons hv2 ht2))

def UM.mode : UM → FrameMode
  | .rt => .returning
  | .pn v => .panicking [{ v := v, recovered := false }]
  | .dn v => .panicking [{ v := v, recovered := true }]
theorem UM.mode_ne (u : UM) : u.mode ≠ .run := by cases u <;> simp [UM.mode]
theorem settle_mode (u : UM) : settle u.mode = (settleU u).mode := by
  cases u <;> rfl
theorem callFunc_go (hng : ∀ (f : FuncId) (fn : Func), P.funcs[f]? = some fn → fn.body.isSome = true → (fn.name == "runtime.NumGoroutine") = false) {f : FuncId} {fn : Func} (hfn : P.funcs[f]? = some fn) {code : Code} (hb : fn.body = some code) (args : Array Value) (w : World) :
    (callFunc f args).run P w = .ok (.enter f args) w := by
  have hn := hng f fn hfn (by rw [hb]; rfl)
  simp only [callFunc, program, Sem.run_bind, Sem.run, Result.andThen_ok, hfn, hn, Bool.false_eq_true, if_false, hb, Option.isNone_some]
  rfl
/-- where a call begins -/
theorem enter_AR {μ : Mu} {args : List Value} {args' : Array Value} {n : Nat} (hargs : VRL μ args args'.toList) (hle : args.length ≤ n) : AR μ ⟨n, envOf args 0 .nil, []⟩ { tmps := args' ++ Array.replicate (n - args'.size) undef, defers := [] } := by
  have hal := hargs.length
  have hsz : args'.size = args.length := by rw [← Array.length_toList]; omega
  refine ⟨⟨by simp; omega, fun t u hu => ?_⟩, .nil⟩
  rw [envOf_get] at hu
  by_cases hin : 0 ≤ t ∧ t < 0 + args.length
  · rw [if_pos hin] at hu
    obtain ⟨u', g1, g2⟩ := hargs.get t u (by simpa using hu)
    refine ⟨u', ?_, g2⟩
    rw [Array.getElem?_append_left (by omega)]
    simpa using g1
  · rw [if_neg hin, T.get_nil] at hu; cases hu

/-- deferred calls -/
def DC (P : Program) (G B : Nat) (dc : FuncId → List Value → UM → Hp → Option (UM × Hp)) : Prop :=
  ∀ f args u h u' h', dc f args u h = some (u', h') → ∀ μ (args' : Array Value) w, Cond G B μ h w → VRL μ args args'.toList →
    (callFunc f args').run P w = .ok (.enter f args') w ∧ CallsDIn (FW none) 0 P f args' u.mode w fun en um w' => (∃ v, en = .returned v) ∧ um = u'.mode ∧ ∃ μ', Good B μ h w μ' h' w'

theorem leave_cons (dc : FuncId → List Value → UM → Hp → Option (UM × Hp)) (d : DI) (l : List DI) (u : UM) (h : Hp) : leave dc (d :: l) u h = (match d with
    | .mark k => (match h.t.get k with
      | some .defs => leave dc l u (h.set k .other)
      | _ => none)
    | .call f args => (match dc f args u h with
      | some (u, h) => leave dc l (settleU u) h
      | none => none)) := rfl
/-- the marks taken away, the deferred calls run -/
theorem leave_ok {dc : FuncId → List Value → UM → Hp → Option (UM × Hp)} (hdc : DC P G B dc) {fn : Func} {tmps : Array Value} {R : Ending → World → Prop} : ∀ (ks : List DI) (ds : List Deferred) (u u2 : UM) (h h2 : Hp) (μ : Mu) (w : World), Cond G B μ h w → MR μ ks ds → leave dc ks u h = some (u2, h2) →
    (∀ μ2 w2, Good B μ h w μ2 h2 w2 → LeavesIn (FW none) 0 P fn tmps R [] u2.mode w2) → LeavesInM (FW none) 0 P fn tmps R ds u.mode w
  | [], _, u, u2, h, h2, μ, w, c, .nil, hu, hl => by
    have hu' : some (u, h) = some (u2, h2) := hu
    simp only [Option.some.injEq, Prod.mk.injEq] at hu'
    obtain ⟨rfl, rfl⟩ := hu'
    exact hl μ w (.refl c.hr)
  | x :: ks, _, u, u2, h, h2, μ, w, c, .cons hx ht, hu, hl => by
    rename_i d ds
    rw [leave_cons] at hu
    cases hx with
    | mark hk =>
      rename_i k b p s
      simp only at hu
      split at hu
      · rename_i hd
        have hb : w.heap[b]? = some (.deferred (some [])) := c.hr.obj k b p s _ hk hd
        have hlt := (c.hr.lt k b p s hk).2
        have hrun : (Instr.takeDeferred b).run P w = .ok [] { w with heap := w.heap.setIfInBounds b (.deferred none) } := by
          simp [Instr.takeDeferred, getObj, setObj, Sem.run, hb]
        have hgood : Good B μ h w μ (h.set k .other) { w with heap := w.heap.setIfInBounds b (.deferred none) } :=
          set_ok c.hr hk hd rfl rfl rfl rfl rfl rfl (by simp) (fun b' hne => by simp [Array.getElem?_setIfInBounds_ne (Ne.symm hne)]) trivial
        refine ⟨u.mode_ne, .inl ⟨b, _, rfl, hrun, ?_⟩⟩
        exact leave_ok hdc ks ds u u2 _ h2 μ _ (c.next hgood) ht hu fun μ2 w2 g2 => hl μ2 w2 (Good.trans c.hr hgood g2)
      · cases hu
    | call ha =>
      rename_i f args cap dargs
      simp only at hu
      cases hd : dc f args u h with
      | none => rw [hd] at hu; cases hu
      | some r =>
        obtain ⟨u1, h1⟩ := r
        rw [hd] at hu
        simp only at hu
        obtain ⟨q1, q2⟩ := hdc f args u h u1 h1 hd μ (dargs ++ cap) w c (by simpa using ha)
        refine ⟨u.mode_ne, .inr ⟨fun hh => by simp [Fence.wide] at hh, .func f, cap, f, dargs ++ cap, rfl, q1, fun _ _ => trivial, ?_⟩⟩
        refine CallsDIn.mono q2 fun en um w' hen => ?_
        obtain ⟨⟨v, rfl⟩, rfl, μ', g⟩ := hen
        show LeavesInM (FW none) 0 P fn tmps R ds (settle u1.mode) w'
        rw [settle_mode]
        exact leave_ok hdc ks ds (settleU u1) u2 h1 h2 μ' w' (c.next g) (ht.mono g.st.le) hu fun μ2 w2 g2 => hl μ2 w2 (Good.trans c.hr g g2)

theorem wpSIn_mono {F : Fence} {n : Nat} {c : Code} {Q Q' : Exit → Act → List Frame → World → Prop} {a : Act} {cs : List Frame} {w : World} (h : c.wpSIn F n P Q a cs w) (hq : ∀ e a cs w, Q e a cs w → Q' e a cs w) : c.wpSIn F n P Q' a cs w :=
  fun b k h1 h2 h3 h4 => let ⟨e, a', cs', w', l, q, r⟩ := h b k h1 h2 h3 h4; ⟨e, a', cs', w', l, hq _ _ _ _ q, r⟩

/-- where a deferred body stands -/
def SP (B : Nat) (μ : Mu) (h : Hp) (w : World) (c₀ : Frame) (cs : List Frame) (u : UM) (x : Ex) (e' : En) (h' : Hp) : Exit → Act → List Frame → World → Prop :=
  fun ex a' cs' w' => cs' = { c₀ with mode := u.mode } :: cs ∧ CP B μ h w x e' h' ex a' w'

theorem recOps_cons (all : Array Oper) (o : Oper) (l : List Oper) (u : UM) (e : En) (h : Hp) : recOps P G all (o :: l) u e h = (match wantedC all e o.guard with
    | some true => cond (isRecover o.op) (match recoverU u with
          | some (v, u) => (match putD e o.dst v with | some e => recOps P G all l u e h | none => none)
          | none => none)
        (match opC P G e h o with
        | .value v h => (match putD e o.dst v with | some e => recOps P G all l u e h | none => none)
        | _ => none)
    | some false => (match putD e o.dst undef with | some e => recOps P G all l u e h | none => none)
    | none => none) := rfl

theorem recoverU_ok {u u1 : UM} {v : Value} (h : recoverU u = some (v, u1)) (μ : Mu) (c₀ : Frame) (cs : List Frame) (hc : c₀.mode = u.mode) :
    VR μ v v ∧ ((recoverD (c₀ :: cs) = some (v, { c₀ with mode := u1.mode } :: cs)) ∨ (recoverD (c₀ :: cs) = none ∧ v = .nilIface ∧ { c₀ with mode := u1.mode } = c₀)) := by
  cases u with
  | rt =>
    simp only [recoverU, Option.some.injEq, Prod.mk.injEq] at h
    obtain ⟨rfl, rfl⟩ := h
    refine ⟨.nilIface, .inr ⟨?_, rfl, by rw [← hc]⟩⟩
    simp [recoverD, hc, UM.mode]
  | dn x =>
    simp only [recoverU, Option.some.injEq, Prod.mk.injEq] at h
    obtain ⟨rfl, rfl⟩ := h
    refine ⟨.nilIface, .inr ⟨?_, rfl, by rw [← hc]⟩⟩
    simp [recoverD, hc, UM.mode]
  | pn x =>
    simp only [recoverU] at h
    cases hcl : closedV x with
    | false => rw [hcl] at h; cases h
    | true =>
      rw [hcl] at h
      simp only [cond_true, Option.some.injEq, Prod.mk.injEq] at h
      obtain ⟨rfl, rfl⟩ := h
      refine ⟨closed_VR hcl, .inl ?_⟩
      simp [recoverD, hc, UM.mode]

theorem recOps_ok (all : Array Oper) : ∀ (l : List Oper) (i : Nat), all.toList = all.toList.take i ++ l → i ≤ all.size → ∀ (u u' : UM) (e e' : En) (h h' : Hp) (μ : Mu) (a : Act) (w : World) (c₀ : Frame) (cs : List Frame), recOps P G all l u e h = some (u', e', h') → c₀.mode = u.mode → Cond G B μ h w → AR μ e a → ∀ (Q : Exit → Act → List Frame → World → Prop), (∀ ex a' cs' w', SP B μ h w c₀ cs u' .normal e' h' ex a' cs' w' → Q ex a' cs' w') →
    wpOpsSIn (FW none) 0 P all Q (List.range' i l.length) a (c₀ :: cs) w
  | [], i, _, _, u, u', e, e', h, h', μ, a, w, c₀, cs, hrun, hm, c, he, Q, hQ => by
    have hr' : some (u, e, h) = some (u', e', h') := hrun
    simp only [Option.some.injEq, Prod.mk.injEq] at hr'
    obtain ⟨rfl, rfl, rfl⟩ := hr'
    exact hQ _ _ _ _ ⟨by rw [← hm], rfl, μ, he, .refl c.hr⟩
  | o :: l, i, hl, hi, u, u', e, e', h, h', μ, a, w, c₀, cs, hrun, hm, c, he, Q, hQ => by
    have hlen := congrArg List.length hl
    simp at hlen
    have hoi : all[i]? = some o := by
      have := congrArg (fun q => q[i]?) hl
      simp [Nat.min_eq_left hi] at this
      exact this
    have hl' : all.toList = all.toList.take (i + 1) ++ l := by
      rw [List.take_add_one]
      have : all.toList[i]? = some o := by simpa using hoi
      rw [this]
      simpa using hl
    have hgo : ∀ (u1 : UM) (e1 : En) (v v' : Value) (h1 : Hp) (μ1 : Mu) (w1 : World) (c1 : Frame), recOps P G all l u1 e1 h1 = some (u', e', h') → putD e o.dst v = some e1 → VR μ1 v v' → Good B μ h w μ1 h1 w1 → c1 = { c₀ with mode := u1.mode } →
        wpOpsSIn (FW none) 0 P all Q (List.range' (i + 1) l.length) (a.put o.dst v') (c1 :: cs) w1 := fun u1 e1 v v' h1 μ1 w1 c1 hr1 hpd hv g hc1 =>
      recOps_ok all l (i + 1) hl' (by omega) u1 u' e1 e' h1 h' μ1 (a.put o.dst v') w1 c1 cs hr1 (by rw [hc1]) (c.next g) (putD_ok (he.mono g.st.le) hv hpd) Q fun ex a2 cs2 w2 hsp => hQ _ _ _ _ ⟨by rw [hsp.1, hc1], CP.from c g hsp.2⟩
    rw [recOps_cons] at hrun
    rw [List.length_cons, List.range'_succ]
    simp only [wpOpsSIn, hoi]
    refine ⟨fun _ _ => trivial, ?_⟩
    split at hrun
    · rename_i hw
      rw [wanted_ok he.tr hw]
      simp only [if_true]
      cases hrec : isRecover o.op with
      | true =>
        rw [hrec] at hrun
        simp only [cond_true] at hrun
        split at hrun
        · rename_i v u1 hru
          split at hrun
          · rename_i e1 hpd
            obtain ⟨k1, k2⟩ := recoverU_ok hru μ c₀ cs hm
            have hex : (execOp a.eval o).run P w = .ok .recover w := by
              obtain ⟨dst, op, type, pos, after, guard⟩ := o
              simp only at hrec
              unfold isRecover at hrec
              split at hrec
              · rfl
              · cases hrec
            rw [hex]
            simp only
            rcases k2 with k2 | ⟨k2, rfl, k3⟩
            · rw [k2]; exact hgo u1 e1 v v h μ w _ hrun hpd k1 (.refl c.hr) rfl
            · rw [k2]; exact hgo u1 e1 _ _ h μ w _ hrun hpd k1 (.refl c.hr) k3.symm
          · cases hrun
        · cases hrun
      | false =>
        rw [hrec] at hrun
        simp only [cond_false] at hrun
        have hok := opC_ok (P := P) c.hr c.hB c.gr he.tr o
        split at hrun
        · rename_i v h1 hop
          rw [hop] at hok
          obtain ⟨nx, v', w', μ', g1, g2, g3, g4⟩ := hok
          rw [g1]
          split at hrun
          · rename_i e1 hpd
            rcases g2 with rfl | ⟨rfl, rfl⟩
            · exact hgo u e1 v v' h1 μ' w' c₀ hrun hpd g3 g4 (by rw [← hm])
            · exact hgo u e1 v undef h1 μ' w' c₀ hrun hpd g3 g4 (by rw [← hm])
          · cases hrun
        · cases hrun
    · rename_i hw
      rw [wanted_ok he.tr hw]
      simp only [Bool.false_eq_true, if_false]
      split at hrun
      · rename_i e1 hpd
        exact hgo u e1 undef undef h μ w c₀ hrun hpd (undef_refl μ) (.refl c.hr) (by rw [← hm])
      · cases hrun
    · cases hrun

theorem recC_ok {ih : Option Nat → Code → En → Hp → Res} (hih : SC P G B ih) : ∀ (c : Code) (u u' : UM) (e e' : En) (h h' : Hp) (x : Ex) (μ : Mu) (a : Act) (w : World) (c₀ : Frame) (cs : List Frame), recC P G ih u e h c = some (u', .ok x e' h') → c₀.mode = u.mode → Cond G B μ h w → AR μ e a →
    c.wpSIn (FW none) 0 P (SP B μ h w c₀ cs u' x e' h') a (c₀ :: cs) w := by
  have plain : ∀ (c : Code) (u u' : UM) (e e' : En) (h h' : Hp) (x : Ex) (μ : Mu) (a : Act) (w : World) (c₀ : Frame) (cs : List Frame), some (u, ih none c e h) = some (u', Res.ok x e' h') → c₀.mode = u.mode → Cond G B μ h w → AR μ e a →
      c.wpSIn (FW none) 0 P (SP B μ h w c₀ cs u' x e' h') a (c₀ :: cs) w := by
    intro c u u' e e' h h' x μ a w c₀ cs hr hm cc he
    simp only [Option.some.injEq, Prod.mk.injEq] at hr
    obtain ⟨rfl, hr⟩ := hr
    refine wpSIn_of_wpIn rfl ?_
    exact wpIn_mono (hih none none c e h x e' h' hr μ a w cc trivial he) fun ex a' w' hcp => ⟨by rw [← hm], hcp⟩
  intro c
  induction c with
  | seq p q ihp ihq =>
    intro u u' e e' h h' x μ a w c₀ cs hr hm cc he
    have hr' : (match recC P G ih u e h p with
      | some (u, .ok .normal e h) => recC P G ih u e h q
      | r => r) = some (u', .ok x e' h') := by rw [← hr]; rfl
    refine wpSIn_seq ?_
    split at hr'
    · rename_i u1 e1 h1 hp
      refine wpSIn_mono (ihp u u1 e e1 h h1 .normal μ a w c₀ cs hp hm cc he) fun ex a1 cs1 w1 hsp => ?_
      obtain ⟨rfl, rfl, μ1, hA, hG⟩ := hsp
      show q.wpSIn (FW none) 0 P (SP B μ h w c₀ cs u' x e' h') a1 _ w1
      refine wpSIn_mono (ihq u1 u' e1 e' h1 h' x μ1 a1 w1 { c₀ with mode := u1.mode } cs hr' rfl (cc.next hG) hA) fun ex2 a2 cs2 w2 hsp2 => ?_
      exact ⟨hsp2.1, CP.from cc hG hsp2.2⟩
    · rename_i hno
      refine wpSIn_mono (ihp u u' e e' h h' x μ a w c₀ cs hr' hm cc he) fun ex a1 cs1 w1 hsp => ?_
      obtain ⟨hs1, rfl, hs3⟩ := hsp
      cases x with
      | normal => exact absurd hr' (hno u' e' h')
      | exit i => exact ⟨hs1, rfl, hs3⟩
      | ret => exact ⟨hs1, rfl, hs3⟩
      | pan v => exact ⟨hs1, rfl, hs3⟩
  | region id ops draw =>
    intro u u' e e' h h' x μ a w c₀ cs hr hm cc he
    cases draw with
    | true => exact plain (.region id ops true) u u' e e' h h' x μ a w c₀ cs hr hm cc he
    | false =>
      have hr' : (match recOps P G ops ops.toList u e h with
        | some (u, e, h) => some (u, .ok .normal e h)
        | none => some (u, ih none (.region id ops false) e h)) = some (u', .ok x e' h') := by rw [← hr]; rfl
      split at hr'
      · rename_i u1 e1 h1 hrec
        simp only [Option.some.injEq, Prod.mk.injEq, Res.ok.injEq] at hr'
        obtain ⟨rfl, rfl, rfl, rfl⟩ := hr'
        refine wpSIn_region ?_
        have := recOps_ok (P := P) (G := G) (B := B) ops ops.toList 0 (by simp) (by simp) u u1 e e1 h h1 μ a w c₀ cs hrec hm cc he (SP B μ h w c₀ cs u1 .normal e1 h1) (fun _ _ _ _ hq => hq)
        rw [List.range_eq_range']
        simpa using this
      · exact plain (.region id ops false) u u' e e' h h' x μ a w c₀ cs hr' hm cc he
  | _ => exact fun u u' e e' h h' x μ a w c₀ cs hr hm cc he => plain _ u u' e e' h h' x μ a w c₀ cs hr hm cc he

theorem deferC_ok (hng : ∀ (f : FuncId) (fn : Func), P.funcs[f]? = some fn → fn.body.isSome = true → (fn.name == "runtime.NumGoroutine") = false) {ih : Option Nat → Code → En → Hp → Res} (hih : SC P G B ih) : DC P G B (deferC P G ih) := by
  intro f args u h u' h' hd μ args' w c hargs
  unfold deferC at hd
  split at hd
  · cases hd
  · rename_i fn hfn
    split at hd
    · cases hd
    · rename_i code hb
      cases hle : Nat.ble args.length fn.ntmps with
      | false => rw [hle] at hd; cases hd
      | true =>
        rw [hle] at hd
        simp only [cond_true] at hd
        have hle' : args.length ≤ fn.ntmps := Nat.le_of_ble_eq_true hle
        refine ⟨callFunc_go hng hfn hb args' w, ?_⟩
        refine callsDIn_of_wpSIn hfn hb trivial fun c₀ cs hm => ?_
        have key : ∀ (x : Ex) (sz : Nat) (t : T Value) (l : List Value), (x = .ret ∨ x = .normal) → recC P G ih u ⟨fn.ntmps, envOf args 0 .nil, []⟩ h code = some (u', .ok x ⟨sz, t, []⟩ h') → resOf P ⟨sz, t, []⟩ h' fn.results.toList = some l →
            code.wpSIn (FW none) 0 P (bodyPostS P fn c₀ cs fun en um w' => (∃ v, en = .returned v) ∧ um = u'.mode ∧ ∃ μ', Good B μ h w μ' h' w') { tmps := args' ++ Array.replicate (fn.ntmps - args'.size) undef, defers := [] } (c₀ :: cs) w := by
          intro x sz t l hx hr hres
          refine wpSIn_mono (recC_ok hih code u u' _ _ h h' x μ _ w c₀ cs hr hm c (enter_AR hargs hle')) fun ex a' cs' w' hsp => ?_
          obtain ⟨rfl, rfl, μ1, hA, hG⟩ := hsp
          obtain ⟨v', r1, r2⟩ := results_ok (P := P) (fn := fn) hG.hr hA.tr hres
          have hdn : a'.defers = [] := by
            have := hA.mr
            cases this2 : a'.defers with
            | nil => rfl
            | cons d ds => rw [this2] at this; cases this
          rcases hx with rfl | rfl <;> exact ⟨hdn, u'.mode, rfl, v', r1, ⟨v', rfl⟩, rfl, μ1, hG⟩
        unfold recEnd at hd
        split at hd
        · rename_i u1 sz t h1 hr
          split at hd
          · rename_i l hres
            simp only [Option.some.injEq, Prod.mk.injEq] at hd
            obtain ⟨rfl, rfl⟩ := hd
            exact key .ret sz t l (.inl rfl) hr hres
          · cases hd
        · rename_i u1 sz t h1 hr
          split at hd
          · rename_i l hres
            simp only [Option.some.injEq, Prod.mk.injEq] at hd
            obtain ⟨rfl, rfl⟩ := hd
            exact key .normal sz t l (.inr rfl) hr hres
          · cases hd
        · cases hd

/-- how a call ends -/
def RP (B : Nat) (μ : Mu) (h : Hp) (w : World) : CRes → Ending → World → Prop
  | .ok v h' => VP B μ h w v h'
  | .panic v h' => PP B μ h w v h'
  | .fail => fun _ _ => False
theorem callC_go (hng : ∀ (f : FuncId) (fn : Func), P.funcs[f]? = some fn → fn.body.isSome = true → (fn.name == "runtime.NumGoroutine") = false) {ih : Option Nat → Code → En → Hp → Res} (hih : SC P G B ih) {f : FuncId} {fn : Func} (hfn : P.funcs[f]? = some fn) {code : Code} (hb : fn.body = some code)
    {args : List Value} {h : Hp} {r : CRes} (hr : r ≠ .fail) (hc : endC P G ih fn.results.toList (ih none code ⟨fn.ntmps, envOf args 0 .nil, []⟩ h) = r) (hle : args.length ≤ fn.ntmps) {μ : Mu} {args' : List Value} {w : World} (c : Cond G B μ h w) (hargs : VRL μ args args') : CallsIn (FW none) 0 P f args'.toArray w (RP B μ h w r) := by
  have key : ∀ (x : Ex) (u : UM) (e1 : En) (h1 : Hp), (x = .ret ∧ u = .rt ∨ x = .normal ∧ u = .rt ∨ ∃ v, x = .pan v ∧ u = .pn v) → ih none code ⟨fn.ntmps, envOf args 0 .nil, []⟩ h = .ok x e1 h1 → endL P fn.results.toList e1 (leave (deferC P G ih) e1.mks u h1) = r → CallsIn (FW none) 0 P f args'.toArray w (RP B μ h w r) := by
    intro x u e1 h1 hx hrun hend
    refine callsIn_of_wp_marks hfn hb trivial ?_
    have hwp := hih none none code _ h x e1 h1 hrun μ _ w c trivial (enter_AR (args' := args'.toArray) (by simpa using hargs) hle)
    refine wpIn_mono hwp fun ex a' w' hcp => ?_
    obtain ⟨rfl, μ1, hA, hG⟩ := hcp
    have hfin : LeavesInM (FW none) 0 P fn a'.tmps (RP B μ h w r) a'.defers u.mode w' := by
      cases hlv : leave (deferC P G ih) e1.mks u h1 with
      | none => rw [hlv] at hend; exact absurd hend.symm hr
      | some q =>
        obtain ⟨u2, h2⟩ := q
        rw [hlv] at hend
        refine leave_ok (deferC_ok hng hih) e1.mks a'.defers u u2 h1 h2 μ1 w' (c.next hG) hA.mr hlv fun μ2 w2 g2 => ?_
        have g := Good.trans c.hr hG g2
        cases u2 with
        | dn v => exact absurd hend.symm hr
        | pn v =>
          have hend' : CRes.panic v h2 = r := hend
          subst hend'
          exact ⟨rfl, μ2, g⟩
        | rt =>
          have hend' : (match resOf P e1 h2 fn.results.toList with
            | some l => CRes.ok (tupOf l) h2
            | none => .fail) = r := hend
          cases hres : resOf P e1 h2 fn.results.toList with
          | none => rw [hres] at hend'; exact absurd hend'.symm hr
          | some l =>
            rw [hres] at hend'
            simp only at hend'
            subst hend'
            obtain ⟨v', r1, r2⟩ := results_ok (P := P) (fn := fn) g.hr (hA.tr.mono g2.st.le) hres
            exact ⟨v', r1, v', μ2, rfl, r2, g⟩
    rcases hx with ⟨rfl, rfl⟩ | ⟨rfl, rfl⟩ | ⟨v, rfl, rfl⟩ <;> exact hfin
  unfold endC at hc
  split at hc
  · rename_i e1 h1 hrun; exact key _ _ e1 h1 (.inl ⟨rfl, rfl⟩) hrun hc
  · rename_i e1 h1 hrun; exact key _ _ e1 h1 (.inr (.inl ⟨rfl, rfl⟩)) hrun hc
  · rename_i v e1 h1 hrun; exact key _ _ e1 h1 (.inr (.inr ⟨v, rfl, rfl⟩)) hrun hc
  · exact absurd hc.symm hr

theorem callC_ok (hng : ∀ (f : FuncId) (fn : Func), P.funcs[f]? = some fn → fn.body.isSome = true → (fn.name == "runtime.NumGoroutine") = false) {ih : Option Nat → Code → En → Hp → Res} (hih : SC P G B ih) : SF P G B (callC P G ih) := by
  have ext : ∀ f args h r, externC P f args h = r → r ≠ .fail → ∃ v, r = .ok v h ∧ args.all scalar = true ∧ scalar v = true ∧ pureRun P (callFunc f args.toArray) = some (.value v) := by
    intro f args h r hc hr
    unfold externC at hc
    cases hs : args.all scalar with
    | false => rw [hs] at hc; exact absurd hc.symm hr
    | true =>
      rw [hs] at hc
      simp only [cond_true] at hc
      split at hc
      · rename_i u hu
        cases hsu : scalar u with
        | false => rw [hsu] at hc; exact absurd hc.symm hr
        | true =>
          rw [hsu] at hc
          exact ⟨u, hc.symm, rfl, hsu, hu⟩
      · exact absurd hc.symm hr
  constructor
  · intro f args h v h' hc μ args' w c hargs
    unfold callC at hc
    split at hc
    · cases hc
    · rename_i fn hfn
      split at hc
      · rename_i hb
        left
        obtain ⟨u, e1, e2, e3, e4⟩ := ext f args h _ hc (by simp)
        simp only [CRes.ok.injEq] at e1
        obtain ⟨rfl, rfl⟩ := e1
        rw [hargs.scalars e2]
        exact ⟨_, pureRun_ok _ e4 w, scalar_VR e3, rfl, e2⟩
      · rename_i code hb
        right
        cases hle : Nat.ble args.length fn.ntmps with
        | false => rw [hle] at hc; cases hc
        | true =>
          rw [hle] at hc
          simp only [cond_true] at hc
          refine ⟨callFunc_go hng hfn hb _ w, fun ro' => ?_⟩
          have hfin := callC_go hng hih hfn hb (by simp) hc (Nat.le_of_ble_eq_true hle) c hargs
          cases ro' with
          | none => exact hfin
          | some b => exact hfin
  · intro f args h v h' hc μ args' w c hargs
    unfold callC at hc
    split at hc
    · cases hc
    · rename_i fn hfn
      split at hc
      · obtain ⟨u, e1, _⟩ := ext f args h _ hc (by simp)
        cases e1
      · rename_i code hb
        cases hle : Nat.ble args.length fn.ntmps with
        | false => rw [hle] at hc; cases hc
        | true =>
          rw [hle] at hc
          simp only [cond_true] at hc
          refine ⟨callFunc_go hng hfn hb _ w, fun ro' => ?_⟩
          have hfin := callC_go hng hih hfn hb (by simp) hc (Nat.le_of_ble_eq_true hle) c hargs
          cases ro' with
          | none => exact hfin
          | some b => exact hfin
end
end Cx
end Go.Proofs.YtfigbldiffjmbaaGreatDoor
