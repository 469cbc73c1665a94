/- Closed runs: regions in their order, calls, rounds, codes. -/
import Derived.Test.YtfigbldiffjmbaaGreatDoorCo
import Derived.RangeFuncLeaves
import Derived.OrdersIn
namespace Go.Proofs.YtfigbldiffjmbaaGreatDoor
namespace Cx
open Go

abbrev FW (ro : Option Nat) : Fence := { Fence.wide with round := ro }
/-- what waits for the end stands for what waits in the model -/
inductive DR (μ : Mu) : DI → Deferred → Prop
  | mark {k b p s : Nat} (h : μ k = some (b, p, s)) : DR μ (.mark k) { target := .collected b, args := #[] }
  | call {f : FuncId} {args : List Value} {cap dargs : Array Value} (h : VRL μ args (dargs.toList ++ cap.toList)) : DR μ (.call f args) { target := .fn (.func f) cap, args := dargs }
theorem DR.mono {μ μ' : Mu} (hm : Mu.le μ μ') {x : DI} {d : Deferred} (h : DR μ x d) : DR μ' x d := by
  cases h with
  | mark h => exact .mark (hm _ _ h)
  | call h => exact .call (h.mono hm)
inductive MR (μ : Mu) : List DI → List Deferred → Prop
  | nil : MR μ [] []
  | cons {x : DI} {d : Deferred} {ks : List DI} {ds : List Deferred} (h : DR μ x d) (t : MR μ ks ds) : MR μ (x :: ks) (d :: ds)
theorem MR.mono {μ μ' : Mu} (hm : Mu.le μ μ') {ks : List DI} {ds : List Deferred} (h : MR μ ks ds) : MR μ' ks ds := by
  induction h with
  | nil => exact .nil
  | cons h _ ih => exact .cons (h.mono hm) ih
structure AR (μ : Mu) (e : En) (a : Act) : Prop where
  tr : TR μ e a.tmps
  mr : MR μ e.mks a.defers
theorem AR.mono {μ μ' : Mu} (hm : Mu.le μ μ') {e : En} {a : Act} (h : AR μ e a) : AR μ' e a := ⟨h.tr.mono hm, h.mr.mono hm⟩
def RoR (μ : Mu) : Option Nat → Option Nat → Prop
  | none, none => True
  | some l, some b => ∃ p s, μ l = some (b, p, s)
  | _, _ => False
theorem RoR.mono {μ μ' : Mu} (hm : Mu.le μ μ') {r r' : Option Nat} (h : RoR μ r r') : RoR μ' r r' := by
  cases r <;> cases r' <;> first | exact h | (obtain ⟨p, s, h⟩ := h; exact ⟨p, s, hm _ _ h⟩)
def Ex.to : Ex → Exit
  | .normal => .normal
  | .exit id => .exit id
  | .ret => .ret
  | .pan v => .panic [{ v := v, recovered := false }]
/-- where both stand -/
structure Cond (G B : Nat) (μ : Mu) (h : Hp) (w : World) : Prop where
  hr : HR B μ h.n h.t.get w
  gr : GR G μ
  hB : B ≤ w.heap.size
def CP (B : Nat) (μ : Mu) (h : Hp) (w : World) (x : Ex) (e' : En) (h' : Hp) : Exit → Act → World → Prop := fun ex a' w' => ex = x.to ∧ ∃ μ', AR μ' e' a' ∧ Good B μ h w μ' h' w'
def VP (B : Nat) (μ : Mu) (h : Hp) (w : World) (v : Value) (h' : Hp) : Ending → World → Prop := fun en w' => ∃ v' μ', en = .returned v' ∧ VR μ' v v' ∧ Good B μ h w μ' h' w'
theorem Cond.next {G B : Nat} {μ μ' : Mu} {h h' : Hp} {w w' : World} (c : Cond G B μ h w) (g : Good B μ h w μ' h' w') : Cond G B μ' h' w' := ⟨g.hr, c.gr.mono g.st.le, Nat.le_trans c.hB g.st.size⟩
theorem CP.from {G B : Nat} {μ μ1 : Mu} {h h1 h' : Hp} {w w1 : World} {x : Ex} {e' : En} (c : Cond G B μ h w) (g : Good B μ h w μ1 h1 w1) {ex : Exit} {a' : Act} {w' : World} (hp : CP B μ1 h1 w1 x e' h' ex a' w') : CP B μ h w x e' h' ex a' w' := by
  obtain ⟨h1, μ', h2, h3⟩ := hp
  exact ⟨h1, μ', h2, Good.trans c.hr g h3⟩
theorem VP.from {G B : Nat} {μ μ1 : Mu} {h h1 h' : Hp} {w w1 : World} {v : Value} (c : Cond G B μ h w) (g : Good B μ h w μ1 h1 w1) {en : Ending} {w' : World} (hp : VP B μ1 h1 w1 v h' en w') : VP B μ h w v h' en w' := by
  obtain ⟨v', μ', h1, h2, h3⟩ := hp
  exact ⟨v', μ', h1, h2, Good.trans c.hr g h3⟩

section
variable {P : Program} {G B : Nat}

/-- codes are run as the executor runs them -/
def SC (P : Program) (G B : Nat) (ih : Option Nat → Code → En → Hp → Res) : Prop :=
  ∀ ro ro' c e h x e' h', ih ro c e h = .ok x e' h' → ∀ μ a w, Cond G B μ h w → RoR μ ro ro' → AR μ e a → c.wpIn (FW ro') 0 P (CP B μ h w x e' h') a w
def PP (B : Nat) (μ : Mu) (h : Hp) (w : World) (v : Value) (h' : Hp) : Ending → World → Prop := fun en w' => en = .panicked [{ v := v, recovered := false }] ∧ ∃ μ', Good B μ h w μ' h' w'
/-- so are calls -/
structure SF (P : Program) (G B : Nat) (call : FuncId → List Value → Hp → CRes) : Prop where
  ok : ∀ f args h v h', call f args h = .ok v h' → ∀ μ args' w, Cond G B μ h w → VRL μ args args' →
    (∃ v', (callFunc f args'.toArray).run P w = .ok (.value v') w ∧ VR μ v v' ∧ h' = h ∧ args.all scalar = true) ∨ ((callFunc f args'.toArray).run P w = .ok (.enter f args'.toArray) w ∧ ∀ ro', CallsIn (FW ro') 0 P f args'.toArray w (VP B μ h w v h'))
  pan : ∀ f args h v h', call f args h = .panic v h' → ∀ μ args' w, Cond G B μ h w → VRL μ args args' →
    (callFunc f args'.toArray).run P w = .ok (.enter f args'.toArray) w ∧ ∀ ro', CallsIn (FW ro') 0 P f args'.toArray w (PP B μ h w v h')
/-- and rounds -/
structure SR (P : Program) (G B : Nat) (round : Nat → List Value → Hp → CRes) : Prop where
  ok : ∀ l args h v h', round l args h = .ok v h' → ∀ μ args' w b p s, Cond G B μ h w → μ l = some (b, p, s) → VRL μ args args' →
    ∃ f tmps as bd, (Instr.yield b args'.toArray).run P w = .ok (.round b f tmps as bd) w ∧ ∀ ro', RoundIn (FW ro') 0 P b f tmps as bd w (VP B μ h w v h')
  no : ∀ l args h v h', round l args h ≠ .panic v h'

theorem closed_VR {μ : Mu} {v : Value} (h : closedV v = true) : VR μ v v := by
  cases v with
  | iface t u =>
    have h' : (scalar u || emptyAgg u) = true := h
    cases hs : scalar u with
    | true => exact .iface t (scalar_VR hs)
    | false =>
      rw [hs] at h'
      cases u with
      | agg a =>
        have h2 : a.toList.isEmpty = true := h'
        refine .iface t (.agg ?_)
        cases ha : a.toList with
        | nil => exact .nil
        | cons x l => rw [ha] at h2; cases h2
      | _ => cases h'
  | _ => cases h
theorem closed_eq {μ : Mu} {v v' : Value} (h : closedV v = true) (hv : VR μ v v') : v' = v := by
  cases v with
  | iface t u =>
    have h' : (scalar u || emptyAgg u) = true := h
    cases hv with
    | iface _ hu =>
      rename_i u'
      cases hs : scalar u with
      | true =>
        have := VRL.scalars (.cons hu .nil) (by simp [hs])
        simp at this
        rw [this]
      | false =>
        rw [hs] at h'
        cases u with
        | agg a =>
          have h2 : a.toList.isEmpty = true := h'
          cases hu with
          | agg hl =>
            rename_i a'
            cases ha : a.toList with
            | cons x l => rw [ha] at h2; cases h2
            | nil =>
              rw [ha] at hl
              cases hl' : a'.toList with
              | cons x l => rw [hl'] at hl; cases hl
              | nil =>
                have e1 : a = #[] := Array.ext' ha
                have e2 : a' = #[] := Array.ext' hl'
                rw [e1, e2]
        | _ => cases h'
  | _ => cases h

theorem wanted_ok {μ : Mu} {e : En} {a : Act} {all : Array Oper} {o : Oper} {b : Bool} (he : TR μ e a.tmps) (hw : wantedC all e o.guard = some b) : Region.wanted o (yielded all a.tmps) = b := by
  unfold wantedC at hw
  unfold Region.wanted
  split at hw
  · rename_i hg; rw [hg]; simpa using hw
  · rename_i j want hg
    rw [hg]
    simp only
    split at hw
    · rename_i oj hoj
      split at hw
      · rename_i d hd
        split at hw
        · rename_i t ht
          obtain ⟨v', g1, g2⟩ := he.get d _ ht
          cases g2
          simp at hw
          subst hw
          simp [yielded, hoj, hd, g1]
        · rename_i t ht
          obtain ⟨v', g1, g2⟩ := he.get d _ ht
          cases g2
          simp at hw
          subst hw
          simp [yielded, hoj, hd, g1]
        · cases hw
      · cases hw
    · cases hw
theorem putD_ok {μ : Mu} {e e' : En} {a : Act} {d : Option Tmp} {v v' : Value} (he : AR μ e a) (hv : VR μ v v') (hp : putD e d v = some e') : AR μ e' (a.put d v') := by
  unfold putD at hp
  split at hp
  · rename_i d
    cases hb : Nat.blt d e.sz with
    | false => rw [hb] at hp; cases hp
    | true =>
      rw [hb] at hp
      have hlt := blt_iff.1 hb
      simp at hp; subst hp
      refine ⟨⟨by simpa [Act.put] using he.tr.size, fun t u hu => ?_⟩, he.mr⟩
      rw [T.get_put] at hu
      by_cases ht : t = d
      · subst ht
        simp at hu; subst hu
        exact ⟨v', by simp [Act.put, he.tr.size, hlt], hv⟩
      · simp [ht] at hu
        obtain ⟨u', g1, g2⟩ := he.tr.get t u hu
        exact ⟨u', by simp [Act.put, Array.getElem?_setIfInBounds_ne (Ne.symm ht), g1], g2⟩
  · simp at hp; subst hp; exact he

/-- one operation that is done -/
theorem op_step {call : FuncId → List Value → Hp → CRes} {round : Nat → List Value → Hp → CRes} (hf : SF P G B call) (hrd : SR P G B round) {o : Oper} {e : En} {h h1 : Hp} {v : Value} {μ : Mu} {a : Act} {w : World} {ro' : Option Nat} {next : Act → World → Prop} {Q : Exit → Act → World → Prop}
    (c : Cond G B μ h w) (he : AR μ e a) (ho : opDone call round h (opC P G e h o) = .ok v h1)
    (hnext : ∀ μ1 v' w1, VR μ1 v v' → Good B μ h w μ1 h1 w1 → next (a.put o.dst v') w1) : o.wpIn (FW ro') 0 P a w next Q := by
  refine ⟨fun _ _ => trivial, ?_⟩
  have hdef : ∀ cc, o.op ≠ .defer cc := fun cc hc => by
    have : opC P G e h o = .fail := by unfold opC; rw [hc]; rfl
    rw [this] at ho; cases ho
  rw [Oper.semAt_eq _ _ _ hdef]
  have hok := opC_ok (P := P) c.hr c.hB c.gr he.tr o
  cases hop : opC P G e h o with
  | fail => rw [hop] at ho; cases ho
  | value u h2 =>
    rw [hop] at ho hok
    have ho' : CRes.ok u h2 = .ok v h1 := ho
    simp only [CRes.ok.injEq] at ho'
    obtain ⟨rfl, rfl⟩ := ho'
    obtain ⟨nx, v', w', μ', g1, g2, g3, g4⟩ := hok
    rw [g1]
    rcases g2 with rfl | ⟨rfl, rfl⟩
    · exact hnext μ' v' w' g3 g4
    · exact hnext μ' undef w' g3 g4
  | call f args =>
    rw [hop] at ho hok
    obtain ⟨args', g1, g2⟩ := hok
    rw [g1]
    rcases hf.ok f args h v h1 ho μ args' w c g2 with ⟨v', q1, q2, rfl, _⟩ | ⟨q1, q2⟩
    · rw [q1]; exact hnext μ v' w q2 (.refl c.hr)
    · rw [q1]
      refine ⟨fun hh => by simp [Fence.wide] at hh, ?_⟩
      obtain ⟨z1, z2⟩ := q2 ro'
      refine ⟨z1, fun cs hroom => ?_⟩
      obtain ⟨en, w', fr, ⟨v', μ', rfl, r2, r3⟩, rest⟩ := z2 cs hroom
      exact ⟨.returned v', w', fr, hnext μ' v' w' r2 r3, rest⟩
  | round l args =>
    rw [hop] at ho hok
    obtain ⟨b, p, s, args', g0, g1, g2⟩ := hok
    rw [g1]
    obtain ⟨f, tmps, as, bd, q1, q2⟩ := hrd.ok l args h v h1 ho μ args' w b p s c g0 g2
    rw [q1]
    refine ⟨fun hh => by simp [Fence.wide] at hh, ?_⟩
    obtain ⟨z1, z2⟩ := q2 ro'
    refine ⟨z1, fun c' cs hroom => ?_⟩
    obtain ⟨en, w', ⟨v', μ', rfl, r2, r3⟩, rest⟩ := z2 c' cs hroom
    exact ⟨.returned v', w', hnext μ' v' w' r2 r3, rest⟩

/-- one operation that panics -/
theorem op_pan {call : FuncId → List Value → Hp → CRes} {round : Nat → List Value → Hp → CRes} (hf : SF P G B call) (hrd : SR P G B round) {o : Oper} {e : En} {h h1 : Hp} {v : Value} {μ : Mu} {a : Act} {w : World} {ro' : Option Nat} {next : Act → World → Prop} {Q : Exit → Act → World → Prop}
    (c : Cond G B μ h w) (he : AR μ e a) (ho : opDone call round h (opC P G e h o) = .panic v h1)
    (hQ : ∀ μ1 w1, Good B μ h w μ1 h1 w1 → Q (.panic [{ v := v, recovered := false }]) a w1) : o.wpIn (FW ro') 0 P a w next Q := by
  refine ⟨fun _ _ => trivial, ?_⟩
  have hdef : ∀ cc, o.op ≠ .defer cc := fun cc hc => by
    have : opC P G e h o = .fail := by unfold opC; rw [hc]; rfl
    rw [this] at ho; cases ho
  rw [Oper.semAt_eq _ _ _ hdef]
  have hok := opC_ok (P := P) c.hr c.hB c.gr he.tr o
  cases hop : opC P G e h o with
  | fail => rw [hop] at ho; cases ho
  | value u h2 => rw [hop] at ho; cases ho
  | call f args =>
    rw [hop] at ho hok
    obtain ⟨args', g1, g2⟩ := hok
    rw [g1]
    obtain ⟨q1, q2⟩ := hf.pan f args h v h1 ho μ args' w c g2
    rw [q1]
    refine ⟨fun hh => by simp [Fence.wide] at hh, ?_⟩
    obtain ⟨z1, z2⟩ := q2 ro'
    refine ⟨z1, fun cs hroom => ?_⟩
    obtain ⟨en, w', fr, ⟨rfl, μ', r3⟩, rest⟩ := z2 cs hroom
    exact ⟨_, w', fr, hQ μ' w' r3, rest⟩
  | round l args => rw [hop] at ho; exact absurd ho (hrd.no l args h v h1)

/-- a panic, a deferred call -/
theorem spec_ok {ro ro' : Option Nat} (hro : ro = none → ro' = none) {o : Oper} {e e' : En} {h h' : Hp} {x : Ex} {ih : En → Hp → Res} {μ : Mu} {a : Act} {w : World} {next : Act → World → Prop} {Q : Exit → Act → World → Prop}
    (c : Cond G B μ h w) (he : AR μ e a) (hs : spec0 G ro o e h ih = .ok x e' h')
    (hnext : ∀ e1 a1, ih e1 h = .ok x e' h' → AR μ e1 a1 → next a1 w)
    (hQ : ∀ v, x = .pan v → e' = e → h' = h → Q (.panic [{ v := v, recovered := false }]) a w) : o.wpIn (FW ro') 0 P a w next Q := by
  refine ⟨fun _ _ => trivial, ?_⟩
  obtain ⟨dst, op, type, pos, after, guard⟩ := o
  unfold spec0 at hs
  simp only at hs
  split at hs
  · rename_i y
    have hsem : Oper.semAt (FW ro').round a.eval ⟨dst, .panic y, type, pos, after, guard⟩ = (do pure (.value (← Instr.panic (a.eval y)))) := by
      rw [Oper.semAt_eq _ _ _ (by intro cc hc; cases hc)]; rfl
    rw [hsem]
    cases hy : ev G e y with
    | none => rw [hy] at hs; cases hs
    | some v =>
      rw [hy] at hs
      have hs' : cond (closedV v) (Res.ok (.pan v) e h) .fail = .ok x e' h' := hs
      cases hcl : closedV v with
      | false => rw [hcl] at hs'; cases hs'
      | true =>
        rw [hcl] at hs'
        simp only [cond_true, Res.ok.injEq] at hs'
        obtain ⟨rfl, rfl, rfl⟩ := hs'
        have hv := closed_eq hcl (ev_ok c.gr he.tr hy)
        have hrun : (do pure (Next.value (← Instr.panic (a.eval y))) : Sem Next).run P w = .halt (.panic v) w := by
          rw [hv]
          cases v with
          | iface t u => simp only [Instr.panic, goPanic, Sem.run_bind]; rfl
          | _ => cases hcl
        rw [hrun]
        exact hQ v rfl rfl rfl
  · rename_i cc
    split at hs
    · rename_i f args hcal hargs
      have hnone : (FW ro').round = none := hro rfl
      cases hf : ev G e f with
      | none => rw [hf] at hs; cases hs
      | some fv =>
        rw [hf] at hs
        have hfe := ev_ok c.gr he.tr hf
        have hal : VRL μ args (cc.args.map a.eval).toList := by simpa using evs_ok c.gr he.tr hargs
        cases hdv : deferV args (some fv) with
        | none => rw [hdv] at hs; cases hs
        | some d =>
          rw [hdv] at hs
          have hs' : (match putD ⟨e.sz, e.t, d :: e.mks⟩ dst undef with | some e => ih e h | none => .fail) = .ok x e' h' := hs
          cases hpd : putD ⟨e.sz, e.t, d :: e.mks⟩ dst undef with
          | none => rw [hpd] at hs'; cases hs'
          | some e1 =>
            rw [hpd] at hs'
            simp only at hs'
            unfold deferV at hdv
            split at hdv
            · rename_i g first captured heq
              simp only [Option.some.injEq] at heq hdv
              subst heq; subst hdv
              generalize hff : a.eval f = f' at hfe
              cases hfe with
              | func _ q1 q2 =>
                rename_i first' captured'
                have hsem : (Oper.semAt (FW ro').round a.eval ⟨dst, .defer cc, type, pos, after, guard⟩).run P w = .ok (.defer { target := .fn (.func g) captured', args := first' ++ cc.args.map a.eval }) w := by
                  rw [hnone, Oper.semAt_none]
                  show (do pure (Next.defer (← resolve a.eval cc type)) : Sem Next).run P w = _
                  simp only [resolve, hcal, hff, Deferred.ofValue]
                  rfl
                rw [hsem]
                have hAR : AR μ ⟨e.sz, e.t, .call g (first.toList ++ (args ++ captured.toList)) :: e.mks⟩ { a with defers := { target := .fn (.func g) captured', args := first' ++ cc.args.map a.eval } :: a.defers } :=
                  ⟨⟨he.tr.size, he.tr.get⟩, .cons (.call (by
                    have := q1.append (hal.append q2)
                    simpa using this)) he.mr⟩
                exact hnext e1 _ hs' (putD_ok hAR (undef_refl μ) hpd)
            · cases hdv
    · cases hs
  · cases hs

theorem runOps_cons (ro : Option Nat) (call : FuncId → List Value → Hp → CRes) (round : Nat → List Value → Hp → CRes) (all : Array Oper) (o : Oper) (l : List Oper) (e : En) (h : Hp) : runOps P G ro call round all (o :: l) e h = (match oneOp P G call round all o e h with
    | .ok v h => (match putD e o.dst v with | some e => runOps P G ro call round all l e h | none => .fail)
    | .fail => specC G ro all o e h (runOps P G ro call round all l)
    | .panic v h => .ok (.pan v) e h) := rfl
theorem runOps_ok {call : FuncId → List Value → Hp → CRes} {round : Nat → List Value → Hp → CRes} (hf : SF P G B call) (hrd : SR P G B round) (all : Array Oper) (ro ro' : Option Nat) (hro : ro = none → ro' = none) : ∀ (l : List Oper) (i : Nat), all.toList = all.toList.take i ++ l → i ≤ all.size → ∀ (e e' : En) (h h' : Hp) (x : Ex) (μ : Mu) (a : Act) (w : World), runOps P G ro call round all l e h = .ok x e' h' → Cond G B μ h w → AR μ e a → ∀ (Q : Exit → Act → World → Prop), (∀ ex a' w', CP B μ h w x e' h' ex a' w' → Q ex a' w') →
    wpOpsIn (FW ro') 0 P all Q (List.range' i l.length) a w
  | [], i, _, _, e, e', h, h', x, μ, a, w, hrun, c, he, Q, hQ => by
    have hr' : Res.ok Ex.normal e h = .ok x e' h' := hrun
    simp only [Res.ok.injEq] at hr'
    obtain ⟨rfl, rfl, rfl⟩ := hr'
    exact hQ _ _ _ ⟨rfl, μ, he, .refl c.hr⟩
  | o :: l, i, hl, hi, e, e', h, h', x, μ, a, w, hrun, c, he, Q, hQ => by
    have hlen := congrArg List.length hl
    simp at hlen
    have hoi : all[i]? = some o := by
      have := congrArg (fun q => q[i]?) hl
      simp [Nat.min_eq_left hi] at this
      exact this
    have hl' : all.toList = all.toList.take (i + 1) ++ l := by
      rw [List.take_add_one]
      have : all.toList[i]? = some o := by simpa using hoi
      rw [this]
      simpa using hl
    rw [runOps_cons] at hrun
    cases hone : oneOp P G call round all o e h with
    | fail =>
      rw [hone] at hrun
      simp only at hrun
      unfold specC at hrun
      split at hrun
      · rename_i hw
        rw [List.length_cons, List.range'_succ]
        simp only [wpOpsIn, hoi]
        rw [wanted_ok he.tr hw]
        simp only [if_true]
        refine spec_ok hro c he hrun (fun e1 a1 hi1 hA1 => ?_) fun v hx he1 hh1 => ?_
        · exact runOps_ok hf hrd all ro ro' hro l (i + 1) hl' (by omega) e1 e' h h' x μ a1 w hi1 c hA1 Q hQ
        · subst hx; subst he1; subst hh1
          exact hQ _ _ _ ⟨rfl, μ, he, .refl c.hr⟩
      · cases hrun
    | panic v h1 =>
      rw [hone] at hrun
      simp only [Res.ok.injEq] at hrun
      obtain ⟨rfl, rfl, rfl⟩ := hrun
      rw [List.length_cons, List.range'_succ]
      unfold oneOp at hone
      simp only [wpOpsIn, hoi]
      split at hone
      · rename_i hw
        rw [wanted_ok he.tr hw]
        simp only [if_true]
        exact op_pan hf hrd c he hone fun μ1 w1 g => hQ _ _ _ ⟨rfl, μ1, he.mono g.st.le, g⟩
      · cases hone
      · cases hone
    | ok v h1 =>
      rw [hone] at hrun
      simp only at hrun
      cases hpd : putD e o.dst v with
      | none => rw [hpd] at hrun; cases hrun
      | some e1 =>
        rw [hpd] at hrun
        simp only at hrun
        rw [List.length_cons, List.range'_succ]
        have hgo : ∀ μ1 v' w1, VR μ1 v v' → Good B μ h w μ1 h1 w1 → wpOpsIn (FW ro') 0 P all Q (List.range' (i + 1) l.length) (a.put o.dst v') w1 := fun μ1 v' w1 hv g =>
          runOps_ok hf hrd all ro ro' hro l (i + 1) hl' (by omega) e1 e' h1 h' x μ1 (a.put o.dst v') w1 hrun (c.next g) (putD_ok (he.mono g.st.le) hv hpd) Q fun ex a2 w2 hcp => hQ _ _ _ (CP.from c g hcp)
        unfold oneOp at hone
        simp only [wpOpsIn, hoi]
        split at hone
        · rename_i hw
          rw [wanted_ok he.tr hw]
          simp only [if_true]
          exact op_step hf hrd c he hone hgo
        · rename_i hw
          rw [wanted_ok he.tr hw]
          simp only [Bool.false_eq_true, if_false]
          simp only [CRes.ok.injEq] at hone
          obtain ⟨rfl, rfl⟩ := hone
          exact ⟨fun _ _ => trivial, hgo μ undef w (undef_refl μ) (.refl c.hr)⟩
        · cases hone
end
end Cx
end Go.Proofs.YtfigbldiffjmbaaGreatDoor
