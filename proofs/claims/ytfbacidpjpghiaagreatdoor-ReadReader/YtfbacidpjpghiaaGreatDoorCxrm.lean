/- Closed runs: regions in their order, calls, rounds, codes. -/
import Derived.Test.YtfbacidpjpghiaaGreatDoorCom
import Derived.RangeFuncLeaves
import Derived.OrdersIn
import Derived.RecoverIn
namespace Go.Proofs.YtfbacidpjpghiaaGreatDoor
namespace Cx
open Go

abbrev FW (ro : Option Nat) : Fence := { Fence.wide with round := ro }
/-- what waits for the end stands for what waits in the model -/
inductive DR (μ : Mu) : DI → Deferred → Prop
  | mark {k b p s : Nat} (h : μ k = some (b, p, s)) : DR μ (.mark k) { target := .collected b, args := #[] }
  | call {f : FuncId} {args : List Value} {cap dargs : Array Value} (h : VRL μ args (dargs.toList ++ cap.toList)) : DR μ (.call f args) { target := .fn (.func f) cap, args := dargs }
theorem DR.mono {μ μ' : Mu} (hm : Mu.le μ μ') {x : DI} {d : Deferred} (h : DR μ x d) : DR μ' x d := by
  cases h with
  | mark h => exact .mark (hm _ _ h)
  | call h => exact .call (h.mono hm)
inductive MR (μ : Mu) : List DI → List Deferred → Prop
  | nil : MR μ [] []
  | cons {x : DI} {d : Deferred} {ks : List DI} {ds : List Deferred} (h : DR μ x d) (t : MR μ ks ds) : MR μ (x :: ks) (d :: ds)
theorem MR.mono {μ μ' : Mu} (hm : Mu.le μ μ') {ks : List DI} {ds : List Deferred} (h : MR μ ks ds) : MR μ' ks ds := by
  induction h with
  | nil => exact .nil
  | cons h _ ih => exact .cons (h.mono hm) ih
structure AR (μ : Mu) (e : En) (a : Act) : Prop where
  tr : TR μ e a.tmps
  mr : MR μ e.mks a.defers
theorem AR.mono {μ μ' : Mu} (hm : Mu.le μ μ') {e : En} {a : Act} (h : AR μ e a) : AR μ' e a := ⟨h.tr.mono hm, h.mr.mono hm⟩
def RoR (μ : Mu) : Option Nat → Option Nat → Prop
  | none, none => True
  | some l, some b => ∃ p s, μ l = some (b, p, s)
  | _, _ => False
theorem RoR.mono {μ μ' : Mu} (hm : Mu.le μ μ') {r r' : Option Nat} (h : RoR μ r r') : RoR μ' r r' := by
  cases r <;> cases r' <;> first | exact h | (obtain ⟨p, s, h⟩ := h; exact ⟨p, s, hm _ _ h⟩)
def Ex.to : Ex → Exit
  | .normal => .normal
  | .exit id => .exit id
  | .ret => .ret
  | .pan v => .panic [{ v := v, recovered := false }]
/-- where both stand -/
structure Cond (G B : Nat) (μ : Mu) (h : Hp) (w : World) : Prop where
  hr : HR B μ h.n h.t.get w
  gr : GR G μ
  hB : B ≤ w.heap.size
def CP (B : Nat) (μ : Mu) (h : Hp) (w : World) (x : Ex) (e' : En) (h' : Hp) : Exit → Act → World → Prop := fun ex a' w' => ex = x.to ∧ ∃ μ', AR μ' e' a' ∧ Good B μ h w μ' h' w'
def VP (B : Nat) (μ : Mu) (h : Hp) (w : World) (v : Value) (h' : Hp) : Ending → World → Prop := fun en w' => ∃ v' μ', en = .returned v' ∧ VR μ' v v' ∧ Good B μ h w μ' h' w'
theorem Cond.next {G B : Nat} {μ μ' : Mu} {h h' : Hp} {w w' : World} (c : Cond G B μ h w) (g : Good B μ h w μ' h' w') : Cond G B μ' h' w' := ⟨g.hr, c.gr.mono g.st.le, Nat.le_trans c.hB g.st.size⟩
theorem CP.from {G B : Nat} {μ μ1 : Mu} {h h1 h' : Hp} {w w1 : World} {x : Ex} {e' : En} (c : Cond G B μ h w) (g : Good B μ h w μ1 h1 w1) {ex : Exit} {a' : Act} {w' : World} (hp : CP B μ1 h1 w1 x e' h' ex a' w') : CP B μ h w x e' h' ex a' w' := by
  obtain ⟨h1, μ', h2, h3⟩ := hp
  exact ⟨h1, μ', h2, Good.trans c.hr g h3⟩
theorem VP.from {G B : Nat} {μ μ1 : Mu} {h h1 h' : Hp} {w w1 : World} {v : Value} (c : Cond G B μ h w) (g : Good B μ h w μ1 h1 w1) {en : Ending} {w' : World} (hp : VP B μ1 h1 w1 v h' en w') : VP B μ h w v h' en w' := by
  obtain ⟨v', μ', h1, h2, h3⟩ := hp
  exact ⟨v', μ', h1, h2, Good.trans c.hr g h3⟩

section
variable {P : Program} {G B : Nat}

/-- codes are run as the executor runs them -/
def SC (P : Program) (G B : Nat) (ih : Option Nat → Code → En → Hp → Res) : Prop :=
  ∀ ro ro' c e h x e' h', ih ro c e h = .ok x e' h' → ∀ μ a w, Cond G B μ h w → RoR μ ro ro' → AR μ e a → c.wpIn (FW ro') 0 P (CP B μ h w x e' h') a w
def PP (B : Nat) (μ : Mu) (h : Hp) (w : World) (v : Value) (h' : Hp) : Ending → World → Prop := fun en w' => en = .panicked [{ v := v, recovered := false }] ∧ ∃ μ', Good B μ h w μ' h' w'
/-- so are calls -/
structure SF (P : Program) (G B : Nat) (call : FuncId → List Value → Hp → CRes) : Prop where
  ok : ∀ f args h v h', call f args h = .ok v h' → ∀ μ args' w, Cond G B μ h w → VRL μ args args' →
    (∃ v', (callFunc f args'.toArray).run P w = .ok (.value v') w ∧ VR μ v v' ∧ h' = h ∧ args.all scalar = true) ∨ ((callFunc f args'.toArray).run P w = .ok (.enter f args'.toArray) w ∧ ∀ ro', CallsIn (FW ro') 0 P f args'.toArray w (VP B μ h w v h'))
  pan : ∀ f args h v h', call f args h = .panic v h' → ∀ μ args' w, Cond G B μ h w → VRL μ args args' →
    (callFunc f args'.toArray).run P w = .ok (.enter f args'.toArray) w ∧ ∀ ro', CallsIn (FW ro') 0 P f args'.toArray w (PP B μ h w v h')
/-- and rounds -/
structure SR (P : Program) (G B : Nat) (round : Nat → List Value → Hp → CRes) : Prop where
  ok : ∀ l args h v h', round l args h = .ok v h' → ∀ μ args' w b p s, Cond G B μ h w → μ l = some (b, p, s) → VRL μ args args' →
    ∃ f tmps as bd, (Instr.yield b args'.toArray).run P w = .ok (.round b f tmps as bd) w ∧ ∀ ro', RoundIn (FW ro') 0 P b f tmps as bd w (VP B μ h w v h')
  no : ∀ l args h v h', round l args h ≠ .panic v h'

theorem closed_VR {μ : Mu} {v : Value} (h : closedV v = true) : VR μ v v := by
  cases v with
  | iface t u =>
    have h' : (scalar u || emptyAgg u) = true := h
    cases hs : scalar u with
    | true => exact .iface t (scalar_VR hs)
    | false =>
      rw [hs] at h'
      cases u with
      | agg a =>
        have h2 : a.toList.isEmpty = true := h'
        refine .iface t (.agg ?_)
        cases ha : a.toList with
        | nil => exact .nil
        | cons x l => rw [ha] at h2; cases h2
      | _ => cases h'
  | _ => cases h
theorem closed_eq {μ : Mu} {v v' : Value} (h : closedV v = true) (hv : VR μ v v') : v' = v := by
  cases v with
  | iface t u =>
    have h' : (scalar u || emptyAgg u) = true := h
    cases hv with
    | iface _ hu =>
      rename_i u'
      cases hs : scalar u with
      | true =>
        have := VRL.scalars (.cons hu .nil) (by simp [hs])
        simp at this
        rw [this]
      | false =>
        rw [hs] at h'
        cases u with
        | agg a =>
          have h2 : a.toList.isEmpty = true := h'
          cases hu with
          | agg hl =>
            rename_i a'
            cases ha : a.toList with
            | cons x l => rw [ha] at h2; cases h2
            | nil =>
              rw [ha] at hl
              cases hl' : a'.toList with
              | cons x l => rw [hl'] at hl; cases hl
              | nil =>
                have e1 : a = #[] := Array.ext' ha
                have e2 : a' = #[] := Array.ext' hl'
                rw [e1, e2]
        | _ => cases h'
  | _ => cases h

theorem wanted_ok {μ : Mu} {e : En} {a : Act} {all : Array Oper} {o : Oper} {b : Bool} (he : TR μ e a.tmps) (hw : wantedC all e o.guard = some b) : Region.wanted o (yielded all a.tmps) = b := by
  unfold wantedC at hw
  unfold Region.wanted
  split at hw
  · rename_i hg; rw [hg]; simpa using hw
  · rename_i j want hg
    rw [hg]
    simp only
    split at hw
    · rename_i oj hoj
      split at hw
      · rename_i d hd
        split at hw
        · rename_i t ht
          obtain ⟨v', g1, g2⟩ := he.get d _ ht
          cases g2
          simp at hw
          subst hw
          simp [yielded, hoj, hd, g1]
        · rename_i t ht
          obtain ⟨v', g1, g2⟩ := he.get d _ ht
          cases g2
          simp at hw
          subst hw
          simp [yielded, hoj, hd, g1]
        · cases hw
      · cases hw
    · cases hw
theorem putD_ok {μ : Mu} {e e' : En} {a : Act} {d : Option Tmp} {v v' : Value} (he : AR μ e a) (hv : VR μ v v') (hp : putD e d v = some e') : AR μ e' (a.put d v') := by
  unfold putD at hp
  split at hp
  · rename_i d
    cases hb : Nat.blt d e.sz with
    | false => rw [hb] at hp; cases hp
    | true =>
      rw [hb] at hp
      have hlt := blt_iff.1 hb
      simp at hp; subst hp
      refine ⟨⟨by simpa [Act.put] using he.tr.size, fun t u hu => ?_⟩, he.mr⟩
      rw [T.get_put] at hu
      by_cases ht : t = d
      · subst ht
        simp at hu; subst hu
        exact ⟨v', by simp [Act.put, he.tr.size, hlt], hv⟩
      · simp [ht] at hu
        obtain ⟨u', g1, g2⟩ := he.tr.get t u hu
        exact ⟨u', by simp [Act.put, Array.getElem?_setIfInBounds_ne (Ne.symm ht), g1], g2⟩
  · simp at hp; subst hp; exact he

/-- one operation that is done -/
theorem op_step {call : FuncId → List Value → Hp → CRes} {round : Nat → List Value → Hp → CRes} (hf : SF P G B call) (hrd : SR P G B round) {o : Oper} {e : En} {h h1 : Hp} {v : Value} {μ : Mu} {a : Act} {w : World} {ro' : Option Nat} {next : Act → World → Prop} {Q : Exit → Act → World → Prop}
    (c : Cond G B μ h w) (he : AR μ e a) (ho : opDone call round h (opC P G e h o) = .ok v h1)
    (hnext : ∀ μ1 v' w1, VR μ1 v v' → Good B μ h w μ1 h1 w1 → next (a.put o.dst v') w1) : o.wpIn (FW ro') 0 P a w next Q := by
  refine ⟨fun _ _ => trivial, ?_⟩
  have hdef : ∀ cc, o.op ≠ .defer cc := fun cc hc => by
    have : opC P G e h o = .fail := by unfold opC; rw [hc]; rfl
    rw [this] at ho; cases ho
  rw [Oper.semAt_eq _ _ _ hdef]
  have hok := opC_ok (P := P) c.hr c.hB c.gr he.tr o
  cases hop : opC P G e h o with
  | fail => rw [hop] at ho; cases ho
  | value u h2 =>
    rw [hop] at ho hok
    have ho' : CRes.ok u h2 = .ok v h1 := ho
    simp only [CRes.ok.injEq] at ho'
    obtain ⟨rfl, rfl⟩ := ho'
    obtain ⟨nx, v', w', μ', g1, g2, g3, g4⟩ := hok
    rw [g1]
    rcases g2 with rfl | ⟨rfl, rfl⟩
    · exact hnext μ' v' w' g3 g4
    · exact hnext μ' undef w' g3 g4
  | call f args =>
    rw [hop] at ho hok
    obtain ⟨args', g1, g2⟩ := hok
    rw [g1]
    rcases hf.ok f args h v h1 ho μ args' w c g2 with ⟨v', q1, q2, rfl, _⟩ | ⟨q1, q2⟩
    · rw [q1]; exact hnext μ v' w q2 (.refl c.hr)
    · rw [q1]
      refine ⟨fun hh => by simp [Fence.wide] at hh, ?_⟩
      obtain ⟨z1, z2⟩ := q2 ro'
      refine ⟨z1, fun cs hroom => ?_⟩
      obtain ⟨en, w', fr, ⟨v', μ', rfl, r2, r3⟩, rest⟩ := z2 cs hroom
      exact ⟨.returned v', w', fr, hnext μ' v' w' r2 r3, rest⟩
  | round l args =>
    rw [hop] at ho hok
    obtain ⟨b, p, s, args', g0, g1, g2⟩ := hok
    rw [g1]
    obtain ⟨f, tmps, as, bd, q1, q2⟩ := hrd.ok l args h v h1 ho μ args' w b p s c g0 g2
    rw [q1]
    refine ⟨fun hh => by simp [Fence.wide] at hh, ?_⟩
    obtain ⟨z1, z2⟩ := q2 ro'
    refine ⟨z1, fun c' cs hroom => ?_⟩
    obtain ⟨en, w', ⟨v', μ', rfl, r2, r3⟩, rest⟩ := z2 c' cs hroom
    exact ⟨.returned v', w', hnext μ' v' w' r2 r3, rest⟩

/-- one operation that panics -/
theorem op_pan {call : FuncId → List Value → Hp → CRes} {round : Nat → List Value → Hp → CRes} (hf : SF P G B call) (hrd : SR P G B round) {o : Oper} {e : En} {h h1 : Hp} {v : Value} {μ : Mu} {a : Act} {w : World} {ro' : Option Nat} {next : Act → World → Prop} {Q : Exit → Act → World → Prop}
    (c : Cond G B μ h w) (he : AR μ e a) (ho : opDone call round h (opC P G e h o) = .panic v h1)
    (hQ : ∀ μ1 w1, Good B μ h w μ1 h1 w1 → Q (.panic [{ v := v, recovered := false }]) a w1) : o.wpIn (FW ro') 0 P a w next Q := by
  refine ⟨fun _ _ => trivial, ?_⟩
  have hdef : ∀ cc, o.op ≠ .defer cc := fun cc hc => by
    have : opC P G e h o = .fail := by unfold opC; rw [hc]; rfl
    rw [this] at ho; cases ho
  rw [Oper.semAt_eq _ _ _ hdef]
  have hok := opC_ok (P := P) c.hr c.hB c.gr he.tr o
  cases hop : opC P G e h o with
  | fail => rw [hop] at ho; cases ho
  | value u h2 => rw [hop] at ho; cases ho
  | call f args =>
    rw [hop] at ho hok
    obtain ⟨args', g1, g2⟩ := hok
    rw [g1]
    obtain ⟨q1, q2⟩ := hf.pan f args h v h1 ho μ args' w c g2
    rw [q1]
    refine ⟨fun hh => by simp [Fence.wide] at hh, ?_⟩
    obtain ⟨z1, z2⟩ := q2 ro'
    refine ⟨z1, fun cs hroom => ?_⟩
    obtain ⟨en, w', fr, ⟨rfl, μ', r3⟩, rest⟩ := z2 cs hroom
    exact ⟨_, w', fr, hQ μ' w' r3, rest⟩
  | round l args => rw [hop] at ho; exact absurd ho (hrd.no l args h v h1)

/-- a panic, a deferred call -/
theorem spec_ok {ro ro' : Option Nat} (hro : ro = none → ro' = none) {o : Oper} {e e' : En} {h h' : Hp} {x : Ex} {ih : En → Hp → Res} {μ : Mu} {a : Act} {w : World} {next : Act → World → Prop} {Q : Exit → Act → World → Prop}
    (c : Cond G B μ h w) (he : AR μ e a) (hs : spec0 G ro o e h ih = .ok x e' h')
    (hnext : ∀ e1 a1, ih e1 h = .ok x e' h' → AR μ e1 a1 → next a1 w)
    (hQ : ∀ v, x = .pan v → e' = e → h' = h → Q (.panic [{ v := v, recovered := false }]) a w) : o.wpIn (FW ro') 0 P a w next Q := by
  refine ⟨fun _ _ => trivial, ?_⟩
  obtain ⟨dst, op, type, pos, after, guard⟩ := o
  unfold spec0 at hs
  simp only at hs
  split at hs
  · rename_i y
    have hsem : Oper.semAt (FW ro').round a.eval ⟨dst, .panic y, type, pos, after, guard⟩ = (do pure (.value (← Instr.panic (a.eval y)))) := by
      rw [Oper.semAt_eq _ _ _ (by intro cc hc; cases hc)]; rfl
    rw [hsem]
    cases hy : ev G e y with
    | none => rw [hy] at hs; cases hs
    | some v =>
      rw [hy] at hs
      have hs' : cond (closedV v) (Res.ok (.pan v) e h) .fail = .ok x e' h' := hs
      cases hcl : closedV v with
      | false => rw [hcl] at hs'; cases hs'
      | true =>
        rw [hcl] at hs'
        simp only [cond_true, Res.ok.injEq] at hs'
        obtain ⟨rfl, rfl, rfl⟩ := hs'
        have hv := closed_eq hcl (ev_ok c.gr he.tr hy)
        have hrun : (do pure (Next.value (← Instr.panic (a.eval y))) : Sem Next).run P w = .halt (.panic v) w := by
          rw [hv]
          cases v with
          | iface t u => simp only [Instr.panic, goPanic, Sem.run_bind]; rfl
          | _ => cases hcl
        rw [hrun]
        exact hQ v rfl rfl rfl
  · rename_i cc
    split at hs
    · rename_i f args hcal hargs
      have hnone : (FW ro').round = none := hro rfl
      cases hf : ev G e f with
      | none => rw [hf] at hs; cases hs
      | some fv =>
        rw [hf] at hs
        have hfe := ev_ok c.gr he.tr hf
        have hal : VRL μ args (cc.args.map a.eval).toList := by simpa using evs_ok c.gr he.tr hargs
        cases hdv : deferV args (some fv) with
        | none => rw [hdv] at hs; cases hs
        | some d =>
          rw [hdv] at hs
          have hs' : (match putD ⟨e.sz, e.t, d :: e.mks⟩ dst undef with | some e => ih e h | none => .fail) = .ok x e' h' := hs
          cases hpd : putD ⟨e.sz, e.t, d :: e.mks⟩ dst undef with
          | none => rw [hpd] at hs'; cases hs'
          | some e1 =>
            rw [hpd] at hs'
            simp only at hs'
            unfold deferV at hdv
            split at hdv
            · rename_i g first captured heq
              simp only [Option.some.injEq] at heq hdv
              subst heq; subst hdv
              generalize hff : a.eval f = f' at hfe
              cases hfe with
              | func _ q1 q2 =>
                rename_i first' captured'
                have hsem : (Oper.semAt (FW ro').round a.eval ⟨dst, .defer cc, type, pos, after, guard⟩).run P w = .ok (.defer { target := .fn (.func g) captured', args := first' ++ cc.args.map a.eval }) w := by
                  rw [hnone, Oper.semAt_none]
                  show (do pure (Next.defer (← resolve a.eval cc type)) : Sem Next).run P w = _
                  simp only [resolve, hcal, hff, Deferred.ofValue]
                  rfl
                rw [hsem]
                have hAR : AR μ ⟨e.sz, e.t, .call g (first.toList ++ (args ++ captured.toList)) :: e.mks⟩ { a with defers := { target := .fn (.func g) captured', args := first' ++ cc.args.map a.eval } :: a.defers } :=
                  ⟨⟨he.tr.size, he.tr.get⟩, .cons (.call (by
                    have := q1.append (hal.append q2)
                    simpa using this)) he.mr⟩
                exact hnext e1 _ hs' (putD_ok hAR (undef_refl μ) hpd)
            · cases hdv
    · cases hs
  · cases hs

theorem runOps_cons (ro : Option Nat) (call : FuncId → List Value → Hp → CRes) (round : Nat → List Value → Hp → CRes) (all : Array Oper) (o : Oper) (l : List Oper) (e : En) (h : Hp) : runOps P G ro call round all (o :: l) e h = (match oneOp P G call round all o e h with
    | .ok v h => (match putD e o.dst v with | some e => runOps P G ro call round all l e h | none => .fail)
    | .fail => specC G ro all o e h (runOps P G ro call round all l)
    | .panic v h => .ok (.pan v) e h) := rfl
theorem runOps_ok {call : FuncId → List Value → Hp → CRes} {round : Nat → List Value → Hp → CRes} (hf : SF P G B call) (hrd : SR P G B round) (all : Array Oper) (ro ro' : Option Nat) (hro : ro = none → ro' = none) : ∀ (l : List Oper) (i : Nat), all.toList = all.toList.take i ++ l → i ≤ all.size → ∀ (e e' : En) (h h' : Hp) (x : Ex) (μ : Mu) (a : Act) (w : World), runOps P G ro call round all l e h = .ok x e' h' → Cond G B μ h w → AR μ e a → ∀ (Q : Exit → Act → World → Prop), (∀ ex a' w', CP B μ h w x e' h' ex a' w' → Q ex a' w') →
    wpOpsIn (FW ro') 0 P all Q (List.range' i l.length) a w
  | [], i, _, _, e, e', h, h', x, μ, a, w, hrun, c, he, Q, hQ => by
    have hr' : Res.ok Ex.normal e h = .ok x e' h' := hrun
    simp only [Res.ok.injEq] at hr'
    obtain ⟨rfl, rfl, rfl⟩ := hr'
    exact hQ _ _ _ ⟨rfl, μ, he, .refl c.hr⟩
  | o :: l, i, hl, hi, e, e', h, h', x, μ, a, w, hrun, c, he, Q, hQ => by
    have hlen := congrArg List.length hl
    simp at hlen
    have hoi : all[i]? = some o := by
      have := congrArg (fun q => q[i]?) hl
      simp [Nat.min_eq_left hi] at this
      exact this
    have hl' : all.toList = all.toList.take (i + 1) ++ l := by
      rw [List.take_add_one]
      have : all.toList[i]? = some o := by simpa using hoi
      rw [this]
      simpa using hl
    rw [runOps_cons] at hrun
    cases hone : oneOp P G call round all o e h with
    | fail =>
      rw [hone] at hrun
      simp only at hrun
      unfold specC at hrun
      split at hrun
      · rename_i hw
        rw [List.length_cons, List.range'_succ]
        simp only [wpOpsIn, hoi]
        rw [wanted_ok he.tr hw]
        simp only [if_true]
        refine spec_ok hro c he hrun (fun e1 a1 hi1 hA1 => ?_) fun v hx he1 hh1 => ?_
        · exact runOps_ok hf hrd all ro ro' hro l (i + 1) hl' (by omega) e1 e' h h' x μ a1 w hi1 c hA1 Q hQ
        · subst hx; subst he1; subst hh1
          exact hQ _ _ _ ⟨rfl, μ, he, .refl c.hr⟩
      · cases hrun
    | panic v h1 =>
      rw [hone] at hrun
      simp only [Res.ok.injEq] at hrun
      obtain ⟨rfl, rfl, rfl⟩ := hrun
      rw [List.length_cons, List.range'_succ]
      unfold oneOp at hone
      simp only [wpOpsIn, hoi]
      split at hone
      · rename_i hw
        rw [wanted_ok he.tr hw]
        simp only [if_true]
        exact op_pan hf hrd c he hone fun μ1 w1 g => hQ _ _ _ ⟨rfl, μ1, he.mono g.st.le, g⟩
      · cases hone
      · cases hone
    | ok v h1 =>
      rw [hone] at hrun
      simp only at hrun
      cases hpd : putD e o.dst v with
      | none => rw [hpd] at hrun; cases hrun
      | some e1 =>
        rw [hpd] at hrun
        simp only at hrun
        rw [List.length_cons, List.range'_succ]
        have hgo : ∀ μ1 v' w1, VR μ1 v v' → Good B μ h w μ1 h1 w1 → wpOpsIn (FW ro') 0 P all Q (List.range' (i + 1) l.length) (a.put o.dst v') w1 := fun μ1 v' w1 hv g =>
          runOps_ok hf hrd all ro ro' hro l (i + 1) hl' (by omega) e1 e' h1 h' x μ1 (a.put o.dst v') w1 hrun (c.next g) (putD_ok (he.mono g.st.le) hv hpd) Q fun ex a2 w2 hcp => hQ _ _ _ (CP.from c g hcp)
        unfold oneOp at hone
        simp only [wpOpsIn, hoi]
        split at hone
        · rename_i hw
          rw [wanted_ok he.tr hw]
          simp only [if_true]
          exact op_step hf hrd c he hone hgo
        · rename_i hw
          rw [wanted_ok he.tr hw]
          simp only [Bool.false_eq_true, if_false]
          simp only [CRes.ok.injEq] at hone
          obtain ⟨rfl, rfl⟩ := hone
          exact ⟨fun _ _ => trivial, hgo μ undef w (undef_refl μ) (.refl c.hr)⟩
        · cases hone
end
end Cx
end Go.Proofs.YtfbacidpjpghiaaGreatDoor
namespace Go.Proofs.YtfbacidpjpghiaaGreatDoor
namespace Cx
open Go

section
variable {P : Program} {G B : Nat}

theorem envOf_cons (v : Value) (l : List Value) (i : Nat) (t : T Value) : envOf (v :: l) i t = envOf l (i + 1) (T.put v t i) := rfl
theorem envOf_get : ∀ (l : List Value) (i : Nat) (t : T Value) (k : Nat), (envOf l i t).get k = if i ≤ k ∧ k < i + l.length then l[k - i]? else t.get k
  | [], i, t, k => by
    have : ¬ (i ≤ k ∧ k < i + ([] : List Value).length) := by
      intro ⟨h1, h2⟩
      rw [List.length_nil] at h2
      omega
    rw [if_neg this]; rfl
  | v :: l, i, t, k => by
    rw [envOf_cons, envOf_get l (i + 1) _ k, T.get_put]
    by_cases hk : k = i
    · subst hk
      have c1 : ¬ (k + 1 ≤ k ∧ k < k + 1 + l.length) := by omega
      have c2 : k ≤ k ∧ k < k + (v :: l).length := by simp
      rw [if_neg c1, if_pos c2]; simp
    · by_cases hin : i + 1 ≤ k ∧ k < i + 1 + l.length
      · have c2 : i ≤ k ∧ k < i + (v :: l).length := by simp; omega
        rw [if_pos hin, if_pos c2, show k - i = (k - (i + 1)) + 1 by omega]; simp
      · have c2 : ¬ (i ≤ k ∧ k < i + (v :: l).length) := by simp; omega
        rw [if_neg hin, if_neg c2]; simp [hk]

theorem resOf_cons (e : En) (h : Hp) (r : ResultVar) (l : List ResultVar) : resOf P e h (r :: l) = (match (match r with | .tmp t => e.t.get t | .cell a t => (match e.t.get a with | some p => ld P h t p | none => none) : Option Value) with
    | some v => (match resOf P e h l with | some l => some (v :: l) | none => none)
    | none => none) := rfl
/-- what a function's result is read from -/
def resSem (tmps : Array Value) : ResultVar → Sem Value
  | .tmp t => pure (tmps.getD t undef)
  | .cell a t => do loadVar t (← asAddr (tmps.getD a undef))
theorem resOf_ok {μ : Mu} {e : En} {h : Hp} {w : World} {tmps : Array Value} (hr : HR B μ h.n h.t.get w) (he : TR μ e tmps) : ∀ (l : List ResultVar) (vs : List Value), resOf P e h l = some vs → ∃ vs', VRL μ vs vs' ∧ (l.mapM (resSem tmps)).run P w = .ok vs' w
  | [], vs, hv => by have hv' : some ([] : List Value) = some vs := hv; simp at hv'; subst hv'; exact ⟨[], .nil, by simp⟩
  | r :: l, vs, hv => by
    rw [resOf_cons] at hv
    split at hv
    · rename_i v h1
      split at hv
      · rename_i q h2
        simp at hv; subst hv
        obtain ⟨vs', g1, g2⟩ := resOf_ok hr he l q h2
        have hone : ∃ v', (resSem tmps r).run P w = .ok v' w ∧ VR μ v v' := by
          cases r with
          | tmp t =>
            obtain ⟨v', q1, q2⟩ := he.get t v h1
            exact ⟨v', by simp [resSem, q1], q2⟩
          | cell a t =>
            simp only at h1
            split at h1
            · rename_i p hp
              obtain ⟨p', q1, q2⟩ := he.get a p hp
              unfold ld at h1
              split at h1
              · rename_i k o
                cases q2 with
                | ptr hk =>
                  obtain ⟨v', z1, z2⟩ := ld_ok hr hk h1
                  exact ⟨v', by simp [resSem, q1, asAddr, z1], z2⟩
              · cases h1
            · cases h1
        obtain ⟨v', z1, z2⟩ := hone
        refine ⟨v' :: vs', .cons z2 g1, ?_⟩
        rw [List.mapM_cons]
        simp only [Sem.run_bind, z1, Result.andThen_ok, g2, Sem.run_pure]
      · cases hv
    · cases hv
theorem results_eq (fn : Func) (tmps : Array Value) : results fn tmps = (do let vs ← fn.results.mapM (resSem tmps); pure (if h : vs.size = 1 then vs[0] else .tuple vs)) := by
  unfold results
  congr 1
theorem results_ok {μ : Mu} {e : En} {h : Hp} {w : World} {fn : Func} {tmps : Array Value} (hr : HR B μ h.n h.t.get w) (he : TR μ e tmps) {vs : List Value} (hv : resOf P e h fn.results.toList = some vs) : ∃ v', (results fn tmps).run P w = .ok v' w ∧ VR μ (tupOf vs) v' := by
  obtain ⟨vs', g1, g2⟩ := resOf_ok hr he _ _ hv
  rw [results_eq]
  have hm : (fn.results.mapM (resSem tmps)).run P w = .ok vs'.toArray w := by
    rw [Array.mapM_eq_mapM_toList, Sem.run_map, g2, Result.andThen_ok]
  refine ⟨if h : vs'.toArray.size = 1 then vs'.toArray[0] else .tuple vs'.toArray, by simp only [Sem.run_bind, hm, Result.andThen_ok, Sem.run_pure], ?_⟩
  have hlen := g1.length
  by_cases h1 : vs'.toArray.size = 1
  · rw [dif_pos h1]
    cases g1 with
    | nil => simp at h1
    | cons hq ht =>
      cases ht with
      | nil => exact hq
      | cons _ _ => simp at h1
  · rw [dif_neg h1]
    cases g1 with
    | nil => exact .tuple .nil
    | cons hq ht =>
      cases ht with
      | nil => simp at h1
      | cons hv2 ht2 => exact .tuple (.cons hq (.cons hv2 ht2))

def UM.mode : UM → FrameMode
  | .rt => .returning
  | .pn v => .panicking [{ v := v, recovered := false }]
  | .dn v => .panicking [{ v := v, recovered := true }]
theorem UM.mode_ne (u : UM) : u.mode ≠ .run := by cases u <;> simp [UM.mode]
theorem settle_mode (u : UM) : settle u.mode = (settleU u).mode := by
  cases u <;> rfl
theorem callFunc_go (hng : ∀ (f : FuncId) (fn : Func), P.funcs[f]? = some fn → fn.body.isSome = true → (fn.name == "runtime.NumGoroutine") = false) {f : FuncId} {fn : Func} (hfn : P.funcs[f]? = some fn) {code : Code} (hb : fn.body = some code) (args : Array Value) (w : World) :
    (callFunc f args).run P w = .ok (.enter f args) w := by
  have hn := hng f fn hfn (by rw [hb]; rfl)
  simp only [callFunc, program, Sem.run_bind, Sem.run, Result.andThen_ok, hfn, hn, Bool.false_eq_true, if_false, hb, Option.isNone_some]
  rfl
/-- where a call begins -/
theorem enter_AR {μ : Mu} {args : List Value} {args' : Array Value} {n : Nat} (hargs : VRL μ args args'.toList) (hle : args.length ≤ n) : AR μ ⟨n, envOf args 0 .nil, []⟩ { tmps := args' ++ Array.replicate (n - args'.size) undef, defers := [] } := by
  have hal := hargs.length
  have hsz : args'.size = args.length := by rw [← Array.length_toList]; omega
  refine ⟨⟨by simp; omega, fun t u hu => ?_⟩, .nil⟩
  rw [envOf_get] at hu
  by_cases hin : 0 ≤ t ∧ t < 0 + args.length
  · rw [if_pos hin] at hu
    obtain ⟨u', g1, g2⟩ := hargs.get t u (by simpa using hu)
    refine ⟨u', ?_, g2⟩
    rw [Array.getElem?_append_left (by omega)]
    simpa using g1
  · rw [if_neg hin, T.get_nil] at hu; cases hu

/-- deferred calls -/
def DC (P : Program) (G B : Nat) (dc : FuncId → List Value → UM → Hp → Option (UM × Hp)) : Prop :=
  ∀ f args u h u' h', dc f args u h = some (u', h') → ∀ μ (args' : Array Value) w, Cond G B μ h w → VRL μ args args'.toList →
    (callFunc f args').run P w = .ok (.enter f args') w ∧ CallsDIn (FW none) 0 P f args' u.mode w fun en um w' => (∃ v, en = .returned v) ∧ um = u'.mode ∧ ∃ μ', Good B μ h w μ' h' w'

theorem leave_cons (dc : FuncId → List Value → UM → Hp → Option (UM × Hp)) (d : DI) (l : List DI) (u : UM) (h : Hp) : leave dc (d :: l) u h = (match d with
    | .mark k => (match h.t.get k with
      | some .defs => leave dc l u (h.set k .other)
      | _ => none)
    | .call f args => (match dc f args u h with
      | some (u, h) => leave dc l (settleU u) h
      | none => none)) := rfl
/-- the marks taken away, the deferred calls run -/
theorem leave_ok {dc : FuncId → List Value → UM → Hp → Option (UM × Hp)} (hdc : DC P G B dc) {fn : Func} {tmps : Array Value} {R : Ending → World → Prop} : ∀ (ks : List DI) (ds : List Deferred) (u u2 : UM) (h h2 : Hp) (μ : Mu) (w : World), Cond G B μ h w → MR μ ks ds → leave dc ks u h = some (u2, h2) →
    (∀ μ2 w2, Good B μ h w μ2 h2 w2 → LeavesIn (FW none) 0 P fn tmps R [] u2.mode w2) → LeavesInM (FW none) 0 P fn tmps R ds u.mode w
  | [], _, u, u2, h, h2, μ, w, c, .nil, hu, hl => by
    have hu' : some (u, h) = some (u2, h2) := hu
    simp only [Option.some.injEq, Prod.mk.injEq] at hu'
    obtain ⟨rfl, rfl⟩ := hu'
    exact hl μ w (.refl c.hr)
  | x :: ks, _, u, u2, h, h2, μ, w, c, .cons hx ht, hu, hl => by
    rename_i d ds
    rw [leave_cons] at hu
    cases hx with
    | mark hk =>
      rename_i k b p s
      simp only at hu
      split at hu
      · rename_i hd
        have hb : w.heap[b]? = some (.deferred (some [])) := c.hr.obj k b p s _ hk hd
        have hlt := (c.hr.lt k b p s hk).2
        have hrun : (Instr.takeDeferred b).run P w = .ok [] { w with heap := w.heap.setIfInBounds b (.deferred none) } := by
          simp [Instr.takeDeferred, getObj, setObj, Sem.run, hb]
        have hgood : Good B μ h w μ (h.set k .other) { w with heap := w.heap.setIfInBounds b (.deferred none) } :=
          set_ok c.hr hk hd rfl rfl rfl rfl rfl rfl (by simp) (fun b' hne => by simp [Array.getElem?_setIfInBounds_ne (Ne.symm hne)]) trivial
        refine ⟨u.mode_ne, .inl ⟨b, _, rfl, hrun, ?_⟩⟩
        exact leave_ok hdc ks ds u u2 _ h2 μ _ (c.next hgood) ht hu fun μ2 w2 g2 => hl μ2 w2 (Good.trans c.hr hgood g2)
      · cases hu
    | call ha =>
      rename_i f args cap dargs
      simp only at hu
      cases hd : dc f args u h with
      | none => rw [hd] at hu; cases hu
      | some r =>
        obtain ⟨u1, h1⟩ := r
        rw [hd] at hu
        simp only at hu
        obtain ⟨q1, q2⟩ := hdc f args u h u1 h1 hd μ (dargs ++ cap) w c (by simpa using ha)
        refine ⟨u.mode_ne, .inr ⟨fun hh => by simp [Fence.wide] at hh, .func f, cap, f, dargs ++ cap, rfl, q1, fun _ _ => trivial, ?_⟩⟩
        refine CallsDIn.mono q2 fun en um w' hen => ?_
        obtain ⟨⟨v, rfl⟩, rfl, μ', g⟩ := hen
        show LeavesInM (FW none) 0 P fn tmps R ds (settle u1.mode) w'
        rw [settle_mode]
        exact leave_ok hdc ks ds (settleU u1) u2 h1 h2 μ' w' (c.next g) (ht.mono g.st.le) hu fun μ2 w2 g2 => hl μ2 w2 (Good.trans c.hr g g2)

theorem wpSIn_mono {F : Fence} {n : Nat} {c : Code} {Q Q' : Exit → Act → List Frame → World → Prop} {a : Act} {cs : List Frame} {w : World} (h : c.wpSIn F n P Q a cs w) (hq : ∀ e a cs w, Q e a cs w → Q' e a cs w) : c.wpSIn F n P Q' a cs w :=
  fun b k h1 h2 h3 h4 => let ⟨e, a', cs', w', l, q, r⟩ := h b k h1 h2 h3 h4; ⟨e, a', cs', w', l, hq _ _ _ _ q, r⟩

/-- where a deferred body stands -/
def SP (B : Nat) (μ : Mu) (h : Hp) (w : World) (c₀ : Frame) (cs : List Frame) (u : UM) (x : Ex) (e' : En) (h' : Hp) : Exit → Act → List Frame → World → Prop :=
  fun ex a' cs' w' => cs' = { c₀ with mode := u.mode } :: cs ∧ CP B μ h w x e' h' ex a' w'

theorem recOps_cons (all : Array Oper) (o : Oper) (l : List Oper) (u : UM) (e : En) (h : Hp) : recOps P G all (o :: l) u e h = (match wantedC all e o.guard with
    | some true => cond (isRecover o.op) (match recoverU u with
          | some (v, u) => (match putD e o.dst v with | some e => recOps P G all l u e h | none => none)
          | none => none)
        (match opC P G e h o with
        | .value v h => (match putD e o.dst v with | some e => recOps P G all l u e h | none => none)
        | _ => none)
    | some false => (match putD e o.dst undef with | some e => recOps P G all l u e h | none => none)
    | none => none) := rfl

theorem recoverU_ok {u u1 : UM} {v : Value} (h : recoverU u = some (v, u1)) (μ : Mu) (c₀ : Frame) (cs : List Frame) (hc : c₀.mode = u.mode) :
    VR μ v v ∧ ((recoverD (c₀ :: cs) = some (v, { c₀ with mode := u1.mode } :: cs)) ∨ (recoverD (c₀ :: cs) = none ∧ v = .nilIface ∧ { c₀ with mode := u1.mode } = c₀)) := by
  cases u with
  | rt =>
    simp only [recoverU, Option.some.injEq, Prod.mk.injEq] at h
    obtain ⟨rfl, rfl⟩ := h
    refine ⟨.nilIface, .inr ⟨?_, rfl, by rw [← hc]⟩⟩
    simp [recoverD, hc, UM.mode]
  | dn x =>
    simp only [recoverU, Option.some.injEq, Prod.mk.injEq] at h
    obtain ⟨rfl, rfl⟩ := h
    refine ⟨.nilIface, .inr ⟨?_, rfl, by rw [← hc]⟩⟩
    simp [recoverD, hc, UM.mode]
  | pn x =>
    simp only [recoverU] at h
    cases hcl : closedV x with
    | false => rw [hcl] at h; cases h
    | true =>
      rw [hcl] at h
      simp only [cond_true, Option.some.injEq, Prod.mk.injEq] at h
      obtain ⟨rfl, rfl⟩ := h
      refine ⟨closed_VR hcl, .inl ?_⟩
      simp [recoverD, hc, UM.mode]

theorem recOps_ok (all : Array Oper) : ∀ (l : List Oper) (i : Nat), all.toList = all.toList.take i ++ l → i ≤ all.size → ∀ (u u' : UM) (e e' : En) (h h' : Hp) (μ : Mu) (a : Act) (w : World) (c₀ : Frame) (cs : List Frame), recOps P G all l u e h = some (u', e', h') → c₀.mode = u.mode → Cond G B μ h w → AR μ e a → ∀ (Q : Exit → Act → List Frame → World → Prop), (∀ ex a' cs' w', SP B μ h w c₀ cs u' .normal e' h' ex a' cs' w' → Q ex a' cs' w') →
    wpOpsSIn (FW none) 0 P all Q (List.range' i l.length) a (c₀ :: cs) w
  | [], i, _, _, u, u', e, e', h, h', μ, a, w, c₀, cs, hrun, hm, c, he, Q, hQ => by
    have hr' : some (u, e, h) = some (u', e', h') := hrun
    simp only [Option.some.injEq, Prod.mk.injEq] at hr'
    obtain ⟨rfl, rfl, rfl⟩ := hr'
    exact hQ _ _ _ _ ⟨by rw [← hm], rfl, μ, he, .refl c.hr⟩
  | o :: l, i, hl, hi, u, u', e, e', h, h', μ, a, w, c₀, cs, hrun, hm, c, he, Q, hQ => by
    have hlen := congrArg List.length hl
    simp at hlen
    have hoi : all[i]? = some o := by
      have := congrArg (fun q => q[i]?) hl
      simp [Nat.min_eq_left hi] at this
      exact this
    have hl' : all.toList = all.toList.take (i + 1) ++ l := by
      rw [List.take_add_one]
      have : all.toList[i]? = some o := by simpa using hoi
      rw [this]
      simpa using hl
    have hgo : ∀ (u1 : UM) (e1 : En) (v v' : Value) (h1 : Hp) (μ1 : Mu) (w1 : World) (c1 : Frame), recOps P G all l u1 e1 h1 = some (u', e', h') → putD e o.dst v = some e1 → VR μ1 v v' → Good B μ h w μ1 h1 w1 → c1 = { c₀ with mode := u1.mode } →
        wpOpsSIn (FW none) 0 P all Q (List.range' (i + 1) l.length) (a.put o.dst v') (c1 :: cs) w1 := fun u1 e1 v v' h1 μ1 w1 c1 hr1 hpd hv g hc1 =>
      recOps_ok all l (i + 1) hl' (by omega) u1 u' e1 e' h1 h' μ1 (a.put o.dst v') w1 c1 cs hr1 (by rw [hc1]) (c.next g) (putD_ok (he.mono g.st.le) hv hpd) Q fun ex a2 cs2 w2 hsp => hQ _ _ _ _ ⟨by rw [hsp.1, hc1], CP.from c g hsp.2⟩
    rw [recOps_cons] at hrun
    rw [List.length_cons, List.range'_succ]
    simp only [wpOpsSIn, hoi]
    refine ⟨fun _ _ => trivial, ?_⟩
    split at hrun
    · rename_i hw
      rw [wanted_ok he.tr hw]
      simp only [if_true]
      cases hrec : isRecover o.op with
      | true =>
        rw [hrec] at hrun
        simp only [cond_true] at hrun
        split at hrun
        · rename_i v u1 hru
          split at hrun
          · rename_i e1 hpd
            obtain ⟨k1, k2⟩ := recoverU_ok hru μ c₀ cs hm
            have hex : (execOp a.eval o).run P w = .ok .recover w := by
              obtain ⟨dst, op, type, pos, after, guard⟩ := o
              simp only at hrec
              unfold isRecover at hrec
              split at hrec
              · rfl
              · cases hrec
            rw [hex]
            simp only
            rcases k2 with k2 | ⟨k2, rfl, k3⟩
            · rw [k2]; exact hgo u1 e1 v v h μ w _ hrun hpd k1 (.refl c.hr) rfl
            · rw [k2]; exact hgo u1 e1 _ _ h μ w _ hrun hpd k1 (.refl c.hr) k3.symm
          · cases hrun
        · cases hrun
      | false =>
        rw [hrec] at hrun
        simp only [cond_false] at hrun
        have hok := opC_ok (P := P) c.hr c.hB c.gr he.tr o
        split at hrun
        · rename_i v h1 hop
          rw [hop] at hok
          obtain ⟨nx, v', w', μ', g1, g2, g3, g4⟩ := hok
          rw [g1]
          split at hrun
          · rename_i e1 hpd
            rcases g2 with rfl | ⟨rfl, rfl⟩
            · exact hgo u e1 v v' h1 μ' w' c₀ hrun hpd g3 g4 (by rw [← hm])
            · exact hgo u e1 v undef h1 μ' w' c₀ hrun hpd g3 g4 (by rw [← hm])
          · cases hrun
        · cases hrun
    · rename_i hw
      rw [wanted_ok he.tr hw]
      simp only [Bool.false_eq_true, if_false]
      split at hrun
      · rename_i e1 hpd
        exact hgo u e1 undef undef h μ w c₀ hrun hpd (undef_refl μ) (.refl c.hr) (by rw [← hm])
      · cases hrun
    · cases hrun

theorem recC_ok {ih : Option Nat → Code → En → Hp → Res} (hih : SC P G B ih) : ∀ (c : Code) (u u' : UM) (e e' : En) (h h' : Hp) (x : Ex) (μ : Mu) (a : Act) (w : World) (c₀ : Frame) (cs : List Frame), recC P G ih u e h c = some (u', .ok x e' h') → c₀.mode = u.mode → Cond G B μ h w → AR μ e a →
    c.wpSIn (FW none) 0 P (SP B μ h w c₀ cs u' x e' h') a (c₀ :: cs) w := by
  have plain : ∀ (c : Code) (u u' : UM) (e e' : En) (h h' : Hp) (x : Ex) (μ : Mu) (a : Act) (w : World) (c₀ : Frame) (cs : List Frame), some (u, ih none c e h) = some (u', Res.ok x e' h') → c₀.mode = u.mode → Cond G B μ h w → AR μ e a →
      c.wpSIn (FW none) 0 P (SP B μ h w c₀ cs u' x e' h') a (c₀ :: cs) w := by
    intro c u u' e e' h h' x μ a w c₀ cs hr hm cc he
    simp only [Option.some.injEq, Prod.mk.injEq] at hr
    obtain ⟨rfl, hr⟩ := hr
    refine wpSIn_of_wpIn rfl ?_
    exact wpIn_mono (hih none none c e h x e' h' hr μ a w cc trivial he) fun ex a' w' hcp => ⟨by rw [← hm], hcp⟩
  intro c
  induction c with
  | seq p q ihp ihq =>
    intro u u' e e' h h' x μ a w c₀ cs hr hm cc he
    have hr' : (match recC P G ih u e h p with
      | some (u, .ok .normal e h) => recC P G ih u e h q
      | r => r) = some (u', .ok x e' h') := by rw [← hr]; rfl
    refine wpSIn_seq ?_
    split at hr'
    · rename_i u1 e1 h1 hp
      refine wpSIn_mono (ihp u u1 e e1 h h1 .normal μ a w c₀ cs hp hm cc he) fun ex a1 cs1 w1 hsp => ?_
      obtain ⟨rfl, rfl, μ1, hA, hG⟩ := hsp
      show q.wpSIn (FW none) 0 P (SP B μ h w c₀ cs u' x e' h') a1 _ w1
      refine wpSIn_mono (ihq u1 u' e1 e' h1 h' x μ1 a1 w1 { c₀ with mode := u1.mode } cs hr' rfl (cc.next hG) hA) fun ex2 a2 cs2 w2 hsp2 => ?_
      exact ⟨hsp2.1, CP.from cc hG hsp2.2⟩
    · rename_i hno
      refine wpSIn_mono (ihp u u' e e' h h' x μ a w c₀ cs hr' hm cc he) fun ex a1 cs1 w1 hsp => ?_
      obtain ⟨hs1, rfl, hs3⟩ := hsp
      cases x with
      | normal => exact absurd hr' (hno u' e' h')
      | exit i => exact ⟨hs1, rfl, hs3⟩
      | ret => exact ⟨hs1, rfl, hs3⟩
      | pan v => exact ⟨hs1, rfl, hs3⟩
  | region id ops draw =>
    intro u u' e e' h h' x μ a w c₀ cs hr hm cc he
    cases draw with
    | true => exact plain (.region id ops true) u u' e e' h h' x μ a w c₀ cs hr hm cc he
    | false =>
      have hr' : (match recOps P G ops ops.toList u e h with
        | some (u, e, h) => some (u, .ok .normal e h)
        | none => some (u, ih none (.region id ops false) e h)) = some (u', .ok x e' h') := by rw [← hr]; rfl
      split at hr'
      · rename_i u1 e1 h1 hrec
        simp only [Option.some.injEq, Prod.mk.injEq, Res.ok.injEq] at hr'
        obtain ⟨rfl, rfl, rfl, rfl⟩ := hr'
        refine wpSIn_region ?_
        have := recOps_ok (P := P) (G := G) (B := B) ops ops.toList 0 (by simp) (by simp) u u1 e e1 h h1 μ a w c₀ cs hrec hm cc he (SP B μ h w c₀ cs u1 .normal e1 h1) (fun _ _ _ _ hq => hq)
        rw [List.range_eq_range']
        simpa using this
      · exact plain (.region id ops false) u u' e e' h h' x μ a w c₀ cs hr' hm cc he
  | _ => exact fun u u' e e' h h' x μ a w c₀ cs hr hm cc he => plain _ u u' e e' h h' x μ a w c₀ cs hr hm cc he

theorem deferC_ok (hng : ∀ (f : FuncId) (fn : Func), P.funcs[f]? = some fn → fn.body.isSome = true → (fn.name == "runtime.NumGoroutine") = false) {ih : Option Nat → Code → En → Hp → Res} (hih : SC P G B ih) : DC P G B (deferC P G ih) := by
  intro f args u h u' h' hd μ args' w c hargs
  unfold deferC at hd
  split at hd
  · cases hd
  · rename_i fn hfn
    split at hd
    · cases hd
    · rename_i code hb
      cases hle : Nat.ble args.length fn.ntmps with
      | false => rw [hle] at hd; cases hd
      | true =>
        rw [hle] at hd
        simp only [cond_true] at hd
        have hle' : args.length ≤ fn.ntmps := Nat.le_of_ble_eq_true hle
        refine ⟨callFunc_go hng hfn hb args' w, ?_⟩
        refine callsDIn_of_wpSIn hfn hb trivial fun c₀ cs hm => ?_
        have key : ∀ (x : Ex) (sz : Nat) (t : T Value) (l : List Value), (x = .ret ∨ x = .normal) → recC P G ih u ⟨fn.ntmps, envOf args 0 .nil, []⟩ h code = some (u', .ok x ⟨sz, t, []⟩ h') → resOf P ⟨sz, t, []⟩ h' fn.results.toList = some l →
            code.wpSIn (FW none) 0 P (bodyPostS P fn c₀ cs fun en um w' => (∃ v, en = .returned v) ∧ um = u'.mode ∧ ∃ μ', Good B μ h w μ' h' w') { tmps := args' ++ Array.replicate (fn.ntmps - args'.size) undef, defers := [] } (c₀ :: cs) w := by
          intro x sz t l hx hr hres
          refine wpSIn_mono (recC_ok hih code u u' _ _ h h' x μ _ w c₀ cs hr hm c (enter_AR hargs hle')) fun ex a' cs' w' hsp => ?_
          obtain ⟨rfl, rfl, μ1, hA, hG⟩ := hsp
          obtain ⟨v', r1, r2⟩ := results_ok (P := P) (fn := fn) hG.hr hA.tr hres
          have hdn : a'.defers = [] := by
            have := hA.mr
            cases this2 : a'.defers with
            | nil => rfl
            | cons d ds => rw [this2] at this; cases this
          rcases hx with rfl | rfl <;> exact ⟨hdn, u'.mode, rfl, v', r1, ⟨v', rfl⟩, rfl, μ1, hG⟩
        unfold recEnd at hd
        split at hd
        · rename_i u1 sz t h1 hr
          split at hd
          · rename_i l hres
            simp only [Option.some.injEq, Prod.mk.injEq] at hd
            obtain ⟨rfl, rfl⟩ := hd
            exact key .ret sz t l (.inl rfl) hr hres
          · cases hd
        · rename_i u1 sz t h1 hr
          split at hd
          · rename_i l hres
            simp only [Option.some.injEq, Prod.mk.injEq] at hd
            obtain ⟨rfl, rfl⟩ := hd
            exact key .normal sz t l (.inr rfl) hr hres
          · cases hd
        · cases hd

/-- how a call ends -/
def RP (B : Nat) (μ : Mu) (h : Hp) (w : World) : CRes → Ending → World → Prop
  | .ok v h' => VP B μ h w v h'
  | .panic v h' => PP B μ h w v h'
  | .fail => fun _ _ => False
theorem callC_go (hng : ∀ (f : FuncId) (fn : Func), P.funcs[f]? = some fn → fn.body.isSome = true → (fn.name == "runtime.NumGoroutine") = false) {ih : Option Nat → Code → En → Hp → Res} (hih : SC P G B ih) {f : FuncId} {fn : Func} (hfn : P.funcs[f]? = some fn) {code : Code} (hb : fn.body = some code)
    {args : List Value} {h : Hp} {r : CRes} (hr : r ≠ .fail) (hc : endC P G ih fn.results.toList (ih none code ⟨fn.ntmps, envOf args 0 .nil, []⟩ h) = r) (hle : args.length ≤ fn.ntmps) {μ : Mu} {args' : List Value} {w : World} (c : Cond G B μ h w) (hargs : VRL μ args args') : CallsIn (FW none) 0 P f args'.toArray w (RP B μ h w r) := by
  have key : ∀ (x : Ex) (u : UM) (e1 : En) (h1 : Hp), (x = .ret ∧ u = .rt ∨ x = .normal ∧ u = .rt ∨ ∃ v, x = .pan v ∧ u = .pn v) → ih none code ⟨fn.ntmps, envOf args 0 .nil, []⟩ h = .ok x e1 h1 → endL P fn.results.toList e1 (leave (deferC P G ih) e1.mks u h1) = r → CallsIn (FW none) 0 P f args'.toArray w (RP B μ h w r) := by
    intro x u e1 h1 hx hrun hend
    refine callsIn_of_wp_marks hfn hb trivial ?_
    have hwp := hih none none code _ h x e1 h1 hrun μ _ w c trivial (enter_AR (args' := args'.toArray) (by simpa using hargs) hle)
    refine wpIn_mono hwp fun ex a' w' hcp => ?_
    obtain ⟨rfl, μ1, hA, hG⟩ := hcp
    have hfin : LeavesInM (FW none) 0 P fn a'.tmps (RP B μ h w r) a'.defers u.mode w' := by
      cases hlv : leave (deferC P G ih) e1.mks u h1 with
      | none => rw [hlv] at hend; exact absurd hend.symm hr
      | some q =>
        obtain ⟨u2, h2⟩ := q
        rw [hlv] at hend
        refine leave_ok (deferC_ok hng hih) e1.mks a'.defers u u2 h1 h2 μ1 w' (c.next hG) hA.mr hlv fun μ2 w2 g2 => ?_
        have g := Good.trans c.hr hG g2
        cases u2 with
        | dn v => exact absurd hend.symm hr
        | pn v =>
          have hend' : CRes.panic v h2 = r := hend
          subst hend'
          exact ⟨rfl, μ2, g⟩
        | rt =>
          have hend' : (match resOf P e1 h2 fn.results.toList with
            | some l => CRes.ok (tupOf l) h2
            | none => .fail) = r := hend
          cases hres : resOf P e1 h2 fn.results.toList with
          | none => rw [hres] at hend'; exact absurd hend'.symm hr
          | some l =>
            rw [hres] at hend'
            simp only at hend'
            subst hend'
            obtain ⟨v', r1, r2⟩ := results_ok (P := P) (fn := fn) g.hr (hA.tr.mono g2.st.le) hres
            exact ⟨v', r1, v', μ2, rfl, r2, g⟩
    rcases hx with ⟨rfl, rfl⟩ | ⟨rfl, rfl⟩ | ⟨v, rfl, rfl⟩ <;> exact hfin
  unfold endC at hc
  split at hc
  · rename_i e1 h1 hrun; exact key _ _ e1 h1 (.inl ⟨rfl, rfl⟩) hrun hc
  · rename_i e1 h1 hrun; exact key _ _ e1 h1 (.inr (.inl ⟨rfl, rfl⟩)) hrun hc
  · rename_i v e1 h1 hrun; exact key _ _ e1 h1 (.inr (.inr ⟨v, rfl, rfl⟩)) hrun hc
  · exact absurd hc.symm hr

theorem callC_ok (hng : ∀ (f : FuncId) (fn : Func), P.funcs[f]? = some fn → fn.body.isSome = true → (fn.name == "runtime.NumGoroutine") = false) {ih : Option Nat → Code → En → Hp → Res} (hih : SC P G B ih) : SF P G B (callC P G ih) := by
  have ext : ∀ f args h r, externC P f args h = r → r ≠ .fail → ∃ v, r = .ok v h ∧ args.all scalar = true ∧ scalar v = true ∧ pureRun P (callFunc f args.toArray) = some (.value v) := by
    intro f args h r hc hr
    unfold externC at hc
    cases hs : args.all scalar with
    | false => rw [hs] at hc; exact absurd hc.symm hr
    | true =>
      rw [hs] at hc
      simp only [cond_true] at hc
      split at hc
      · rename_i u hu
        cases hsu : scalar u with
        | false => rw [hsu] at hc; exact absurd hc.symm hr
        | true =>
          rw [hsu] at hc
          exact ⟨u, hc.symm, rfl, hsu, hu⟩
      · exact absurd hc.symm hr
  constructor
  · intro f args h v h' hc μ args' w c hargs
    unfold callC at hc
    split at hc
    · cases hc
    · rename_i fn hfn
      split at hc
      · rename_i hb
        left
        obtain ⟨u, e1, e2, e3, e4⟩ := ext f args h _ hc (by simp)
        simp only [CRes.ok.injEq] at e1
        obtain ⟨rfl, rfl⟩ := e1
        rw [hargs.scalars e2]
        exact ⟨_, pureRun_ok _ e4 w, scalar_VR e3, rfl, e2⟩
      · rename_i code hb
        right
        cases hle : Nat.ble args.length fn.ntmps with
        | false => rw [hle] at hc; cases hc
        | true =>
          rw [hle] at hc
          simp only [cond_true] at hc
          refine ⟨callFunc_go hng hfn hb _ w, fun ro' => ?_⟩
          have hfin := callC_go hng hih hfn hb (by simp) hc (Nat.le_of_ble_eq_true hle) c hargs
          cases ro' with
          | none => exact hfin
          | some b => exact hfin
  · intro f args h v h' hc μ args' w c hargs
    unfold callC at hc
    split at hc
    · cases hc
    · rename_i fn hfn
      split at hc
      · obtain ⟨u, e1, _⟩ := ext f args h _ hc (by simp)
        cases e1
      · rename_i code hb
        cases hle : Nat.ble args.length fn.ntmps with
        | false => rw [hle] at hc; cases hc
        | true =>
          rw [hle] at hc
          simp only [cond_true] at hc
          refine ⟨callFunc_go hng hfn hb _ w, fun ro' => ?_⟩
          have hfin := callC_go hng hih hfn hb (by simp) hc (Nat.le_of_ble_eq_true hle) c hargs
          cases ro' with
          | none => exact hfin
          | some b => exact hfin
end
end Cx
end Go.Proofs.YtfbacidpjpghiaaGreatDoor
namespace Go.Proofs.YtfbacidpjpghiaaGreatDoor
set_option linter.unusedVariables false
namespace Cx
open Go

section
variable {P : Program} {G B : Nat}

theorem putPs_cons (t : Tmp) (ps : List Tmp) (vs : List Value) (e : En) : putPs (t :: ps) vs e = (match vs with
    | v :: vs => (match putD e (some t) v with | some e => putPs ps vs e | none => none)
    | [] => none) := rfl
theorem putPs_ok {μ : Mu} : ∀ (ps : List Tmp) (vs vs' : List Value) (e e1 : En) (a : Act), AR μ e a → VRL μ vs vs' → putPs ps vs e = some e1 →
    vs'.length = ps.length ∧ AR μ e1 { a with tmps := (ps.zip vs').foldl (fun tmps x => tmps.setIfInBounds x.1 x.2) a.tmps }
  | [], vs, vs', e, e1, a, he, hv, hp => by
    cases hv with
    | nil =>
      have hp' : some e = some e1 := hp
      simp at hp'; subst hp'; exact ⟨rfl, he⟩
    | cons _ _ =>
      have hp' : (none : Option En) = some e1 := hp
      cases hp'
  | t :: ps, vs, vs', e, e1, a, he, hv, hp => by
    rw [putPs_cons] at hp
    cases hv with
    | nil => cases hp
    | cons h1 t1 =>
      rename_i v v' l l'
      simp only at hp
      split at hp
      · rename_i e2 he2
        obtain ⟨g1, g2⟩ := putPs_ok ps _ _ e2 e1 _ (putD_ok he h1 he2) t1 hp
        exact ⟨by simp [g1], g2⟩
      · cases hp

theorem loop_obj {μ : Mu} {h : Hp} {w : World} (hr : HR B μ h.n h.t.get w) {l b p s : Nat} (hl : μ l = some (b, p, s)) {busy : Bool} {pend : Option Code} {e : En} {ps : List Tmp} {as bd : Code} (ho : h.t.get l = some (.loop busy pend e ps as bd)) :
    ∃ r : Loop, w.heap[b]? = some (.loop r) ∧ (Instr.getLoop b).run P w = .ok r w ∧ LoopR busy pend r ∧ r.params.toList = ps ∧ r.assign = as ∧ r.body = bd ∧ TR μ e r.tmps ∧ b < w.heap.size := by
  obtain ⟨r, h1, h2, h3, h4, h5, h6⟩ := hr.obj l b p s _ hl ho
  exact ⟨r, h1, by simp [Instr.getLoop, getObj, Sem.run, h1], h2, h3, h4, h5, h6, (hr.lt l b p s hl).2⟩
/-- a loop's record set anew -/
theorem loop_set {μ : Mu} {h : Hp} {w : World} (hr : HR B μ h.n h.t.get w) {l b p s : Nat} (hl : μ l = some (b, p, s)) {busy : Bool} {pend : Option Code} {e : En} {ps : List Tmp} {as bd : Code} (ho : h.t.get l = some (.loop busy pend e ps as bd)) (r' : Loop) (o : LObj) (hro : o.isRo = false)
    (hor : OR μ { w with heap := w.heap.setIfInBounds b (.loop r') } b p s o) : (setObj b (.loop r')).run P w = .ok () { w with heap := w.heap.setIfInBounds b (.loop r') } ∧ Good B μ h w μ (h.set l o) { w with heap := w.heap.setIfInBounds b (.loop r') } := by
  obtain ⟨r, h1, _⟩ := hr.obj l b p s _ hl ho
  exact ⟨by simp [setObj, Sem.run, h1], set_ok hr hl ho rfl rfl hro rfl rfl rfl (by simp) (fun b' hne => by simp [Array.getElem?_setIfInBounds_ne (Ne.symm hne)]) hor⟩

theorem roundEnd_ok {μ0 : Mu} {h0 : Hp} {w0 : World} {ro' : Option Nat} {μ : Mu} {h : Hp} {w : World} {l b p s : Nat} {x : Ex} {e' : En} {v : Value} {h' : Hp} (c0 : Cond G B μ0 h0 w0) (hg : Good B μ0 h0 w0 μ h w) (hl : μ l = some (b, p, s)) (hre : roundEnd l (.ok x e' h) = .ok v h') (a' : Act) :
    roundPost P b (VP B μ0 h0 w0 v h') x.to a' w := by
  have hre' : (match h.t.get l with
    | some (.loop _ _ e ps as bd) => (match x with
      | .normal => CRes.ok (.bool true) (h.set l (.loop false none e ps as bd))
      | .ret => .ok (.bool false) (h.set l (.loop true (some .ret) e ps as bd))
      | .exit i => .ok (.bool false) (h.set l (.loop true (some (.exit i)) e ps as bd))
      | .pan _ => .fail)
    | _ => .fail) = .ok v h' := hre
  split at hre'
  · rename_i bz pd e ps as bd ho
    obtain ⟨r, r1, r2, r3, r4, r5, r6, r7, r8⟩ := loop_obj (P := P) hg.hr hl ho
    have key : ∀ (jump : Option Code) (bz' : Bool), LoopR bz' jump { r with state := if jump.isNone then .ready else .done, pending := jump } →
        ∃ w', (Instr.endRound b jump).run P w = .ok (.bool jump.isNone) w' ∧ Good B μ h w μ (h.set l (.loop bz' jump e ps as bd)) w' := by
      intro jump bz' hLR
      obtain ⟨q1, q2⟩ := loop_set (P := P) hg.hr hl ho { r with state := if jump.isNone then .ready else .done, pending := jump } (.loop bz' jump e ps as bd) rfl ⟨{ r with state := if jump.isNone then .ready else .done, pending := jump }, by simp [r8], hLR, r4, r5, r6, r7⟩
      exact ⟨_, by simp only [Instr.endRound, Sem.run_bind, r2, Result.andThen_ok, q1, Sem.run_pure], q2⟩
    cases x with
    | normal =>
      simp only [CRes.ok.injEq] at hre'
      obtain ⟨rfl, rfl⟩ := hre'
      obtain ⟨w', q1, q2⟩ := key none false ⟨rfl, rfl, rfl⟩
      exact ⟨_, w', q1, _, μ, rfl, .bool true, Good.trans c0.hr hg q2⟩
    | ret =>
      simp only [CRes.ok.injEq] at hre'
      obtain ⟨rfl, rfl⟩ := hre'
      obtain ⟨w', q1, q2⟩ := key (some .ret) true ⟨rfl, rfl⟩
      exact ⟨_, w', q1, _, μ, rfl, .bool false, Good.trans c0.hr hg q2⟩
    | exit i =>
      simp only [CRes.ok.injEq] at hre'
      obtain ⟨rfl, rfl⟩ := hre'
      obtain ⟨w', q1, q2⟩ := key (some (.exit i)) true ⟨rfl, rfl⟩
      exact ⟨_, w', q1, _, μ, rfl, .bool false, Good.trans c0.hr hg q2⟩
    | pan v => cases hre'
  · cases hre'

theorem roundEnd_no (l : Nat) (r : Res) (v : Value) (h' : Hp) : roundEnd l r ≠ .panic v h' := by
  intro hh
  unfold roundEnd at hh
  split at hh
  · split at hh
    · split at hh <;> cases hh
    · cases hh
  · cases hh
theorem roundC_no (ih : Option Nat → Code → En → Hp → Res) (l : Nat) (args : List Value) (h : Hp) (v : Value) (h' : Hp) : roundC ih l args h ≠ .panic v h' := by
  intro hh
  unfold roundC at hh
  split at hh
  · split at hh
    · cases hh
    · unfold roundMid at hh
      split at hh
      · split at hh
        · exact roundEnd_no _ _ _ _ hh
        · cases hh
      · cases hh
  · cases hh
theorem roundC_ok {ih : Option Nat → Code → En → Hp → Res} (hih : SC P G B ih) : SR P G B (roundC ih) := by
  refine ⟨?_, roundC_no ih⟩
  intro l args h v h' hc μ args' w b p s c hl hargs
  unfold roundC at hc
  split at hc
  · rename_i pd e ps as bd ho
    obtain ⟨r, r1, r2, r3, r4, r5, r6, r7, r8⟩ := loop_obj (P := P) c.hr hl ho
    split at hc
    · cases hc
    · rename_i e1 he1
      have hAR0 : AR μ ⟨e.sz, e.t, []⟩ { tmps := r.tmps, defers := [] } := ⟨⟨r7.size, r7.get⟩, .nil⟩
      obtain ⟨p1, p2⟩ := putPs_ok ps args args' _ e1 _ hAR0 hargs he1
      have hzip : (r.params.zip args'.toArray).foldl (fun tmps (x : Tmp × Value) => tmps.setIfInBounds x.1 x.2) r.tmps = (ps.zip args').foldl (fun tmps x => tmps.setIfInBounds x.1 x.2) r.tmps := by
        rw [← Array.foldl_toList, Array.toList_zip, r4]
      refine ⟨r.fn, (ps.zip args').foldl (fun tmps x => tmps.setIfInBounds x.1 x.2) r.tmps, as, bd, ?_, fun ro' => ?_⟩
      · have hsz : ¬ args'.toArray.size ≠ r.params.size := by
          have : r.params.size = ps.length := by rw [← r4]; simp
          simp; omega
        simp only [Instr.yield, Sem.run_bind, r2, Result.andThen_ok]
        rw [if_neg hsz]
        simp only [Sem.run_pure, r5, r6]
        congr 2
      · refine roundIn_of_wpIn (F := FW ro') trivial ?_
        unfold roundMid at hc
        split at hc
        · rename_i e2 h2 hrun
          split at hc
          · rename_i pd2 e3 ps3 as3 bd3 ho2
            have hwp := hih (some l) (some b) as e1 h .normal e2 h2 hrun μ { tmps := (ps.zip args').foldl (fun tmps x => tmps.setIfInBounds x.1 x.2) r.tmps, defers := [] } w c ⟨p, s, hl⟩ p2
            refine wpIn_mono hwp fun ex a1 w1 hcp => ?_
            obtain ⟨rfl, μ1, hA1, hG1⟩ := hcp
            have hl1 := hG1.st.le _ _ hl
            obtain ⟨r', s1, s2, s3, s4, s5, s6, s7, s8⟩ := loop_obj (P := P) hG1.hr hl1 ho2
            obtain ⟨t1, t2, t3⟩ := s3
            obtain ⟨q1, q2⟩ := loop_set (P := P) hG1.hr hl1 ho2 { r' with state := .busy } (.loop true none e3 ps3 as3 bd3) rfl ⟨{ r' with state := .busy }, by simp [s8], rfl, s4, s5, s6, s7⟩
            have hbr : (Instr.beginRound b).run P w1 = .ok () { w1 with heap := w1.heap.setIfInBounds b (.loop { r' with state := .busy }) } := by
              simp only [Instr.beginRound, Sem.run_bind, s2, Result.andThen_ok, q1, t1]
              rfl
            refine ⟨_, hbr, ?_⟩
            have hG2 := Good.trans c.hr hG1 q2
            cases hres : ih (some l) bd e2 (h2.set l (.loop true none e3 ps3 as3 bd3)) with
            | fail => rw [hres] at hc; cases hc
            | ok x e4 h4 =>
              rw [hres] at hc
              have hwp2 := hih (some l) (some b) bd e2 _ x e4 h4 hres μ1 a1 _ (c.next hG2) ⟨p, s, hl1⟩ hA1
              refine wpIn_mono hwp2 fun ex a2 w2 hcp2 => ?_
              obtain ⟨rfl, μ2, hA2, hG3⟩ := hcp2
              exact roundEnd_ok (ro' := ro') c (Good.trans c.hr hG2 hG3) (hG3.st.le _ _ hl1) hc a2
          · cases hc
        · cases hc
  · cases hc

/-- a loop run as often as it is told -/
theorem wpIn_loop_fuel {F : Fence} {k : Nat} {c : Code} {Q : Exit → Act → World → Prop} (L : Nat → Act → World → Prop) (h0 : ∀ a w, ¬ L 0 a w)
    (round : ∀ n a w, L (n + 1) a w → c.wpIn F k P (Exit.then (fun a' w' => L n a' w') Q) a w) : ∀ n a w, L n a w → (Code.loop c).wpIn F k P Q a w := by
  intro n a w hL b ks cs hro hb hr
  have key : ∀ n a w, L n a w → ∃ e a' w', Q e a' w' ∧ ArrivesIn (Machine.fenced P F) P (lone (b.atR a (.code c :: .inLoop c :: ks)) cs w) b ks cs e a' w' := by
    intro n
    induction n with
    | zero => intro a w hL; exact absurd hL (h0 a w)
    | succ n ih =>
      intro a w hL
      obtain ⟨e, a₁, w₁, hq, harr⟩ := round n a w hL b (.inLoop c :: ks) cs hro hb hr
      cases e with
      | normal =>
        obtain ⟨e₂, a₂, w₂, hq₂, harr₂⟩ := ih a₁ w₁ hq
        exact ⟨e₂, a₂, w₂, hq₂, .of_steps (StepsIn.trans harr (.one (fenced_calm hb hr rfl) stepR_inLoop)) harr₂⟩
      | exit id => exact ⟨_, a₁, w₁, hq, .pass (x := .inLoop c) rfl (fun _ _ => .inl (by simp)) harr⟩
      | goto l => exact ⟨_, a₁, w₁, hq, .pass (x := .inLoop c) rfl (fun _ _ => .inl (by simp)) harr⟩
      | ret => exact ⟨_, a₁, w₁, hq, .pass (x := .inLoop c) rfl (fun _ _ => .inl (by simp)) harr⟩
      | panic ch => exact ⟨_, a₁, w₁, hq, .pass (x := .inLoop c) rfl (fun _ _ => .inl (by simp)) harr⟩
      | outgrown => exact ⟨_, a₁, w₁, hq, .pass (x := .inLoop c) rfl (fun _ _ => .inl (by simp)) harr⟩
  obtain ⟨e, a', w', hq, harr⟩ := key n a w hL
  exact ⟨e, a', w', hq, .of_steps (.one (fenced_calm hb hr rfl) stepR_loop) harr⟩

theorem enter_none {μ : Mu} {h : Hp} {w : World} {e : En} {a : Act} {ps : Array Tmp} {as bd : Code} (fn : FuncId) (c : Cond G B μ h w) (he : AR μ e a) :
    ∃ w1 μ1, (Instr.enterLoop fn a.tmps ps as bd none).run P w = .ok (w.heap.size + 1, [{ target := .collected w.heap.size, args := #[] }]) w1 ∧ Good B μ h w μ1 ((h.new .defs).new (.loop false none ⟨e.sz, e.t, []⟩ ps.toList as bd)) w1 ∧
      μ1 h.n = some (w.heap.size, 0, 0) ∧ μ1 (h.n + 1) = some (w.heap.size + 1, 0, 0) := by
  have g1 := new_ok c.hr c.hB (.deferred (some [])) .defs 0 rfl (by simp [OR])
  have c1 := c.next g1
  have g2 := new_ok (h := h.new .defs) g1.hr c1.hB (.loop { state := .ready, pending := none, fn, tmps := a.tmps, params := ps, assign := as, body := bd, defers := w.heap.size }) (.loop false none ⟨e.sz, e.t, []⟩ ps.toList as bd) 0 rfl (by
    refine ⟨{ state := .ready, pending := none, fn, tmps := a.tmps, params := ps, assign := as, body := bd, defers := w.heap.size }, Array.getElem?_push_size, ⟨rfl, rfl, rfl⟩, rfl, rfl, rfl, ?_⟩
    have := he.tr
    exact TR.mono (Mu.le_trans g1.st.le (Mu.add_le fun y e => by have := g1.hr.dom _ _ e; exact Nat.lt_irrefl _ this)) ⟨this.size, this.get⟩)
  have hn : (h.new LObj.defs).n = h.n + 1 := rfl
  have hw : ({ w with heap := w.heap.push (.deferred (some [])) } : World).heap.size = w.heap.size + 1 := by simp
  refine ⟨_, _, by simp [Instr.enterLoop, newObj, Sem.run]; rfl, Good.trans c.hr g1 g2, ?_, ?_⟩
  · simp [Mu.add, hn]
  · simp [Mu.add, hn]
theorem enter_some {μ : Mu} {h : Hp} {w : World} {e : En} {a : Act} {ps : Array Tmp} {as bd : Code} (fn : FuncId) (c : Cond G B μ h w) (he : AR μ e a) {l b p s : Nat} (hl : μ l = some (b, p, s)) {busy : Bool} {pend : Option Code} {e0 : En} {ps0 : List Tmp} {as0 bd0 : Code} (ho : h.t.get l = some (.loop busy pend e0 ps0 as0 bd0)) :
    ∃ w1 μ1, (Instr.enterLoop fn a.tmps ps as bd (some b)).run P w = .ok (w.heap.size, []) w1 ∧ Good B μ h w μ1 (h.new (.loop false none ⟨e.sz, e.t, []⟩ ps.toList as bd)) w1 ∧ μ1 h.n = some (w.heap.size, 0, 0) := by
  obtain ⟨r, r1, r2, _⟩ := loop_obj (P := P) c.hr hl ho
  have g2 := new_ok c.hr c.hB (.loop { state := .ready, pending := none, fn, tmps := a.tmps, params := ps, assign := as, body := bd, defers := r.defers }) (.loop false none ⟨e.sz, e.t, []⟩ ps.toList as bd) 0 rfl (by
    refine ⟨{ state := .ready, pending := none, fn, tmps := a.tmps, params := ps, assign := as, body := bd, defers := r.defers }, Array.getElem?_push_size, ⟨rfl, rfl, rfl⟩, rfl, rfl, rfl, ?_⟩
    have := he.tr
    exact TR.mono (Mu.add_le fun y e => by have := c.hr.dom _ _ e; exact Nat.lt_irrefl _ this) ⟨this.size, this.get⟩)
  refine ⟨_, _, ?_, g2, by simp [Mu.add]⟩
  simp only [Instr.enterLoop, Sem.run_bind, r2, Result.andThen_ok, Sem.run_pure]
  rfl

/-- what comes behind the call of a range over a function -/
theorem rangeEnd_ok {ih : Option Nat → Code → En → Hp → Res} (hih : SC P G B ih) {ro ro' : Option Nat} {μ0 : Mu} {h0 : Hp} {w0 : World} {l b p s : Nat} {v : Value} {h3 h' : Hp} {x : Ex} {e1 e' : En} {a1 : Act} {Q : Exit → Act → World → Prop} (c0 : Cond G B μ0 h0 w0)
    (hre : rangeEnd ih ro l e1 (.ok v h3) = .ok x e' h') {μ3 : Mu} {w3 : World} (hg : Good B μ0 h0 w0 μ3 h3 w3) (hl : μ3 l = some (b, p, s)) (hro : RoR μ3 ro ro') (hA : AR μ3 e1 a1) (hQ : ∀ ex a' w', CP B μ0 h0 w0 x e' h' ex a' w' → Q ex a' w') (v' : Value) :
    rangePost (FW ro') 0 P b Q a1 (.returned v') w3 := by
  have hre' : (match h3.t.get l with
    | some (.loop false none _ _ _ _) => Res.ok .normal e1 (h3.set l .other)
    | some (.loop true (some c) _ _ _ _) => ih ro c e1 (h3.set l .other)
    | _ => .fail) = .ok x e' h' := hre
  split at hre'
  · rename_i ex ps as bd ho
    obtain ⟨r, r1, r2, r3, _⟩ := loop_obj (P := P) hg.hr hl ho
    obtain ⟨q1, q2⟩ := loop_set (P := P) hg.hr hl ho { r with state := .exhausted } .other rfl trivial
    obtain ⟨t1, _, t3⟩ := r3
    simp only [Res.ok.injEq] at hre'
    obtain ⟨rfl, rfl, rfl⟩ := hre'
    refine ⟨none, _, ?_, hQ _ _ _ ⟨rfl, μ3, hA, Good.trans c0.hr hg q2⟩⟩
    have hne : (r.state == .busy) = false := by rw [t1]; rfl
    simp only [Instr.endLoop, Sem.run_bind, r2, Result.andThen_ok, hne, Bool.false_eq_true, if_false, q1, Sem.run_pure]
    exact congrArg (fun z => Result.ok z _) t3
  · rename_i ec ex ps as bd ho
    obtain ⟨r, r1, r2, r3, _⟩ := loop_obj (P := P) hg.hr hl ho
    obtain ⟨q1, q2⟩ := loop_set (P := P) hg.hr hl ho { r with state := .exhausted } .other rfl trivial
    obtain ⟨t1, t3⟩ := r3
    have hg2 := Good.trans c0.hr hg q2
    refine ⟨some ec, { w3 with heap := w3.heap.setIfInBounds b (.loop { r with state := .exhausted }) }, ?_, ?_⟩
    · have hne : (r.state == .busy) = false := by rw [t1]; rfl
      simp only [Instr.endLoop, Sem.run_bind, r2, Result.andThen_ok, hne, Bool.false_eq_true, if_false, q1, Sem.run_pure]
      exact congrArg (fun z => Result.ok z _) t3
    · have := hih ro ro' ec e1 _ x e' h' hre' μ3 a1 _ (c0.next hg2) hro hA
      exact wpIn_mono this fun ex' a2 w2 hcp => hQ _ _ _ (CP.from c0 hg2 hcp)
  · cases hre'

theorem rangeC_ok (hng : ∀ (f : FuncId) (fn : Func), P.funcs[f]? = some fn → fn.body.isSome = true → (fn.name == "runtime.NumGoroutine") = false) {ih : Option Nat → Code → En → Hp → Res} (hih : SC P G B ih) {ro ro' : Option Nat} {g : Operand} {ps : Array Tmp} {as bd : Code} {e e' : En} {h h' : Hp} {x : Ex} {μ : Mu} {a : Act} {w : World}
    (hc : rangeC P G ih ro g ps.toList as bd e h = .ok x e' h') (c : Cond G B μ h w) (hro : RoR μ ro ro') (he : AR μ e a) : (Code.rangeFunc g ps as bd).wpIn (FW ro') 0 P (CP B μ h w x e' h') a w := by
  have hsf := callC_ok hng hih
  unfold rangeC at hc
  split at hc
  · rename_i f first captured hev
    have hgv := ev_ok c.gr he.tr hev
    generalize hge : a.eval g = g' at hgv
    cases hgv with
    | func _ f1 f2 =>
      rename_i first' captured'
      refine wpIn_rangeFunc fun fn _ => ?_
      have fin : ∀ (l b : Nat) (mark : List Deferred) (w1 : World) (μ1 : Mu) (h1 : Hp) (e1 : En), (Instr.enterLoop fn a.tmps ps as bd ro').run P w = .ok (b, mark) w1 → Good B μ h w μ1 h1 w1 → μ1 l = some (b, 0, 0) → AR μ1 e1 { a with defers := mark ++ a.defers } →
          rangeEnd ih ro l e1 (callC P G ih f (first.toList ++ (.func (.yield l) #[] #[] :: captured.toList)) h1) = .ok x e' h' →
          ∃ (l : Nat) (mark : List Deferred) (w₁ : World) (d : Deferred) (w₁' : World) (f : FuncId) (args : Array Value) (w₂ : World),
            (Instr.enterLoop fn a.tmps ps as bd (FW ro').round).run P w = .ok (l, mark) w₁ ∧ (resolve a.eval (rangeCall g l) 0).run P w₁ = .ok d w₁' ∧ (∀ f', Target.leads P w₁' d.target d.args = some f' → (FW ro').fn f') ∧
            (invoke d.target d.args).run P w₁' = .ok (.enter f args) w₂ ∧ ((FW ro').depth.isSome = true → 1 ≤ 0) ∧ CallsIn (FW ro') (0 - 1) P f args w₂ (rangePost (FW ro') 0 P l (CP B μ h w x e' h') { a with defers := mark ++ a.defers }) := by
        intro l b mark w1 μ1 h1 e1 hen hG hl hA hre
        cases hcall : callC P G ih f (first.toList ++ (.func (.yield l) #[] #[] :: captured.toList)) h1 with
        | fail => rw [hcall] at hre; cases hre
        | panic v h3 => rw [hcall] at hre; cases hre
        | ok v h3 =>
          rw [hcall] at hre
          have hargs : VRL μ1 (first.toList ++ (.func (.yield l) #[] #[] :: captured.toList)) (first'.toList ++ (.func (.yield b) #[] #[] :: captured'.toList)) := (f1.mono hG.st.le).append (.cons (.yield hl) (f2.mono hG.st.le))
          rcases hsf.ok f _ h1 v h3 hcall μ1 _ w1 (c.next hG) hargs with ⟨v', q1, q2, q3, q4⟩ | ⟨q1, q2⟩
          · simp [scalar] at q4
          · refine ⟨b, mark, w1, { target := .fn (.func f) captured', args := first' ++ #[.func (.yield b) #[] #[]] }, w1, f, (first'.toList ++ (.func (.yield b) #[] #[] :: captured'.toList)).toArray, w1, hen, ?_, fun _ _ => trivial, ?_, fun hh => by simp [Fence.wide] at hh, ?_⟩
            · have hm : (#[Operand.const (.func (.yield b) #[] #[])] : Array Operand).map a.eval = #[.func (.yield b) #[] #[]] := by simp [Act.eval]
              show (Deferred.ofValue (a.eval g) ((#[Operand.const (.func (.yield b) #[] #[])] : Array Operand).map a.eval)).run P w1 = _
              rw [hm, hge]
              rfl
            · show (callFunc f ((first' ++ #[.func (.yield b) #[] #[]]) ++ captured')).run P w1 = _
              have : (first' ++ #[Value.func (.yield b) #[] #[]]) ++ captured' = (first'.toList ++ (.func (.yield b) #[] #[] :: captured'.toList)).toArray := by apply Array.ext'; simp
              rw [this]
              exact q1
            · obtain ⟨z1, z2⟩ := q2 ro'
              refine ⟨z1, fun cs hroom => ?_⟩
              obtain ⟨en, w', fr, ⟨v', μ', rfl, r2, r3⟩, rest⟩ := z2 cs hroom
              exact ⟨.returned v', w', fr, rangeEnd_ok hih c hre (Good.trans c.hr hG r3) (r3.st.le _ _ hl) (hro.mono (Mu.le_trans hG.st.le r3.st.le)) (hA.mono r3.st.le) (fun _ _ _ hcp => hcp) v', rest⟩
      cases ro with
      | none =>
        cases ro' with
        | some b => exact hro.elim
        | none =>
          obtain ⟨w1, μ1, g1, g2, g3, g4⟩ := enter_none (P := P) (ps := ps) (as := as) (bd := bd) fn c he
          exact fin (h.n + 1) (w.heap.size + 1) _ w1 μ1 _ ⟨e.sz, e.t, .mark h.n :: e.mks⟩ g1 g2 g4 ⟨⟨he.tr.size, (he.mono g2.st.le).tr.get⟩, .cons (.mark g3) (he.mono g2.st.le).mr⟩ hc
      | some l0 =>
        cases ro' with
        | none => exact hro.elim
        | some b0 =>
          obtain ⟨p0, s0, hl0⟩ := hro
          simp only at hc
          split at hc
          · rename_i ho
            obtain ⟨w1, μ1, g1, g2, g3⟩ := enter_some (P := P) (ps := ps) (as := as) (bd := bd) fn c he hl0 ho
            exact fin h.n w.heap.size [] w1 μ1 _ e g1 g2 g3 (he.mono g2.st.le) hc
          · cases hc
  · cases hc

/-- a region that draws its order -/
def SD (P : Program) (G B : Nat) (call : FuncId → List Value → Hp → CRes) (round : Nat → List Value → Hp → CRes) : Prop :=
  ∀ (ops : Array Oper) (ro' : Option Nat) (e e' : En) (h h' : Hp) (x : Ex) (μ : Mu) (a : Act) (w : World), drawOk ops = true → runDrawn P G call round ops ops.toList 0 [] e h = .ok x e' h' → Cond G B μ h w → AR μ e a → ∀ Q : Exit → Act → World → Prop, (∀ ex a' w', CP B μ h w x e' h' ex a' w' → Q ex a' w') →
    wpAnyIn (FW ro') 0 P .any ops Q ops.size (Array.replicate ops.size false) a w

theorem exec_succ (n : Nat) : exec P G (n + 1) = stepC P G (exec P G n) := rfl
theorem exec_zero (ro : Option Nat) (c : Code) (e : En) (h : Hp) : exec P G 0 ro c e h = .fail := rfl

theorem exec_ok (hng : ∀ (f : FuncId) (fn : Func), P.funcs[f]? = some fn → fn.body.isSome = true → (fn.name == "runtime.NumGoroutine") = false) (hmix : P.follows .mixedOrders = true)
    (hsd : ∀ call round, SF P G B call → SR P G B round → SD P G B call round) : ∀ n, SC P G B (exec P G n) := by
  intro n
  induction n using Nat.strongRecOn with
  | _ n IH =>
    cases n with
    | zero => intro ro ro' c e h x e' h' hrun; rw [exec_zero] at hrun; cases hrun
    | succ n =>
      have ih := IH n (Nat.lt_succ_self n)
      intro ro ro' c e h x e' h' hrun μ a w hc hro he
      have hsf := callC_ok hng ih
      have hsr := roundC_ok ih
      cases c with
      | skip =>
        have hr : Res.ok Ex.normal e h = .ok x e' h' := hrun
        simp only [Res.ok.injEq] at hr
        obtain ⟨rfl, rfl, rfl⟩ := hr
        exact wpIn_skip ⟨rfl, μ, he, .refl hc.hr⟩
      | label l =>
        have hr : Res.ok Ex.normal e h = .ok x e' h' := hrun
        simp only [Res.ok.injEq] at hr
        obtain ⟨rfl, rfl, rfl⟩ := hr
        exact wpIn_label ⟨rfl, μ, he, .refl hc.hr⟩
      | exit id =>
        have hr : Res.ok (Ex.exit id) e h = .ok x e' h' := hrun
        simp only [Res.ok.injEq] at hr
        obtain ⟨rfl, rfl, rfl⟩ := hr
        exact wpIn_exit ⟨rfl, μ, he, .refl hc.hr⟩
      | ret =>
        have hr : Res.ok Ex.ret e h = .ok x e' h' := hrun
        simp only [Res.ok.injEq] at hr
        obtain ⟨rfl, rfl, rfl⟩ := hr
        exact wpIn_ret ⟨rfl, μ, he, .refl hc.hr⟩
      | seq c1 c2 =>
        have hr : thenC (exec P G n) ro c2 (exec P G n ro c1 e h) = .ok x e' h' := hrun
        cases h1 : exec P G n ro c1 e h with
        | fail => rw [h1] at hr; cases hr
        | ok x1 e1 hh1 =>
          rw [h1] at hr
          refine wpIn_seq (wpIn_mono (ih ro ro' c1 e h x1 e1 hh1 h1 μ a w hc hro he) fun ex a1 w1 hcp => ?_)
          obtain ⟨rfl, μ1, hA, hG⟩ := hcp
          cases x1 with
          | normal =>
            have hr2 : exec P G n ro c2 e1 hh1 = .ok x e' h' := hr
            exact wpIn_mono (ih ro ro' c2 e1 hh1 x e' h' hr2 μ1 a1 w1 (hc.next hG) (hro.mono hG.st.le) hA) fun ex a2 w2 hcp => CP.from hc hG hcp
          | exit id =>
            have hr2 : Res.ok (Ex.exit id) e1 hh1 = .ok x e' h' := hr
            simp only [Res.ok.injEq] at hr2
            obtain ⟨rfl, rfl, rfl⟩ := hr2
            exact ⟨rfl, μ1, hA, hG⟩
          | ret =>
            have hr2 : Res.ok Ex.ret e1 hh1 = .ok x e' h' := hr
            simp only [Res.ok.injEq] at hr2
            obtain ⟨rfl, rfl, rfl⟩ := hr2
            exact ⟨rfl, μ1, hA, hG⟩
          | pan v =>
            have hr2 : Res.ok (Ex.pan v) e1 hh1 = .ok x e' h' := hr
            simp only [Res.ok.injEq] at hr2
            obtain ⟨rfl, rfl, rfl⟩ := hr2
            exact ⟨rfl, μ1, hA, hG⟩
      | cond y c1 c2 =>
        have hr : condC (exec P G n) ro c1 c2 e h (ev G e y) = .ok x e' h' := hrun
        unfold condC at hr
        split at hr
        · rename_i hy
          have hv := ev_ok hc.gr he.tr hy
          generalize hye : a.eval y = y' at hv
          cases hv
          exact wpIn_cond_true hye (ih ro ro' c1 e h x e' h' hr μ a w hc hro he)
        · rename_i hy
          have hv := ev_ok hc.gr he.tr hy
          generalize hye : a.eval y = y' at hv
          cases hv
          exact wpIn_cond_false hye (ih ro ro' c2 e h x e' h' hr μ a w hc hro he)
        · cases hr
      | block id c1 =>
        have hr : blockC id (exec P G n ro c1 e h) = .ok x e' h' := hrun
        cases h1 : exec P G n ro c1 e h with
        | fail => rw [h1] at hr; cases hr
        | ok x1 e1 hh1 =>
          rw [h1] at hr
          refine wpIn_block (wpIn_mono (ih ro ro' c1 e h x1 e1 hh1 h1 μ a w hc hro he) fun ex a1 w1 hcp => ?_)
          obtain ⟨rfl, μ1, hA, hG⟩ := hcp
          cases x1 with
          | normal =>
            have hr2 : Res.ok Ex.normal e1 hh1 = .ok x e' h' := hr
            simp only [Res.ok.injEq] at hr2
            obtain ⟨rfl, rfl, rfl⟩ := hr2
            exact ⟨rfl, μ1, hA, hG⟩
          | ret =>
            have hr2 : Res.ok Ex.ret e1 hh1 = .ok x e' h' := hr
            simp only [Res.ok.injEq] at hr2
            obtain ⟨rfl, rfl, rfl⟩ := hr2
            exact ⟨rfl, μ1, hA, hG⟩
          | pan v =>
            have hr2 : Res.ok (Ex.pan v) e1 hh1 = .ok x e' h' := hr
            simp only [Res.ok.injEq] at hr2
            obtain ⟨rfl, rfl, rfl⟩ := hr2
            exact ⟨rfl, μ1, hA, hG⟩
          | exit i =>
            have hr2 : cond (Nat.beq i id) (Res.ok .normal e1 hh1) (.ok (.exit i) e1 hh1) = .ok x e' h' := hr
            rw [beqN] at hr2
            show if i = id then CP B μ h w x e' h' .normal a1 w1 else CP B μ h w x e' h' (.exit i) a1 w1
            by_cases hid : i = id
            · simp only [hid, decide_true, cond_true, Res.ok.injEq] at hr2
              obtain ⟨rfl, rfl, rfl⟩ := hr2
              rw [if_pos hid]
              exact ⟨rfl, μ1, hA, hG⟩
            · simp only [hid, decide_false, cond_false, Res.ok.injEq] at hr2
              obtain ⟨rfl, rfl, rfl⟩ := hr2
              rw [if_neg hid]
              exact ⟨rfl, μ1, hA, hG⟩
      | loop c1 =>
        refine wpIn_loop_fuel (fun k a1 w1 => k ≤ n + 1 ∧ ∃ e1 h1 μ1, exec P G k ro (.loop c1) e1 h1 = .ok x e' h' ∧ AR μ1 e1 a1 ∧ Good B μ h w μ1 h1 w1) ?_ ?_ (n + 1) a w ⟨Nat.le_refl _, e, h, μ, hrun, he, .refl hc.hr⟩
        · rintro a1 w1 ⟨_, e1, h1, μ1, hr, _⟩
          rw [exec_zero] at hr; cases hr
        · rintro k a1 w1 ⟨hk, e1, h1, μ1, hr, hA, hG⟩
          have ihk := IH k (by omega)
          have hr' : thenC (exec P G k) ro (.loop c1) (exec P G k ro c1 e1 h1) = .ok x e' h' := hr
          cases h2 : exec P G k ro c1 e1 h1 with
          | fail => rw [h2] at hr'; cases hr'
          | ok x1 e2 hh2 =>
            rw [h2] at hr'
            refine wpIn_mono (ihk ro ro' c1 e1 h1 x1 e2 hh2 h2 μ1 a1 w1 (hc.next hG) (hro.mono hG.st.le) hA) fun ex a2 w2 hcp => ?_
            obtain ⟨rfl, μ2, hA2, hG2⟩ := hcp
            have hG3 := Good.trans hc.hr hG hG2
            cases x1 with
            | normal => exact ⟨by omega, e2, hh2, μ2, hr', hA2, hG3⟩
            | exit id =>
              have hr2 : Res.ok (Ex.exit id) e2 hh2 = .ok x e' h' := hr'
              simp only [Res.ok.injEq] at hr2
              obtain ⟨rfl, rfl, rfl⟩ := hr2
              exact ⟨rfl, μ2, hA2, hG3⟩
            | ret =>
              have hr2 : Res.ok Ex.ret e2 hh2 = .ok x e' h' := hr'
              simp only [Res.ok.injEq] at hr2
              obtain ⟨rfl, rfl, rfl⟩ := hr2
              exact ⟨rfl, μ2, hA2, hG3⟩
            | pan v =>
              have hr2 : Res.ok (Ex.pan v) e2 hh2 = .ok x e' h' := hr'
              simp only [Res.ok.injEq] at hr2
              obtain ⟨rfl, rfl, rfl⟩ := hr2
              exact ⟨rfl, μ2, hA2, hG3⟩
      | region id ops draw =>
        cases draw with
        | false =>
          have hr : runOps P G ro (callC P G (exec P G n)) (roundC (exec P G n)) ops ops.toList e h = .ok x e' h' := hrun
          refine wpIn_region ?_
          have := runOps_ok hsf hsr ops ro ro' (by intro hn; subst hn; cases ro' with | none => rfl | some b => exact hro.elim) ops.toList 0 (by simp) (by omega) e e' h h' x μ a w hr hc he (CP B μ h w x e' h') fun _ _ _ hcp => hcp
          rw [List.range_eq_range']
          simpa using this
        | true =>
          have hr : cond (drawOk ops) (runDrawn P G (callC P G (exec P G n)) (roundC (exec P G n)) ops ops.toList 0 [] e h) .fail = .ok x e' h' := hrun
          cases hd : drawOk ops with
          | false => rw [hd] at hr; cases hr
          | true =>
            rw [hd] at hr
            simp only [cond_true] at hr
            refine wpIn_region_any hmix ?_
            have hg : Good B μ h w μ h { w with drawn := w.drawn + 1 } := Good.drew hc.hr rfl rfl rfl rfl
            exact hsd _ _ hsf hsr ops ro' e e' h h' x μ a { w with drawn := w.drawn + 1 } hd hr (hc.next hg) he _ fun _ _ _ hcp => CP.from hc hg hcp
      | rangeFunc g ps as bd =>
        have hr : rangeC P G (exec P G n) ro g ps.toList as bd e h = .ok x e' h' := hrun
        exact rangeC_ok hng ih hr hc hro he
      | _ => cases hrun
end
end Cx
end Go.Proofs.YtfbacidpjpghiaaGreatDoor
