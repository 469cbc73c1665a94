/- Closed runs: regions in their order, calls, rounds, codes. -/
import Derived.Test.YtcibkkpljcablaaGreatDoorCo
import Derived.RangeFuncLeaves
import Derived.OrdersIn
namespace Go.Proofs.YtcibkkpljcablaaGreatDoor
namespace Cx
open Go

abbrev FW (ro : Option Nat) : Fence := { Fence.wide with round := ro }
inductive MR (μ : Mu) : List Nat → List Deferred → Prop
  | nil : MR μ [] []
  | cons {k b p s : Nat} {ks : List Nat} {ds : List Deferred} (h : μ k = some (b, p, s)) (t : MR μ ks ds) : MR μ (k :: ks) ({ target := .collected b, args := #[] } :: ds)
theorem MR.mono {μ μ' : Mu} (hm : Mu.le μ μ') {ks : List Nat} {ds : List Deferred} (h : MR μ ks ds) : MR μ' ks ds := by
  induction h with
  | nil => exact .nil
  | cons h _ ih => exact .cons (hm _ _ h) ih
structure AR (μ : Mu) (e : En) (a : Act) : Prop where
  tr : TR μ e a.tmps
  mr : MR μ e.mks a.defers
theorem AR.mono {μ μ' : Mu} (hm : Mu.le μ μ') {e : En} {a : Act} (h : AR μ e a) : AR μ' e a := ⟨h.tr.mono hm, h.mr.mono hm⟩
def RoR (μ : Mu) : Option Nat → Option Nat → Prop
  | none, none => True
  | some l, some b => ∃ p s, μ l = some (b, p, s)
  | _, _ => False
theorem RoR.mono {μ μ' : Mu} (hm : Mu.le μ μ') {r r' : Option Nat} (h : RoR μ r r') : RoR μ' r r' := by
  cases r <;> cases r' <;> first | exact h | (obtain ⟨p, s, h⟩ := h; exact ⟨p, s, hm _ _ h⟩)
def Ex.to : Ex → Exit
  | .normal => .normal
  | .exit id => .exit id
  | .ret => .ret
/-- where both stand -/
structure Cond (G B : Nat) (μ : Mu) (h : Hp) (w : World) : Prop where
  hr : HR B μ h.n h.t.get w
  gr : GR G μ
  hB : B ≤ w.heap.size
def CP (B : Nat) (μ : Mu) (h : Hp) (w : World) (x : Ex) (e' : En) (h' : Hp) : Exit → Act → World → Prop := fun ex a' w' => ex = x.to ∧ ∃ μ', AR μ' e' a' ∧ Good B μ h w μ' h' w'
def VP (B : Nat) (μ : Mu) (h : Hp) (w : World) (v : Value) (h' : Hp) : Ending → World → Prop := fun en w' => ∃ v' μ', en = .returned v' ∧ VR μ' v v' ∧ Good B μ h w μ' h' w'
theorem Cond.next {G B : Nat} {μ μ' : Mu} {h h' : Hp} {w w' : World} (c : Cond G B μ h w) (g : Good B μ h w μ' h' w') : Cond G B μ' h' w' := ⟨g.hr, c.gr.mono g.st.le, Nat.le_trans c.hB g.st.size⟩
theorem CP.from {G B : Nat} {μ μ1 : Mu} {h h1 h' : Hp} {w w1 : World} {x : Ex} {e' : En} (c : Cond G B μ h w) (g : Good B μ h w μ1 h1 w1) {ex : Exit} {a' : Act} {w' : World} (hp : CP B μ1 h1 w1 x e' h' ex a' w') : CP B μ h w x e' h' ex a' w' := by
  obtain ⟨h1, μ', h2, h3⟩ := hp
  exact ⟨h1, μ', h2, Good.trans c.hr g h3⟩
theorem VP.from {G B : Nat} {μ μ1 : Mu} {h h1 h' : Hp} {w w1 : World} {v : Value} (c : Cond G B μ h w) (g : Good B μ h w μ1 h1 w1) {en : Ending} {w' : World} (hp : VP B μ1 h1 w1 v h' en w') : VP B μ h w v h' en w' := by
  obtain ⟨v', μ', h1, h2, h3⟩ := hp
  exact ⟨v', μ', h1, h2, Good.trans c.hr g h3⟩

section
variable {P : Program} {G B : Nat}

/-- codes are run as the executor runs them -/
def SC (P : Program) (G B : Nat) (ih : Option Nat → Code → En → Hp → Res) : Prop :=
  ∀ ro ro' c e h x e' h', ih ro c e h = .ok x e' h' → ∀ μ a w, Cond G B μ h w → RoR μ ro ro' → AR μ e a → c.wpIn (FW ro') 0 P (CP B μ h w x e' h') a w
/-- so are calls -/
def SF (P : Program) (G B : Nat) (call : FuncId → List Value → Hp → CRes) : Prop :=
  ∀ f args h v h', call f args h = .ok v h' → ∀ μ args' w, Cond G B μ h w → VRL μ args args' →
    (∃ v', (callFunc f args'.toArray).run P w = .ok (.value v') w ∧ VR μ v v' ∧ h' = h ∧ args.all scalar = true) ∨ ((callFunc f args'.toArray).run P w = .ok (.enter f args'.toArray) w ∧ ∀ ro', CallsIn (FW ro') 0 P f args'.toArray w (VP B μ h w v h'))
/-- and rounds -/
def SR (P : Program) (G B : Nat) (round : Nat → List Value → Hp → CRes) : Prop :=
  ∀ l args h v h', round l args h = .ok v h' → ∀ μ args' w b p s, Cond G B μ h w → μ l = some (b, p, s) → VRL μ args args' →
    ∃ f tmps as bd, (Instr.yield b args'.toArray).run P w = .ok (.round b f tmps as bd) w ∧ ∀ ro', RoundIn (FW ro') 0 P b f tmps as bd w (VP B μ h w v h')

theorem wanted_ok {μ : Mu} {e : En} {a : Act} {all : Array Oper} {o : Oper} {b : Bool} (he : TR μ e a.tmps) (hw : wantedC all e o.guard = some b) : Region.wanted o (yielded all a.tmps) = b := by
  unfold wantedC at hw
  unfold Region.wanted
  split at hw
  · rename_i hg; rw [hg]; simpa using hw
  · rename_i j want hg
    rw [hg]
    simp only
    split at hw
    · rename_i oj hoj
      split at hw
      · rename_i d hd
        split at hw
        · rename_i t ht
          obtain ⟨v', g1, g2⟩ := he.get d _ ht
          cases g2
          simp at hw
          subst hw
          simp [yielded, hoj, hd, g1]
        · rename_i t ht
          obtain ⟨v', g1, g2⟩ := he.get d _ ht
          cases g2
          simp at hw
          subst hw
          simp [yielded, hoj, hd, g1]
        · cases hw
      · cases hw
    · cases hw
theorem putD_ok {μ : Mu} {e e' : En} {a : Act} {d : Option Tmp} {v v' : Value} (he : AR μ e a) (hv : VR μ v v') (hp : putD e d v = some e') : AR μ e' (a.put d v') := by
  unfold putD at hp
  split at hp
  · rename_i d
    cases hb : Nat.blt d e.sz with
    | false => rw [hb] at hp; cases hp
    | true =>
      rw [hb] at hp
      have hlt := blt_iff.1 hb
      simp at hp; subst hp
      refine ⟨⟨by simpa [Act.put] using he.tr.size, fun t u hu => ?_⟩, he.mr⟩
      rw [T.get_put] at hu
      by_cases ht : t = d
      · subst ht
        simp at hu; subst hu
        exact ⟨v', by simp [Act.put, he.tr.size, hlt], hv⟩
      · simp [ht] at hu
        obtain ⟨u', g1, g2⟩ := he.tr.get t u hu
        exact ⟨u', by simp [Act.put, Array.getElem?_setIfInBounds_ne (Ne.symm ht), g1], g2⟩
  · simp at hp; subst hp; exact he

/-- one operation that is done -/
theorem op_step {call : FuncId → List Value → Hp → CRes} {round : Nat → List Value → Hp → CRes} (hf : SF P G B call) (hrd : SR P G B round) {o : Oper} {e : En} {h h1 : Hp} {v : Value} {μ : Mu} {a : Act} {w : World} {ro' : Option Nat} {next : Act → World → Prop} {Q : Exit → Act → World → Prop}
    (c : Cond G B μ h w) (he : AR μ e a) (ho : opDone call round h (opC P G e h o) = .ok v h1)
    (hnext : ∀ μ1 v' w1, VR μ1 v v' → Good B μ h w μ1 h1 w1 → next (a.put o.dst v') w1) : o.wpIn (FW ro') 0 P a w next Q := by
  refine ⟨fun _ _ => trivial, ?_⟩
  have hdef : ∀ cc, o.op ≠ .defer cc := fun cc hc => by
    have : opC P G e h o = .fail := by unfold opC; rw [hc]; rfl
    rw [this] at ho; cases ho
  rw [Oper.semAt_eq _ _ _ hdef]
  have hok := opC_ok (P := P) c.hr c.hB c.gr he.tr o
  cases hop : opC P G e h o with
  | fail => rw [hop] at ho; cases ho
  | value u h2 =>
    rw [hop] at ho hok
    have ho' : CRes.ok u h2 = .ok v h1 := ho
    simp only [CRes.ok.injEq] at ho'
    obtain ⟨rfl, rfl⟩ := ho'
    obtain ⟨nx, v', w', μ', g1, g2, g3, g4⟩ := hok
    rw [g1]
    rcases g2 with rfl | ⟨rfl, rfl⟩
    · exact hnext μ' v' w' g3 g4
    · exact hnext μ' undef w' g3 g4
  | call f args =>
    rw [hop] at ho hok
    obtain ⟨args', g1, g2⟩ := hok
    rw [g1]
    rcases hf f args h v h1 ho μ args' w c g2 with ⟨v', q1, q2, rfl, _⟩ | ⟨q1, q2⟩
    · rw [q1]; exact hnext μ v' w q2 (.refl c.hr)
    · rw [q1]
      refine ⟨fun hh => by simp [Fence.wide] at hh, ?_⟩
      obtain ⟨z1, z2⟩ := q2 ro'
      refine ⟨z1, fun cs hroom => ?_⟩
      obtain ⟨en, w', fr, ⟨v', μ', rfl, r2, r3⟩, rest⟩ := z2 cs hroom
      exact ⟨.returned v', w', fr, hnext μ' v' w' r2 r3, rest⟩
  | round l args =>
    rw [hop] at ho hok
    obtain ⟨b, p, s, args', g0, g1, g2⟩ := hok
    rw [g1]
    obtain ⟨f, tmps, as, bd, q1, q2⟩ := hrd l args h v h1 ho μ args' w b p s c g0 g2
    rw [q1]
    refine ⟨fun hh => by simp [Fence.wide] at hh, ?_⟩
    obtain ⟨z1, z2⟩ := q2 ro'
    refine ⟨z1, fun c' cs hroom => ?_⟩
    obtain ⟨en, w', ⟨v', μ', rfl, r2, r3⟩, rest⟩ := z2 c' cs hroom
    exact ⟨.returned v', w', hnext μ' v' w' r2 r3, rest⟩

theorem runOps_cons (call : FuncId → List Value → Hp → CRes) (round : Nat → List Value → Hp → CRes) (all : Array Oper) (o : Oper) (l : List Oper) (e : En) (h : Hp) : runOps P G call round all (o :: l) e h = (match oneOp P G call round all o e h with
    | .ok v h => (match putD e o.dst v with | some e => runOps P G call round all l e h | none => .fail)
    | .fail => .fail) := rfl
theorem runOps_ok {call : FuncId → List Value → Hp → CRes} {round : Nat → List Value → Hp → CRes} (hf : SF P G B call) (hrd : SR P G B round) (all : Array Oper) (ro' : Option Nat) : ∀ (l : List Oper) (i : Nat), all.toList = all.toList.take i ++ l → i ≤ all.size → ∀ (e e' : En) (h h' : Hp) (x : Ex) (μ : Mu) (a : Act) (w : World), runOps P G call round all l e h = .ok x e' h' → Cond G B μ h w → AR μ e a → ∀ (Q : Exit → Act → World → Prop), (∀ ex a' w', CP B μ h w x e' h' ex a' w' → Q ex a' w') →
    wpOpsIn (FW ro') 0 P all Q (List.range' i l.length) a w
  | [], i, _, _, e, e', h, h', x, μ, a, w, hrun, c, he, Q, hQ => by
    have hr' : Res.ok Ex.normal e h = .ok x e' h' := hrun
    simp only [Res.ok.injEq] at hr'
    obtain ⟨rfl, rfl, rfl⟩ := hr'
    exact hQ _ _ _ ⟨rfl, μ, he, .refl c.hr⟩
  | o :: l, i, hl, hi, e, e', h, h', x, μ, a, w, hrun, c, he, Q, hQ => by
    have hlen := congrArg List.length hl
    simp at hlen
    have hoi : all[i]? = some o := by
      have := congrArg (fun q => q[i]?) hl
      simp [Nat.min_eq_left hi] at this
      exact this
    have hl' : all.toList = all.toList.take (i + 1) ++ l := by
      rw [List.take_add_one]
      have : all.toList[i]? = some o := by simpa using hoi
      rw [this]
      simpa using hl
    rw [runOps_cons] at hrun
    cases hone : oneOp P G call round all o e h with
    | fail => rw [hone] at hrun; cases hrun
    | ok v h1 =>
      rw [hone] at hrun
      simp only at hrun
      cases hpd : putD e o.dst v with
      | none => rw [hpd] at hrun; cases hrun
      | some e1 =>
        rw [hpd] at hrun
        simp only at hrun
        rw [List.length_cons, List.range'_succ]
        have hgo : ∀ μ1 v' w1, VR μ1 v v' → Good B μ h w μ1 h1 w1 → wpOpsIn (FW ro') 0 P all Q (List.range' (i + 1) l.length) (a.put o.dst v') w1 := fun μ1 v' w1 hv g =>
          runOps_ok hf hrd all ro' l (i + 1) hl' (by omega) e1 e' h1 h' x μ1 (a.put o.dst v') w1 hrun (c.next g) (putD_ok (he.mono g.st.le) hv hpd) Q fun ex a2 w2 hcp => hQ _ _ _ (CP.from c g hcp)
        unfold oneOp at hone
        simp only [wpOpsIn, hoi]
        split at hone
        · rename_i hw
          rw [wanted_ok he.tr hw]
          simp only [if_true]
          exact op_step hf hrd c he hone hgo
        · rename_i hw
          rw [wanted_ok he.tr hw]
          simp only [Bool.false_eq_true, if_false]
          simp only [CRes.ok.injEq] at hone
          obtain ⟨rfl, rfl⟩ := hone
          exact ⟨fun _ _ => trivial, hgo μ undef w (undef_refl μ) (.refl c.hr)⟩
        · cases hone
end
end Cx
end Go.Proofs.YtcibkkpljcablaaGreatDoor
