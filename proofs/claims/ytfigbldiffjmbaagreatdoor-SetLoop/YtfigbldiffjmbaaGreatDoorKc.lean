/- Closed runs: a run cut in two: the second part begins with what is told of the first one's end. -/
import Derived.Test.YtfigbldiffjmbaaGreatDoorCxk
namespace Go.Proofs.YtfigbldiffjmbaaGreatDoor
set_option linter.unusedVariables false
namespace Cx
open Go

/-- a table told by a list -/
noncomputable def puts {α : Type} (L : List (Nat × α)) : T α := List.rec .nil (fun p _ ih => T.put p.2 ih p.1) L
theorem puts_cons {α : Type} (p : Nat × α) (L : List (Nat × α)) : puts (p :: L) = T.put p.2 (puts L) p.1 := rfl
theorem puts_get {α : Type} : ∀ (L : List (Nat × α)) (k : Nat) (x : α), (puts L).get k = some x → (k, x) ∈ L
  | [], k, x, h => by
    have h' : (T.nil : T α).get k = some x := h
    rw [T.get_nil] at h'; cases h'
  | p :: L, k, x, h => by
    rw [puts_cons, T.get_put] at h
    split at h
    · rename_i e
      simp only [Option.some.injEq] at h
      subst h; subst e
      exact List.mem_cons_self ..
    · exact List.mem_cons_of_mem _ (puts_get L k x h)
noncomputable def subL (t : T LObj) (L : List (Nat × LObj)) : Bool := List.rec true (fun p _ ih => and (sameO (some p.2) (t.get p.1)) ih) L
noncomputable def sameV (v : Value) : Option Value → Bool
  | some u => eqV v u
  | none => false
noncomputable def subE (t : T Value) (E : List (Nat × Value)) : Bool := List.rec true (fun p _ ih => and (sameV p.2 (t.get p.1)) ih) E
theorem subL_spec (t : T LObj) : ∀ (L : List (Nat × LObj)), subL t L = true → ∀ p ∈ L, t.get p.1 = some p.2
  | [], _, p, hp => by cases hp
  | q :: L, h, p, hp => by
    have h' : and (sameO (some q.2) (t.get q.1)) (subL t L) = true := h
    rw [Bool.and_eq_true] at h'
    rcases List.mem_cons.1 hp with rfl | hp
    · exact (sameO_eq h'.1).symm
    · exact subL_spec t L h'.2 p hp
theorem subE_spec (t : T Value) : ∀ (L : List (Nat × Value)), subE t L = true → ∀ p ∈ L, t.get p.1 = some p.2
  | [], _, p, hp => by cases hp
  | q :: L, h, p, hp => by
    have h' : and (sameV q.2 (t.get q.1)) (subE t L) = true := h
    rw [Bool.and_eq_true] at h'
    rcases List.mem_cons.1 hp with rfl | hp
    · have h1 := h'.1
      unfold sameV at h1
      split at h1
      · rename_i u hu
        rw [hu, eqV_eq h1]
      · cases h1
    · exact subE_spec t L h'.2 p hp
def noM : List DI → Bool
  | [] => true
  | _ => false
/-- a run ends so, as far as it is told -/
noncomputable def okCut (sz : Nat) (E : List (Nat × Value)) (N : Nat) (L : List (Nat × LObj)) : Res → Bool
  | .ok .normal e h => and (and (noM e.mks) (Nat.beq e.sz sz)) (and (Nat.beq h.n N) (and (subE e.t E) (subL h.t L)))
  | _ => false
theorem okCut_spec {sz N : Nat} {E : List (Nat × Value)} {L : List (Nat × LObj)} {r : Res} (h : okCut sz E N L r = true) : ∃ e h', r = .ok .normal e h' ∧ e.mks = [] ∧ e.sz = sz ∧ h'.n = N ∧ (∀ t v, (puts E).get t = some v → e.t.get t = some v) ∧ (∀ k o, (puts L).get k = some o → h'.t.get k = some o) := by
  unfold okCut at h
  split at h
  · rename_i e h'
    simp only [Bool.and_eq_true] at h
    obtain ⟨⟨h1, h2⟩, h3, h4, h5⟩ := h
    refine ⟨e, h', rfl, ?_, Nat.eq_of_beq_eq_true h2, Nat.eq_of_beq_eq_true h3, fun t v ht => subE_spec _ _ h4 _ (puts_get _ _ _ ht), fun k o hk => subL_spec _ _ h5 _ (puts_get _ _ _ hk)⟩
    unfold noM at h1
    split at h1
    · assumption
    · cases h1
  · cases h

def takeSeq : Nat → Code → Code
  | k + 1, .seq a b => .seq a (takeSeq k b)
  | _, _ => .skip
def dropSeq : Nat → Code → Code
  | k + 1, .seq _ b => dropSeq k b
  | _, c => c

section
variable {P : Program} {G B : Nat}
/-- less is known -/
theorem Cond.less {μ : Mu} {h h2 : Hp} {w : World} (c : Cond G B μ h w) (hn : h2.n = h.n) (hs : ∀ k o, h2.t.get k = some o → h.t.get k = some o) : Cond G B μ h2 w :=
  ⟨⟨fun k b p s e => by rw [hn]; exact c.hr.lt k b p s e, fun k b p s o e1 e2 => c.hr.obj k b p s o e1 (hs k o e2), fun k k' b p s p' s' o o' e1 e2 e3 e4 => c.hr.inj k k' b p s p' s' o o' e1 e2 (hs k o e3) (hs k' o' e4), fun k b p s o e1 e2 => c.hr.own k b p s o e1 (hs k o e2)⟩, c.gr, c.hB⟩
theorem AR.less {μ : Mu} {e e2 : En} {a : Act} (h : AR μ e a) (hsz : e2.sz = e.sz) (hm : e2.mks = e.mks) (hs : ∀ t v, e2.t.get t = some v → e.t.get t = some v) : AR μ e2 a :=
  ⟨⟨by rw [hsz]; exact h.tr.size, fun t v ht => h.tr.get t v (hs t v ht)⟩, by rw [hm]; exact h.mr⟩

theorem cutseq_ok (hall : ∀ n, SC P G B (exec P G n)) : ∀ (k n : Nat) (c : Code) (e e1 : En) (h h1 : Hp), exec P G n none (takeSeq k c) e h = .ok .normal e1 h1 → ∀ (μ : Mu) (a : Act) (w : World), Cond G B μ h w → AR μ e a → ∀ (Q : Exit → Act → World → Prop),
    (∀ μ1 a1 w1, AR μ1 e1 a1 → Good B μ h w μ1 h1 w1 → (dropSeq k c).wpIn (FW none) 0 P Q a1 w1) → c.wpIn (FW none) 0 P Q a w := by
  have stop : ∀ (n : Nat) (c : Code) (e e1 : En) (h h1 : Hp), exec P G n none .skip e h = .ok .normal e1 h1 → ∀ (μ : Mu) (a : Act) (w : World), Cond G B μ h w → AR μ e a → ∀ (Q : Exit → Act → World → Prop),
      (∀ μ1 a1 w1, AR μ1 e1 a1 → Good B μ h w μ1 h1 w1 → c.wpIn (FW none) 0 P Q a1 w1) → c.wpIn (FW none) 0 P Q a w := by
    intro n c e e1 h h1 hr μ a w hc he Q hQ
    cases n with
    | zero => rw [exec_zero] at hr; cases hr
    | succ n =>
      have hr' : Res.ok Ex.normal e h = .ok .normal e1 h1 := hr
      simp only [Res.ok.injEq, true_and] at hr'
      obtain ⟨rfl, rfl⟩ := hr'
      exact hQ μ a w he (.refl hc.hr)
  intro k
  induction k with
  | zero => intro n c; exact stop n c
  | succ k ih =>
    intro n c
    cases c with
    | seq p q =>
      intro e e1 h h1 hr μ a w hc he Q hQ
      cases n with
      | zero => rw [exec_zero] at hr; cases hr
      | succ n =>
        have hr' : thenC (exec P G n) none (takeSeq k q) (exec P G n none p e h) = .ok .normal e1 h1 := hr
        cases h2 : exec P G n none p e h with
        | fail => rw [h2] at hr'; cases hr'
        | ok x e2 hh2 =>
          rw [h2] at hr'
          have hx : x = .normal := by
            cases x with
            | normal => rfl
            | exit i => cases hr'
            | ret => cases hr'
            | pan v => cases hr'
          subst hx
          have hr2 : exec P G n none (takeSeq k q) e2 hh2 = .ok .normal e1 h1 := hr'
          refine wpIn_seq (wpIn_mono (hall n none none p e h .normal e2 hh2 h2 μ a w hc trivial he) fun ex a2 w2 hcp => ?_)
          obtain ⟨rfl, μ2, hA, hG⟩ := hcp
          exact ih n q e2 e1 hh2 h1 hr2 μ2 a2 w2 (hc.next hG) hA Q fun μ3 a3 w3 hA3 hG3 => hQ μ3 a3 w3 hA3 (Good.trans hc.hr hG hG3)
    | _ => exact stop n _
end
end Cx
end Go.Proofs.YtfigbldiffjmbaaGreatDoor
