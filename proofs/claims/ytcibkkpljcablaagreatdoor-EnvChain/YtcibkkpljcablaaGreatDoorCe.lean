/- Closed runs: calls. -/
import Derived.Test.YtcibkkpljcablaaGreatDoorCk
namespace Go.Proofs.YtcibkkpljcablaaGreatDoor
namespace Cx
open Go

section
variable {P : Program} {G B : Nat}

theorem envOf_cons (v : Value) (l : List Value) (i : Nat) (t : T Value) : envOf (v :: l) i t = envOf l (i + 1) (T.put v t i) := rfl
theorem envOf_get : ∀ (l : List Value) (i : Nat) (t : T Value) (k : Nat), (envOf l i t).get k = if i ≤ k ∧ k < i + l.length then l[k - i]? else t.get k
  | [], i, t, k => by
    have : ¬ (i ≤ k ∧ k < i + ([] : List Value).length) := by
      intro ⟨h1, h2⟩
      rw [List.length_nil] at h2
      omega
    rw [if_neg this]; rfl
  | v :: l, i, t, k => by
    rw [envOf_cons, envOf_get l (i + 1) _ k, T.get_put]
    by_cases hk : k = i
    · subst hk
      have c1 : ¬ (k + 1 ≤ k ∧ k < k + 1 + l.length) := by omega
      have c2 : k ≤ k ∧ k < k + (v :: l).length := by simp
      rw [if_neg c1, if_pos c2]; simp
    · by_cases hin : i + 1 ≤ k ∧ k < i + 1 + l.length
      · have c2 : i ≤ k ∧ k < i + (v :: l).length := by simp; omega
        rw [if_pos hin, if_pos c2, show k - i = (k - (i + 1)) + 1 by omega]; simp
      · have c2 : ¬ (i ≤ k ∧ k < i + (v :: l).length) := by simp; omega
        rw [if_neg hin, if_neg c2]; simp [hk]

theorem resOf_cons (e : En) (h : Hp) (r : ResultVar) (l : List ResultVar) : resOf P e h (r :: l) = (match (match r with | .tmp t => e.t.get t | .cell a t => (match e.t.get a with | some p => ld P h t p | none => none) : Option Value) with
    | some v => (match resOf P e h l with | some l => some (v :: l) | none => none)
    | none => none) := rfl
/-- what a function's result is read from -/
def resSem (tmps : Array Value) : ResultVar → Sem Value
  | .tmp t => pure (tmps.getD t undef)
  | .cell a t => do loadVar t (← asAddr (tmps.getD a undef))
theorem resOf_ok {μ : Mu} {e : En} {h : Hp} {w : World} {tmps : Array Value} (hr : HR B μ h.n h.t.get w) (he : TR μ e tmps) : ∀ (l : List ResultVar) (vs : List Value), resOf P e h l = some vs → ∃ vs', VRL μ vs vs' ∧ (l.mapM (resSem tmps)).run P w = .ok vs' w
  | [], vs, hv => by have hv' : some ([] : List Value) = some vs := hv; simp at hv'; subst hv'; exact ⟨[], .nil, by simp⟩
  | r :: l, vs, hv => by
    rw [resOf_cons] at hv
    split at hv
    · rename_i v h1
      split at hv
      · rename_i q h2
        simp at hv; subst hv
        obtain ⟨vs', g1, g2⟩ := resOf_ok hr he l q h2
        have hone : ∃ v', (resSem tmps r).run P w = .ok v' w ∧ VR μ v v' := by
          cases r with
          | tmp t =>
            obtain ⟨v', q1, q2⟩ := he.get t v h1
            exact ⟨v', by simp [resSem, q1], q2⟩
          | cell a t =>
            simp only at h1
            split at h1
            · rename_i p hp
              obtain ⟨p', q1, q2⟩ := he.get a p hp
              unfold ld at h1
              split at h1
              · rename_i k o
                cases q2 with
                | ptr hk =>
                  obtain ⟨v', z1, z2⟩ := ld_ok hr hk h1
                  exact ⟨v', by simp [resSem, q1, asAddr, z1], z2⟩
              · cases h1
            · cases h1
        obtain ⟨v', z1, z2⟩ := hone
        refine ⟨v' :: vs', .cons z2 g1, ?_⟩
        rw [List.mapM_cons]
        simp only [Sem.run_bind, z1, Result.andThen_ok, g2, Sem.run_pure]
      · cases hv
    · cases hv
theorem results_eq (fn : Func) (tmps : Array Value) : results fn tmps = (do let vs ← fn.results.mapM (resSem tmps); pure (if h : vs.size = 1 then vs[0] else .tuple vs)) := by
  unfold results
  congr 1
theorem results_ok {μ : Mu} {e : En} {h : Hp} {w : World} {fn : Func} {tmps : Array Value} (hr : HR B μ h.n h.t.get w) (he : TR μ e tmps) {vs : List Value} (hv : resOf P e h fn.results.toList = some vs) : ∃ v', (results fn tmps).run P w = .ok v' w ∧ VR μ (tupOf vs) v' := by
  obtain ⟨vs', g1, g2⟩ := resOf_ok hr he _ _ hv
  rw [results_eq]
  have hm : (fn.results.mapM (resSem tmps)).run P w = .ok vs'.toArray w := by
    rw [Array.mapM_eq_mapM_toList, Sem.run_map, g2, Result.andThen_ok]
  refine ⟨if h : vs'.toArray.size = 1 then vs'.toArray[0] else .tuple vs'.toArray, by simp only [Sem.run_bind, hm, Result.andThen_ok, Sem.run_pure], ?_⟩
  have hlen := g1.length
  by_cases h1 : vs'.toArray.size = 1
  · rw [dif_pos h1]
    cases g1 with
    | nil => simp at h1
    | cons hq ht =>
      cases ht with
      | nil => exact hq
      | cons _ _ => simp at h1
  · rw [dif_neg h1]
    cases g1 with
    | nil => exact .tuple .nil
    | cons hq ht =>
      cases ht with
      | nil => simp at h1
      | cons hv2 ht2 => exact .tuple (.cons hq (.cons hv2 ht2))

theorem unmark_cons (h : Hp) (k : Nat) (l : List Nat) : unmark h (k :: l) = (match h.t.get k with
    | some .defs => unmark (h.set k .other) l
    | _ => none) := rfl
/-- the marks taken away -/
theorem unmark_ok {fn : Func} {tmps : Array Value} {R : Ending → World → Prop} {ro' : Option Nat} : ∀ (ks : List Nat) (ds : List Deferred) (h h2 : Hp) (μ : Mu) (w : World), Cond G B μ h w → MR μ ks ds → unmark h ks = some h2 →
    (∀ w2, Good B μ h w μ h2 w2 → LeavesIn (FW ro') 0 P fn tmps R [] .returning w2) → LeavesInM (FW ro') 0 P fn tmps R ds .returning w
  | [], _, h, h2, μ, w, c, .nil, hu, hl => by
    have hu' : some h = some h2 := hu
    simp at hu'; subst hu'
    exact hl w (.refl c.hr)
  | k :: ks, _, h, h2, μ, w, c, .cons hk ht, hu, hl => by
    rename_i b p s ds
    rw [unmark_cons] at hu
    split at hu
    · rename_i hd
      have hb : w.heap[b]? = some (.deferred (some [])) := c.hr.obj k b p s _ hk hd
      have hlt := (c.hr.lt k b p s hk).2
      have hrun : (Instr.takeDeferred b).run P w = .ok [] { w with heap := w.heap.setIfInBounds b (.deferred none) } := by
        simp [Instr.takeDeferred, getObj, setObj, Sem.run, hb]
      have hgood : Good B μ h w μ (h.set k .other) { w with heap := w.heap.setIfInBounds b (.deferred none) } :=
        set_ok c.hr hk hd rfl rfl rfl rfl rfl rfl (by simp) (fun b' hne => by simp [Array.getElem?_setIfInBounds_ne (Ne.symm hne)]) trivial
      refine ⟨by simp, .inl ⟨b, _, rfl, hrun, ?_⟩⟩
      exact unmark_ok ks ds _ h2 μ _ (c.next hgood) ht hu fun w2 g2 => hl w2 (Good.trans c.hr hgood g2)
    · cases hu

theorem callC_ok (hng : ∀ (f : FuncId) (fn : Func), P.funcs[f]? = some fn → fn.body.isSome = true → (fn.name == "runtime.NumGoroutine") = false) {ih : Option Nat → Code → En → Hp → Res} (hih : SC P G B ih) : SF P G B (callC P ih) := by
  intro f args h v h' hc μ args' w c hargs
  unfold callC at hc
  split at hc
  · cases hc
  · rename_i fn hfn
    split at hc
    · rename_i hb
      unfold externC at hc
      cases hs : args.all scalar with
      | false => rw [hs] at hc; cases hc
      | true =>
        rw [hs] at hc
        simp only [cond_true] at hc
        split at hc
        · rename_i u hu
          cases hsu : scalar u with
          | false => rw [hsu] at hc; cases hc
          | true =>
            rw [hsu] at hc
            simp only [cond_true, CRes.ok.injEq] at hc
            obtain ⟨rfl, rfl⟩ := hc
            left
            rw [hargs.scalars hs]
            exact ⟨u, pureRun_ok _ hu w, scalar_VR hsu, rfl, rfl⟩
        · cases hc
    · rename_i code hb
      right
      cases hle : Nat.ble args.length fn.ntmps with
      | false => rw [hle] at hc; cases hc
      | true =>
        rw [hle] at hc
        simp only [cond_true] at hc
        have hle' : args.length ≤ fn.ntmps := Nat.le_of_ble_eq_true hle
        have hal := hargs.length
        refine ⟨?_, fun ro' => ?_⟩
        · have hn := hng f fn hfn (by rw [hb]; rfl)
          simp only [callFunc, program, Sem.run_bind, Sem.run, Result.andThen_ok, hfn, hn, Bool.false_eq_true, if_false, hb, Option.isNone_some]
          rfl
        have key : ∀ x e1 h1 h2 l, (x = Ex.ret ∨ x = Ex.normal) → ih none code ⟨fn.ntmps, envOf args 0 .nil, []⟩ h = .ok x e1 h1 → unmark h1 e1.mks = some h2 → resOf P e1 h2 fn.results.toList = some l → v = tupOf l → h' = h2 → CallsIn (FW none) 0 P f args'.toArray w (VP B μ h w v h') := by
          intro x e1 h1 h2 l hx hrun hun hres hv hh
          subst hv; subst hh
          refine callsIn_of_wp_marks hfn hb trivial ?_
          have hAR : AR μ ⟨fn.ntmps, envOf args 0 .nil, []⟩ { tmps := args'.toArray ++ Array.replicate (fn.ntmps - args'.toArray.size) undef, defers := [] } := by
            refine ⟨⟨by simp; omega, fun t u hu => ?_⟩, .nil⟩
            rw [envOf_get] at hu
            by_cases hin : 0 ≤ t ∧ t < 0 + args.length
            · rw [if_pos hin] at hu
              obtain ⟨u', g1, g2⟩ := hargs.get t u (by simpa using hu)
              refine ⟨u', ?_, g2⟩
              have : t < args'.length := by omega
              rw [Array.getElem?_append_left (by simpa using this)]
              simpa using g1
            · rw [if_neg hin, T.get_nil] at hu; cases hu
          have hwp := hih none none code _ h x e1 h1 hrun μ _ w c trivial hAR
          refine wpIn_mono hwp fun ex a' w' hcp => ?_
          obtain ⟨rfl, μ1, hA, hG⟩ := hcp
          have hfin : LeavesInM (FW none) 0 P fn a'.tmps (VP B μ h w (tupOf l) h') a'.defers .returning w' := by
            refine unmark_ok e1.mks a'.defers h1 h' μ1 w' (c.next hG) hA.mr hun fun w2 g2 => ?_
            have g := Good.trans c.hr hG g2
            obtain ⟨v', r1, r2⟩ := results_ok (P := P) (fn := fn) g.hr hA.tr hres
            exact ⟨v', r1, v', μ1, rfl, r2, g⟩
          rcases hx with rfl | rfl <;> exact hfin
        have hfin : CallsIn (FW none) 0 P f args'.toArray w (VP B μ h w v h') := by
          split at hc
          · rename_i e1 h1 hrun
            split at hc
            · rename_i h2 hun
              split at hc
              · rename_i l hres
                simp only [CRes.ok.injEq] at hc
                exact key _ e1 h1 h2 l (.inl rfl) hrun hun hres hc.1.symm hc.2.symm
              · cases hc
            · cases hc
          · rename_i e1 h1 hrun
            split at hc
            · rename_i h2 hun
              split at hc
              · rename_i l hres
                simp only [CRes.ok.injEq] at hc
                exact key _ e1 h1 h2 l (.inr rfl) hrun hun hres hc.1.symm hc.2.symm
              · cases hc
            · cases hc
          · cases hc
        cases ro' with
        | none => exact hfin
        | some b => exact hfin
end
end Cx
end Go.Proofs.YtcibkkpljcablaaGreatDoor
