/- Closed runs: rounds, ranges over functions, all codes. -/
import Derived.Test.YtfigbldiffjmbaaGreatDoorCe
namespace Go.Proofs.YtfigbldiffjmbaaGreatDoor
set_option linter.unusedVariables false
namespace Cx
open Go

section
variable {P : Program} {G B : Nat}

theorem putPs_cons (t : Tmp) (ps : List Tmp) (vs : List Value) (e : En) : putPs (t :: ps) vs e = (match vs with
    | v :: vs => (match putD e (some t) v with | some e => putPs ps vs e | none => none)
    | [] => none) := rfl
theorem putPs_ok {μ : Mu} : ∀ (ps : List Tmp) (vs vs' : List Value) (e e1 : En) (a : Act), AR μ e a → VRL μ vs vs' → putPs ps vs e = some e1 →
    vs'.length = ps.length ∧ AR μ e1 { a with tmps := (ps.zip vs').foldl (fun tmps x => tmps.setIfInBounds x.1 x.2) a.tmps }
  | [], vs, vs', e, e1, a, he, hv, hp => by
    cases hv with
    | nil =>
      have hp' : some e = some e1 := hp
      simp at hp'; subst hp'; exact ⟨rfl, he⟩
    | cons _ _ =>
      have hp' : (none : Option En) = some e1 := hp
      cases hp'
  | t :: ps, vs, vs', e, e1, a, he, hv, hp => by
    rw [putPs_cons] at hp
    cases hv with
    | nil => cases hp
    | cons h1 t1 =>
      rename_i v v' l l'
      simp only at hp
      split at hp
      · rename_i e2 he2
        obtain ⟨g1, g2⟩ := putPs_ok ps _ _ e2 e1 _ (putD_ok he h1 he2) t1 hp
        exact ⟨by simp [g1], g2⟩
      · cases hp

theorem loop_obj {μ : Mu} {h : Hp} {w : World} (hr : HR B μ h.n h.t.get w) {l b p s : Nat} (hl : μ l = some (b, p, s)) {busy : Bool} {pend : Option Code} {e : En} {ps : List Tmp} {as bd : Code} (ho : h.t.get l = some (.loop busy pend e ps as bd)) :
    ∃ r : Loop, w.heap[b]? = some (.loop r) ∧ (Instr.getLoop b).run P w = .ok r w ∧ LoopR busy pend r ∧ r.params.toList = ps ∧ r.assign = as ∧ r.body = bd ∧ TR μ e r.tmps ∧ b < w.heap.size := by
  obtain ⟨r, h1, h2, h3, h4, h5, h6⟩ := hr.obj l b p s _ hl ho
  exact ⟨r, h1, by simp [Instr.getLoop, getObj, Sem.run, h1], h2, h3, h4, h5, h6, (hr.lt l b p s hl).2⟩
/-- a loop's record set anew -/
theorem loop_set {μ : Mu} {h : Hp} {w : World} (hr : HR B μ h.n h.t.get w) {l b p s : Nat} (hl : μ l = some (b, p, s)) {busy : Bool} {pend : Option Code} {e : En} {ps : List Tmp} {as bd : Code} (ho : h.t.get l = some (.loop busy pend e ps as bd)) (r' : Loop) (o : LObj) (hro : o.isRo = false)
    (hor : OR μ { w with heap := w.heap.setIfInBounds b (.loop r') } b p s o) : (setObj b (.loop r')).run P w = .ok () { w with heap := w.heap.setIfInBounds b (.loop r') } ∧ Good B μ h w μ (h.set l o) { w with heap := w.heap.setIfInBounds b (.loop r') } := by
  obtain ⟨r, h1, _⟩ := hr.obj l b p s _ hl ho
  exact ⟨by simp [setObj, Sem.run, h1], set_ok hr hl ho rfl rfl hro rfl rfl rfl (by simp) (fun b' hne => by simp [Array.getElem?_setIfInBounds_ne (Ne.symm hne)]) hor⟩

theorem roundEnd_ok {μ0 : Mu} {h0 : Hp} {w0 : World} {ro' : Option Nat} {μ : Mu} {h : Hp} {w : World} {l b p s : Nat} {x : Ex} {e' : En} {v : Value} {h' : Hp} (c0 : Cond G B μ0 h0 w0) (hg : Good B μ0 h0 w0 μ h w) (hl : μ l = some (b, p, s)) (hre : roundEnd l (.ok x e' h) = .ok v h') (a' : Act) :
    roundPost P b (VP B μ0 h0 w0 v h') x.to a' w := by
  have hre' : (match h.t.get l with
    | some (.loop _ _ e ps as bd) => (match x with
      | .normal => CRes.ok (.bool true) (h.set l (.loop false none e ps as bd))
      | .ret => .ok (.bool false) (h.set l (.loop true (some .ret) e ps as bd))
      | .exit i => .ok (.bool false) (h.set l (.loop true (some (.exit i)) e ps as bd))
      | .pan _ => .fail)
    | _ => .fail) = .ok v h' := hre
  split at hre'
  · rename_i bz pd e ps as bd ho
    obtain ⟨r, r1, r2, r3, r4, r5, r6, r7, r8⟩ := loop_obj (P := P) hg.hr hl ho
    have key : ∀ (jump : Option Code) (bz' : Bool), LoopR bz' jump { r with state := if jump.isNone then .ready else .done, pending := jump } →
        ∃ w', (Instr.endRound b jump).run P w = .ok (.bool jump.isNone) w' ∧ Good B μ h w μ (h.set l (.loop bz' jump e ps as bd)) w' := by
      intro jump bz' hLR
      obtain ⟨q1, q2⟩ := loop_set (P := P) hg.hr hl ho { r with state := if jump.isNone then .ready else .done, pending := jump } (.loop bz' jump e ps as bd) rfl ⟨{ r with state := if jump.isNone then .ready else .done, pending := jump }, by simp [r8], hLR, r4, r5, r6, r7⟩
      exact ⟨_, by simp only [Instr.endRound, Sem.run_bind, r2, Result.andThen_ok, q1, Sem.run_pure], q2⟩
    cases x with
    | normal =>
      simp only [CRes.ok.injEq] at hre'
      obtain ⟨rfl, rfl⟩ := hre'
      obtain ⟨w', q1, q2⟩ := key none false ⟨rfl, rfl, rfl⟩
      exact ⟨_, w', q1, _, μ, rfl, .bool true, Good.trans c0.hr hg q2⟩
    | ret =>
      simp only [CRes.ok.injEq] at hre'
      obtain ⟨rfl, rfl⟩ := hre'
      obtain ⟨w', q1, q2⟩ := key (some .ret) true ⟨rfl, rfl⟩
      exact ⟨_, w', q1, _, μ, rfl, .bool false, Good.trans c0.hr hg q2⟩
    | exit i =>
      simp only [CRes.ok.injEq] at hre'
      obtain ⟨rfl, rfl⟩ := hre'
      obtain ⟨w', q1, q2⟩ := key (some (.exit i)) true ⟨rfl, rfl⟩
      exact ⟨_, w', q1, _, μ, rfl, .bool false, Good.trans c0.hr hg q2⟩
    | pan v => cases hre'
  · cases hre'

theorem roundEnd_no (l : Nat) (r : Res) (v : Value) (h' : Hp) : roundEnd l r ≠ .panic v h' := by
  intro hh
  unfold roundEnd at hh
  split at hh
  · split at hh
    · split at hh <;> cases hh
    · cases hh
  · cases hh
theorem roundC_no (ih : Option Nat → Code → En → Hp → Res) (l : Nat) (args : List Value) (h : Hp) (v : Value) (h' : Hp) : roundC ih l args h ≠ .panic v h' := by
  intro hh
  unfold roundC at hh
  split at hh
  · split at hh
    · cases hh
    · unfold roundMid at hh
      split at hh
      · split at hh
        · exact roundEnd_no _ _ _ _ hh
        · cases hh
      · cases hh
  · cases hh
theorem roundC_ok {ih : Option Nat → Code → En → Hp → Res} (hih : SC P G B ih) : SR P G B (roundC ih) := by
  refine ⟨?_, roundC_no ih⟩
  intro l args h v h' hc μ args' w b p s c hl hargs
  unfold roundC at hc
  split at hc
  · rename_i pd e ps as bd ho
    obtain ⟨r, r1, r2, r3, r4, r5, r6, r7, r8⟩ := loop_obj (P := P) c.hr hl ho
    split at hc
    · cases hc
    · rename_i e1 he1
      have hAR0 : AR μ ⟨e.sz, e.t, []⟩ { tmps := r.tmps, defers := [] } := ⟨⟨r7.size, r7.get⟩, .nil⟩
      obtain ⟨p1, p2⟩ := putPs_ok ps args args' _ e1 _ hAR0 hargs he1
      have hzip : (r.params.zip args'.toArray).foldl (fun tmps (x : Tmp × Value) => tmps.setIfInBounds x.1 x.2) r.tmps = (ps.zip args').foldl (fun tmps x => tmps.setIfInBounds x.1 x.2) r.tmps := by
        rw [← Array.foldl_toList, Array.toList_zip, r4]
      refine ⟨r.fn, (ps.zip args').foldl (fun tmps x => tmps.setIfInBounds x.1 x.2) r.tmps, as, bd, ?_, fun ro' => ?_⟩
      · have hsz : ¬ args'.toArray.size ≠ r.params.size := by
          have : r.params.size = ps.length := by rw [← r4]; simp
          simp; omega
        simp only [Instr.yield, Sem.run_bind, r2, Result.andThen_ok]
        rw [if_neg hsz]
        simp only [Sem.run_pure, r5, r6]
        congr 2
      · refine roundIn_of_wpIn (F := FW ro') trivial ?_
        unfold roundMid at hc
        split at hc
        · rename_i e2 h2 hrun
          split at hc
          · rename_i pd2 e3 ps3 as3 bd3 ho2
            have hwp := hih (some l) (some b) as e1 h .normal e2 h2 hrun μ { tmps := (ps.zip args').foldl (fun tmps x => tmps.setIfInBounds x.1 x.2) r.tmps, defers := [] } w c ⟨p, s, hl⟩ p2
            refine wpIn_mono hwp fun ex a1 w1 hcp => ?_
            obtain ⟨rfl, μ1, hA1, hG1⟩ := hcp
            have hl1 := hG1.st.le _ _ hl
            obtain ⟨r', s1, s2, s3, s4, s5, s6, s7, s8⟩ := loop_obj (P := P) hG1.hr hl1 ho2
            obtain ⟨t1, t2, t3⟩ := s3
            obtain ⟨q1, q2⟩ := loop_set (P := P) hG1.hr hl1 ho2 { r' with state := .busy } (.loop true none e3 ps3 as3 bd3) rfl ⟨{ r' with state := .busy }, by simp [s8], rfl, s4, s5, s6, s7⟩
            have hbr : (Instr.beginRound b).run P w1 = .ok () { w1 with heap := w1.heap.setIfInBounds b (.loop { r' with state := .busy }) } := by
              simp only [Instr.beginRound, Sem.run_bind, s2, Result.andThen_ok, q1, t1]
              rfl
            refine ⟨_, hbr, ?_⟩
            have hG2 := Good.trans c.hr hG1 q2
            cases hres : ih (some l) bd e2 (h2.set l (.loop true none e3 ps3 as3 bd3)) with
            | fail => rw [hres] at hc; cases hc
            | ok x e4 h4 =>
              rw [hres] at hc
              have hwp2 := hih (some l) (some b) bd e2 _ x e4 h4 hres μ1 a1 _ (c.next hG2) ⟨p, s, hl1⟩ hA1
              refine wpIn_mono hwp2 fun ex a2 w2 hcp2 => ?_
              obtain ⟨rfl, μ2, hA2, hG3⟩ := hcp2
              exact roundEnd_ok (ro' := ro') c (Good.trans c.hr hG2 hG3) (hG3.st.le _ _ hl1) hc a2
          · cases hc
        · cases hc
  · cases hc

/-- a loop run as often as it is told -/
theorem wpIn_loop_fuel {F : Fence} {k : Nat} {c : Code} {Q : Exit → Act → World → Prop} (L : Nat → Act → World → Prop) (h0 : ∀ a w, ¬ L 0 a w)
    (round : ∀ n a w, L (n + 1) a w → c.wpIn F k P (Exit.then (fun a' w' => L n a' w') Q) a w) : ∀ n a w, L n a w → (Code.loop c).wpIn F k P Q a w := by
  intro n a w hL b ks cs hro hb hr
  have key : ∀ n a w, L n a w → ∃ e a' w', Q e a' w' ∧ ArrivesIn (Machine.fenced P F) P (lone (b.atR a (.code c :: .inLoop c :: ks)) cs w) b ks cs e a' w' := by
    intro n
    induction n with
    | zero => intro a w hL; exact absurd hL (h0 a w)
    | succ n ih =>
      intro a w hL
      obtain ⟨e, a₁, w₁, hq, harr⟩ := round n a w hL b (.inLoop c :: ks) cs hro hb hr
      cases e with
      | normal =>
        obtain ⟨e₂, a₂, w₂, hq₂, harr₂⟩ := ih a₁ w₁ hq
        exact ⟨e₂, a₂, w₂, hq₂, .of_steps (StepsIn.trans harr (.one (fenced_calm hb hr rfl) stepR_inLoop)) harr₂⟩
      | exit id => exact ⟨_, a₁, w₁, hq, .pass (x := .inLoop c) rfl (fun _ _ => .inl (by simp)) harr⟩
      | goto l => exact ⟨_, a₁, w₁, hq, .pass (x := .inLoop c) rfl (fun _ _ => .inl (by simp)) harr⟩
      | ret => exact ⟨_, a₁, w₁, hq, .pass (x := .inLoop c) rfl (fun _ _ => .inl (by simp)) harr⟩
      | panic ch => exact ⟨_, a₁, w₁, hq, .pass (x := .inLoop c) rfl (fun _ _ => .inl (by simp)) harr⟩
      | outgrown => exact ⟨_, a₁, w₁, hq, .pass (x := .inLoop c) rfl (fun _ _ => .inl (by simp)) harr⟩
  obtain ⟨e, a', w', hq, harr⟩ := key n a w hL
  exact ⟨e, a', w', hq, .of_steps (.one (fenced_calm hb hr rfl) stepR_loop) harr⟩

theorem enter_none {μ : Mu} {h : Hp} {w : World} {e : En} {a : Act} {ps : Array Tmp} {as bd : Code} (fn : FuncId) (c : Cond G B μ h w) (he : AR μ e a) :
    ∃ w1 μ1, (Instr.enterLoop fn a.tmps ps as bd none).run P w = .ok (w.heap.size + 1, [{ target := .collected w.heap.size, args := #[] }]) w1 ∧ Good B μ h w μ1 ((h.new .defs).new (.loop false none ⟨e.sz, e.t, []⟩ ps.toList as bd)) w1 ∧
      μ1 h.n = some (w.heap.size, 0, 0) ∧ μ1 (h.n + 1) = some (w.heap.size + 1, 0, 0) := by
  have g1 := new_ok c.hr c.hB (.deferred (some [])) .defs 0 rfl (by simp [OR])
  have c1 := c.next g1
  have g2 := new_ok (h := h.new .defs) g1.hr c1.hB (.loop { state := .ready, pending := none, fn, tmps := a.tmps, params := ps, assign := as, body := bd, defers := w.heap.size }) (.loop false none ⟨e.sz, e.t, []⟩ ps.toList as bd) 0 rfl (by
    refine ⟨{ state := .ready, pending := none, fn, tmps := a.tmps, params := ps, assign := as, body := bd, defers := w.heap.size }, Array.getElem?_push_size, ⟨rfl, rfl, rfl⟩, rfl, rfl, rfl, ?_⟩
    have := he.tr
    exact TR.mono (Mu.le_trans g1.st.le (Mu.add_le fun y e => by have := g1.hr.dom _ _ e; exact Nat.lt_irrefl _ this)) ⟨this.size, this.get⟩)
  have hn : (h.new LObj.defs).n = h.n + 1 := rfl
  have hw : ({ w with heap := w.heap.push (.deferred (some [])) } : World).heap.size = w.heap.size + 1 := by simp
  refine ⟨_, _, by simp [Instr.enterLoop, newObj, Sem.run]; rfl, Good.trans c.hr g1 g2, ?_, ?_⟩
  · simp [Mu.add, hn]
  · simp [Mu.add, hn]
theorem enter_some {μ : Mu} {h : Hp} {w : World} {e : En} {a : Act} {ps : Array Tmp} {as bd : Code} (fn : FuncId) (c : Cond G B μ h w) (he : AR μ e a) {l b p s : Nat} (hl : μ l = some (b, p, s)) {busy : Bool} {pend : Option Code} {e0 : En} {ps0 : List Tmp} {as0 bd0 : Code} (ho : h.t.get l = some (.loop busy pend e0 ps0 as0 bd0)) :
    ∃ w1 μ1, (Instr.enterLoop fn a.tmps ps as bd (some b)).run P w = .ok (w.heap.size, []) w1 ∧ Good B μ h w μ1 (h.new (.loop false none ⟨e.sz, e.t, []⟩ ps.toList as bd)) w1 ∧ μ1 h.n = some (w.heap.size, 0, 0) := by
  obtain ⟨r, r1, r2, _⟩ := loop_obj (P := P) c.hr hl ho
  have g2 := new_ok c.hr c.hB (.loop { state := .ready, pending := none, fn, tmps := a.tmps, params := ps, assign := as, body := bd, defers := r.defers }) (.loop false none ⟨e.sz, e.t, []⟩ ps.toList as bd) 0 rfl (by
    refine ⟨{ state := .ready, pending := none, fn, tmps := a.tmps, params := ps, assign := as, body := bd, defers := r.defers }, Array.getElem?_push_size, ⟨rfl, rfl, rfl⟩, rfl, rfl, rfl, ?_⟩
    have := he.tr
    exact TR.mono (Mu.add_le fun y e => by have := c.hr.dom _ _ e; exact Nat.lt_irrefl _ this) ⟨this.size, this.get⟩)
  refine ⟨_, _, ?_, g2, by simp [Mu.add]⟩
  simp only [Instr.enterLoop, Sem.run_bind, r2, Result.andThen_ok, Sem.run_pure]
  rfl

/-- what comes behind the call of a range over a function -/
theorem rangeEnd_ok {ih : Option Nat → Code → En → Hp → Res} (hih : SC P G B ih) {ro ro' : Option Nat} {μ0 : Mu} {h0 : Hp} {w0 : World} {l b p s : Nat} {v : Value} {h3 h' : Hp} {x : Ex} {e1 e' : En} {a1 : Act} {Q : Exit → Act → World → Prop} (c0 : Cond G B μ0 h0 w0)
    (hre : rangeEnd ih ro l e1 (.ok v h3) = .ok x e' h') {μ3 : Mu} {w3 : World} (hg : Good B μ0 h0 w0 μ3 h3 w3) (hl : μ3 l = some (b, p, s)) (hro : RoR μ3 ro ro') (hA : AR μ3 e1 a1) (hQ : ∀ ex a' w', CP B μ0 h0 w0 x e' h' ex a' w' → Q ex a' w') (v' : Value) :
    rangePost (FW ro') 0 P b Q a1 (.returned v') w3 := by
  have hre' : (match h3.t.get l with
    | some (.loop false none _ _ _ _) => Res.ok .normal e1 (h3.set l .other)
    | some (.loop true (some c) _ _ _ _) => ih ro c e1 (h3.set l .other)
    | _ => .fail) = .ok x e' h' := hre
  split at hre'
  · rename_i ex ps as bd ho
    obtain ⟨r, r1, r2, r3, _⟩ := loop_obj (P := P) hg.hr hl ho
    obtain ⟨q1, q2⟩ := loop_set (P := P) hg.hr hl ho { r with state := .exhausted } .other rfl trivial
    obtain ⟨t1, _, t3⟩ := r3
    simp only [Res.ok.injEq] at hre'
    obtain ⟨rfl, rfl, rfl⟩ := hre'
    refine ⟨none, _, ?_, hQ _ _ _ ⟨rfl, μ3, hA, Good.trans c0.hr hg q2⟩⟩
    have hne : (r.state == .busy) = false := by rw [t1]; rfl
    simp only [Instr.endLoop, Sem.run_bind, r2, Result.andThen_ok, hne, Bool.false_eq_true, if_false, q1, Sem.run_pure]
    exact congrArg (fun z => Result.ok z _) t3
  · rename_i ec ex ps as bd ho
    obtain ⟨r, r1, r2, r3, _⟩ := loop_obj (P := P) hg.hr hl ho
    obtain ⟨q1, q2⟩ := loop_set (P := P) hg.hr hl ho { r with state := .exhausted } .other rfl trivial
    obtain ⟨t1, t3⟩ := r3
    have hg2 := Good.trans c0.hr hg q2
    refine ⟨some ec, { w3 with heap := w3.heap.setIfInBounds b (.loop { r with state := .exhausted }) }, ?_, ?_⟩
    · have hne : (r.state == .busy) = false := by rw [t1]; rfl
      simp only [Instr.endLoop, Sem.run_bind, r2, Result.andThen_ok, hne, Bool.false_eq_true, if_false, q1, Sem.run_pure]
      exact congrArg (fun z => Result.ok z _) t3
    · have := hih ro ro' ec e1 _ x e' h' hre' μ3 a1 _ (c0.next hg2) hro hA
      exact wpIn_mono this fun ex' a2 w2 hcp => hQ _ _ _ (CP.from c0 hg2 hcp)
  · cases hre'

theorem rangeC_ok (hng : ∀ (f : FuncId) (fn : Func), P.funcs[f]? = some fn → fn.body.isSome = true → (fn.name == "runtime.NumGoroutine") = false) {ih : Option Nat → Code → En → Hp → Res} (hih : SC P G B ih) {ro ro' : Option Nat} {g : Operand} {ps : Array Tmp} {as bd : Code} {e e' : En} {h h' : Hp} {x : Ex} {μ : Mu} {a : Act} {w : World}
    (hc : rangeC P G ih ro g ps.toList as bd e h = .ok x e' h') (c : Cond G B μ h w) (hro : RoR μ ro ro') (he : AR μ e a) : (Code.rangeFunc g ps as bd).wpIn (FW ro') 0 P (CP B μ h w x e' h') a w := by
  have hsf := callC_ok hng hih
  unfold rangeC at hc
  split at hc
  · rename_i f first captured hev
    have hgv := ev_ok c.gr he.tr hev
    generalize hge : a.eval g = g' at hgv
    cases hgv with
    | func _ f1 f2 =>
      rename_i first' captured'
      refine wpIn_rangeFunc fun fn _ => ?_
      have fin : ∀ (l b : Nat) (mark : List Deferred) (w1 : World) (μ1 : Mu) (h1 : Hp) (e1 : En), (Instr.enterLoop fn a.tmps ps as bd ro').run P w = .ok (b, mark) w1 → Good B μ h w μ1 h1 w1 → μ1 l = some (b, 0, 0) → AR μ1 e1 { a with defers := mark ++ a.defers } →
          rangeEnd ih ro l e1 (callC P G ih f (first.toList ++ (.func (.yield l) #[] #[] :: captured.toList)) h1) = .ok x e' h' →
          ∃ (l : Nat) (mark : List Deferred) (w₁ : World) (d : Deferred) (w₁' : World) (f : FuncId) (args : Array Value) (w₂ : World),
            (Instr.enterLoop fn a.tmps ps as bd (FW ro').round).run P w = .ok (l, mark) w₁ ∧ (resolve a.eval (rangeCall g l) 0).run P w₁ = .ok d w₁' ∧ (∀ f', Target.leads P w₁' d.target d.args = some f' → (FW ro').fn f') ∧
            (invoke d.target d.args).run P w₁' = .ok (.enter f args) w₂ ∧ ((FW ro').depth.isSome = true → 1 ≤ 0) ∧ CallsIn (FW ro') (0 - 1) P f args w₂ (rangePost (FW ro') 0 P l (CP B μ h w x e' h') { a with defers := mark ++ a.defers }) := by
        intro l b mark w1 μ1 h1 e1 hen hG hl hA hre
        cases hcall : callC P G ih f (first.toList ++ (.func (.yield l) #[] #[] :: captured.toList)) h1 with
        | fail => rw [hcall] at hre; cases hre
        | panic v h3 => rw [hcall] at hre; cases hre
        | ok v h3 =>
          rw [hcall] at hre
          have hargs : VRL μ1 (first.toList ++ (.func (.yield l) #[] #[] :: captured.toList)) (first'.toList ++ (.func (.yield b) #[] #[] :: captured'.toList)) := (f1.mono hG.st.le).append (.cons (.yield hl) (f2.mono hG.st.le))
          rcases hsf.ok f _ h1 v h3 hcall μ1 _ w1 (c.next hG) hargs with ⟨v', q1, q2, q3, q4⟩ | ⟨q1, q2⟩
          · simp [scalar] at q4
          · refine ⟨b, mark, w1, { target := .fn (.func f) captured', args := first' ++ #[.func (.yield b) #[] #[]] }, w1, f, (first'.toList ++ (.func (.yield b) #[] #[] :: captured'.toList)).toArray, w1, hen, ?_, fun _ _ => trivial, ?_, fun hh => by simp [Fence.wide] at hh, ?_⟩
            · have hm : (#[Operand.const (.func (.yield b) #[] #[])] : Array Operand).map a.eval = #[.func (.yield b) #[] #[]] := by simp [Act.eval]
              show (Deferred.ofValue (a.eval g) ((#[Operand.const (.func (.yield b) #[] #[])] : Array Operand).map a.eval)).run P w1 = _
              rw [hm, hge]
              rfl
            · show (callFunc f ((first' ++ #[.func (.yield b) #[] #[]]) ++ captured')).run P w1 = _
              have : (first' ++ #[Value.func (.yield b) #[] #[]]) ++ captured' = (first'.toList ++ (.func (.yield b) #[] #[] :: captured'.toList)).toArray := by apply Array.ext'; simp
              rw [this]
              exact q1
            · obtain ⟨z1, z2⟩ := q2 ro'
              refine ⟨z1, fun cs hroom => ?_⟩
              obtain ⟨en, w', fr, ⟨v', μ', rfl, r2, r3⟩, rest⟩ := z2 cs hroom
              exact ⟨.returned v', w', fr, rangeEnd_ok hih c hre (Good.trans c.hr hG r3) (r3.st.le _ _ hl) (hro.mono (Mu.le_trans hG.st.le r3.st.le)) (hA.mono r3.st.le) (fun _ _ _ hcp => hcp) v', rest⟩
      cases ro with
      | none =>
        cases ro' with
        | some b => exact hro.elim
        | none =>
          obtain ⟨w1, μ1, g1, g2, g3, g4⟩ := enter_none (P := P) (ps := ps) (as := as) (bd := bd) fn c he
          exact fin (h.n + 1) (w.heap.size + 1) _ w1 μ1 _ ⟨e.sz, e.t, .mark h.n :: e.mks⟩ g1 g2 g4 ⟨⟨he.tr.size, (he.mono g2.st.le).tr.get⟩, .cons (.mark g3) (he.mono g2.st.le).mr⟩ hc
      | some l0 =>
        cases ro' with
        | none => exact hro.elim
        | some b0 =>
          obtain ⟨p0, s0, hl0⟩ := hro
          simp only at hc
          split at hc
          · rename_i ho
            obtain ⟨w1, μ1, g1, g2, g3⟩ := enter_some (P := P) (ps := ps) (as := as) (bd := bd) fn c he hl0 ho
            exact fin h.n w.heap.size [] w1 μ1 _ e g1 g2 g3 (he.mono g2.st.le) hc
          · cases hc
  · cases hc

/-- a region that draws its order -/
def SD (P : Program) (G B : Nat) (call : FuncId → List Value → Hp → CRes) (round : Nat → List Value → Hp → CRes) : Prop :=
  ∀ (ops : Array Oper) (ro' : Option Nat) (e e' : En) (h h' : Hp) (x : Ex) (μ : Mu) (a : Act) (w : World), drawOk ops = true → runDrawn P G call round ops ops.toList 0 [] e h = .ok x e' h' → Cond G B μ h w → AR μ e a → ∀ Q : Exit → Act → World → Prop, (∀ ex a' w', CP B μ h w x e' h' ex a' w' → Q ex a' w') →
    wpAnyIn (FW ro') 0 P .any ops Q ops.size (Array.replicate ops.size false) a w

theorem exec_succ (n : Nat) : exec P G (n + 1) = stepC P G (exec P G n) := rfl
theorem exec_zero (ro : Option Nat) (c : Code) (e : En) (h : Hp) : exec P G 0 ro c e h = .fail := rfl

theorem exec_ok (hng : ∀ (f : FuncId) (fn : Func), P.funcs[f]? = some fn → fn.body.isSome = true → (fn.name == "runtime.NumGoroutine") = false) (hmix : P.follows .mixedOrders = true)
    (hsd : ∀ call round, SF P G B call → SR P G B round → SD P G B call round) : ∀ n, SC P G B (exec P G n) := by
  intro n
  induction n using Nat.strongRecOn with
  | _ n IH =>
    cases n with
    | zero => intro ro ro' c e h x e' h' hrun; rw [exec_zero] at hrun; cases hrun
    | succ n =>
      have ih := IH n (Nat.lt_succ_self n)
      intro ro ro' c e h x e' h' hrun μ a w hc hro he
      have hsf := callC_ok hng ih
      have hsr := roundC_ok ih
      cases c with
      | skip =>
        have hr : Res.ok Ex.normal e h = .ok x e' h' := hrun
        simp only [Res.ok.injEq] at hr
        obtain ⟨rfl, rfl, rfl⟩ := hr
        exact wpIn_skip ⟨rfl, μ, he, .refl hc.hr⟩
      | label l =>
        have hr : Res.ok Ex.normal e h = .ok x e' h' := hrun
        simp only [Res.ok.injEq] at hr
        obtain ⟨rfl, rfl, rfl⟩ := hr
        exact wpIn_label ⟨rfl, μ, he, .refl hc.hr⟩
      | exit id =>
        have hr : Res.ok (Ex.exit id) e h = .ok x e' h' := hrun
        simp only [Res.ok.injEq] at hr
        obtain ⟨rfl, rfl, rfl⟩ := hr
        exact wpIn_exit ⟨rfl, μ, he, .refl hc.hr⟩
      | ret =>
        have hr : Res.ok Ex.ret e h = .ok x e' h' := hrun
        simp only [Res.ok.injEq] at hr
        obtain ⟨rfl, rfl, rfl⟩ := hr
        exact wpIn_ret ⟨rfl, μ, he, .refl hc.hr⟩
      | seq c1 c2 =>
        have hr : thenC (exec P G n) ro c2 (exec P G n ro c1 e h) = .ok x e' h' := hrun
        cases h1 : exec P G n ro c1 e h with
        | fail => rw [h1] at hr; cases hr
        | ok x1 e1 hh1 =>
          rw [h1] at hr
          refine wpIn_seq (wpIn_mono (ih ro ro' c1 e h x1 e1 hh1 h1 μ a w hc hro he) fun ex a1 w1 hcp => ?_)
          obtain ⟨rfl, μ1, hA, hG⟩ := hcp
          cases x1 with
          | normal =>
            have hr2 : exec P G n ro c2 e1 hh1 = .ok x e' h' := hr
            exact wpIn_mono (ih ro ro' c2 e1 hh1 x e' h' hr2 μ1 a1 w1 (hc.next hG) (hro.mono hG.st.le) hA) fun ex a2 w2 hcp => CP.from hc hG hcp
          | exit id =>
            have hr2 : Res.ok (Ex.exit id) e1 hh1 = .ok x e' h' := hr
            simp only [Res.ok.injEq] at hr2
            obtain ⟨rfl, rfl, rfl⟩ := hr2
            exact ⟨rfl, μ1, hA, hG⟩
          | ret =>
            have hr2 : Res.ok Ex.ret e1 hh1 = .ok x e' h' := hr
            simp only [Res.ok.injEq] at hr2
            obtain ⟨rfl, rfl, rfl⟩ := hr2
            exact ⟨rfl, μ1, hA, hG⟩
          | pan v =>
            have hr2 : Res.ok (Ex.pan v) e1 hh1 = .ok x e' h' := hr
            simp only [Res.ok.injEq] at hr2
            obtain ⟨rfl, rfl, rfl⟩ := hr2
            exact ⟨rfl, μ1, hA, hG⟩
      | cond y c1 c2 =>
        have hr : condC (exec P G n) ro c1 c2 e h (ev G e y) = .ok x e' h' := hrun
        unfold condC at hr
        split at hr
        · rename_i hy
          have hv := ev_ok hc.gr he.tr hy
          generalize hye : a.eval y = y' at hv
          cases hv
          exact wpIn_cond_true hye (ih ro ro' c1 e h x e' h' hr μ a w hc hro he)
        · rename_i hy
          have hv := ev_ok hc.gr he.tr hy
          generalize hye : a.eval y = y' at hv
          cases hv
          exact wpIn_cond_false hye (ih ro ro' c2 e h x e' h' hr μ a w hc hro he)
        · cases hr
      | block id c1 =>
        have hr : blockC id (exec P G n ro c1 e h) = .ok x e' h' := hrun
        cases h1 : exec P G n ro c1 e h with
        | fail => rw [h1] at hr; cases hr
        | ok x1 e1 hh1 =>
          rw [h1] at hr
          refine wpIn_block (wpIn_mono (ih ro ro' c1 e h x1 e1 hh1 h1 μ a w hc hro he) fun ex a1 w1 hcp => ?_)
          obtain ⟨rfl, μ1, hA, hG⟩ := hcp
          cases x1 with
          | normal =>
            have hr2 : Res.ok Ex.normal e1 hh1 = .ok x e' h' := hr
            simp only [Res.ok.injEq] at hr2
            obtain ⟨rfl, rfl, rfl⟩ := hr2
            exact ⟨rfl, μ1, hA, hG⟩
          | ret =>
            have hr2 : Res.ok Ex.ret e1 hh1 = .ok x e' h' := hr
            simp only [Res.ok.injEq] at hr2
            obtain ⟨rfl, rfl, rfl⟩ := hr2
            exact ⟨rfl, μ1, hA, hG⟩
          | pan v =>
            have hr2 : Res.ok (Ex.pan v) e1 hh1 = .ok x e' h' := hr
            simp only [Res.ok.injEq] at hr2
            obtain ⟨rfl, rfl, rfl⟩ := hr2
            exact ⟨rfl, μ1, hA, hG⟩
          | exit i =>
            have hr2 : cond (Nat.beq i id) (Res.ok .normal e1 hh1) (.ok (.exit i) e1 hh1) = .ok x e' h' := hr
            rw [beqN] at hr2
            show if i = id then CP B μ h w x e' h' .normal a1 w1 else CP B μ h w x e' h' (.exit i) a1 w1
            by_cases hid : i = id
            · simp only [hid, decide_true, cond_true, Res.ok.injEq] at hr2
              obtain ⟨rfl, rfl, rfl⟩ := hr2
              rw [if_pos hid]
              exact ⟨rfl, μ1, hA, hG⟩
            · simp only [hid, decide_false, cond_false, Res.ok.injEq] at hr2
              obtain ⟨rfl, rfl, rfl⟩ := hr2
              rw [if_neg hid]
              exact ⟨rfl, μ1, hA, hG⟩
      | loop c1 =>
        refine wpIn_loop_fuel (fun k a1 w1 => k ≤ n + 1 ∧ ∃ e1 h1 μ1, exec P G k ro (.loop c1) e1 h1 = .ok x e' h' ∧ AR μ1 e1 a1 ∧ Good B μ h w μ1 h1 w1) ?_ ?_ (n + 1) a w ⟨Nat.le_refl _, e, h, μ, hrun, he, .refl hc.hr⟩
        · rintro a1 w1 ⟨_, e1, h1, μ1, hr, _⟩
          rw [exec_zero] at hr; cases hr
        · rintro k a1 w1 ⟨hk, e1, h1, μ1, hr, hA, hG⟩
          have ihk := IH k (by omega)
          have hr' : thenC (exec P G k) ro (.loop c1) (exec P G k ro c1 e1 h1) = .ok x e' h' := hr
          cases h2 : exec P G k ro c1 e1 h1 with
          | fail => rw [h2] at hr'; cases hr'
          | ok x1 e2 hh2 =>
            rw [h2] at hr'
            refine wpIn_mono (ihk ro ro' c1 e1 h1 x1 e2 hh2 h2 μ1 a1 w1 (hc.next hG) (hro.mono hG.st.le) hA) fun ex a2 w2 hcp => ?_
            obtain ⟨rfl, μ2, hA2, hG2⟩ := hcp
            have hG3 := Good.trans hc.hr hG hG2
            cases x1 with
            | normal => exact ⟨by omega, e2, hh2, μ2, hr', hA2, hG3⟩
            | exit id =>
              have hr2 : Res.ok (Ex.exit id) e2 hh2 = .ok x e' h' := hr'
              simp only [Res.ok.injEq] at hr2
              obtain ⟨rfl, rfl, rfl⟩ := hr2
              exact ⟨rfl, μ2, hA2, hG3⟩
            | ret =>
              have hr2 : Res.ok Ex.ret e2 hh2 = .ok x e' h' := hr'
              simp only [Res.ok.injEq] at hr2
              obtain ⟨rfl, rfl, rfl⟩ := hr2
              exact ⟨rfl, μ2, hA2, hG3⟩
            | pan v =>
              have hr2 : Res.ok (Ex.pan v) e2 hh2 = .ok x e' h' := hr'
              simp only [Res.ok.injEq] at hr2
              obtain ⟨rfl, rfl, rfl⟩ := hr2
              exact ⟨rfl, μ2, hA2, hG3⟩
      | region id ops draw =>
        cases draw with
        | false =>
          have hr : runOps P G ro (callC P G (exec P G n)) (roundC (exec P G n)) ops ops.toList e h = .ok x e' h' := hrun
          refine wpIn_region ?_
          have := runOps_ok hsf hsr ops ro ro' (by intro hn; subst hn; cases ro' with | none => rfl | some b => exact hro.elim) ops.toList 0 (by simp) (by omega) e e' h h' x μ a w hr hc he (CP B μ h w x e' h') fun _ _ _ hcp => hcp
          rw [List.range_eq_range']
          simpa using this
        | true =>
          have hr : cond (drawOk ops) (runDrawn P G (callC P G (exec P G n)) (roundC (exec P G n)) ops ops.toList 0 [] e h) .fail = .ok x e' h' := hrun
          cases hd : drawOk ops with
          | false => rw [hd] at hr; cases hr
          | true =>
            rw [hd] at hr
            simp only [cond_true] at hr
            refine wpIn_region_any hmix ?_
            have hg : Good B μ h w μ h { w with drawn := w.drawn + 1 } := Good.drew hc.hr rfl rfl rfl rfl
            exact hsd _ _ hsf hsr ops ro' e e' h h' x μ a { w with drawn := w.drawn + 1 } hd hr (hc.next hg) he _ fun _ _ _ hcp => CP.from hc hg hcp
      | rangeFunc g ps as bd =>
        have hr : rangeC P G (exec P G n) ro g ps.toList as bd e h = .ok x e' h' := hrun
        exact rangeC_ok hng ih hr hc hro he
      | _ => cases hrun
end
end Cx
end Go.Proofs.YtfigbldiffjmbaaGreatDoor
