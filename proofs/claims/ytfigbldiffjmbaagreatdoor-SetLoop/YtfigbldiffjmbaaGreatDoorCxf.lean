/- Closed runs: a region that draws its order: the executor's own way through it, step by step. -/
import Derived.Test.YtfigbldiffjmbaaGreatDoorCxe
namespace Go.Proofs.YtfigbldiffjmbaaGreatDoor
namespace Cx
open Go

section
variable {P : Program} {G B : Nat} {call : FuncId → List Value → Hp → CRes} {round : Nat → List Value → Hp → CRes} {ops : Array Oper}

/-- the executor's way: temporaries, memory, what was touched, answers, whether it was done -/
structure Way where
  E : Nat → En
  H : Nat → Hp
  A : Nat → List (Nat × AE)
  V : Nat → Value
  W : Nat → Bool
structure StepT (P : Program) (G : Nat) (call : FuncId → List Value → Hp → CRes) (round : Nat → List Value → Hp → CRes) (ops : Array Oper) (y : Way) (i : Nat) (o : Oper) : Prop where
  want : wantedC ops (y.E i) o.guard = some (y.W i)
  put : putD (y.E i) o.dst (y.V i) = some (y.E (i + 1))
  yes : y.W i = true → drawOne P G call round ops i o (y.E i) (y.H i) (y.A i) (touch G (y.E i) o.op) = .ok (y.V i) (y.H (i + 1)) ∧ y.A (i + 1) = accPut i (y.A i) (y.H i) (y.H (i + 1)) (slotOp o.op) (isNew o.op) (touch G (y.E i) o.op)
  no : y.W i = false → y.V i = undef ∧ y.H (i + 1) = y.H i ∧ y.A (i + 1) = y.A i

theorem runDrawn_cons (o : Oper) (l : List Oper) (i : Nat) (acc : List (Nat × AE)) (e : En) (h : Hp) : runDrawn P G call round ops (o :: l) i acc e h = (match wantedC ops e o.guard with
    | some true => (match drawOne P G call round ops i o e h acc (touch G e o.op) with
      | .ok v h' => (match putD e o.dst v with | some e' => runDrawn P G call round ops l (Nat.succ i) (accPut i acc h h' (slotOp o.op) (isNew o.op) (touch G e o.op)) e' h' | none => .fail)
      | _ => .fail)
    | some false => (match putD e o.dst undef with | some e' => runDrawn P G call round ops l (Nat.succ i) acc e' h | none => .fail)
    | none => .fail) := rfl
theorem way_of : ∀ (l : List Oper) (i : Nat) (acc : List (Nat × AE)) (e e' : En) (h h' : Hp) (x : Ex), runDrawn P G call round ops l i acc e h = .ok x e' h' →
    x = .normal ∧ ∃ y : Way, y.E i = e ∧ y.H i = h ∧ y.A i = acc ∧ y.E (i + l.length) = e' ∧ y.H (i + l.length) = h' ∧ ∀ j o, l[j]? = some o → StepT P G call round ops y (i + j) o
  | [], i, acc, e, e', h, h', x, hr => by
    have hr' : Res.ok Ex.normal e h = .ok x e' h' := hr
    simp only [Res.ok.injEq] at hr'
    obtain ⟨rfl, rfl, rfl⟩ := hr'
    exact ⟨rfl, ⟨fun _ => e, fun _ => h, fun _ => acc, fun _ => undef, fun _ => false⟩, rfl, rfl, rfl, rfl, rfl, fun j o hj => by simp at hj⟩
  | o :: l, i, acc, e, e', h, h', x, hr => by
    rw [runDrawn_cons] at hr
    have key : ∀ (b : Bool) (v : Value) (acc1 : List (Nat × AE)) (e1 : En) (h1 : Hp), wantedC ops e o.guard = some b → putD e o.dst v = some e1 → (b = true → drawOne P G call round ops i o e h acc (touch G e o.op) = .ok v h1 ∧ acc1 = accPut i acc h h1 (slotOp o.op) (isNew o.op) (touch G e o.op)) → (b = false → v = undef ∧ h1 = h ∧ acc1 = acc) →
        runDrawn P G call round ops l (i + 1) acc1 e1 h1 = .ok x e' h' → x = .normal ∧ ∃ y : Way, y.E i = e ∧ y.H i = h ∧ y.A i = acc ∧ y.E (i + (o :: l).length) = e' ∧ y.H (i + (o :: l).length) = h' ∧ ∀ j o', (o :: l)[j]? = some o' → StepT P G call round ops y (i + j) o' := by
      intro b v acc1 e1 h1 k1 k2 k3 k4 k5
      obtain ⟨hx, y, y1, y2, y3, y4, y5, y6⟩ := way_of l (i + 1) acc1 e1 e' h1 h' x k5
      have hne : ∀ m, ¬ i + 1 + m = i := fun m => by omega
      have hne1 : ¬ i + 1 = i := by omega
      refine ⟨hx, ⟨fun j => if j = i then e else y.E j, fun j => if j = i then h else y.H j, fun j => if j = i then acc else y.A j, fun j => if j = i then v else y.V j, fun j => if j = i then b else y.W j⟩, by simp, by simp, by simp, ?_, ?_, ?_⟩
      · have : ¬ i + (o :: l).length = i := by simp
        simp only [this, if_false]
        rw [show i + (o :: l).length = i + 1 + l.length by simp; omega]; exact y4
      · have : ¬ i + (o :: l).length = i := by simp
        simp only [this, if_false]
        rw [show i + (o :: l).length = i + 1 + l.length by simp; omega]; exact y5
      · intro j o' hj
        cases j with
        | zero =>
          simp at hj; subst hj
          constructor
          · simpa using k1
          · simpa [hne1, y1] using k2
          · intro hb
            have := k3 (by simpa using hb)
            simpa [hne1, y2, y3] using this
          · intro hb
            have := k4 (by simpa using hb)
            simpa [hne1, y2, y3] using this
        | succ j =>
          have := y6 j o' (by simpa using hj)
          have e1 : ¬ i + (j + 1) = i := by omega
          have e2 : ¬ i + (j + 1) + 1 = i := by omega
          rw [show i + 1 + j = i + (j + 1) by omega] at this
          constructor
          · simpa [e1, e2] using this.want
          · simpa [e1, e2] using this.put
          · simpa [e1, e2] using this.yes
          · simpa [e1, e2] using this.no
    split at hr
    · rename_i hw
      split at hr
      · rename_i v h1 hd
        split at hr
        · rename_i e1 hp
          exact key true v _ e1 h1 hw hp (fun _ => ⟨hd, rfl⟩) (fun hh => by cases hh) hr
        · cases hr
      · cases hr
    · rename_i hw
      split at hr
      · rename_i e1 hp
        exact key false undef acc e1 h hw hp (fun hh => by cases hh) (fun _ => ⟨rfl, rfl, rfl⟩) hr
      · cases hr
    · cases hr

/-- the memory is handed through -/
def HU (f : Hp → Out) : Prop := (∀ h, f h = .fail) ∨ ∃ v, ∀ h, f h = .value v h
theorem HU.fail : HU (fun _ => .fail) := .inl fun _ => rfl
theorem HU.val (v : Value) : HU (fun h => .value v h) := .inr ⟨v, fun _ => rfl⟩
theorem HU.ofV (q : Option Value) : HU (fun h => Out.ofV h q) := by
  cases q with
  | none => exact .fail
  | some v => exact .val v
theorem HU.cond (b : Bool) {f g : Hp → Out} (hf : HU f) (hg : HU g) : HU (fun h => cond b (f h) (g h)) := by
  cases b
  · exact hg
  · exact hf
theorem HU.onlyV {f : Hp → Out} (hf : HU f) : HU (fun h => Cx.onlyV (f h)) := by
  rcases hf with hf | ⟨v, hf⟩
  · exact .inl fun h => by show Cx.onlyV (f h) = _; rw [hf h]; rfl
  · exact .inr ⟨v, fun h => by show Cx.onlyV (f h) = _; rw [hf h]; rfl⟩
theorem slot_HU {e : En} {o : Oper} (hs : slotOp o.op = true) : HU (fun h => opC P G e h o) := by
  obtain ⟨dst, op, type, pos, after, guard⟩ := o
  simp only at hs
  cases op with
  | move x => exact (HU.ofV (ev G e x)).onlyV
  | assign x => exact (HU.ofV (ev G e x)).onlyV
  | pick c x y =>
    refine HU.onlyV (f := fun h => opPick e h c x y (ev G)) ?_
    unfold opPick
    split
    · exact .ofV _
    · exact .ofV _
    · exact .fail
  | binOp op t x y t2 =>
    refine HU.onlyV (f := fun h => opBin P G e h op t x y) ?_
    unfold opBin
    split
    · exact .ofV _
    · exact .fail
  | unOp op t x =>
    refine HU.onlyV (f := fun h => opUn P G e h op x) ?_
    unfold opUn
    split
    · exact .cond _ (.ofV _) .fail
    · exact .fail
  | extract t i =>
    refine HU.onlyV (f := fun h => opExtract G e h t i) ?_
    unfold opExtract
    split
    · exact .ofV _
    · exact .fail
  | field s x f =>
    refine HU.onlyV (f := fun h => opField P G e h s x f) ?_
    unfold opField
    split
    · exact .ofV _
    · exact .fail
  | fieldAddr s x f =>
    refine HU.onlyV (f := fun h => opFieldAddr P G e h s x f) ?_
    unfold opFieldAddr
    split
    · split
      · split
        · exact .cond _ (.val _) .fail
        · exact .fail
      · exact .fail
    · exact .fail
  | indexAddr t x y =>
    refine HU.onlyV (f := fun h => opIndexAddr P G e h t x y) ?_
    unfold opIndexAddr
    split
    · unfold idxV
      split
      · split
        · split
          · exact .cond _ (.val _) .fail
          · exact .fail
        · exact .fail
      · split
        · split
          · exact .cond _ (.val _) .fail
          · exact .fail
        · exact .fail
      · exact .fail
    · exact .fail
  | nilCheck x =>
    refine HU.onlyV (f := fun h => nilCheckV h (ev G e x)) ?_
    unfold nilCheckV
    split
    · exact .val _
    · exact .val _
    · exact .val _
    · exact .fail
  | makeFunc fn x y =>
    refine HU.onlyV (f := fun h => opFunc G e h fn x.toList y.toList) ?_
    unfold opFunc
    split
    · exact .val _
    · exact .fail
  | makeInterface t x =>
    refine HU.onlyV (f := fun h => opIface P G e h t x) ?_
    unfold opIface
    split
    · exact .fail
    · exact .val _
    · exact .fail
  | build t ps =>
    refine HU.onlyV (f := fun h => opBuild P G e h t ps.toList) ?_
    unfold opBuild
    split
    · split
      · refine .cond _ ?_ .fail
        split
        · exact .val _
        · exact .fail
      · split
        · split
          · exact .val _
          · exact .fail
        · exact .fail
      · exact .fail
    · exact .fail
  | typeAssert x xt t ok =>
    refine HU.onlyV (f := fun h => opAssert P G e h x t ok) ?_
    unfold opAssert
    have hno : HU (fun h => assertNo P h t ok) := by
      unfold assertNo
      split
      · exact .val _
      · exact .fail
    split
    · exact .fail
    · unfold assertV
      split
      · exact .cond _ (.val _) hno
      · exact hno
      · exact .fail
    · exact .fail
  | index t x y =>
    refine HU.onlyV (f := fun h => opIndex P G e h t x y) ?_
    unfold opIndex
    split
    · exact .cond _ (.ofV _) .fail
    · exact .fail
  | call c =>
    cases hc : c.callee with
    | builtin b =>
      cases b with
      | len =>
        show HU (fun h => opCall P G e h c type)
        unfold opCall
        rw [hc]
        split
        · exact .fail
        · simp only [opBuiltin]
          refine HU.onlyV (f := fun h => opLen P h c.argTypes _) ?_
          unfold opLen
          split
          · split
            · split
              · exact .val _
              · exact .fail
            · exact .fail
          · split
            · split
              · exact .val _
              · exact .fail
            · exact .fail
          · exact .fail
      | _ => exfalso; revert hs; unfold slotOp; split <;> simp_all
    | _ => exfalso; revert hs; unfold slotOp; split <;> simp_all
  | _ => cases hs
/-- one block more, whatever the memory -/
def NU (n : Nat) (f : Hp → Out) : Prop := (∀ h : Hp, h.n = n → f h = .fail) ∨ ∃ v ob, ∀ h : Hp, h.n = n → f h = .value v (h.new ob)
theorem NU.fail {n : Nat} : NU n (fun _ => .fail) := .inl fun _ _ => rfl
theorem NU.outNew {n : Nat} (vs : List Value) : NU n (fun h => Cx.outNew h vs) := .inr ⟨.pointer (some ⟨n, 0, none⟩), .cells vs, fun h hn => by subst hn; rfl⟩
theorem NU.outRow {n : Nat} (vs : List Value) (m es : Nat) : NU n (fun h => Cx.outRow h vs m es) := .inr ⟨.slice (some ⟨n, 0, none⟩) m es, .cells vs, fun h hn => by subst hn; rfl⟩
theorem NU.map {n : Nat} : NU n (fun h => .value (.map (some h.n)) (h.new (.map []))) := .inr ⟨.map (some n), .map [], fun h hn => by subst hn; rfl⟩
theorem NU.cond {n : Nat} (b : Bool) {f g : Hp → Out} (hf : NU n f) (hg : NU n g) : NU n (fun h => cond b (f h) (g h)) := by
  cases b
  · exact hg
  · exact hf
theorem NU.onlyV {n : Nat} {f : Hp → Out} (hf : NU n f) : NU n (fun h => Cx.onlyV (f h)) := by
  rcases hf with hf | ⟨v, ob, hf⟩
  · exact .inl fun h hn => by show Cx.onlyV (f h) = _; rw [hf h hn]; rfl
  · exact .inr ⟨v, ob, fun h hn => by show Cx.onlyV (f h) = _; rw [hf h hn]; rfl⟩
theorem new_NU {e : En} {o : Oper} (hs : isNew o.op = true) (n : Nat) : NU n (fun h => opC P G e h o) := by
  obtain ⟨dst, op, type, pos, after, guard⟩ := o
  simp only at hs
  cases op with
  | alloc t =>
    refine NU.onlyV (f := fun h => opAlloc P h t) ?_
    unfold opAlloc
    split
    · exact .outNew _
    · exact .fail
  | box t x =>
    refine NU.onlyV (f := fun h => opBox G e h x) ?_
    unfold opBox
    split
    · exact .outNew _
    · exact .fail
  | buildSlice t len parts =>
    refine NU.onlyV (f := fun h => opBuildSlice P G e h t len parts.toList) ?_
    unfold opBuildSlice
    split
    · split
      · refine .cond _ ?_ .fail
        split
        · exact .outRow _ _ _
        · exact .fail
      · exact .fail
    · exact .fail
  | makeMap t r =>
    refine NU.onlyV (f := fun h => opMakeMap P G e h t r) ?_
    unfold opMakeMap
    split
    · exact .map
    · split
      · exact .map
      · exact .fail
  | makeSlice t l c =>
    refine NU.onlyV (f := fun h => opMakeSlice P G e h t l c) ?_
    unfold opMakeSlice
    split
    · split
      · exact .cond _ (.outRow _ _ _) .fail
      · exact .fail
    · exact .fail
  | _ => cases hs
/-- an operation that neither reads nor changes memory -/
theorem slot_free {e : En} {h : Hp} {o : Oper} {v : Value} {h' : Hp} (hs : slotOp o.op = true) (hv : opC P G e h o = .value v h') : h' = h ∧ ∀ h2, opC P G e h2 o = .value v h2 := by
  rcases slot_HU (P := P) (G := G) (e := e) hs with hf | ⟨u, hf⟩
  · have hf' : opC P G e h o = .fail := hf h
    rw [hf'] at hv; cases hv
  · have hf' : opC P G e h o = .value u h := hf h
    rw [hf'] at hv
    simp only [Out.value.injEq] at hv
    obtain ⟨rfl, rfl⟩ := hv
    exact ⟨rfl, hf⟩

/-- one operation, somewhere -/
theorem op_exists (hf : SF P G B call) (hrd : SR P G B round) {o : Oper} {e : En} {h h1 : Hp} {v : Value} {μ : Mu} {a : Act} {w : World} (c : Cond G B μ h w) (he : AR μ e a) (ho : opDone call round h (opC P G e h o) = .ok v h1) :
    ∃ μ1 v' w1, VR μ1 v v' ∧ Good B μ h w μ1 h1 w1 := by
  have hok := opC_ok (P := P) c.hr c.hB c.gr he.tr o
  cases hop : opC P G e h o with
  | fail => rw [hop] at ho; cases ho
  | value u h2 =>
    rw [hop] at ho hok
    have ho' : CRes.ok u h2 = .ok v h1 := ho
    simp only [CRes.ok.injEq] at ho'
    obtain ⟨rfl, rfl⟩ := ho'
    obtain ⟨nx, v', w', μ', g1, g2, g3, g4⟩ := hok
    exact ⟨μ', v', w', g3, g4⟩
  | call f args =>
    rw [hop] at ho hok
    obtain ⟨args', g1, g2⟩ := hok
    rcases hf.ok f args h v h1 ho μ args' w c g2 with ⟨v', q1, q2, rfl, _⟩ | ⟨q1, q2⟩
    · exact ⟨μ, v', w, q2, .refl c.hr⟩
    · obtain ⟨z1, z2⟩ := q2 none
      obtain ⟨en, w', fr, ⟨v', μ', rfl, r2, r3⟩, rest⟩ := z2 [] (fun d hd => by simp [Fence.wide] at hd)
      exact ⟨μ', v', w', r2, r3⟩
  | round l args =>
    rw [hop] at ho hok
    obtain ⟨b, p, s, args', g0, g1, g2⟩ := hok
    obtain ⟨f, tmps, as, bd, q1, q2⟩ := hrd.ok l args h v h1 ho μ args' w b p s c g0 g2
    obtain ⟨z1, z2⟩ := q2 none
    obtain ⟨en, w', ⟨v', μ', rfl, r2, r3⟩, rest⟩ := z2 default [] (fun d hd => by simp [Fence.wide] at hd)
    exact ⟨μ', v', w', r2, r3⟩

/-- how low a change went is told otherwise -/
theorem Good.relow {μ μ' : Mu} {h h' : Hp} {w w' : World} (g : Good B μ ⟨h.n, h.t, h.n⟩ w μ' h' w') : Good B μ h w μ' ⟨h'.n, h'.t, cond (Nat.ble h.low h'.low) h.low h'.low⟩ w' := by
  have hlow : cond (Nat.ble h.low h'.low) h.low h'.low ≤ h.low ∧ cond (Nat.ble h.low h'.low) h.low h'.low ≤ h'.low := by
    cases e : Nat.ble h.low h'.low
    · have : ¬ h.low ≤ h'.low := fun hh => by rw [Nat.ble_eq_true_of_le hh] at e; cases e
      simp; omega
    · have : h.low ≤ h'.low := Nat.le_of_ble_eq_true e
      simp; omega
  have s := g.st
  exact ⟨g.hr, ⟨s.le, s.dom, s.n, hlow.1, fun k hk hl => s.kept k hk (Nat.lt_of_lt_of_le hl hlow.2), s.alive, s.os, s.tape, s.output, s.size, fun b hb hno => s.frame b hb fun k p q o e1 e2 e3 => (hno k p q o e1 e2 e3).imp id fun hh => Nat.lt_of_lt_of_le hh hlow.2, fun k b p q hk e => (s.fresh k b p q hk e).imp id fun ⟨k0, p0, s0, o0, h1, h2, h3, h4, h5⟩ => ⟨k0, p0, s0, o0, h1, h2, h3, h4, Nat.le_trans hlow.2 h5⟩⟩⟩
end
end Cx
end Go.Proofs.YtfigbldiffjmbaaGreatDoor
