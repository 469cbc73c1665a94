/- Closed runs: all operations. -/
import Derived.Test.YtfigbldiffjmbaaGreatDoorCn
namespace Go.Proofs.YtfigbldiffjmbaaGreatDoor
namespace Cx
open Go

section
variable {P : Program} {G B : Nat} {μ : Mu} {h : Hp} {w : World} {e : En} {a : Act}

/-- What an operation's answer stands for. -/
def OutOk (P : Program) (B : Nat) (μ : Mu) (h : Hp) (w : World) (s : Sem Next) : Out → Prop
  | .value v h' => ∃ nx v' w' μ', s.run P w = .ok nx w' ∧ ((nx = .value v') ∨ (nx = .skip ∧ v' = undef)) ∧ VR μ' v v' ∧ Good B μ h w μ' h' w'
  | .call f args => ∃ args', s.run P w = (callFunc f args'.toArray).run P w ∧ VRL μ args args'
  | .round l args => ∃ b p q args', μ l = some (b, p, q) ∧ s.run P w = (Instr.yield b args'.toArray).run P w ∧ VRL μ args args'
  | .fail => True

theorem VOk.out {s : Sem Value} {v : Value} {h' : Hp} (hv : VOk P B μ h w s v h') : OutOk P B μ h w (do let x ← s; Pure.pure (Next.value x)) (.value v h') := by
  obtain ⟨v', w', μ', h1, h2, h3⟩ := hv
  exact ⟨.value v', v', w', μ', by simp only [Sem.run_bind, h1, Result.andThen_ok, Sem.run_pure], .inl rfl, h2, h3⟩
theorem UOk.out {s : Sem Unit} {v : Value} {h' : Hp} (hv : UOk P B μ h w s v h') : OutOk P B μ h w (do s; Pure.pure Next.skip) (.value v h') := by
  obtain ⟨rfl, w', μ', h1, h3⟩ := hv
  exact ⟨.skip, undef, w', μ', by simp only [Sem.run_bind, h1, Result.andThen_ok, Sem.run_pure], .inr ⟨rfl, rfl⟩, undef_refl _, h3⟩

theorem nilCheck_ok (hr : HR B μ h.n h.t.get w) (hg : GR G μ) (he : TR μ e a.tmps) {o : Oper} {x : Operand} (ho : o.op = .nilCheck x) {v : Value} {h' : Hp} (hv : nilCheckV h (ev G e x) = .value v h') : OutOk P B μ h w (execOp a.eval o) (.value v h') := by
  obtain ⟨dst, op, type, pos, after, guard⟩ := o
  simp only at ho
  subst ho
  unfold nilCheckV at hv
  split at hv
  · rename_i f x1 x2 hx
    simp at hv; obtain ⟨rfl, rfl⟩ := hv
    have hxe := ev_ok hg he hx
    generalize hxx : a.eval x = x' at hxe
    cases hxe with
    | func f h1 h2 => exact ⟨_, _, w, μ, by simp only [execOp, hxx]; rfl, .inl rfl, .func f h1 h2, .refl hr⟩
  · rename_i ad hx
    simp at hv; obtain ⟨rfl, rfl⟩ := hv
    have hxe := ev_ok hg he hx
    generalize hxx : a.eval x = x' at hxe
    cases hxe with
    | ptr hk => exact ⟨_, _, w, μ, by simp only [execOp, hxx]; rfl, .inl rfl, .ptr hk, .refl hr⟩
  · rename_i f x1 x2 hx
    simp at hv; obtain ⟨rfl, rfl⟩ := hv
    have hxe := ev_ok hg he hx
    generalize hxx : a.eval x = x' at hxe
    cases hxe with
    | yield hk => exact ⟨_, _, w, μ, by simp only [execOp, hxx]; rfl, .inl rfl, .yield hk, .refl hr⟩
  · cases hv

theorem builtin_ok (hr : HR B μ h.n h.t.get w) (hB : B ≤ w.heap.size) {b : Builtin} {argTypes : Array TypeId} {ty : TypeId} {consts : Array Bool} {vs vs' : List Value} {v : Value} {h' : Hp} (hvs : VRL μ vs vs') (hv : opBuiltin P h b argTypes ty vs = .value v h') :
    OutOk P B μ h w (builtin b argTypes ty consts vs'.toArray) (.value v h') := by
  unfold opBuiltin at hv
  split at hv
  · exact (opLen_ok hr hvs hv).out
  · exact (opAppend_ok hr hB hvs hv).out
  · exact (opCopy_ok hr hvs hv).out
  · cases hs : vs.all scalar with
    | false => rw [hs] at hv; cases hv
    | true =>
      rw [hs] at hv
      obtain ⟨h1, rfl⟩ := ofV_inv hv
      obtain ⟨p1, p2⟩ := pureS_ok (w := w) (μ := μ) h1
      rw [hvs.scalars hs]
      exact (VOk.pure hr p1 p2).out
  · cases hs : vs.all scalar with
    | false => rw [hs] at hv; cases hv
    | true =>
      rw [hs] at hv
      obtain ⟨h1, rfl⟩ := ofV_inv hv
      obtain ⟨p1, p2⟩ := pureS_ok (w := w) (μ := μ) h1
      rw [hvs.scalars hs]
      exact (VOk.pure hr p1 p2).out
  · cases hv

theorem opCall_ok (hr : HR B μ h.n h.t.get w) (hB : B ≤ w.heap.size) (hg : GR G μ) (he : TR μ e a.tmps) {o : Oper} {c : Call} (ho : o.op = .call c) : OutOk P B μ h w (execOp a.eval o) (opCall P G e h c o.type) := by
  obtain ⟨dst, op, type, pos, after, guard⟩ := o
  simp only at ho
  subst ho
  simp only
  cases ha : evs G e c.args.toList with
  | none => unfold opCall; rw [ha]; trivial
  | some args =>
    have hargs : VRL μ args (c.args.map a.eval).toList := by simpa using evs_ok hg he ha
    have hx : execOp a.eval ⟨dst, .call c, type, pos, after, guard⟩ = (do let d ← resolve a.eval c type; invoke d.target d.args) := rfl
    rw [hx]
    unfold opCall
    rw [ha]
    simp only
    cases hc : c.callee with
    | invoke r m => trivial
    | builtin b =>
      simp only
      cases hb : opBuiltin P h b c.argTypes type args with
      | value v h' =>
        have := builtin_ok (consts := c.args.map fun | .const _ => true | _ => false) hr hB hargs hb
        simp only [Array.toArray_toList] at this
        have hs : (do let d ← resolve a.eval c type; invoke d.target d.args : Sem Next) = builtin b c.argTypes type (c.args.map fun | .const _ => true | _ => false) (c.args.map a.eval) := by
          simp only [resolve, hc]; rfl
        rw [hs]
        exact this
      | fail => trivial
      | call f as => trivial
      | round f as => trivial
    | value f =>
      simp only
      cases hf : ev G e f with
      | none => trivial
      | some fv =>
        have hfe := ev_ok hg he hf
        cases hfe' : fv with
        | func fn first captured =>
          subst hfe'
          generalize hff : a.eval f = f' at hfe
          cases hfe with
          | func g q1 q2 =>
            rename_i first' captured'
            refine ⟨first'.toList ++ ((c.args.map a.eval).toList ++ captured'.toList), ?_, q1.append (hargs.append q2)⟩
            have hs : (do let d ← resolve a.eval c type; invoke d.target d.args : Sem Next) = callFunc g ((first' ++ c.args.map a.eval) ++ captured') := by
              simp only [resolve, hc, hff, Deferred.ofValue]; rfl
            rw [hs]
            congr 2
            apply Array.ext'; simp
          | yield hk =>
            rename_i l b p q
            refine ⟨b, p, q, (c.args.map a.eval).toList, hk, ?_, by simpa using hargs⟩
            have hs : (do let d ← resolve a.eval c type; invoke d.target d.args : Sem Next) = Instr.yield b (#[] ++ c.args.map a.eval) := by
              simp only [resolve, hc, hff, Deferred.ofValue]; rfl
            rw [hs]
            congr 2
            apply Array.ext'; simp
        | _ => trivial

theorem opAssert_ok (hr : HR B μ h.n h.t.get w) (hg : GR G μ) (he : TR μ e a.tmps) {x : Operand} {xt t : TypeId} {ok : Bool} {v : Value} {h' : Hp} (hv : opAssert P G e h x t ok = .value v h') : VOk P B μ h w (Instr.typeAssert (a.eval x) xt t ok) v h' := by
  unfold opAssert at hv
  split at hv
  · cases hv
  · rename_i u d hnot hx hd
    have hxe := ev_ok hg he hx
    have hno : ∀ (s : Sem Value), assertNo P h t ok = .value v h' → s = (if ok then (do Pure.pure (.tuple #[← zeroValue t, .bool false])) else s) → VOk P B μ h w s v h' := by
      intro s hn hs
      unfold assertNo at hn
      split at hn
      · rename_i z hz
        simp only [Out.value.injEq] at hn
        obtain ⟨rfl, rfl⟩ := hn
        obtain ⟨z1, z2⟩ := run_zero (w := w) t hz
        rw [hs]
        refine .pure hr (v' := .tuple #[z, .bool false]) ?_ (.tuple (.cons (constOk_refl μ z2) (.cons (.bool _) .nil)))
        simp only [if_true, Sem.run_bind, z1, Result.andThen_ok, Sem.run_pure]
      · cases hn
    generalize a.eval x = x' at hxe
    unfold assertV at hv
    split at hv
    · rename_i t' u'
      cases hxe with
      | iface _ hu =>
        rename_i u2
        cases hb : Nat.beq t' t with
        | true =>
          rw [hb] at hv
          simp only [cond_true, Out.value.injEq] at hv
          obtain ⟨rfl, rfl⟩ := hv
          have ht := Nat.eq_of_beq_eq_true hb
          subst ht
          refine .pure hr (v' := if ok then .tuple #[u2, .bool true] else u2) ?_ ?_
          · simp only [Instr.typeAssert, Sem.run_bind, run_underlying _ hd, Result.andThen_ok]
            cases d <;> first | (exact (hnot _ rfl).elim) | (simp only [if_true, Sem.run_pure])
          · cases ok
            · exact hu
            · exact .tuple (.cons hu (.cons (.bool _) .nil))
        | false =>
          rw [hb] at hv
          have ht : ¬ t' = t := fun e => by rw [e, Nat.beq_refl] at hb; cases hb
          have hs : (Instr.typeAssert (.iface t' u2) xt t ok).run P w = ((if ok then (do Pure.pure (.tuple #[← zeroValue t, .bool false])) else runtimePanic (.typeAssertion (some xt) (some t') t "")) : Sem Value).run P w := by
            simp only [Instr.typeAssert, Sem.run_bind, run_underlying _ hd, Result.andThen_ok]
            cases d <;> first | (exact (hnot _ rfl).elim) | (rw [if_neg ht])
          obtain ⟨v', w', μ', q1, q2⟩ := hno (if ok then (do Pure.pure (.tuple #[← zeroValue t, .bool false])) else runtimePanic (.typeAssertion (some xt) (some t') t "")) hv (by cases ok <;> rfl)
          exact ⟨v', w', μ', hs.trans q1, q2⟩
    · cases hxe
      have hs : (Instr.typeAssert .nilIface xt t ok).run P w = ((if ok then (do Pure.pure (.tuple #[← zeroValue t, .bool false])) else runtimePanic (.typeAssertion (some xt) none t "")) : Sem Value).run P w := by
        simp only [Instr.typeAssert, Sem.run_bind, run_underlying _ hd, Result.andThen_ok]
      obtain ⟨v', w', μ', q1, q2⟩ := hno (if ok then (do Pure.pure (.tuple #[← zeroValue t, .bool false])) else runtimePanic (.typeAssertion (some xt) none t "")) hv (by cases ok <;> rfl)
      exact ⟨v', w', μ', hs.trans q1, q2⟩
    · cases hv
  · cases hv
theorem opS_ok (hr : HR B μ h.n h.t.get w) (hB : B ≤ w.heap.size) (hg : GR G μ) (he : TR μ e a.tmps) (o : Oper) {v : Value} {h' : Hp} (hr' : opS P G e h o.op = .value v h') : OutOk P B μ h w (execOp a.eval o) (.value v h') := by
  obtain ⟨dst, op, type, pos, after, guard⟩ := o
  simp only at hr'
  cases op with
  | pick c x y =>
    obtain ⟨v', w', μ', g1, g2, g3⟩ := opPick_ok (P := P) hr hg he hr'
    refine ⟨.value v', v', w', μ', ?_, .inl rfl, g2, g3⟩
    simp only [execOp, Sem.run_bind, Sem.run_pure] at g1 ⊢
    cases hb : (asBool (a.eval c)).run P w with
    | halt x y => rw [hb] at g1; cases g1
    | ok b w1 =>
      rw [hb] at g1
      simp only [Result.andThen_ok, Result.ok.injEq] at g1 ⊢
      exact ⟨by rw [g1.1], g1.2⟩
  | alloc t => exact (opAlloc_ok hr hB hr').out
  | box t x => exact (opBox_ok hr hB hg he hr').out
  | build t ps => exact (opBuild_ok hr hg he hr').out
  | buildSlice t n ps => exact (opBuildSlice_ok hr hB hg he hr').out
  | load t x =>
    have hr2 : (match ev G e x with | some p => Out.ofV h (ld P h t p) | none => .fail) = .value v h' := hr'
    split at hr2
    · rename_i p hp
      obtain ⟨h1, rfl⟩ := ofV_inv hr2
      exact (opLoad_ok hr (ev_ok hg he hp) h1).out
    · cases hr2
  | store t x y => exact (opStore_ok hr hg he hr').out
  | nilCheck x => exact nilCheck_ok hr hg he rfl hr'
  | binOp op t x y t2 => exact (opBin_ok hr hg he hr').out
  | unOp op t x => exact (opUn_ok hr hg he hr').out
  | convert s d x => exact (opConv_ok hr hB hg he hr').out
  | makeInterface t x => exact (opIface_ok hr hg he hr').out
  | makeFunc fn x y => exact (opFunc_ok hr hg he hr').out
  | makeMap t x => exact (opMakeMap_ok hr hB hg he hr').out
  | makeSlice t x y => exact (opMakeSlice_ok hr hB hg he hr').out
  | slice t x lo hi mx => exact (opSlice_ok hr hg he hr').out
  | fieldAddr s x f => exact (opFieldAddr_ok hr hg he hr').out
  | indexAddr t x y => exact (opIndexAddr_ok hr hg he hr').out
  | index t x y => exact (opIndex_ok hr hg he hr').out
  | lookup t x y ok => exact (opLookup_ok hr hg he hr').out
  | mapUpdate t x y z => exact (opMapUpdate_ok hr hg he hr').out
  | extract t i => exact (opExtract_ok hr hg he hr').out
  | field s x f => exact (opField_ok hr hg he hr').out
  | typeAssert x xt t ok => exact (opAssert_ok hr hg he hr').out
  | move x => obtain ⟨h1, rfl⟩ := ofV_inv hr'; exact ⟨_, _, w, μ, rfl, .inl rfl, ev_ok hg he h1, .refl hr⟩
  | assign x => obtain ⟨h1, rfl⟩ := ofV_inv hr'; exact ⟨_, _, w, μ, rfl, .inl rfl, ev_ok hg he h1, .refl hr⟩
  | _ => cases hr'
theorem opC_ok (hr : HR B μ h.n h.t.get w) (hB : B ≤ w.heap.size) (hg : GR G μ) (he : TR μ e a.tmps) (o : Oper) : OutOk P B μ h w (execOp a.eval o) (opC P G e h o) := by
  unfold opC
  split
  · rename_i c hc; exact opCall_ok hr hB hg he hc
  · cases ho : opS P G e h o.op with
    | value v h' => exact opS_ok hr hB hg he o ho
    | _ => trivial
end
end Cx
end Go.Proofs.YtfigbldiffjmbaaGreatDoor
