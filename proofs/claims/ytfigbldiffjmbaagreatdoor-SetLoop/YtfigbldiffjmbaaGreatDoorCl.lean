/- Closed runs: operations, seventh part: maps asked and filled, builtins. -/
import Derived.Test.YtfigbldiffjmbaaGreatDoorCt
namespace Go.Proofs.YtfigbldiffjmbaaGreatDoor
namespace Cx
open Go

section
variable {P : Program} {G B : Nat} {μ : Mu} {h : Hp} {w : World} {e : En} {a : Act}

theorem mapTy_inv {t : TypeId} {d : TypeDesc} {el : TypeId} (hm : mapTy P t = some (d, el)) : ∃ key, P.underlying t = some (.map key el) ∧ P.underlying key = some d ∧ (d = .string ∨ ∃ k, d = .int k) := by
  unfold mapTy at hm
  split at hm
  · rename_i key el' ht
    split at hm
    · rename_i hk; simp at hm; obtain ⟨rfl, rfl⟩ := hm; exact ⟨key, ht, hk, .inl rfl⟩
    · rename_i k hk; simp at hm; obtain ⟨rfl, rfl⟩ := hm; exact ⟨key, ht, hk, .inr ⟨k, rfl⟩⟩
    · cases hm
  · cases hm
theorem checkKey_ok {key : TypeId} {d : TypeDesc} (hk : P.underlying key = some d) (hd : d = .string ∨ ∃ k, d = .int k) (b : Bool) (v : Value) : (Instr.checkKey b 10000 key v).run P w = .ok () w := by
  rw [show (10000 : Nat) = 9999 + 1 from rfl, Instr.checkKey]
  simp only [Sem.run_bind, run_underlying key hk, Result.andThen_ok]
  rcases hd with rfl | ⟨k, rfl⟩ <;> rfl
theorem same_scalar {d : TypeDesc} {k p : Value} {b : Bool} (hs : Instr.sameNow d k p = some b) : scalar k = true ∧ scalar p = true := by
  unfold Instr.sameNow at hs
  split at hs <;> first | exact ⟨rfl, rfl⟩ | cases hs
theorem findK_cons (d : TypeDesc) (k : Value) (p : Value × Value) (l : List (Value × Value)) : findK d k (p :: l) = (match Instr.sameNow d k p.1 with
    | some true => some (some p.2)
    | some false => findK d k l
    | none => none) := rfl
theorem find_ok {d : TypeDesc} {k k' : Value} (hk : VR μ k k') : ∀ {l : List (Value × Value)} {l' : List MapEntry}, ER μ l l' → ∀ {r : Option Value}, findK d k l = some r → ∀ i,
    ∃ r', Instr.findNow d k' l' i = some r' ∧ (match r, r' with | none, none => True | some v, some (_, v') => VR μ v v' | _, _ => False)
  | [], _, .nil, r, hf, i => by
    have hf' : some (none : Option Value) = some r := hf
    simp at hf'; subst hf'
    exact ⟨none, rfl, trivial⟩
  | (p, v) :: l, _, .cons hp h1 h2 t, r, hf, i => by
    rw [findK_cons] at hf
    cases hs : Instr.sameNow d k p with
    | none => rw [hs] at hf; cases hf
    | some b =>
      obtain ⟨s1, s2⟩ := same_scalar hs
      have e1 := hk.scalar s1
      have e2 := h1.scalar s2
      rw [hs] at hf
      cases b with
      | true =>
        simp at hf; subst hf
        exact ⟨some (i, _), by rw [Instr.findNow]; rw [e1, e2, hs], h2⟩
      | false =>
        obtain ⟨r', g1, g2⟩ := find_ok hk t hf (i + 1)
        exact ⟨r', by simp only [Instr.findNow]; rw [e1, e2, hs]; rw [← e1]; exact g1, g2⟩
theorem opLookup_ok (hr : HR B μ h.n h.t.get w) (hg : GR G μ) (he : TR μ e a.tmps) {t : TypeId} {x y : Operand} {ok : Bool} {v : Value} {h' : Hp} (hv : opLookup P G e h t x y ok = .value v h') : VOk P B μ h w (Instr.lookup t (a.eval x) (a.eval y) ok) v h' := by
  unfold opLookup at hv
  split at hv
  · rename_i r k d el hx hy hm
    obtain ⟨key, m1, m2, m3⟩ := mapTy_inv hm
    split at hv
    · rename_i es z hes hz
      obtain ⟨z1, z2⟩ := run_zero (w := w) el hz
      have hxe := ev_ok hg he hx
      have hye := ev_ok hg he hy
      generalize a.eval x = x' at hxe
      generalize a.eval y = y' at hye
      cases hxe with
      | map hk =>
        rename_i b p s
        obtain ⟨ents, clock, g1, g2⟩ := hr.obj r b p s _ hk hes
        have hobj : (getObj b).run P w = .ok (.map ents clock) w := by simp [getObj, Sem.run, g1]
        have hck := checkKey_ok (P := P) (w := w) m2 m3 ents.isEmpty y'
        split at hv
        · rename_i u hf
          simp at hv; obtain ⟨rfl, rfl⟩ := hv
          obtain ⟨r', q1, q2⟩ := find_ok hye g2 hf 0
          cases r' with
          | none => exact q2.elim
          | some iv =>
            obtain ⟨i, u'⟩ := iv
            refine .pure hr (v' := if ok then .tuple #[u', .bool true] else u') ?_ ?_
            · simp only [Instr.lookup, Sem.run_bind, run_underlying t m1, Result.andThen_ok, hobj, Sem.run_pure, hck, Instr.findKey, run_underlying key m2, q1]
            · cases ok
              · exact q2
              · exact .tuple (.cons q2 (.cons (.bool _) .nil))
        · rename_i hf
          simp at hv; obtain ⟨rfl, rfl⟩ := hv
          obtain ⟨r', q1, q2⟩ := find_ok hye g2 hf 0
          cases r' with
          | some iv => exact q2.elim
          | none =>
            refine .pure hr (v' := if ok then .tuple #[z, .bool false] else z) ?_ ?_
            · simp only [Instr.lookup, Sem.run_bind, run_underlying t m1, Result.andThen_ok, hobj, Sem.run_pure, hck, Instr.findKey, run_underlying key m2, q1, z1]
            · cases ok
              · exact constOk_refl μ z2
              · exact .tuple (.cons (constOk_refl μ z2) (.cons (.bool _) .nil))
        · cases hv
    · cases hv
  · cases hv

theorem putK_cons (d : TypeDesc) (k v : Value) (p : Value × Value) (l : List (Value × Value)) : putK d k v (p :: l) = (match Instr.sameNow d k p.1 with
    | some true => some ((k, v) :: l)
    | some false => (match putK d k v l with | some r => some (p :: r) | none => none)
    | none => none) := rfl
theorem bytes_beq {x y : ByteArray} (h : (x == y) = true) : x = y := by
  obtain ⟨x⟩ := x
  obtain ⟨y⟩ := y
  have h' : (x == y) = true := h
  rw [eq_of_beq h']
theorem same_bits {d : TypeDesc} {k p : Value} (hs : Instr.sameNow d k p = some true) (n : Nat) : Instr.sameBits n p k = true := by
  unfold Instr.sameNow at hs
  split at hs
  · rename_i j x j' y
    by_cases hj : j = j'
    · subst hj; simp at hs; subst hs
      cases n <;> simp [Instr.sameBits]
    · simp [hj] at hs
  · simp only [Option.some.injEq] at hs
    have hs' := bytes_beq hs
    subst hs'
    cases n <;> simp [Instr.sameBits, hs]
  · simp at hs; subst hs; cases n <;> simp [Instr.sameBits]
  · cases hs
theorem put_ok {d : TypeDesc} {k k' v v' : Value} (hsc : scalar k = true) (hk : VR μ k k') (hv : VR μ v v') (clock : Nat) : ∀ {l : List (Value × Value)} {l' : List MapEntry}, ER μ l l' → ∀ {r : List (Value × Value)}, putK d k v l = some r → ∀ i,
    (∃ j old, Instr.findNow d k' l' i = some (some (i + j, old)) ∧ (∃ en, l'[j]? = some en ∧ Instr.sameBits 10000 en.key k' = true) ∧ ER μ r (l'.modify j fun e => { e with key := k', val := v' })) ∨
    (Instr.findNow d k' l' i = some none ∧ ER μ r (l' ++ [⟨k', v', clock⟩]))
  | [], _, .nil, r, hf, i => by
    have hf' : some [(k, v)] = some r := hf
    simp at hf'; subst hf'
    exact .inr ⟨rfl, .cons hsc hk hv .nil⟩
  | (p, u) :: l, _, .cons hp h1 h2 t, r, hf, i => by
    rename_i p' u' born l'
    rw [putK_cons] at hf
    cases hs : Instr.sameNow d k p with
    | none => rw [hs] at hf; cases hf
    | some b =>
      obtain ⟨s1, s2⟩ := same_scalar hs
      have e1 := hk.scalar s1
      have e2 := h1.scalar s2
      rw [hs] at hf
      cases b with
      | true =>
        simp at hf; subst hf
        refine .inl ⟨0, u', by simp only [Instr.findNow]; rw [e1, e2, hs]; rfl, ⟨⟨p', u', born⟩, rfl, ?_⟩, ?_⟩
        · show Instr.sameBits 10000 p' k' = true
          rw [e1, e2]; exact same_bits hs _
        · exact .cons hsc hk hv t
      | false =>
        simp only at hf
        split at hf
        · rename_i q hq
          simp at hf; subst hf
          rcases put_ok hsc hk hv clock t hq (i + 1) with ⟨j, old, g1, ⟨en, g2, g3⟩, g4⟩ | ⟨g1, g2⟩
          · refine .inl ⟨j + 1, old, ?_, ⟨en, by simpa using g2, g3⟩, ?_⟩
            · simp only [Instr.findNow]; rw [e1, e2, hs]; rw [← e1]; rw [show i + (j + 1) = i + 1 + j by omega]; exact g1
            · simp only [List.modify_succ_cons]
              exact .cons hp h1 h2 g4
          · refine .inr ⟨?_, ?_⟩
            · simp only [Instr.findNow]; rw [e1, e2, hs]; rw [← e1]; exact g1
            · exact .cons hp h1 h2 g2
        · cases hf
theorem opMapUpdate_ok (hr : HR B μ h.n h.t.get w) (hg : GR G μ) (he : TR μ e a.tmps) {t : TypeId} {m x y : Operand} {v : Value} {h' : Hp} (hv : opMapUpdate P G e h t m x y = .value v h') : UOk P B μ h w (Instr.mapUpdate t (a.eval m) (a.eval x) (a.eval y)) v h' := by
  unfold opMapUpdate at hv
  split at hv
  · rename_i r k u hm hx hy
    split at hv
    · rename_i es d el hes hty
      obtain ⟨key, m1, m2, m3⟩ := mapTy_inv hty
      split at hv
      · rename_i es' hput
        simp at hv; obtain ⟨rfl, rfl⟩ := hv
        cases hsc : scalar k with
        | false => rw [hsc] at hput; cases hput
        | true =>
          rw [hsc] at hput
          simp only [cond_true] at hput
          have hme := ev_ok hg he hm
          have hxe := ev_ok hg he hx
          have hye := ev_ok hg he hy
          generalize a.eval m = m' at hme
          generalize a.eval x = x' at hxe
          generalize a.eval y = y' at hye
          cases hme with
          | map hk =>
            rename_i b p s
            obtain ⟨ents, clock, g1, g2⟩ := hr.obj r b p s _ hk hes
            have hb := (hr.lt r b p s hk).2
            have hobj : (getObj b).run P w = .ok (.map ents clock) w := by simp [getObj, Sem.run, g1]
            have hset : ∀ o : Obj, (setObj b o).run P w = .ok () { w with heap := w.heap.setIfInBounds b o } := fun o => by simp [setObj, Sem.run, g1]
            have hck := checkKey_ok (P := P) (w := w) m2 m3 false x'
            have fin : ∀ ents' clock', ER μ es' ents'.toList → Good B μ h w μ (h.set r (.map es')) { w with heap := w.heap.setIfInBounds b (.map ents' clock') } := fun ents' clock' hE => by
              refine set_ok hr hk hes rfl rfl rfl rfl rfl rfl (by simp) (fun b' hne => by simp [Array.getElem?_setIfInBounds_ne (Ne.symm hne)]) ⟨ents', clock', by simp [hb], hE⟩
            rcases put_ok (k' := x') hsc hxe hye clock g2 hput 0 with ⟨j, old, q1, ⟨en, q2, q3⟩, q4⟩ | ⟨q1, q2⟩
            · refine ⟨rfl, _, μ, ?_, fin (ents.modify j fun e => { e with key := x', val := y' }) clock (by simpa using q4)⟩
              have hen : ents[j]? = some en := by simpa using q2
              have hkeep : (Instr.keyThatStays (((ents[j]?).map (·.key)).getD x') x').run P w = .ok x' w := by
                simp [Instr.keyThatStays, hen, q3]
              simp only [Instr.mapUpdate, Sem.run_bind, run_underlying t m1, Result.andThen_ok, hobj, hck, Instr.findKey, run_underlying key m2, q1, Nat.zero_add, Sem.run_pure, hkeep, hset]
            · refine ⟨rfl, _, μ, ?_, fin (ents.push ⟨x', y', clock⟩) (clock + 1) (by simpa using q2)⟩
              simp only [Instr.mapUpdate, Sem.run_bind, run_underlying t m1, Result.andThen_ok, hobj, hck, Instr.findKey, run_underlying key m2, q1, Sem.run_pure, hset]
      · cases hv
    · cases hv
  · cases hv
end
end Cx
end Go.Proofs.YtfigbldiffjmbaaGreatDoor
