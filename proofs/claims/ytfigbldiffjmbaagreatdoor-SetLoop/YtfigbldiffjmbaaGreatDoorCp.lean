/- Closed runs: operations, second part: what is built. -/
import Derived.Test.YtfigbldiffjmbaaGreatDoorCw
import Derived.Laws.Sem
namespace Go.Proofs.YtfigbldiffjmbaaGreatDoor
namespace Cx
open Go

section
variable {P : Program} {G B : Nat} {μ : Mu} {h : Hp} {w : World} {e : En} {a : Act}

/-- values written over cells, one behind the other -/
theorem foldl_set (off : Nat) : ∀ (vs : List Value) (i : Nat) (cells : Array Value), ((vs.zipIdx i).foldl (fun cs (x : Value × Nat) => cs.setIfInBounds (off + x.2) x.1) cells).size = cells.size ∧
    ∀ j, ((vs.zipIdx i).foldl (fun cs (x : Value × Nat) => cs.setIfInBounds (off + x.2) x.1) cells)[j]? = if off + i ≤ j ∧ j < off + i + vs.length ∧ j < cells.size then vs[j - (off + i)]? else cells[j]?
  | [], i, cells => ⟨rfl, fun j => by
    have : ¬ (off + i ≤ j ∧ j < off + i + ([] : List Value).length ∧ j < cells.size) := by simp; omega
    rw [if_neg this]; rfl⟩
  | v :: r, i, cells => by
    obtain ⟨h1, h2⟩ := foldl_set off r (i + 1) (cells.setIfInBounds (off + i) v)
    refine ⟨by simpa using h1, fun j => ?_⟩
    simp only [List.zipIdx_cons, List.foldl_cons]
    rw [h2 j]
    by_cases hj : j = off + i
    · subst hj
      have c1 : ¬ (off + (i + 1) ≤ off + i ∧ off + i < off + (i + 1) + r.length ∧ off + i < (cells.setIfInBounds (off + i) v).size) := by omega
      rw [if_neg c1]
      by_cases hlt : off + i < cells.size
      · simp [hlt]
      · simp [hlt]
    · by_cases hin : off + i < j ∧ j < off + i + 1 + r.length ∧ j < cells.size
      · have c1 : off + (i + 1) ≤ j ∧ j < off + (i + 1) + r.length ∧ j < (cells.setIfInBounds (off + i) v).size := by simp; omega
        have c2 : off + i ≤ j ∧ j < off + i + (v :: r).length ∧ j < cells.size := by simp; omega
        rw [if_pos c1, if_pos c2]
        rw [show j - (off + i) = (j - (off + (i + 1))) + 1 by omega]
        simp
      · have c1 : ¬ (off + (i + 1) ≤ j ∧ j < off + (i + 1) + r.length ∧ j < (cells.setIfInBounds (off + i) v).size) := by simp; omega
        have c2 : ¬ (off + i ≤ j ∧ j < off + i + (v :: r).length ∧ j < cells.size) := by simp; omega
        rw [if_neg c1, if_neg c2, Array.getElem?_setIfInBounds_ne (by omega)]

theorem fillL_cons (place : Nat → Option (Nat × Nat)) (p : Nat × Value) (ps : List (Nat × Value)) (cells : List Value) : fillL place (p :: ps) cells = (match place p.1 with
    | some q => cond (Nat.beq p.2.cells.size q.2) (match over cells q.1 p.2.cells.toList with | some r => fillL place ps r | none => none) none
    | none => none) := rfl
theorem fill_ok {place : Nat → Option (Nat × Nat)} : ∀ {ps ps' : List (Nat × Value)} (_ : PRL μ ps ps') (cells l : List Value) (cells' : Array Value), VRL μ cells cells'.toList → fillL place ps cells = some l →
    ∃ l', Instr.fill place cells' ps' = some l' ∧ VRL μ l l'.toList
  | [], _, .nil, cells, l, cells', hc, hf => by
    have hf' : some cells = some l := hf
    simp at hf'; subst hf'
    exact ⟨cells', rfl, hc⟩
  | (i, v) :: ps, (_, v') :: ps', .cons hv ht, cells, l, cells', hc, hf => by
    rw [fillL_cons] at hf
    split at hf
    · rename_i q hq
      obtain ⟨o, n⟩ := q
      rw [beqN] at hf
      by_cases hs : v.cells.size = n
      · simp only [hs, decide_true, cond_true] at hf
        split at hf
        · rename_i r hr
          obtain ⟨g1, g2, g3, g4⟩ := over_get hr
          have hvl := hv.cells.length
          have hcl := hc.length
          simp at hvl hcl g2
          obtain ⟨k1, k2⟩ := foldl_set o v'.cells.toList 0 cells'
          have hfold : v'.cells.zipIdx.foldl (fun cs (x : Value × Nat) => cs.setIfInBounds (o + x.2) x.1) cells' = (v'.cells.toList.zipIdx 0).foldl (fun cs (x : Value × Nat) => cs.setIfInBounds (o + x.2) x.1) cells' := by
            rw [← Array.foldl_toList, Array.toList_zipIdx]
          have hnew : VRL μ r (v'.cells.zipIdx.foldl (fun cs (x : Value × Nat) => cs.setIfInBounds (o + x.2) x.1) cells').toList := by
            rw [hfold]
            refine VRL.of (by simp [k1]; omega) fun j u e => ?_
            have hj : j < cells.length := by rw [← g1]; exact (List.getElem?_eq_some_iff.1 e).1
            rw [Array.getElem?_toList, k2 j]
            by_cases hin : o ≤ j ∧ j < o + v.cells.size
            · have c1 : o + 0 ≤ j ∧ j < o + 0 + v'.cells.toList.length ∧ j < cells'.size := by simp; omega
              rw [if_pos c1]
              obtain ⟨m, rfl⟩ : ∃ m, j = o + m := ⟨j - o, by omega⟩
              rw [g3 m (by simp; omega)] at e
              obtain ⟨u', e1, e2⟩ := hv.cells.get m u e
              exact ⟨u', by rw [show o + m - (o + 0) = m by omega]; exact e1, e2⟩
            · have c1 : ¬ (o + 0 ≤ j ∧ j < o + 0 + v'.cells.toList.length ∧ j < cells'.size) := by simp; omega
              rw [if_neg c1]
              rw [g4 j (by simp; omega)] at e
              obtain ⟨u', e1, e2⟩ := hc.get j u e
              exact ⟨u', by simpa using e1, e2⟩
          obtain ⟨l', m1, m2⟩ := fill_ok ht r l _ hnew hf
          refine ⟨l', ?_, m2⟩
          have n1 : ¬ (v'.cells.size ≠ n || o + v'.cells.size > cells'.size) = true := by simp; omega
          simp only [Instr.fill, hq]
          rw [if_neg n1]
          exact m1
        · cases hf
      · simp [hs] at hf
    · cases hf

theorem mapM_list {α β : Type} (f : α → Sem β) (g : α → β) : ∀ (l : List α), (∀ x ∈ l, (f x).run P w = .ok (g x) w) → (l.mapM f).run P w = .ok (l.map g) w
  | [], _ => by simp
  | x :: l, hf => by
    rw [List.mapM_cons]
    simp only [Sem.run_bind, hf x (by simp), Result.andThen_ok, mapM_list f g l fun y hy => hf y (by simp [hy])]
    rfl
theorem mapM_array {α β : Type} (fs : Array α) (f : α → Sem β) (g : α → β) (hf : ∀ x ∈ fs.toList, (f x).run P w = .ok (g x) w) : (fs.mapM f).run P w = .ok (fs.map g) w := by
  rw [Array.mapM_eq_mapM_toList, Sem.run_map, mapM_list f g fs.toList hf, Result.andThen_ok]
  congr 1
  rw [← Array.toList_map]

theorem opBuild_ok (hr : HR B μ h.n h.t.get w) (hg : GR G μ) (he : TR μ e a.tmps) {t : TypeId} {parts : Array (Nat × Operand)} {v : Value} {h' : Hp} (hv : opBuild P G e h t parts.toList = .value v h') : VOk P B μ h w (Instr.build t (parts.map fun (i, x) => (i, a.eval x))) v h' := by
  unfold opBuild at hv
  split at hv
  · rename_i z ps hz hps
    obtain ⟨z1, z2⟩ := run_zero (w := w) t hz
    have hp := evp_ok hg he hps
    have hpl : (parts.map fun (i, x) => (i, a.eval x)).toList = parts.toList.map fun x => (x.1, a.eval x.2) := by simp
    have hzz := (constOk_refl μ z2).cells
    split at hv
    · rename_i fs hd
      cases hs : sizesOk P fs with
      | false => rw [hs] at hv; cases hv
      | true =>
        rw [hs] at hv
        simp only [cond_true] at hv
        split at hv
        · rename_i l hl
          simp at hv; obtain ⟨rfl, rfl⟩ := hv
          have hsz : ∀ f ∈ fs.toList, ∃ n, size P f.type = some n := fun f hf => Option.isSome_iff_exists.1 (List.all_eq_true.1 hs f hf)
          have hmap := mapM_array (P := P) (w := w) fs (fun f => do pure (f.offset, ← sizeOf f.type)) (fun f => (f.offset, (size P f.type).getD 0)) (fun f hf => by obtain ⟨n, hn⟩ := hsz f hf; simp [run_size f.type hn, hn])
          have hplace : (fun i => (fs.map fun f => (f.offset, (size P f.type).getD 0))[i]?) = placeS P fs := by
            funext i
            unfold placeS
            cases hfi : fs[i]? with
            | none => simp [hfi]
            | some f =>
              have hmem : f ∈ fs.toList := by simpa using Array.mem_of_getElem? hfi
              obtain ⟨n, hn⟩ := hsz f hmem
              simp [hfi, hn]
          obtain ⟨l', g1, g2⟩ := fill_ok hp _ _ z.cells hzz hl
          refine .pure hr (v' := .agg l') ?_ (.agg (by simpa using g2))
          simp only [Instr.build, Sem.run_bind, z1, Result.andThen_ok, run_underlying t hd, hmap, hplace, hpl, g1]
          rfl
        · cases hv
    · rename_i x el hd
      split at hv
      · rename_i n hn
        split at hv
        · rename_i l hl
          simp at hv; obtain ⟨rfl, rfl⟩ := hv
          obtain ⟨l', g1, g2⟩ := fill_ok (place := fun i => some (i * n, n)) hp _ _ z.cells hzz hl
          refine .pure hr (v' := .agg l') ?_ (.agg (by simpa using g2))
          simp only [Instr.build, Sem.run_bind, z1, Result.andThen_ok, run_underlying t hd, run_size el hn, hpl, g1]
          rfl
        · cases hv
      · cases hv
    · cases hv
  · cases hv
end
end Cx
end Go.Proofs.YtfigbldiffjmbaaGreatDoor
