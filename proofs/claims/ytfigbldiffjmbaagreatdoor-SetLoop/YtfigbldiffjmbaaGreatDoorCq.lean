/- Closed runs: operations, third part: what is reckoned. -/
import Derived.Test.YtfigbldiffjmbaaGreatDoorCp
namespace Go.Proofs.YtfigbldiffjmbaaGreatDoor
namespace Cx
open Go

section
variable {P : Program} {G B : Nat} {μ : Mu} {h : Hp} {w : World} {e : En} {a : Act}

theorem rep_succ (z : List Value) (n : Nat) : rep z (n + 1) = z ++ rep z n := rfl
theorem rep_length (z : List Value) : ∀ n, (rep z n).length = n * z.length
  | 0 => by rw [Nat.zero_mul]; rfl
  | n + 1 => by rw [rep_succ]; simp [rep_length z n, Nat.succ_mul, Nat.add_comm]
theorem rep_get (z : List Value) (hz : 0 < z.length) : ∀ (n i : Nat), i < n * z.length → (rep z n)[i]? = z[i % z.length]?
  | 0, i, hi => by simp at hi
  | n + 1, i, hi => by
    rw [rep_succ]
    by_cases h1 : i < z.length
    · rw [List.getElem?_append_left h1, Nat.mod_eq_of_lt h1]
    · rw [List.getElem?_append_right (by omega), rep_get z hz n (i - z.length) (by rw [Nat.succ_mul] at hi; omega)]
      congr 1
      rw [Nat.mod_eq_sub_mod (by omega : i ≥ z.length)]
theorem rep_refl {z : List Value} (hz : ∀ v ∈ z, VR μ v v) : ∀ n, VRL μ (rep z n) (rep z n)
  | 0 => .nil
  | n + 1 => by rw [rep_succ]; exact (VRL.refl hz).append (rep_refl hz n)
theorem VRL.self {l : List Value} (hl : VRL μ l l) : ∀ v ∈ l, VR μ v v := by
  intro v hv
  obtain ⟨i, hi, e⟩ := List.mem_iff_getElem.1 hv
  obtain ⟨v', h1, h2⟩ := hl.get i v (by rw [List.getElem?_eq_getElem hi, e])
  rw [List.getElem?_eq_getElem hi, e] at h1
  simp at h1; subst h1; exact h2
/-- the zero cells of a row as the model makes them -/
theorem zeros_eq {z : Array Value} (hz : 0 < z.size) (n : Nat) : (Array.range (n * z.size)).map (z[· % z.size]!) = (rep z.toList n).toArray := by
  apply Array.ext_getElem?
  intro i
  by_cases hi : i < n * z.size
  · have hm : i % z.size < z.size := Nat.mod_lt _ hz
    simp [hi, rep_get z.toList (by simpa using hz) n i (by simpa using hi), hm, getElem!_pos]
  · have h1 : (rep z.toList n).length ≤ i := by rw [rep_length]; simp; omega
    simp [hi, List.getElem?_eq_none h1]

theorem opBuildSlice_ok (hr : HR B μ h.n h.t.get w) (hB : B ≤ w.heap.size) (hg : GR G μ) (he : TR μ e a.tmps) {t : TypeId} {len : Nat} {parts : Array (Nat × Operand)} {v : Value} {h' : Hp} (hv : opBuildSlice P G e h t len parts.toList = .value v h') : VOk P B μ h w (Instr.buildSlice t len (parts.map fun (i, x) => (i, a.eval x))) v h' := by
  unfold opBuildSlice at hv
  split at hv
  · rename_i el ps hel hps
    split at hv
    · rename_i n z hn hz
      cases hc : (Nat.beq z.cells.size n && Nat.blt 0 n && Nat.ble (Nat.mul len n) 65536) with
      | false => rw [hc] at hv; cases hv
      | true =>
        rw [hc] at hv
        simp only [cond_true] at hv
        simp only [Bool.and_eq_true, blt_iff, beqN, decide_eq_true_eq] at hc
        obtain ⟨⟨c1, c2⟩, c3⟩ := hc
        have c3' : len * n ≤ 65536 := Nat.le_of_ble_eq_true c3
        split at hv
        · rename_i l hl
          simp [outRow] at hv; obtain ⟨rfl, rfl⟩ := hv
          obtain ⟨z1, z2⟩ := run_zero (w := w) el hz
          have hd : P.underlying t = some (.slice el) := by
            unfold elemOf at hel; split at hel
            · rename_i x hx; simp at hel; rw [hx, hel]
            · cases hel
          have hp := evp_ok hg he hps
          have hpl : (parts.map fun (i, x) => (i, a.eval x)).toList = parts.toList.map fun x => (x.1, a.eval x.2) := by simp
          have hrep : VRL μ (rep z.cells.toList len) (rep z.cells.toList len) := rep_refl (VRL.self (constOk_refl μ z2).cells) len
          obtain ⟨l', g1, g2⟩ := fill_ok (place := fun i => some (i * n, n)) hp _ _ (rep z.cells.toList len).toArray hrep hl
          obtain ⟨μ', k1, k2, k3, k4⟩ := newRow_ok (P := P) hr hB el g2 []
          simp only [List.append_nil, Array.toArray_toList] at k1 k2 k4
          have hlen : l'.size = len * n := by
            have q1 := g2.length
            have : ∀ (ps : List (Nat × Value)) (cells l : List Value), fillL (fun i => some (Nat.mul i n, n)) ps cells = some l → l.length = cells.length := by
              intro ps
              induction ps with
              | nil => intro cells l hf; have hf' : some cells = some l := hf; simp at hf'; rw [hf']
              | cons p ps ih =>
                intro cells l hf
                rw [fillL_cons] at hf
                simp only at hf
                cases hb : Nat.beq p.2.cells.size n with
                | false => rw [hb] at hf; cases hf
                | true =>
                  rw [hb] at hf; simp only [cond_true] at hf
                  split at hf
                  · rename_i r hr'; rw [ih _ _ hf, (over_get hr').1]
                  · cases hf
            have q2 := this _ _ _ hl
            rw [rep_length] at q2
            simp only [Array.length_toList] at q1 q2
            rw [q1, q2, c1]
          refine ⟨.slice (some ⟨w.heap.size, 0, none⟩) len len, _, μ', ?_, ?_, k4⟩
          · have n1 : ¬ len * n > 2 ^ 24 := by omega
            have hcells : (Array.range (len * n)).map (z.cells[· % z.cells.size]!) = (rep z.cells.toList len).toArray := by rw [← c1]; exact zeros_eq (by omega) len
            simp only [Instr.buildSlice, Sem.run_bind, run_underlying t hd, Result.andThen_ok, run_size el hn]
            rw [if_neg n1]
            by_cases h0 : len * n = 0
            · have hl0 : len = 0 := by rcases Nat.mul_eq_zero.1 h0 with h | h <;> omega
              subst hl0
              have e1 : ∀ (q : Array Value), (Array.range 0).map (q[· % q.size]!) = #[] := fun q => by simp
              have e0 : (rep z.cells.toList 0).toArray = #[] := rfl
              rw [e0] at g1
              simp only [Nat.zero_mul, if_true, Sem.run_pure, Result.andThen_ok, e1, hpl, g1, Sem.run_bind, k1]
            · simp only [h0, if_false, Sem.run_bind, z1, Result.andThen_ok, Sem.run_pure, hcells, hpl, g1, k1]
          · exact VR.slice (μ := μ') (k := h.n) (o := 0) (n := len) (es := n) (cap := len) k2 (Nat.le_refl _) (.inr ⟨rfl, by simp [hlen]⟩) c2
        · cases hv
    · cases hv
  · cases hv

theorem scalar_guard {op : BinOp} {t : TypeId} {x y : Operand} {u v : Value} (hu : scalar u = true) : (eqGuard op t x y u v).run P w = .ok () w := by
  unfold eqGuard
  cases op <;> (cases u <;> first | rfl | (simp [scalar] at hu; done) | (cases v <;> rfl))
theorem scalar_VR {v : Value} (hs : scalar v = true) : VR μ v v := by
  cases v <;> first | (simp [scalar] at hs; done) | constructor
theorem pureS_ok {s : Sem Value} {v : Value} (hs : pureS P s = some v) : s.run P w = .ok v w ∧ VR μ v v := by
  unfold pureS at hs
  split at hs
  · rename_i u hu
    cases hc : scalar u with
    | false => rw [hc] at hs; cases hs
    | true => rw [hc] at hs; simp at hs; subst hs; exact ⟨pureRun_ok _ hu w, scalar_VR hc⟩
  · cases hs
theorem bin_run {op : BinOp} {t : TypeId} {x y : Operand} {u u' v : Value} (h1 : (eqGuard op t x y u u').run P w = .ok () w) (h2 : (binOp op t u u').run P w = .ok v w) : (do eqGuard op t x y u u'; binOp op t u u' : Sem Value).run P w = .ok v w := by
  simp only [Sem.run_bind, h1, Result.andThen_ok, h2]
theorem max_succ : Op.maxDepth = 9999 + 1 := rfl
theorem equal_of {t : TypeId} {d : TypeDesc} {u u' : Value} {c r : Bool} (hd : P.underlying t = some d) (hn : nilEq c d u u' = some r) : (Op.equal t u u').run P w = .ok r w := by
  unfold Op.equal
  rw [max_succ]
  unfold nilEq at hn
  split at hn
  all_goals first
    | (simp at hn; subst hn; rw [Op.equalIn]; simp only [Sem.run_bind, run_underlying t hd, Result.andThen_ok]; rfl)
    | (cases c <;> simp at hn; subst hn; rw [Op.equalIn]; simp only [Sem.run_bind, run_underlying t hd, Result.andThen_ok]; rfl)
    | cases hn
theorem nil_guard {op : BinOp} {t : TypeId} {x y : Operand} {d : TypeDesc} {u u' : Value} {r : Bool} (hn : nilEq (isConst x || isConst y) d u u' = some r) : (eqGuard op t x y u u').run P w = .ok () w := by
  unfold nilEq at hn
  split at hn
  all_goals first
    | (cases op <;> rfl)
    | (cases hc : (isConst x || isConst y)
       · rw [hc] at hn; cases hn
       · cases op <;> first | rfl | (cases x <;> cases y <;> first | rfl | (simp [isConst] at hc)))
    | cases hn
theorem bin_eql {t : TypeId} {d : TypeDesc} {u u' : Value} {c r : Bool} (hd : P.underlying t = some d) (hn : nilEq c d u u' = some r) : (binOp .eql t u u').run P w = .ok (.bool r) w := by
  have he := equal_of (w := w) hd hn
  have : binOp .eql t u u' = (do pure (.bool (← Op.equal t u u')) : Sem Value) := by
    unfold nilEq at hn
    split at hn <;> first | rfl | cases hn
  rw [this]
  simp only [Sem.run_bind, he, Result.andThen_ok, Sem.run_pure]
theorem bin_neq {t : TypeId} {d : TypeDesc} {u u' : Value} {c r : Bool} (hd : P.underlying t = some d) (hn : nilEq c d u u' = some r) : (binOp .neq t u u').run P w = .ok (.bool !r) w := by
  have he := equal_of (w := w) hd hn
  have : binOp .neq t u u' = (do pure (.bool (!(← Op.equal t u u'))) : Sem Value) := by
    unfold nilEq at hn
    split at hn <;> first | rfl | cases hn
  rw [this]
  simp only [Sem.run_bind, he, Result.andThen_ok, Sem.run_pure]
theorem nilEq_VR {c r : Bool} {d : TypeDesc} {u u2 x' y' : Value} (r1 : VR μ u x') (r2 : VR μ u2 y') (hn : nilEq c d u u2 = some r) : nilEq c d x' y' = some r := by
  unfold nilEq at hn
  split at hn
  all_goals first
    | (cases r1 <;> cases r2 <;> exact hn)
    | cases hn
theorem opBin_ok (hr : HR B μ h.n h.t.get w) (hg : GR G μ) (he : TR μ e a.tmps) {op : BinOp} {t : TypeId} {x y : Operand} {v : Value} {h' : Hp} (hv : opBin P G e h op t x y = .value v h') : VOk P B μ h w (do eqGuard op t x y (a.eval x) (a.eval y); binOp op t (a.eval x) (a.eval y)) v h' := by
  unfold opBin at hv
  split at hv
  · rename_i u u2 hx hy
    obtain ⟨h1, rfl⟩ := ofV_inv hv
    unfold binV at h1
    have r1 := ev_ok hg he hx
    have r2 := ev_ok hg he hy
    generalize a.eval x = x' at r1
    generalize a.eval y = y' at r2
    cases hs : (scalar u && scalar u2) with
    | true =>
      rw [hs] at h1
      simp only [cond_true] at h1
      simp only [Bool.and_eq_true] at hs
      rw [r1.scalar hs.1, r2.scalar hs.2]
      obtain ⟨p1, p2⟩ := pureS_ok (w := w) (μ := μ) h1
      exact .pure hr (bin_run (scalar_guard hs.1) p1) p2
    | false =>
      rw [hs] at h1
      simp only [cond_false] at h1
      unfold binNil at h1
      split at h1
      · rename_i d hd
        split at h1
        · rename_i r hn
          have hn' := nilEq_VR r1 r2 hn
          split at h1
          · simp at h1; subst h1
            exact .pure hr (bin_run (nil_guard hn') (bin_eql hd hn')) (.bool _)
          · simp at h1; subst h1
            exact .pure hr (bin_run (nil_guard hn') (bin_neq hd hn')) (.bool _)
          · cases h1
        · cases h1
      · cases h1
  · cases hv
end
end Cx
end Go.Proofs.YtfigbldiffjmbaaGreatDoor
