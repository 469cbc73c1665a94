/- Closed runs: operations, ninth part: append; all of them. -/
import Derived.Test.YtfigbldiffjmbaaGreatDoorCm
namespace Go.Proofs.YtfigbldiffjmbaaGreatDoor
namespace Cx
open Go

section
variable {P : Program} {G B : Nat} {μ : Mu} {h : Hp} {w : World} {e : En} {a : Act}

theorem zeroCells_length (z : Array Value) (n : Nat) : (Builtin.zeroCells z n).toList.length = n * z.size := by simp [Builtin.zeroCells]

theorem appTo_ok (hr : HR B μ h.n h.t.get w) (hB : B ≤ w.heap.size) {argTypes : Array TypeId} {ty st xt el : TypeId} {i : TypeInfo} {z x' : Value} {es n n' : Nat} {vs news : List Value} {ad : Option Addr} {c : Nat} {sv v : Value} {h' : Hp}
    (h0 : argTypes[0]? = some st) (h1 : argTypes[1]? = some xt) (hd : P.underlying st = some (.slice el)) (hx : sliceOrString P xt = true) (hi : P.info? el = some i) (hz : i.zero = some z) (hsz : i.size = es) (hzs : z.cells.size = es) (hes : 0 < es) (hby : i.bytes ≤ 4096)
    (hlen : ∀ w1 : World, (Builtin.lenOf x').run P w1 = .ok n' w1) (hnews : VRL μ vs news) (hnl : news.length = n' * es) (hfc : ∀ w1 : World, w1.heap = w.heap → (Builtin.firstCells es n' x').run P w1 = .ok news.toArray w1) (hpos : 0 < n') (h63 : n + n' ≤ 16777216)
    (hs : VR μ (.slice ad n c) sv) (hv : appTo h es n c vs (n + n') ad = .value v h') : VOk P B μ h w (Builtin.append_ argTypes ty #[sv, x']) v h' := by
  subst hsz
  have hzl : ∀ m, (Builtin.zeroCells z.cells m).toList.length = m * i.size := fun m => by rw [zeroCells_length, hzs]
  unfold appTo at hv
  split at hv
  · simp only [outRow, Out.value.injEq] at hv; obtain ⟨rfl, rfl⟩ := hv
    cases hs
    obtain ⟨cap, g1, g2⟩ := append_grow (ty := ty) (olds := []) (base := none) (sLen := 0) (sCap := 0) h0 h1 hd hx hi hz hlen hfc (fun _ _ => rfl) (by omega) h63 hby
    obtain ⟨μ', k1, k2, k3⟩ := row_new hr hB { w with drawn := w.drawn + 1 } rfl rfl rfl rfl el hnews (Builtin.zeroCells z.cells (cap - (0 + n'))).toList 0 0 ⟨Nat.le_refl _, fun i _ => by omega⟩
    refine ⟨_, _, μ', g2, ?_, k3⟩
    refine VR.slice (o := 0) k1 g1 (.inr ⟨rfl, ?_⟩) hes
    rw [List.length_append, hnl, hzl, ← Nat.add_mul]
    have : n' + (cap - (0 + n')) = cap := by omega
    rw [this]; omega
  · rename_i k o
    split at hv
    · rename_i us hu
      split at hv
      · rename_i old hold
        cases hc : (vs.all one && Nat.beq c i.size) with
        | false => rw [hc] at hv; cases hv
        | true =>
          rw [hc] at hv
          simp only [cond_true, outRow, Out.value.injEq] at hv; obtain ⟨rfl, rfl⟩ := hv
          simp only [Bool.and_eq_true, beqN, decide_eq_true_eq] at hc
          obtain ⟨c1, rfl⟩ := hc
          cases hs with
          | slice hk hn hcp hp =>
            rename_i b p s cap adr
            obtain ⟨cc, tt, lo, hi', q1, q2, q3, q4, q5⟩ := hr.obj k b p s _ hk hu
            obtain ⟨o1, o2, o3⟩ := cut_get hold
            have o1' : old.length = n * i.size := o1
            have o2' : o + n * i.size ≤ us.length := o2
            by_cases hroom : n + n' ≤ cap
            · obtain ⟨rfl, hcs⟩ := hcp.resolve_left (by omega)
              have hmul : (n + n') * i.size ≤ cap * i.size := Nat.mul_le_mul_right _ hroom
              rw [Nat.add_mul] at hmul
              have hst : (storeCells ((⟨b, p + o, none⟩ : Addr).add (n * i.size)) news 0).run P w = .ok () (w.setCells b (p + o + n * i.size) news) := by
                rw [addA]
                have := run_storeCells_cells (P := P) b (p + o + n * i.size) news 0 w (fun j hj => ?_) (fun j hj => ?_) (hnews.one c1)
                · simpa using this
                · rw [cell_of q1, Nat.add_zero, Array.getElem?_eq_getElem (by omega)]; rfl
                · rw [frozen_of q1, Nat.add_zero]
                  have := q4.2 (p + o + n * i.size + j) (by omega)
                  simpa using this
              have hrun := append_room (P := P) (w := w) (ty := ty) (base := some ⟨b, p + o, none⟩) (sLen := n) (sCap := cap) h0 h1 hd hx hi hlen (hfc w rfl) hroom hst
              obtain ⟨c', k1, k2, k3, k4⟩ := setCells_block news (p + o + n * i.size) w b cc tt (lo, hi') q1
              obtain ⟨r1, r2, r3, r4⟩ := setCells_rest news (p + o + n * i.size) w b
              have hgood := take_ok (o := o) (m := cap * i.size) (q := old ++ vs) hr hk hu r2 r3 r4 r1 (fun b' hne => setCells_other news _ w b b' hne) hcs (fun μ' hle => by
                refine ⟨c', tt, lo, hi', k1, by omega, ?_, ⟨q4.1, fun j hj => q4.2 j (by omega)⟩, fun j u e => ?_⟩
                · rw [List.length_append, o1', ← hnews.length, hnl]; omega
                · by_cases hj : j < old.length
                  · rw [List.getElem?_append_left hj, o3 j (by omega)] at e
                    obtain ⟨u', e1, e2⟩ := q5 (o + j) u e
                    exact ⟨u', by rw [k4 (p + o + j) (by omega), Nat.add_assoc]; exact e1, e2.mono hle⟩
                  · rw [List.getElem?_append_right (by omega)] at e
                    have hjl := (List.getElem?_eq_some_iff.1 e).1
                    obtain ⟨u', e1, e2⟩ := hnews.get (j - old.length) u e
                    have hnl' := hnews.length
                    refine ⟨u', ?_, e2.mono hle⟩
                    have := k3 (j - old.length) (by omega) (by omega)
                    rw [← e1, ← this]
                    congr 1
                    omega)
              refine ⟨_, _, _, hrun, ?_, hgood⟩
              exact VR.slice (k := h.n) (o := 0) (b := b) (p := p + o) (s := cap * i.size) (by simp [Mu.add]) hroom (.inr ⟨rfl, by omega⟩) hes
            · have hkill := kill_ok hr hk hu rfl rfl
              have hfo : ∃ olds, VRL μ old olds ∧ olds.length = n * i.size ∧ ∀ w1 : World, w1.heap = w.heap → (Builtin.firstCells i.size n (.slice (some ⟨b, adr, none⟩) n cap)).run P w1 = .ok olds.toArray w1 := by
                obtain ⟨l', g1, g2, g3⟩ := read_ok q5 hold
                refine ⟨l', g1, g2, fun w1 he => firstCells_some g2 ?_⟩
                rcases hcp with hcp | ⟨rfl, _⟩
                · intro j u e2
                  have := (List.getElem?_eq_some_iff.1 e2).1
                  have hn0 : n = 0 := by omega
                  have g2' : l'.length = n * i.size := g2
                  rw [g2', hn0, Nat.zero_mul] at this
                  omega
                · intro j u e2
                  rw [addA]
                  have hb1 : w1.heap[b]? = some (.cells cc tt (lo, hi')) := by rw [he]; exact q1
                  rw [cell_of hb1]
                  exact g3 j u e2
              obtain ⟨olds, f1, f2, f3⟩ := hfo
              obtain ⟨cap', g1, g2⟩ := append_grow (ty := ty) (olds := olds) (base := some ⟨b, adr, none⟩) (sLen := n) (sCap := cap) h0 h1 hd hx hi hz hlen hfc f3 (by omega) h63 hby
              obtain ⟨μ', k1, k2, k3⟩ := row_new (h := h.set k .dead) hkill.hr hB { w with drawn := w.drawn + 1 } rfl rfl rfl rfl el (f1.append hnews) (Builtin.zeroCells z.cells (cap' - (n + n'))).toList 0 0 ⟨Nat.le_refl _, fun i _ => by omega⟩
              refine ⟨_, _, μ', g2, ?_, Good.trans hr hkill k3⟩
              refine VR.slice (o := 0) k1 g1 (.inr ⟨rfl, ?_⟩) hes
              rw [List.length_append, List.length_append, f2, hnl, hzl, ← Nat.add_mul, ← Nat.add_mul]
              have : n + n' + (cap' - (n + n')) = cap' := by omega
              rw [this]; omega
      · cases hv
    · cases hv
  · cases hv

theorem opAppend_ok (hr : HR B μ h.n h.t.get w) (hB : B ≤ w.heap.size) {argTypes : Array TypeId} {ty : TypeId} {vs vs' : List Value} {v : Value} {h' : Hp} (hvs : VRL μ vs vs') (hv : opAppend P h argTypes vs = .value v h') : VOk P B μ h w (Builtin.append_ argTypes ty vs'.toArray) v h' := by
  unfold opAppend at hv
  split at hv
  · rename_i ad n c x
    split at hv
    · rename_i st xt hst hxt
      split at hv
      · rename_i el hel
        cases hss : sliceOrString P xt with
        | false => rw [hss] at hv; cases hv
        | true =>
          rw [hss] at hv
          simp only [cond_true] at hv
          unfold appBody at hv
          split at hv
          · rename_i es z i hes hz hi
            cases hc : (Nat.blt 0 es && Nat.beq z.cells.size es && Nat.ble i.bytes 4096) with
            | false => rw [hc] at hv; cases hv
            | true =>
              rw [hc] at hv
              simp only [cond_true] at hv
              simp only [Bool.and_eq_true, blt_iff, beqN, decide_eq_true_eq, Nat.ble_eq] at hc
              obtain ⟨⟨c1, c2⟩, c3⟩ := hc
              obtain ⟨i1, i2⟩ := info_inv hes hz hi
              have hd := elemOf_inv hel
              cases hvs with
              | cons r1 t1 =>
                cases t1 with
                | cons r2 t2 =>
                  cases t2
                  rename_i sv x'
                  split at hv
                  · cases hv
                  · rename_i hap
                    simp only [Out.value.injEq] at hv; obtain ⟨rfl, rfl⟩ := hv
                    obtain ⟨m, l', g1, g2, g3, g4⟩ := appX_ok (P := P) hr c1 r2 hap
                    cases g2
                    have hm0 : m = 0 := by
                      have : m * es = 0 := by simpa using g3.symm
                      rcases Nat.mul_eq_zero.1 this with hh | hh <;> omega
                    subst hm0
                    have fin : ∀ base sLen sCap, sv = .slice base sLen sCap → sLen ≤ sCap → VOk P B μ h w (Builtin.append_ argTypes ty #[sv, x']) (.slice ad n c) h := fun base sLen sCap e2 hle => by
                      refine .pure hr (v' := sv) ?_ r1
                      rw [e2]
                      have := append_room (P := P) (w := w) (w' := w) (ty := ty) (base := base) (sLen := sLen) (sCap := sCap) (n := 0) (news := []) hst hxt hd hss hi g1 (by rw [i1]; exact g4 w rfl) (by omega) (by cases base <;> rfl)
                      simpa using this
                    cases r1 with
                    | nilSlice => exact fin none 0 0 rfl (Nat.le_refl _)
                    | slice hk hn hcp hp => exact fin _ _ _ rfl hn
                  · rename_i l hne hap
                    cases hb : Nat.ble (Nat.add n (Nat.div l.length es)) 16777216 with
                    | false => rw [hb] at hv; cases hv
                    | true =>
                      rw [hb] at hv
                      simp only [cond_true] at hv
                      obtain ⟨m, l', g1, g2, g3, g4⟩ := appX_ok (P := P) hr c1 r2 hap
                      have hll := g2.length
                      have hdiv : Nat.div l.length es = m := by
                        rw [← hll, g3]; exact Nat.mul_div_cancel m c1
                      rw [hdiv] at hv hb
                      have hm : 0 < m := by
                        rcases Nat.eq_zero_or_pos m with h0 | h0
                        · rw [h0, Nat.zero_mul, hll] at g3
                          cases l with
                          | nil => exact absurd rfl hne
                          | cons _ _ => simp at g3
                        · exact h0
                      exact appTo_ok hr hB hst hxt hd hss hi i2 i1 c2 c1 c3 g1 g2 g3 g4 hm (Nat.le_of_ble_eq_true hb) r1 hv
          · cases hv
      · cases hv
    · cases hv
  · cases hv
end
end Cx
end Go.Proofs.YtfigbldiffjmbaaGreatDoor
