/- Closed runs: operations, fifth part: slices, maps, builtins. -/
import Derived.Test.YtfigbldiffjmbaaGreatDoorCr
namespace Go.Proofs.YtfigbldiffjmbaaGreatDoor
namespace Cx
open Go

section
variable {P : Program} {G B : Nat} {μ : Mu} {h : Hp} {w : World} {e : En} {a : Act}

theorem elemOf_inv {t el : TypeId} (hel : elemOf P t = some el) : P.underlying t = some (.slice el) := by
  unfold elemOf at hel; split at hel
  · rename_i x hx; simp at hel; rw [hx, hel]
  · cases hel
theorem info_inv {el : TypeId} {n : Nat} {z : Value} {i : TypeInfo} (hn : size P el = some n) (hz : zero P el = some z) (hi : P.info? el = some i) : i.size = n ∧ i.zero = some z := by
  unfold size at hn; unfold zero at hz
  rw [hi] at hn hz
  simp at hn hz
  refine ⟨hn, ?_⟩
  cases hzz : i.zero with
  | none => rw [hzz] at hz; simp at hz
  | some y =>
    rw [hzz] at hz
    cases hc : constOk y <;> simp [hc] at hz
    rw [hz]

theorem opMakeMap_ok (hr : HR B μ h.n h.t.get w) (hB : B ≤ w.heap.size) (hg : GR G μ) (he : TR μ e a.tmps) {t : TypeId} {r : Option Operand} {v : Value} {h' : Hp} (hv : opMakeMap P G e h t r = .value v h') : VOk P B μ h w (Instr.makeMap t (r.map a.eval)) v h' := by
  have key : VOk P B μ h w (do pure (.map (some (← newObj (.map #[] 0))))) (.map (some h.n)) (h.new (.map [])) := by
    refine ⟨.map (some w.heap.size), { w with heap := w.heap.push (.map #[] 0) }, μ.add h.n (w.heap.size, 0, 0), rfl, .map (p := 0) (s := 0) (by simp [Mu.add]), new_ok hr hB _ _ 0 rfl ⟨#[], 0, by simp, .nil⟩⟩
  unfold opMakeMap at hv
  split at hv
  · simp at hv; obtain ⟨rfl, rfl⟩ := hv; exact key
  · rename_i x
    split at hv
    · rename_i k n y z hx hd
      simp at hv; obtain ⟨rfl, rfl⟩ := hv
      have hxe := ev_ok hg he hx
      generalize hxx : a.eval x = x' at hxe
      cases hxe
      obtain ⟨v', w', μ', g1, g2, g3⟩ := key
      refine ⟨v', w', μ', ?_, g2, g3⟩
      rw [← g1]
      simp [Instr.makeMap, run_underlying t hd, hxx, asInt, asIntOf]
    · cases hv

theorem rep_add (z : List Value) (n : Nat) : ∀ m, rep z (m + n) = rep z m ++ rep z n
  | 0 => by simp; rfl
  | m + 1 => by rw [show m + 1 + n = (m + n) + 1 by omega, rep_succ, rep_succ, rep_add z n m, List.append_assoc]
theorem opMakeSlice_ok (hr : HR B μ h.n h.t.get w) (hB : B ≤ w.heap.size) (hg : GR G μ) (he : TR μ e a.tmps) {t : TypeId} {x y : Operand} {v : Value} {h' : Hp} (hv : opMakeSlice P G e h t x y = .value v h') : VOk P B μ h w (Instr.makeSlice t (a.eval x) (a.eval y)) v h' := by
  unfold opMakeSlice at hv
  split at hv
  · rename_i el l c hel hx hy
    split at hv
    · rename_i n z i hn hz hi
      cases hc : (Nat.ble l c && Nat.beq z.cells.size n && Nat.blt 0 n && Nat.ble (Nat.mul c i.bytes) 16777216 && Nat.ble c 16777216) with
      | false => rw [hc] at hv; cases hv
      | true =>
        rw [hc] at hv
        simp only [cond_true, outRow, Out.value.injEq] at hv; obtain ⟨rfl, rfl⟩ := hv
        simp only [Bool.and_eq_true, blt_iff, beqN, decide_eq_true_eq, Nat.ble_eq] at hc
        obtain ⟨⟨⟨⟨c1, c2⟩, c3⟩, c4⟩, c5⟩ := hc
        have c4' : c * i.bytes ≤ 16777216 := c4
        obtain ⟨i1, i2⟩ := info_inv hn hz hi
        have hd := elemOf_inv hel
        have hxe := ev_ok hg he hx
        have hye := ev_ok hg he hy
        generalize a.eval x = x' at hxe
        generalize a.eval y = y' at hye
        cases hxe
        cases hye
        obtain ⟨z1, z2⟩ := run_zero (w := w) el hz
        have hself : VRL μ (rep z.cells.toList l) (rep z.cells.toList l) := rep_refl (VRL.self (constOk_refl μ z2).cells) l
        obtain ⟨μ', g1, g2, g3⟩ := row_new hr hB w rfl rfl rfl rfl el hself (rep z.cells.toList (c - l)) 0 0 ⟨Nat.le_refl _, fun i _ => by omega⟩
        have hcells : madeCells z.cells (c * n) = (rep z.cells.toList l ++ rep z.cells.toList (c - l)).toArray := by
          rw [← rep_add, show l + (c - l) = c by omega, ← c2]
          exact zeros_eq (by omega) c
        have hlen : (rep z.cells.toList l ++ rep z.cells.toList (c - l)).length = c * n := by
          rw [← rep_add, show l + (c - l) = c by omega, rep_length, Array.length_toList, c2]
        refine ⟨.slice (some ⟨w.heap.size, 0, none⟩) l c, _, μ', ?_, VR.slice (o := 0) g1 c1 (.inr ⟨rfl, by rw [hlen]; omega⟩) c3, g3⟩
        have hrun := run_make (P := P) w t el i z hd hi i2 .i64 .i64 (Int.ofNat l) (Int.ofNat c) (by simp) (by simp; omega) (by
          have : ((i.bytes * c : Nat) : Int) ≤ 16777216 := by rw [Nat.mul_comm]; omega
          rw [Int.natCast_mul] at this
          simp only [Int.ofNat_eq_natCast]
          omega) (by simp; omega)
        rw [hrun, i1]
        simp only [Int.ofNat_eq_natCast, Int.toNat_natCast, hcells]
        rfl
    · cases hv
  · cases hv

end
end Cx
end Go.Proofs.YtfigbldiffjmbaaGreatDoor
