/- Closed runs: operations, fifth part: slices, maps, builtins. -/
import Derived.Test.YtkljlbilhcdjhaaGreatDoorCrm
import Derived.Laws.Append
namespace Go.Proofs.YtkljlbilhcdjhaaGreatDoor
namespace Cx
open Go

section
variable {P : Program} {G : GS} {B : Nat} {μ : Mu} {h : Hp} {w : World} {e : En} {a : Act}

theorem elemOf_inv {t el : TypeId} (hel : elemOf P t = some el) : P.underlying t = some (.slice el) := by
  unfold elemOf at hel; split at hel
  · rename_i x hx; simp at hel; rw [hx, hel]
  · cases hel
theorem info_inv {el : TypeId} {n : Nat} {z : Value} {i : TypeInfo} (hn : size P el = some n) (hz : zero P el = some z) (hi : P.info? el = some i) : i.size = n ∧ i.zero = some z := by
  unfold size at hn; unfold zero at hz
  rw [hi] at hn hz
  simp at hn hz
  refine ⟨hn, ?_⟩
  cases hzz : i.zero with
  | none => rw [hzz] at hz; simp at hz
  | some y =>
    rw [hzz] at hz
    cases hc : constOk y <;> simp [hc] at hz
    rw [hz]

theorem opMakeMap_ok (hr : HR B μ h.n h.t.get w) (hB : B ≤ w.heap.size) (hg : GR G μ) (he : TR μ e a.tmps) {t : TypeId} {r : Option Operand} {v : Value} {h' : Hp} (hv : opMakeMap P G e h t r = .value v h') : VOk P B μ h w (Instr.makeMap t (r.map a.eval)) v h' := by
  have key : VOk P B μ h w (do pure (.map (some (← newObj (.map #[] 0))))) (.map (some h.n)) (h.new (.map [])) := by
    refine ⟨.map (some w.heap.size), { w with heap := w.heap.push (.map #[] 0) }, μ.add h.n (w.heap.size, 0, 0), rfl, .map (p := 0) (s := 0) (by simp [Mu.add]), new_ok hr hB _ _ 0 rfl ⟨#[], 0, by simp, ⟨.nil, fun _ h => (by cases h), ⟨[], .nil, .nil⟩, fun _ h => (by simp at h), .nil⟩⟩⟩
  unfold opMakeMap at hv
  split at hv
  · simp at hv; obtain ⟨rfl, rfl⟩ := hv; exact key
  · rename_i x
    split at hv
    · rename_i k n y z hx hd
      simp at hv; obtain ⟨rfl, rfl⟩ := hv
      have hxe := ev_ok hg he hx
      generalize hxx : a.eval x = x' at hxe
      cases hxe
      obtain ⟨v', w', μ', g1, g2, g3⟩ := key
      refine ⟨v', w', μ', ?_, g2, g3⟩
      rw [← g1]
      simp [Instr.makeMap, run_underlying t hd, hxx, asInt, asIntOf]
    · cases hv

theorem rep_add (z : List Value) (n : Nat) : ∀ m, rep z (m + n) = rep z m ++ rep z n
  | 0 => by simp; rfl
  | m + 1 => by rw [show m + 1 + n = (m + n) + 1 by omega, rep_succ, rep_succ, rep_add z n m, List.append_assoc]
theorem opMakeSlice_ok (hr : HR B μ h.n h.t.get w) (hB : B ≤ w.heap.size) (hg : GR G μ) (he : TR μ e a.tmps) {t : TypeId} {x y : Operand} {v : Value} {h' : Hp} (hv : opMakeSlice P G e h t x y = .value v h') : VOk P B μ h w (Instr.makeSlice t (a.eval x) (a.eval y)) v h' := by
  unfold opMakeSlice at hv
  split at hv
  · rename_i el l c hel hx hy
    split at hv
    · rename_i n z i hn hz hi
      cases hc : (Nat.ble l c && Nat.beq z.cells.size n && Nat.blt 0 n && Nat.ble (Nat.mul c i.bytes) 16777216 && Nat.ble c 16777216) with
      | false => rw [hc] at hv; cases hv
      | true =>
        rw [hc] at hv
        simp only [cond_true, outRow, Out.value.injEq] at hv; obtain ⟨rfl, rfl⟩ := hv
        simp only [Bool.and_eq_true, blt_iff, beqN, decide_eq_true_eq, Nat.ble_eq] at hc
        obtain ⟨⟨⟨⟨c1, c2⟩, c3⟩, c4⟩, c5⟩ := hc
        have c4' : c * i.bytes ≤ 16777216 := c4
        obtain ⟨i1, i2⟩ := info_inv hn hz hi
        have hd := elemOf_inv hel
        have hxe := ev_ok hg he hx
        have hye := ev_ok hg he hy
        generalize a.eval x = x' at hxe
        generalize a.eval y = y' at hye
        cases hxe
        cases hye
        obtain ⟨z1, z2⟩ := run_zero (w := w) el hz
        have hself : VRL μ (rep z.cells.toList l) (rep z.cells.toList l) := rep_refl (VRL.self (constOk_refl μ z2).cells) l
        obtain ⟨μ', g1, g2, g3⟩ := row_new hr hB w rfl rfl rfl rfl el hself (rep z.cells.toList (c - l)) 0 0 ⟨Nat.le_refl _, fun i _ => by omega⟩
        have hcells : madeCells z.cells (c * n) = (rep z.cells.toList l ++ rep z.cells.toList (c - l)).toArray := by
          rw [← rep_add, show l + (c - l) = c by omega, ← c2]
          exact zeros_eq (by omega) c
        have hlen : (rep z.cells.toList l ++ rep z.cells.toList (c - l)).length = c * n := by
          rw [← rep_add, show l + (c - l) = c by omega, rep_length, Array.length_toList, c2]
        refine ⟨.slice (some ⟨w.heap.size, 0, none⟩) l c, _, μ', ?_, VR.slice (o := 0) g1 c1 (.inr ⟨rfl, by rw [hlen]; omega⟩) c3, g3⟩
        have hrun := run_make (P := P) w t el i z hd hi i2 .i64 .i64 (Int.ofNat l) (Int.ofNat c) (by simp) (by simp; omega) (by
          have : ((i.bytes * c : Nat) : Int) ≤ 16777216 := by rw [Nat.mul_comm]; omega
          rw [Int.natCast_mul] at this
          simp only [Int.ofNat_eq_natCast]
          omega) (by simp; omega)
        rw [hrun, i1]
        simp only [Int.ofNat_eq_natCast, Int.toNat_natCast, hcells]
        rfl
    · cases hv
  · cases hv

end
end Cx
end Go.Proofs.YtkljlbilhcdjhaaGreatDoor
namespace Go.Proofs.YtkljlbilhcdjhaaGreatDoor
namespace Cx
open Go

section
variable {P : Program} {G : GS} {B : Nat} {μ : Mu} {h : Hp} {w : World} {e : En} {a : Act}

theorem natOf_VR {v v' : Value} {n : Nat} (hv : VR μ v v') (hn : natOf v = some n) : ∃ k, v' = .int k (.ofNat n) := by
  unfold natOf at hn
  split at hn
  · simp at hn; subst hn; cases hv; exact ⟨_, rfl⟩
  · cases hn
theorem bound_some (hg : GR G μ) (he : TR μ e a.tmps) {d l y : Nat} {x : Operand} {code : BoundsCode} (hb : bound G e d (some x) = some l) (hle : l ≤ y) : (Instr.sliceBound (a.eval x) y code).run P w = .ok l w := by
  have hb' : (match ev G e x with | some v => natOf v | none => none) = some l := hb
  split at hb'
  · rename_i v hv
    obtain ⟨k, hk⟩ := natOf_VR (ev_ok hg he hv) hb'
    have c : 0 ≤ Int.ofNat l ∧ Int.ofNat l ≤ (y : Int) := by constructor <;> simp <;> omega
    simp only [Instr.sliceBound, hk, asIntOf, Sem.run_bind, Sem.run_pure, Result.andThen_ok]
    rw [if_pos c]
    rfl
  · cases hb'
theorem bounds_ok (hg : GR G μ) (he : TR μ e a.tmps) {isSlice : Bool} {l u n cap : Nat} {lo hi : Option Operand} (h1 : bound G e 0 lo = some l) (h2 : bound G e n hi = some u) (hlu : l ≤ u) (hun : u ≤ n) (hnc : n ≤ cap) :
    (Instr.sliceBounds isSlice n cap (lo.map a.eval) (hi.map a.eval) none).run P w = .ok (l, u, cap) w := by
  cases hi with
  | none =>
    have hu : n = u := by have : some n = some u := h2; simpa using this
    subst hu
    cases lo with
    | none =>
      have hl : 0 = l := by have : some 0 = some l := h1; simpa using this
      subst hl
      cases isSlice <;> simp [Instr.sliceBounds]
    | some y =>
      have e2 := fun c2 => bound_some (P := P) (w := w) (code := c2) hg he h1 hlu
      cases isSlice <;> simp [Instr.sliceBounds, e2]
  | some x =>
    have e1 := fun c1 => bound_some (P := P) (w := w) (code := c1) hg he h2 (by omega : u ≤ cap)
    cases lo with
    | none =>
      have hl : 0 = l := by have : some 0 = some l := h1; simpa using this
      subst hl
      cases isSlice <;> simp [Instr.sliceBounds, e1]
    | some y =>
      have e2 := fun c2 => bound_some (P := P) (w := w) (code := c2) hg he h1 hlu
      cases isSlice <;> simp [Instr.sliceBounds, e1, e2]
theorem sliceV_ok (hr : HR B μ h.n h.t.get w) (hg : GR G μ) (he : TR μ e a.tmps) {t : TypeId} {lo hi : Option Operand} {x x' v : Value} {h' : Hp} (hx : VR μ x x') (hv : sliceV P G e h t lo hi x = .value v h') : VOk P B μ h w (Instr.sliceAt t x' (lo.map a.eval) (hi.map a.eval) none) v h' := by
  unfold sliceV at hv
  split at hv
  · rename_i s
    cases hx
    split at hv
    · rename_i l u hd hl hu
      cases hc : (Nat.ble l u && Nat.ble u s.data.toList.length) with
      | false => rw [hc] at hv; cases hv
      | true =>
        rw [hc] at hv
        simp only [cond_true, Out.value.injEq] at hv; obtain ⟨rfl, rfl⟩ := hv
        simp only [Bool.and_eq_true, Nat.ble_eq] at hc
        have hsz : s.size = s.data.toList.length := by rw [Array.length_toList]; rfl
        rw [← hsz] at hc hu
        have hb := bounds_ok (P := P) (w := w) (isSlice := false) (cap := s.size) hg he hl hu hc.1 hc.2 (Nat.le_refl _)
        refine .pure hr (v' := .string (s.extract l u)) ?_ (.string _)
        simp only [Instr.sliceAt, Instr.slice, Sem.run_bind, run_underlying t hd, Result.andThen_ok, Option.isSome_none, Bool.false_eq_true, if_false, hb, Sem.run_pure]
    · cases hv
  · rename_i ad n es
    split at hv
    · rename_i el l u hel hl hu
      cases hc : (Nat.ble l u && Nat.ble u n) with
      | false => rw [hc] at hv; cases hv
      | true =>
        rw [hc] at hv
        simp only [cond_true] at hv
        simp only [Bool.and_eq_true, Nat.ble_eq] at hc
        have hd := elemOf_inv hel
        split at hv
        · rename_i k o
          split at hv
          · rename_i m hm
            cases hme : Nat.beq m es with
            | false => rw [hme] at hv; cases hv
            | true =>
              rw [hme] at hv
              simp only [cond_true, Out.value.injEq] at hv; obtain ⟨rfl, rfl⟩ := hv
              rw [beqN] at hme
              have hme' : m = es := by simpa using hme
              subst hme'
              cases hx with
              | slice hk hn hcap hes =>
                rename_i b p s cap adr
                have hb := bounds_ok (P := P) (w := w) (isSlice := true) (cap := cap) hg he hl hu hc.1 hc.2 hn
                refine .pure hr (v' := .slice (some ⟨b, if cap = l then adr else adr + l * m, none⟩) (u - l) (cap - l)) ?_ (VR.slice hk (by show u - l ≤ cap - l; omega) ?_ hes)
                · simp only [Instr.sliceAt, Instr.slice, Sem.run_bind, run_underlying t hd, Result.andThen_ok, hb, run_size el hm, Sem.run_pure]
                  by_cases hcl : cap = l
                  · simp [hcl]
                  · simp [hcl, addA]
                · by_cases hcl : cap = l
                  · left; omega
                  · right
                    obtain ⟨rfl, h2⟩ := hcap.resolve_left (by omega)
                    simp only [hcl, if_false]
                    have e1 : l * m + (cap - l) * m = cap * m := by rw [← Nat.add_mul]; congr 1; omega
                    exact ⟨by show p + o + l * m = p + (o + l * m); omega, by show o + l * m + (cap - l) * m ≤ s; omega⟩
          · cases hv
        · split at hv
          · rename_i m hm
            simp only [Out.value.injEq] at hv; obtain ⟨rfl, rfl⟩ := hv
            cases hx
            have hu0 : u = 0 := by omega
            have hl0 : l = 0 := by omega
            subst hu0; subst hl0
            have hb := bounds_ok (P := P) (w := w) (isSlice := true) (cap := 0) hg he hl hu (Nat.le_refl _) (Nat.le_refl _) (Nat.le_refl _)
            refine .pure hr (v' := .slice none 0 0) ?_ (.nilSlice 0)
            simp only [Instr.sliceAt, Instr.slice, Sem.run_bind, run_underlying t hd, Result.andThen_ok, hb, run_size el hm, Sem.run_pure]
            rfl
          · cases hv
        · cases hv
    · cases hv
  · rename_i k o
    split at hv
    · rename_i n el hd
      split at hv
      · rename_i es l u hes hl hu
        cases hc : (Nat.ble l u && Nat.ble u n && Nat.blt 0 es && arrIn h k (Nat.add o (Nat.mul n es))) with
        | false => rw [hc] at hv; cases hv
        | true =>
          rw [hc] at hv
          simp only [cond_true, Out.value.injEq] at hv; obtain ⟨rfl, rfl⟩ := hv
          simp only [Bool.and_eq_true, Nat.ble_eq, blt_iff] at hc
          obtain ⟨⟨⟨c1, c2⟩, c3⟩, c4⟩ := hc
          cases hx with
          | ptr hk =>
            rename_i b p s
            have hs : o + n * es ≤ s := by
              unfold arrIn at c4
              split at c4
              · rename_i vs hvs
                obtain ⟨c, ty, lo', hi', q1, q2, q3, _⟩ := hr.obj k b p s _ hk hvs
                have : o + n * es ≤ vs.length := Nat.le_of_ble_eq_true c4
                omega
              · cases c4
            have hb := bounds_ok (P := P) (w := w) (isSlice := false) (cap := n) hg he hl hu c1 c2 (Nat.le_refl _)
            refine .pure hr (v' := .slice (some ⟨b, if n = l then p + o else p + o + l * es, none⟩) (u - l) (n - l)) ?_ (VR.slice hk (by show u - l ≤ n - l; omega) ?_ c3)
            · simp only [Instr.sliceAt, Sem.run_bind, run_underlying t hd, Result.andThen_ok, hb, run_size el hes, Sem.run_pure, Instr.sureAddr]
              by_cases hcl : n = l
              · simp [hcl]
              · simp [hcl, addA]
            · by_cases hcl : n = l
              · left; omega
              · right
                simp only [hcl, if_false]
                have e1 : l * es + (n - l) * es = n * es := by rw [← Nat.add_mul]; congr 1; omega
                exact ⟨by show p + o + l * es = p + (o + l * es); omega, by show o + l * es + (n - l) * es ≤ s; omega⟩
      · cases hv
    · cases hv
  · cases hv
theorem opSlice_ok (hr : HR B μ h.n h.t.get w) (hg : GR G μ) (he : TR μ e a.tmps) {t : TypeId} {x : Operand} {lo hi mx : Option Operand} {v : Value} {h' : Hp} (hv : opSlice P G e h t x lo hi mx = .value v h') : VOk P B μ h w (Instr.sliceAt t (a.eval x) (lo.map a.eval) (hi.map a.eval) (mx.map a.eval)) v h' := by
  unfold opSlice at hv
  split at hv
  · rename_i u hx; exact sliceV_ok hr hg he (ev_ok hg he hx) hv
  · cases hv
theorem opIndexAddr_ok (hr : HR B μ h.n h.t.get w) (hg : GR G μ) (he : TR μ e a.tmps) {t : TypeId} {x y : Operand} {v : Value} {h' : Hp} (hv : opIndexAddr P G e h t x y = .value v h') : VOk P B μ h w (Instr.indexAt t (a.eval x) (a.eval y)) v h' := by
  unfold opIndexAddr at hv
  split at hv
  · rename_i u k i hx hy
    have hye := ev_ok hg he hy
    generalize a.eval y = y' at hye
    cases hye
    exact idxV_ok hr (ev_ok hg he hx) hv
  · cases hv
end
end Cx
end Go.Proofs.YtkljlbilhcdjhaaGreatDoor
namespace Go.Proofs.YtkljlbilhcdjhaaGreatDoor
namespace Cx
open Go

section
variable {P : Program} {G : GS} {B : Nat} {μ : Mu} {h : Hp} {w : World} {e : En} {a : Act}

theorem mapTy_inv {t : TypeId} {d : TypeDesc} {el : TypeId} (hm : mapTy P t = some (d, el)) : ∃ key, P.underlying t = some (.map key el) ∧ P.underlying key = some d ∧ (d = .string ∨ ∃ k, d = .int k) := by
  unfold mapTy at hm
  split at hm
  · rename_i key el' ht
    split at hm
    · rename_i hk; simp at hm; obtain ⟨rfl, rfl⟩ := hm; exact ⟨key, ht, hk, .inl rfl⟩
    · rename_i k hk; simp at hm; obtain ⟨rfl, rfl⟩ := hm; exact ⟨key, ht, hk, .inr ⟨k, rfl⟩⟩
    · cases hm
  · cases hm
theorem checkKey_ok {key : TypeId} {d : TypeDesc} (hk : P.underlying key = some d) (hd : d = .string ∨ ∃ k, d = .int k) (b : Bool) (v : Value) : (Instr.checkKey b 10000 key v).run P w = .ok () w := by
  rw [show (10000 : Nat) = 9999 + 1 from rfl, Instr.checkKey]
  simp only [Sem.run_bind, run_underlying key hk, Result.andThen_ok]
  rcases hd with rfl | ⟨k, rfl⟩ <;> rfl
theorem same_scalar {d : TypeDesc} {k p : Value} {b : Bool} (hs : Instr.sameNow d k p = some b) : scalar k = true ∧ scalar p = true := by
  unfold Instr.sameNow at hs
  split at hs <;> first | exact ⟨rfl, rfl⟩ | cases hs
theorem findK_cons (d : TypeDesc) (k : Value) (p : Value × Value) (l : List (Value × Value)) : findK d k (p :: l) = (match Instr.sameNow d k p.1 with
    | some true => some (some p.2)
    | some false => findK d k l
    | none => none) := rfl
theorem same_true {d : TypeDesc} {k p : Value} (hs : Instr.sameNow d k p = some true) : k = p := by
  unfold Instr.sameNow at hs
  split at hs
  · rename_i j x j' y
    by_cases hj : j = j'
    · subst hj; simp at hs; subst hs; rfl
    · simp [hj] at hs
  · rename_i x y
    simp only [Option.some.injEq] at hs
    have hxy : x = y := by
      obtain ⟨x⟩ := x
      obtain ⟨y⟩ := y
      have h' : (x == y) = true := hs
      rw [eq_of_beq h']
    rw [hxy]
  · simp at hs; subst hs; rfl
  · cases hs
theorem same_refl {d : TypeDesc} {k : Value} {b : Bool} (hs : Instr.sameNow d k k = some b) : b = true := by
  cases k <;> cases d <;> first | (simp only [Instr.sameNow] at hs; cases hs; done) | skip
  all_goals
    simp only [Instr.sameNow, if_true, Option.some.injEq] at hs
    subst hs
    first | exact beq_self_eq_true _ | (rename_i x; show (x.data == x.data) = true; exact beq_self_eq_true _)
theorem same_kind {d : TypeDesc} {k p : Value} {b : Bool} (hs : Instr.sameNow d k p = some b) : kindV k = kindV p := by
  unfold Instr.sameNow at hs
  split at hs
  · rename_i j x j' y
    by_cases hj : j = j'
    · subst hj; rfl
    · simp [hj] at hs
  · rfl
  · rfl
  · cases hs
theorem same_of_kind {d : TypeDesc} {k p q : Value} {b : Bool} (hs : Instr.sameNow d k p = some b) (hq : kindV q = kindV p) : ∃ b', Instr.sameNow d k q = some b' := by
  unfold Instr.sameNow at hs
  split at hs
  · rename_i j x j' y
    by_cases hj : j = j'
    · subst hj
      cases q with
      | int k2 z => simp only [kindV, Value.int.injEq] at hq; obtain ⟨rfl, _⟩ := hq; exact ⟨_, by simp [Instr.sameNow]; rfl⟩
      | _ => simp [kindV] at hq
    · simp [hj] at hs
  · cases q with
    | string z => exact ⟨_, rfl⟩
    | _ => simp [kindV] at hq
  · cases q with
    | bool z => exact ⟨_, rfl⟩
    | _ => simp [kindV] at hq
  · cases hs
theorem findNow_hit {d : TypeDesc} {k : Value} : ∀ (l : List MapEntry) (i : Nat), (∀ en ∈ l, ∃ b, Instr.sameNow d k en.key = some b) → (∃ en ∈ l, Instr.sameNow d k en.key = some true) →
    ∃ j en, l[j]? = some en ∧ Instr.sameNow d k en.key = some true ∧ Instr.findNow d k l i = some (some (i + j, en.val))
  | [], _, _, ⟨en, h, _⟩ => by cases h
  | x :: l, i, ha, he => by
    obtain ⟨b, hb⟩ := ha x (List.mem_cons_self ..)
    cases b with
    | true => exact ⟨0, x, rfl, hb, by simp only [Instr.findNow]; rw [hb]; rfl⟩
    | false =>
      have he' : ∃ en ∈ l, Instr.sameNow d k en.key = some true := by
        obtain ⟨en, h1, h2⟩ := he
        rcases List.mem_cons.1 h1 with rfl | h1
        · rw [hb] at h2; cases h2
        · exact ⟨en, h1, h2⟩
      obtain ⟨j, en, g1, g2, g3⟩ := findNow_hit l (i + 1) (fun en h => ha en (List.mem_cons_of_mem _ h)) he'
      exact ⟨j + 1, en, by simpa using g1, g2, by simp only [Instr.findNow]; rw [hb]; simp only; rw [g3, show i + 1 + j = i + (j + 1) by omega]⟩
theorem findNow_miss {d : TypeDesc} {k : Value} : ∀ (l : List MapEntry) (i : Nat), (∀ en ∈ l, Instr.sameNow d k en.key = some false) → Instr.findNow d k l i = some none
  | [], _, _ => rfl
  | x :: l, i, ha => by
    simp only [Instr.findNow]; rw [ha x (List.mem_cons_self ..)]; exact findNow_miss l (i + 1) fun en h => ha en (List.mem_cons_of_mem _ h)
theorem findK_some {d : TypeDesc} {k v : Value} : ∀ {l : List (Value × Value)}, findK d k l = some (some v) → ∃ p, (p, v) ∈ l ∧ Instr.sameNow d k p = some true
  | [], h => by
    have h' : some (none : Option Value) = some (some v) := h
    simp at h'
  | (p, u) :: l, h => by
    rw [findK_cons] at h
    cases hs : Instr.sameNow d k p with
    | none => rw [hs] at h; cases h
    | some b =>
      rw [hs] at h
      cases b with
      | true => simp at h; subst h; exact ⟨p, List.mem_cons_self .., hs⟩
      | false => obtain ⟨q, h1, h2⟩ := findK_some (l := l) h; exact ⟨q, List.mem_cons_of_mem _ h1, h2⟩
theorem findK_none {d : TypeDesc} {k : Value} : ∀ {l : List (Value × Value)}, findK d k l = some none → ∀ x ∈ l, Instr.sameNow d k x.1 = some false
  | [], _, x, hx => by cases hx
  | (p, u) :: l, h, x, hx => by
    rw [findK_cons] at h
    cases hs : Instr.sameNow d k p with
    | none => rw [hs] at h; cases h
    | some b =>
      rw [hs] at h
      cases b with
      | true => simp at h
      | false =>
        rcases List.mem_cons.1 hx with rfl | hx
        · exact hs
        · exact findK_none (l := l) h x hx
theorem ER.to {l : List (Value × Value)} {l' : List MapEntry} (h : ER μ l l') : ∀ x ∈ l, ∃ en ∈ l', en.key = x.1 ∧ VR μ x.2 en.val ∧ scalar x.1 = true := by
  induction h with
  | nil => intro x hx; cases hx
  | cons hk h1 h2 _ ih =>
    intro x hx
    rcases List.mem_cons.1 hx with rfl | hx
    · exact ⟨_, List.mem_cons_self .., h1.scalar hk, h2, hk⟩
    · obtain ⟨en, g1, g2⟩ := ih x hx
      exact ⟨en, List.mem_cons_of_mem _ g1, g2⟩
theorem ER.of {l : List (Value × Value)} {l' : List MapEntry} (h : ER μ l l') : ∀ en ∈ l', ∃ x ∈ l, en.key = x.1 ∧ VR μ x.2 en.val ∧ scalar x.1 = true := by
  induction h with
  | nil => intro x hx; cases hx
  | cons hk h1 h2 _ ih =>
    intro en hx
    rcases List.mem_cons.1 hx with rfl | hx
    · exact ⟨_, List.mem_cons_self .., h1.scalar hk, h2, hk⟩
    · obtain ⟨en, g1, g2⟩ := ih en hx
      exact ⟨en, List.mem_cons_of_mem _ g1, g2⟩
theorem ME.of {es : List (Value × Value)} {ents : List MapEntry} {c : Nat} (h : ME μ es ents c) : ∀ en ∈ ents, ∃ x ∈ es, en.key = x.1 ∧ VR μ x.2 en.val ∧ scalar x.1 = true := by
  obtain ⟨l, h1, h2⟩ := h.rel
  intro en hen
  exact h2.of en (h1.symm.subset hen)
theorem ME.to {es : List (Value × Value)} {ents : List MapEntry} {c : Nat} (h : ME μ es ents c) : ∀ x ∈ es, ∃ en ∈ ents, en.key = x.1 ∧ VR μ x.2 en.val ∧ scalar x.1 = true := by
  obtain ⟨l, h1, h2⟩ := h.rel
  intro x hx
  obtain ⟨en, g1, g2⟩ := h2.to x hx
  exact ⟨en, h1.subset g1, g2⟩
theorem nodup_of {α β : Type} (f : α → β) : ∀ {es : List α}, (es.map f).Nodup → ∀ {x y : α}, x ∈ es → y ∈ es → f x = f y → x = y
  | [], _, x, _, hx, _, _ => by cases hx
  | z :: es, h, x, y, hx, hy, he => by
    simp only [List.map_cons, List.nodup_cons] at h
    rcases List.mem_cons.1 hx with h1 | h1 <;> rcases List.mem_cons.1 hy with h2 | h2
    · rw [h1, h2]
    · subst h1; exact absurd (List.mem_map.2 ⟨y, h2, he.symm⟩) h.1
    · subst h2; exact absurd (List.mem_map.2 ⟨x, h1, he⟩) h.1
    · exact nodup_of f h.2 h1 h2 he
theorem nodup_fst {es : List (Value × Value)} (h : (es.map (·.1)).Nodup) {x y : Value × Value} (hx : x ∈ es) (hy : y ∈ es) (he : x.1 = y.1) : x = y := nodup_of (·.1) h hx hy he
/-- an entry asked for, whatever the order -/
theorem find_some {d : TypeDesc} {k k' v : Value} (hk : VR μ k k') {es : List (Value × Value)} {ents : List MapEntry} {c : Nat} (hm : ME μ es ents c) (hf : findK d k es = some (some v)) (i : Nat) :
    ∃ j en, ents[j]? = some en ∧ en.key = k ∧ k' = k ∧ Instr.findNow d k' ents i = some (some (i + j, en.val)) ∧ VR μ v en.val := by
  obtain ⟨p, h1, h2⟩ := findK_some hf
  have hkp := same_true h2
  subst hkp
  have e1 := hk.scalar (same_scalar h2).1
  subst e1
  obtain ⟨en0, g1, g2, _⟩ := hm.to _ h1
  obtain ⟨j, en, q1, q2, q3⟩ := findNow_hit (d := d) (k := k') ents i (fun en hen => by
    obtain ⟨x, hx, hx1, _⟩ := hm.of en hen
    rw [hx1]
    exact same_of_kind h2 (hm.kd _ hx _ h1)) ⟨en0, g1, by rw [g2]; exact h2⟩
  obtain ⟨x, hx, hx1, hx2, _⟩ := hm.of en (List.mem_of_getElem? q1)
  have hxe := same_true q2
  have : x = (k', v) := nodup_fst hm.nd hx h1 (by rw [← hx1, ← hxe])
  subst this
  exact ⟨j, en, q1, hxe.symm, rfl, q3, hx2⟩
theorem find_none {d : TypeDesc} {k k' : Value} (hk : VR μ k k') {es : List (Value × Value)} {ents : List MapEntry} {c : Nat} (hm : ME μ es ents c) (hf : findK d k es = some none) (i : Nat) :
    Instr.findNow d k' ents i = some none := by
  refine findNow_miss ents i fun en hen => ?_
  obtain ⟨x, hx, hx1, _⟩ := hm.of en hen
  have h1 := findK_none hf x hx
  rw [hk.scalar (same_scalar h1).1, hx1]
  exact h1
theorem opLookup_ok (hr : HR B μ h.n h.t.get w) (hg : GR G μ) (he : TR μ e a.tmps) {t : TypeId} {x y : Operand} {ok : Bool} {v : Value} {h' : Hp} (hv : opLookup P G e h t x y ok = .value v h') : VOk P B μ h w (Instr.lookup t (a.eval x) (a.eval y) ok) v h' := by
  unfold opLookup at hv
  split at hv
  · rename_i r k d el hx hy hm
    obtain ⟨key, m1, m2, m3⟩ := mapTy_inv hm
    split at hv
    · rename_i es z hes hz
      obtain ⟨z1, z2⟩ := run_zero (w := w) el hz
      have hxe := ev_ok hg he hx
      have hye := ev_ok hg he hy
      generalize a.eval x = x' at hxe
      generalize a.eval y = y' at hye
      cases hxe with
      | map hk =>
        rename_i b p s
        obtain ⟨ents, clock, g1, g2⟩ := hr.obj r b p s _ hk hes
        have hobj : (getObj b).run P w = .ok (.map ents clock) w := by simp [getObj, Sem.run, g1]
        have hck := checkKey_ok (P := P) (w := w) m2 m3 ents.isEmpty y'
        split at hv
        · rename_i u hf
          simp at hv; obtain ⟨rfl, rfl⟩ := hv
          obtain ⟨j, en, _, _, _, q1, q2⟩ := find_some hye g2 hf 0
          refine .pure hr (v' := if ok then .tuple #[en.val, .bool true] else en.val) ?_ ?_
          · simp only [Instr.lookup, Sem.run_bind, run_underlying t m1, Result.andThen_ok, hobj, Sem.run_pure, hck, Instr.findKey, run_underlying key m2, q1]
          · cases ok
            · exact q2
            · exact .tuple (.cons q2 (.cons (.bool _) .nil))
        · rename_i hf
          simp at hv; obtain ⟨rfl, rfl⟩ := hv
          have q1 := find_none hye g2 hf 0
          refine .pure hr (v' := if ok then .tuple #[z, .bool false] else z) ?_ ?_
          · simp only [Instr.lookup, Sem.run_bind, run_underlying t m1, Result.andThen_ok, hobj, Sem.run_pure, hck, Instr.findKey, run_underlying key m2, q1, z1]
          · cases ok
            · exact constOk_refl μ z2
            · exact .tuple (.cons (constOk_refl μ z2) (.cons (.bool _) .nil))
        · cases hv
    · cases hv
  · cases hv

theorem putK_cons (d : TypeDesc) (k v : Value) (p : Value × Value) (l : List (Value × Value)) : putK d k v (p :: l) = (match Instr.sameNow d k p.1 with
    | some true => some ((k, v) :: l)
    | some false => (match putK d k v l with | some r => some (p :: r) | none => none)
    | none => none) := rfl
theorem bytes_beq {x y : ByteArray} (h : (x == y) = true) : x = y := by
  obtain ⟨x⟩ := x
  obtain ⟨y⟩ := y
  have h' : (x == y) = true := h
  rw [eq_of_beq h']
theorem same_bits {d : TypeDesc} {k p : Value} (hs : Instr.sameNow d k p = some true) (n : Nat) : Instr.sameBits n p k = true := by
  unfold Instr.sameNow at hs
  split at hs
  · rename_i j x j' y
    by_cases hj : j = j'
    · subst hj; simp at hs; subst hs
      cases n <;> simp [Instr.sameBits]
    · simp [hj] at hs
  · simp only [Option.some.injEq] at hs
    have hs' := bytes_beq hs
    subst hs'
    cases n <;> simp [Instr.sameBits, hs]
  · simp at hs; subst hs; cases n <;> simp [Instr.sameBits]
  · cases hs
/-- where a key stands in both lists -/
theorem ER.split {l1 l2 : List (Value × Value)} {x : Value × Value} : ∀ {l' : List MapEntry}, ER μ (l1 ++ x :: l2) l' → ∃ m1 en m2, l' = m1 ++ en :: m2 ∧ ER μ l1 m1 ∧ ER μ l2 m2 ∧ en.key = x.1 ∧ VR μ x.2 en.val ∧ scalar x.1 = true := by
  induction l1 with
  | nil => intro l' h; cases h with | cons hk h1 h2 t => exact ⟨[], _, _, rfl, .nil, t, h1.scalar hk, h2, hk⟩
  | cons y l1 ih =>
    intro l' h
    cases h with
    | cons hk h1 h2 t =>
      obtain ⟨m1, en, m2, rfl, g1, g2, g3⟩ := ih t
      exact ⟨_ :: m1, en, m2, rfl, .cons hk h1 h2 g1, g2, g3⟩
theorem ER.append {l1 l2 : List (Value × Value)} {m1 m2 : List MapEntry} (h : ER μ l1 m1) (h2 : ER μ l2 m2) : ER μ (l1 ++ l2) (m1 ++ m2) := by
  induction h with
  | nil => exact h2
  | cons hk g1 g2 _ ih => exact .cons hk g1 g2 ih
theorem scalar_VR' {v : Value} (hs : scalar v = true) : VR μ v v := by
  cases v <;> first | (simp [scalar] at hs; done) | constructor
/-- what a key put makes of the list: it stands for the elder entry, or comes behind all -/
theorem putK_cases {d : TypeDesc} {k v : Value} : ∀ {es r : List (Value × Value)}, putK d k v es = some r →
    (∃ l1 u l2, es = l1 ++ (k, u) :: l2 ∧ r = l1 ++ (k, v) :: l2 ∧ Instr.sameNow d k k = some true) ∨ (r = es ++ [(k, v)] ∧ ∀ x ∈ es, Instr.sameNow d k x.1 = some false)
  | [], r, h => by
    have h' : some [(k, v)] = some r := h
    simp at h'; subst h'
    exact .inr ⟨rfl, fun x hx => by cases hx⟩
  | (p, u) :: es, r, h => by
    rw [putK_cons] at h
    cases hs : Instr.sameNow d k p with
    | none => rw [hs] at h; cases h
    | some b =>
      rw [hs] at h
      cases b with
      | true =>
        have hkp := same_true hs
        subst hkp
        simp at h; subst h
        exact .inl ⟨[], u, es, rfl, rfl, hs⟩
      | false =>
        simp only at h
        split at h
        · rename_i q hq
          simp at h; subst h
          rcases putK_cases hq with ⟨l1, u', l2, rfl, rfl, h3⟩ | ⟨rfl, h2⟩
          · exact .inl ⟨(p, u) :: l1, u', l2, rfl, rfl, h3⟩
          · exact .inr ⟨rfl, fun x hx => by
              rcases List.mem_cons.1 hx with rfl | hx
              · exact hs
              · exact h2 x hx⟩
        · cases h
theorem modify_split {α : Type} (m1 m2 : List α) (x : α) (f : α → α) : (m1 ++ x :: m2).modify m1.length f = m1 ++ f x :: m2 := by
  induction m1 with
  | nil => rfl
  | cons y m1 ih => simp only [List.cons_append, List.length_cons, List.modify_succ_cons]; rw [ih]
theorem put_ok {d : TypeDesc} {k k' v v' : Value} (hsc : scalar k = true) (hk : VR μ k k') (hv : VR μ v v') {clock : Nat} {es r : List (Value × Value)} {ents : List MapEntry} (hm : ME μ es ents clock) (hp : putK d k v es = some r) :
    (∃ j old, Instr.findNow d k' ents 0 = some (some (j, old)) ∧ (∃ en, ents[j]? = some en ∧ Instr.sameBits 10000 en.key k' = true) ∧ ME μ r (ents.modify j fun e => { e with key := k', val := v' }) clock) ∨
    (Instr.findNow d k' ents 0 = some none ∧ ME μ r (ents ++ [⟨k', v', clock⟩]) (clock + 1)) := by
  have e1 := hk.scalar hsc
  subst e1
  rcases putK_cases hp with ⟨l1, u, l2, rfl, rfl, hs⟩ | ⟨rfl, hno⟩
  · refine .inl ?_
    obtain ⟨l, hl, hER⟩ := hm.rel
    have hmem : (k', u) ∈ l1 ++ (k', u) :: l2 := by simp
    obtain ⟨en0, g1, g2, _⟩ := hm.to _ hmem
    obtain ⟨j, en, q1, q2, q3⟩ := findNow_hit (d := d) (k := k') ents 0 (fun en hen => by
      obtain ⟨x, hx, hx1, _⟩ := hm.of en hen
      rw [hx1]
      exact same_of_kind hs (hm.kd _ hx _ hmem)) ⟨en0, g1, by rw [g2]; exact hs⟩
    have hek := same_true q2
    obtain ⟨m1, em, m2, hlm, r1, r2, r3, r4, _⟩ := hER.split
    have hj : j < ents.length := (List.getElem?_eq_some_iff.1 q1).1
    have hsplit : ents = ents.take j ++ en :: ents.drop (j + 1) := by
      have := List.take_append_drop j ents
      rw [List.drop_eq_getElem_cons hj] at this
      have he : ents[j] = en := (List.getElem?_eq_some_iff.1 q1).2
      rw [he] at this
      exact this.symm
    have hmod : (ents.modify j fun e => { e with key := k', val := v' }) = ents.take j ++ { en with key := k', val := v' } :: ents.drop (j + 1) := by
      have h1 := modify_split (ents.take j) (ents.drop (j + 1)) en fun e => { e with key := k', val := v' }
      rw [← hsplit] at h1
      have h2 : (ents.take j).length = j := by simp; omega
      rw [h2] at h1
      exact h1
    have hem : en = em := by
      have h1 : em ∈ ents := hl.subset (by rw [hlm]; simp)
      have h2 : en ∈ l := hl.symm.subset (List.mem_of_getElem? q1)
      -- two entries of one key are one: keys of l are those of es
      have hkeys : (l.map (·.key)) = ((l1 ++ (k', u) :: l2).map (·.1)) := by
        clear hlm r1 r2 r3 r4 h2 hl q1 q2 q3 hek hj hsplit hmod h1
        have : ∀ {a : List (Value × Value)} {b : List MapEntry}, ER μ a b → b.map (·.key) = a.map (·.1) := by
          intro a b h
          induction h with
          | nil => rfl
          | cons hk h1 _ _ ih => simp only [List.map_cons]; rw [ih, h1.scalar hk]
        exact this hER
      have hnd : (l.map (·.key)).Nodup := by rw [hkeys]; exact hm.nd
      have h3 : em ∈ l := by rw [hlm]; simp
      have hke : en.key = em.key := by rw [← hek, r3]
      exact nodup_of (·.key) hnd h2 h3 hke
    subst hem
    refine ⟨j, en.val, by simpa using q3, ⟨en, q1, by rw [← hek]; exact same_bits hs _⟩, ?_⟩
    rw [hmod]
    refine ⟨?_, ?_, ⟨m1 ++ { en with key := k', val := v' } :: m2, ?_, ?_⟩, ?_, ?_⟩
    · have := hm.nd; simp only [List.map_append, List.map_cons] at this ⊢; exact this
    · intro x hx y hy
      have key : ∀ z, z ∈ l1 ++ (k', v) :: l2 → ∃ z' ∈ l1 ++ (k', u) :: l2, z'.1 = z.1 := fun z hz => by
        rcases List.mem_append.1 hz with hz | hz
        · exact ⟨z, List.mem_append.2 (.inl hz), rfl⟩
        · rcases List.mem_cons.1 hz with rfl | hz
          · exact ⟨(k', u), by simp, rfl⟩
          · exact ⟨z, by simp [hz], rfl⟩
      obtain ⟨x', a1, a2⟩ := key x hx
      obtain ⟨y', b1, b2⟩ := key y hy
      rw [← a2, ← b2]; exact hm.kd _ a1 _ b1
    · have hp : (m1 ++ m2).Perm (ents.take j ++ ents.drop (j + 1)) := by
        have h1 : (en :: (m1 ++ m2)).Perm (en :: (ents.take j ++ ents.drop (j + 1))) := by
          refine List.Perm.trans (List.perm_middle.symm) (List.Perm.trans ?_ List.perm_middle)
          rw [← hlm, ← hsplit]; exact hl
        exact List.Perm.cons_inv h1
      exact List.Perm.trans List.perm_middle (List.Perm.trans (List.Perm.cons _ hp) List.perm_middle.symm)
    · exact r1.append (.cons hsc (scalar_VR' hsc) hv r2)
    · intro e he
      rcases List.mem_append.1 he with he | he
      · exact hm.old e (by rw [hsplit]; exact List.mem_append.2 (.inl he))
      · rcases List.mem_cons.1 he with rfl | he
        · exact hm.old en (List.mem_of_getElem? q1)
        · exact hm.old e (by rw [hsplit]; exact List.mem_append.2 (.inr (List.mem_cons_of_mem _ he)))
    · have := hm.bn
      rw [hsplit] at this
      simp only [List.map_append, List.map_cons] at this ⊢
      exact this
  · refine .inr ⟨?_, ?_⟩
    · refine findNow_miss ents 0 fun en hen => ?_
      obtain ⟨x, hx, hx1, _⟩ := hm.of en hen
      rw [hx1]; exact hno x hx
    · obtain ⟨l, hl, hER⟩ := hm.rel
      refine ⟨?_, ?_, ⟨l ++ [⟨k', v', clock⟩], hl.append_right _, hER.append (.cons hsc (scalar_VR' hsc) hv .nil)⟩, ?_, ?_⟩
      · simp only [List.map_append, List.map_cons, List.map_nil]
        rw [List.nodup_append]
        refine ⟨hm.nd, by simp, fun a ha b hb => ?_⟩
        simp at hb; subst hb
        obtain ⟨x, hx, rfl⟩ := List.mem_map.1 ha
        intro hh
        have := hno x hx
        rw [hh] at this
        exact absurd (same_refl this) (by simp)
      · intro x hx y hy
        rcases List.mem_append.1 hx with hx | hx <;> rcases List.mem_append.1 hy with hy | hy
        · exact hm.kd x hx y hy
        · simp at hy; subst hy; exact (same_kind (hno x hx)).symm
        · simp at hx; subst hx; exact same_kind (hno y hy)
        · simp at hx hy; subst hx; subst hy; rfl
      · intro en hen
        rcases List.mem_append.1 hen with hen | hen
        · have := hm.old en hen; omega
        · simp at hen; subst hen; simp
      · simp only [List.map_append, List.map_cons, List.map_nil]
        rw [List.nodup_append]
        refine ⟨hm.bn, by simp, fun a ha b hb => ?_⟩
        simp at hb; subst hb
        obtain ⟨en, hen, rfl⟩ := List.mem_map.1 ha
        have := hm.old en hen
        omega
theorem opMapUpdate_ok (hr : HR B μ h.n h.t.get w) (hg : GR G μ) (he : TR μ e a.tmps) {t : TypeId} {m x y : Operand} {v : Value} {h' : Hp} (hv : opMapUpdate P G e h t m x y = .value v h') : UOk P B μ h w (Instr.mapUpdate t (a.eval m) (a.eval x) (a.eval y)) v h' := by
  unfold opMapUpdate at hv
  split at hv
  · rename_i r k u hm hx hy
    split at hv
    · rename_i es d el hes hty
      obtain ⟨key, m1, m2, m3⟩ := mapTy_inv hty
      split at hv
      · rename_i es' hput
        simp at hv; obtain ⟨rfl, rfl⟩ := hv
        cases hsc : scalar k with
        | false => rw [hsc] at hput; cases hput
        | true =>
          rw [hsc] at hput
          simp only [cond_true] at hput
          have hme := ev_ok hg he hm
          have hxe := ev_ok hg he hx
          have hye := ev_ok hg he hy
          generalize a.eval m = m' at hme
          generalize a.eval x = x' at hxe
          generalize a.eval y = y' at hye
          cases hme with
          | map hk =>
            rename_i b p s
            obtain ⟨ents, clock, g1, g2⟩ := hr.obj r b p s _ hk hes
            have hb := (hr.lt r b p s hk).2
            have hobj : (getObj b).run P w = .ok (.map ents clock) w := by simp [getObj, Sem.run, g1]
            have hset : ∀ o : Obj, (setObj b o).run P w = .ok () { w with heap := w.heap.setIfInBounds b o } := fun o => by simp [setObj, Sem.run, g1]
            have hck := checkKey_ok (P := P) (w := w) m2 m3 false x'
            have fin : ∀ ents' clock', ME μ es' ents'.toList clock' → Good B μ h w μ (h.set r (.map es')) { w with heap := w.heap.setIfInBounds b (.map ents' clock') } := fun ents' clock' hE => by
              refine set_ok hr hk hes rfl rfl rfl rfl rfl rfl (by simp) (fun b' hne => by simp [Array.getElem?_setIfInBounds_ne (Ne.symm hne)]) ⟨ents', clock', by simp [hb], hE⟩
            rcases put_ok (k' := x') hsc hxe hye g2 hput with ⟨j, old, q1, ⟨en, q2, q3⟩, q4⟩ | ⟨q1, q2⟩
            · refine ⟨rfl, _, μ, ?_, fin (ents.modify j fun e => { e with key := x', val := y' }) clock (by simpa using q4)⟩
              have hen : ents[j]? = some en := by simpa using q2
              have hkeep : (Instr.keyThatStays (((ents[j]?).map (·.key)).getD x') x').run P w = .ok x' w := by
                simp [Instr.keyThatStays, hen, q3]
              simp only [Instr.mapUpdate, Sem.run_bind, run_underlying t m1, Result.andThen_ok, hobj, hck, Instr.findKey, run_underlying key m2, q1, Sem.run_pure, hkeep, hset]
            · refine ⟨rfl, _, μ, ?_, fin (ents.push ⟨x', y', clock⟩) (clock + 1) (by simpa using q2)⟩
              simp only [Instr.mapUpdate, Sem.run_bind, run_underlying t m1, Result.andThen_ok, hobj, hck, Instr.findKey, run_underlying key m2, q1, Sem.run_pure, hset]
      · cases hv
    · cases hv
  · cases hv
end
end Cx
end Go.Proofs.YtkljlbilhcdjhaaGreatDoor
namespace Go.Proofs.YtkljlbilhcdjhaaGreatDoor
namespace Cx
open Go

section
variable {P : Program} {G : GS} {B : Nat} {μ : Mu} {h : Hp} {w : World} {e : En} {a : Act}

theorem opLen_ok (hr : HR B μ h.n h.t.get w) {argTypes : Array TypeId} {ty : TypeId} {vs vs' : List Value} {v : Value} {h' : Hp} (hvs : VRL μ vs vs') (hv : opLen P h argTypes vs = .value v h') : VOk P B μ h w (Builtin.len_ argTypes ty vs'.toArray) v h' := by
  unfold opLen at hv
  split at hv
  · rename_i ad n es
    split at hv
    · rename_i t ht
      split at hv
      · rename_i el hd
        simp at hv; obtain ⟨rfl, rfl⟩ := hv
        cases hvs with
        | cons h1 t1 =>
          cases t1
          cases h1 with
          | nilSlice => exact .pure hr (v' := .int .i64 (0 : Nat)) (by simp [Builtin.len_, ht, run_underlying t hd, goInt]) (.int _ _)
          | slice => exact .pure hr (v' := .int .i64 n) (by simp [Builtin.len_, ht, run_underlying t hd, goInt]) (.int _ _)
      · cases hv
    · cases hv
  · rename_i s
    split at hv
    · rename_i t ht
      split at hv
      · rename_i hd
        simp only [Out.value.injEq] at hv; obtain ⟨rfl, rfl⟩ := hv
        have hsz : s.size = s.data.toList.length := by rw [Array.length_toList]; rfl
        cases hvs with
        | cons h1 t1 =>
          cases t1
          cases h1
          exact .pure hr (v' := .int .i64 s.size) (by simp [Builtin.len_, ht, run_underlying t hd, goInt]) (by rw [hsz]; exact .int _ _)
      · cases hv
    · cases hv
  · cases hv

theorem firstCells_some {sz n m c : Nat} {ad : Addr} {l : List Value} (hl : l.length = n * sz) (hc : ∀ (j : Nat) (v : Value), l[j]? = some v → w.cell? (ad.add j) = some v) : (Builtin.firstCells sz n (.slice (some ad) m c)).run P w = .ok l.toArray w := by
  have := run_loadCells_list (P := P) w ad l hc
  rw [hl] at this
  exact this

theorem opCopy_ok (hr : HR B μ h.n h.t.get w) {argTypes : Array TypeId} {ty : TypeId} {vs vs' : List Value} {v : Value} {h' : Hp} (hvs : VRL μ vs vs') (hv : opCopy P h argTypes vs = .value v h') : VOk P B μ h w (Builtin.copy_ argTypes ty vs'.toArray) v h' := by
  unfold opCopy at hv
  split at hv
  · rename_i k o n es1 k' o' n' es2
    split at hv
    · rename_i st hst
      split at hv
      · rename_i el hel
        split at hv
        · rename_i es hes
          have hd := elemOf_inv hel
          cases hvs with
          | cons h1 t1 =>
            cases t1 with
            | cons h2 t2 =>
              cases t2
              cases h1 with
              | slice hk hn hc hp =>
                rename_i b p s cap adr
                cases h2 with
                | slice hk' hn' hc' hp' =>
                  rename_i b' p' s' cap' adr'
                  obtain ⟨m, hm⟩ : ∃ m, m = cond (Nat.ble n' n) n' n := ⟨_, rfl⟩
                  have hmin : m = Nat.min n' n := by
                    rw [hm]
                    cases hb : Nat.ble n' n
                    · have : ¬ n' ≤ n := fun hh => by rw [Nat.ble_eq_true_of_le hh] at hb; cases hb
                      exact (Nat.min_eq_right (by omega : n ≤ n')).symm
                    · have : n' ≤ n := Nat.le_of_ble_eq_true hb
                      exact (Nat.min_eq_left this).symm
                  have hle1 : m ≤ n' := by rw [hmin]; exact Nat.min_le_left _ _
                  have hle2 : m ≤ n := by rw [hmin]; exact Nat.min_le_right _ _
                  simp only [← hm] at hv
                  rw [beqN] at hv
                  by_cases h0 : m = 0
                  · simp [h0] at hv; obtain ⟨rfl, rfl⟩ := hv
                    have hmin0 : Nat.min n' n = 0 := by rw [← hmin]; exact h0
                    refine .pure hr (v' := goInt (0 : Nat)) ?_ (.int _ _)
                    have hl := run_loadCells_list (P := P) w ⟨b', adr', none⟩ [] (by simp)
                    simp only [List.length_nil] at hl
                    simp [Builtin.copy_, hst, run_underlying st hd, Builtin.lenOf, run_size el hes, hmin0, Builtin.firstCells, hl, storeCells]
                  · simp only [h0, decide_false, cond_false] at hv
                    split at hv
                    · rename_i l hl
                      split at hv
                      · rename_i h1 hw
                        simp at hv; obtain ⟨rfl, rfl⟩ := hv
                        obtain ⟨rfl, _⟩ : adr = p + o ∧ o + cap * es1 ≤ s := hc.resolve_left (by omega)
                        obtain ⟨rfl, _⟩ : adr' = p' + o' ∧ o' + cap' * es2 ≤ s' := hc'.resolve_left (by omega)
                        obtain ⟨l', g1, g2, g3⟩ := rd_ok hr hk' hl
                        obtain ⟨w', q1, q2⟩ := wr_ok (P := P) hr hk hw g1
                        refine ⟨goInt m, w', μ, ?_, .int _ _, q2⟩
                        have hf := firstCells_some (P := P) (w := w) (sz := es) (n := m) (m := n') (c := cap') (ad := ⟨b', p' + o', none⟩) g2 g3
                        simp only [Builtin.copy_, hst, List.getElem?_toArray, List.getElem?_cons_zero, List.getElem?_cons_succ, Sem.run_bind, run_underlying st hd, Result.andThen_ok, Builtin.lenOf, Sem.run_pure, run_size el hes, ← hmin, hf, q1]
                      · cases hv
                    · cases hv
        · cases hv
      · cases hv
    · cases hv
  · cases hv

theorem repV_eq (c : Value) : ∀ n, repV c n = List.replicate n c
  | 0 => rfl
  | n + 1 => by
    show c :: repV c n = _
    rw [repV_eq c n]; rfl
theorem repV_VR {c : Value} (hc : VR μ c c) : ∀ n, VRL μ (repV c n) (repV c n)
  | 0 => .nil
  | n + 1 => .cons hc (repV_VR hc n)
theorem opClear_ok (hr : HR B μ h.n h.t.get w) {argTypes : Array TypeId} {ty : TypeId} {vs vs' : List Value} {v : Value} {h' : Hp} (hvs : VRL μ vs vs') (hv : opClear P h argTypes vs = .value v h') : VOk P B μ h w (Builtin.clear_ argTypes ty vs'.toArray) v h' := by
  unfold opClear at hv
  split at hv
  · rename_i k o n es1
    split at hv
    · rename_i st hst
      split at hv
      · rename_i el hel
        split at hv
        · rename_i z hz
          split at hv
          · rename_i c hcs
            have hd := elemOf_inv hel
            obtain ⟨z1, z2⟩ := run_zero (w := w) el hz
            cases hvs with
            | cons h1 t1 =>
              cases t1
              cases h1 with
              | slice hk hn hc hp =>
                rename_i b p s cap adr
                rw [beqN] at hv
                by_cases h0 : n = 0
                · simp [h0] at hv; obtain ⟨rfl, rfl⟩ := hv
                  subst h0
                  refine .pure hr (v' := .tuple #[]) ?_ (.tuple .nil)
                  simp [Builtin.clear_, hst, run_underlying st hd]
                · simp only [h0, decide_false, cond_false] at hv
                  split at hv
                  · rename_i h1 hw
                    simp at hv; obtain ⟨rfl, rfl⟩ := hv
                    obtain ⟨rfl, _⟩ : adr = p + o ∧ o + cap * es1 ≤ s := hc.resolve_left (by omega)
                    have hcc : VR μ c c := by
                      have := (constOk_refl μ z2).cells
                      rw [hcs] at this
                      cases this with | cons h _ => exact h
                    obtain ⟨w', q1, q2⟩ := wr_ok (P := P) hr hk hw (repV_VR hcc n)
                    refine ⟨.tuple #[], w', μ, ?_, .tuple .nil, q2⟩
                    have hzc : (Builtin.zeroCells z.cells n).toList = repV c n := by
                      rw [repV_eq]
                      have hz1 : z.cells = #[c] := Array.ext' hcs
                      rw [hz1]
                      simp [Builtin.zeroCells]
                      apply List.ext_getElem
                      · simp
                      · intro i h1 h2
                        simp [Nat.mod_one]
                    obtain ⟨m, rfl⟩ : ∃ m, n = m + 1 := ⟨n - 1, by omega⟩
                    simp [Builtin.clear_, hst, run_underlying st hd, z1, hzc, q1]
                  · cases hv
          · cases hv
        · cases hv
      · cases hv
    · cases hv
  · cases hv
/-- what is appended -/
theorem appX_ok (hr : HR B μ h.n h.t.get w) {es : Nat} {x x' : Value} {l : List Value} (hes : 0 < es) (hx : VR μ x x') (hl : appX h es x = some l) :
    ∃ n l', (∀ w1 : World, (Builtin.lenOf x').run P w1 = .ok n w1) ∧ VRL μ l l' ∧ l'.length = n * es ∧ ∀ w1 : World, w1.heap = w.heap → (Builtin.firstCells es n x').run P w1 = .ok l'.toArray w1 := by
  unfold appX at hl
  split at hl
  · simp at hl; subst hl
    cases hx
    exact ⟨0, [], fun _ => rfl, .nil, by simp, fun _ _ => rfl⟩
  · rename_i k o m es'
    cases hb : Nat.beq es es' with
    | false => rw [hb] at hl; cases hl
    | true =>
      rw [hb] at hl
      simp only [cond_true] at hl
      cases hx with
      | slice hk hn hc hp =>
        rename_i b p s cap adr
        obtain ⟨l', g1, g2, g3⟩ := rd_ok hr hk hl
        refine ⟨m, l', fun _ => rfl, g1, g2, fun w1 he => firstCells_some g2 ?_⟩
        rcases hc with hc | ⟨rfl, _⟩
        · intro j v e2
          have := (List.getElem?_eq_some_iff.1 e2).1
          have hm0 : m = 0 := by omega
          rw [g2, hm0, show Nat.mul 0 es = 0 from Nat.zero_mul es] at this
          omega
        · intro j v e2
          have := g3 j v e2
          simpa [World.cell?, he] using this
  · rename_i s
    cases hb : Nat.beq es 1 with
    | false => rw [hb] at hl; cases hl
    | true =>
      rw [hb] at hl
      rw [beqN] at hb
      have hb' : es = 1 := by simpa using hb
      subst hb'
      simp only [cond_true, Option.some.injEq] at hl; subst hl
      cases hx
      have hsz : s.size = s.data.toList.length := by rw [Array.length_toList]; rfl
      refine ⟨s.size, s.data.toList.map fun b => Value.int .u8 b.toNat, fun _ => rfl, VRL.refl fun v hv => ?_, by rw [List.length_map, hsz]; omega, fun w1 _ => ?_⟩
      · obtain ⟨b, _, rfl⟩ := List.mem_map.1 hv
        exact .int _ _
      · have he : s.extract 0 s.size = s := by
          have hx1 := ByteArray.extract_zero_size (b := s)
          exact hx1
        show Result.ok ((s.extract 0 s.size).data.map fun b => Value.int .u8 (b.toNat : Int)) w1 = _
        rw [he]
        congr 1
        apply Array.ext'
        simp
  · cases hl
theorem sos_inv {t : TypeId} (hx : sliceOrString P t = true) : (∃ q, P.underlying t = some (.slice q)) ∨ P.underlying t = some .string := by
  unfold sliceOrString at hx
  split at hx
  · rename_i q hq; exact .inl ⟨q, hq⟩
  · rename_i hq; exact .inr hq
  · cases hx
theorem append_room {argTypes : Array TypeId} {ty st xt el : TypeId} {i : TypeInfo} {x : Value} {sLen sCap n : Nat} {news : List Value} {base : Option Addr} {w' : World} (h0 : argTypes[0]? = some st) (h1 : argTypes[1]? = some xt) (hd : P.underlying st = some (.slice el)) (hx : sliceOrString P xt = true)
    (hi : P.info? el = some i) (hlen : ∀ w1 : World, (Builtin.lenOf x).run P w1 = .ok n w1) (hfc : (Builtin.firstCells i.size n x).run P w = .ok news.toArray w) (hroom : sLen + n ≤ sCap)
    (hst : (match base with | some ad => storeCells (ad.add (sLen * i.size)) news 0 | none => pure ()).run P w = .ok () w') :
    (Builtin.append_ argTypes ty #[.slice base sLen sCap, x]).run P w = .ok (.slice base (sLen + n) sCap) w' := by
  have hsz : (sizeOf el).run P w = .ok i.size w := by simp [sizeOf, typeInfo, program, Sem.run, hi]
  cases base with
  | none =>
    have hw : w' = w := by have : Result.ok () w = Result.ok () w' := hst; simpa using this.symm
    subst hw
    rcases sos_inv hx with ⟨q, hx'⟩ | hx' <;>
    · simp only [Builtin.append_, h0, h1, List.getElem?_toArray, List.getElem?_cons_zero, List.getElem?_cons_succ, Sem.run_bind, run_underlying st hd, run_underlying xt hx', Result.andThen_ok, hsz, Sem.run_pure, Bool.false_eq_true, if_false, hlen, Bool.not_false, if_true]
      rw [if_pos hroom]
      simp only [Sem.run_bind, hfc, Result.andThen_ok, Sem.run_pure]
  | some ad =>
    have hst' : (storeCells (ad.add (sLen * i.size)) news 0).run P w = .ok () w' := hst
    rcases sos_inv hx with ⟨q, hx'⟩ | hx' <;>
    · simp only [Builtin.append_, h0, h1, List.getElem?_toArray, List.getElem?_cons_zero, List.getElem?_cons_succ, Sem.run_bind, run_underlying st hd, run_underlying xt hx', Result.andThen_ok, hsz, Sem.run_pure, Bool.false_eq_true, if_false, hlen, Bool.not_false, if_true]
      rw [if_pos hroom]
      simp only [Sem.run_bind, hfc, Result.andThen_ok, Sem.run_pure, hst']
theorem append_grow {argTypes : Array TypeId} {ty st xt el : TypeId} {i : TypeInfo} {z x : Value} {sLen sCap n : Nat} {olds news : List Value} {base : Option Addr} (h0 : argTypes[0]? = some st) (h1 : argTypes[1]? = some xt) (hd : P.underlying st = some (.slice el)) (hx : sliceOrString P xt = true)
    (hi : P.info? el = some i) (hz : i.zero = some z) (hlen : ∀ w1 : World, (Builtin.lenOf x).run P w1 = .ok n w1) (hfc : ∀ w1 : World, w1.heap = w.heap → (Builtin.firstCells i.size n x).run P w1 = .ok news.toArray w1)
    (hfo : ∀ w1 : World, w1.heap = w.heap → (Builtin.firstCells i.size sLen (.slice base sLen sCap)).run P w1 = .ok olds.toArray w1)
    (hg : sCap < sLen + n) (h63 : sLen + n ≤ 16777216) (hby : i.bytes ≤ 4096) :
    ∃ cap, sLen + n ≤ cap ∧ (Builtin.append_ argTypes ty #[.slice base sLen sCap, x]).run P w = .ok (.slice (some ⟨w.heap.size, 0, none⟩) (sLen + n) cap)
      { ({ w with drawn := w.drawn + 1 } : World) with heap := w.heap.push (.cells (olds ++ news ++ (Builtin.zeroCells z.cells (cap - (sLen + n))).toList).toArray el) } := by
  refine ⟨(Question.appendCap (sLen + n) sCap el).cut (w.tape w.drawn (.appendCap (sLen + n) sCap el)), Nat.le_add_right _ _, ?_⟩
  obtain ⟨cap, hcap⟩ : ∃ cap, cap = (Question.appendCap (sLen + n) sCap el).cut (w.tape w.drawn (.appendCap (sLen + n) sCap el)) := ⟨_, rfl⟩
  rw [← hcap]
  have hsz : (sizeOf el).run P w = .ok i.size w := by simp [sizeOf, typeInfo, program, Sem.run, hi]
  have hti : ∀ w1 : World, (typeInfo el).run P w1 = .ok i w1 := fun w1 => by simp [typeInfo, program, Sem.run, hi]
  have hzv : ∀ w1 : World, (zeroValue el).run P w1 = .ok z w1 := fun w1 => by simp [zeroValue, hti, hz]
  have hq : (choose (.appendCap (sLen + n) sCap el)).run P w = .ok cap { w with drawn := w.drawn + 1 } := by rw [hcap]; rfl
  have hn : ¬ (sLen + n ≤ sCap) := by omega
  have h63' : ¬ (((sLen + n : Nat) : Int) > IntKind.i64.max) := by
    have : (IntKind.i64.max : Int) = 9223372036854775807 := by decide
    rw [this]; omega
  have hfit : ¬ (Builtin.nextslicecap (sLen + n) sCap * i.bytes > 2 ^ 48) := by
    have := growslice_fits (bytes := i.bytes) hg (by
      have : (sLen + n) * i.bytes ≤ 16777216 * 4096 := Nat.mul_le_mul h63 hby
      omega)
    omega
  have hask : ∀ (m : Nat) (w1 : World), (askRoom m).run P w1 = .ok () w1 := fun m w1 => by unfold askRoom; split <;> rfl
  have f1 := hfo { w with drawn := w.drawn + 1 } rfl
  have f2 := hfc { w with drawn := w.drawn + 1 } rfl
  have hnew : ∀ (c : Array Value) (w1 : World), (newRow el c).run P w1 = .ok ⟨w1.heap.size, 0, none⟩ { w1 with heap := w1.heap.push (.cells c el) } := fun _ _ => rfl
  have harr : ∀ (q : Array Value), olds.toArray ++ news.toArray ++ q = (olds ++ news ++ q.toList).toArray := fun q => by apply Array.ext'; simp
  rcases sos_inv hx with ⟨q, hx'⟩ | hx' <;>
  · simp only [Builtin.append_, h0, h1, List.getElem?_toArray, List.getElem?_cons_zero, List.getElem?_cons_succ, Sem.run_bind, run_underlying st hd, run_underlying xt hx', Result.andThen_ok, hsz, Sem.run_pure, Bool.false_eq_true, if_false, hlen, Bool.not_false, if_true]
    rw [if_neg hn]
    simp only [Sem.run_bind, hti, Result.andThen_ok, h63', false_and, if_false, hfit, hq, hask, f1, f2, hzv, Sem.run_pure, hnew, harr]
end
end Cx
end Go.Proofs.YtkljlbilhcdjhaaGreatDoor
namespace Go.Proofs.YtkljlbilhcdjhaaGreatDoor
namespace Cx
open Go

section
variable {P : Program} {G : GS} {B : Nat} {μ : Mu} {h : Hp} {w : World} {e : En} {a : Act}

theorem zeroCells_length (z : Array Value) (n : Nat) : (Builtin.zeroCells z n).toList.length = n * z.size := by simp [Builtin.zeroCells]

theorem appTo_ok (hr : HR B μ h.n h.t.get w) (hB : B ≤ w.heap.size) {argTypes : Array TypeId} {ty st xt el : TypeId} {i : TypeInfo} {z x' : Value} {es n n' : Nat} {vs news : List Value} {ad : Option Addr} {c : Nat} {sv v : Value} {h' : Hp}
    (h0 : argTypes[0]? = some st) (h1 : argTypes[1]? = some xt) (hd : P.underlying st = some (.slice el)) (hx : sliceOrString P xt = true) (hi : P.info? el = some i) (hz : i.zero = some z) (hsz : i.size = es) (hzs : z.cells.size = es) (hes : 0 < es) (hby : i.bytes ≤ 4096)
    (hlen : ∀ w1 : World, (Builtin.lenOf x').run P w1 = .ok n' w1) (hnews : VRL μ vs news) (hnl : news.length = n' * es) (hfc : ∀ w1 : World, w1.heap = w.heap → (Builtin.firstCells es n' x').run P w1 = .ok news.toArray w1) (hpos : 0 < n') (h63 : n + n' ≤ 16777216)
    (hs : VR μ (.slice ad n c) sv) (hv : appTo h es n c vs (n + n') ad = .value v h') : VOk P B μ h w (Builtin.append_ argTypes ty #[sv, x']) v h' := by
  subst hsz
  have hzl : ∀ m, (Builtin.zeroCells z.cells m).toList.length = m * i.size := fun m => by rw [zeroCells_length, hzs]
  unfold appTo at hv
  split at hv
  · simp only [outRow, Out.value.injEq] at hv; obtain ⟨rfl, rfl⟩ := hv
    cases hs
    obtain ⟨cap, g1, g2⟩ := append_grow (ty := ty) (olds := []) (base := none) (sLen := 0) (sCap := 0) h0 h1 hd hx hi hz hlen hfc (fun _ _ => rfl) (by omega) h63 hby
    obtain ⟨μ', k1, k2, k3⟩ := row_new hr hB { w with drawn := w.drawn + 1 } rfl rfl rfl rfl el hnews (Builtin.zeroCells z.cells (cap - (0 + n'))).toList 0 0 ⟨Nat.le_refl _, fun i _ => by omega⟩
    refine ⟨_, _, μ', g2, ?_, k3⟩
    refine VR.slice (o := 0) k1 g1 (.inr ⟨rfl, ?_⟩) hes
    rw [List.length_append, hnl, hzl, ← Nat.add_mul]
    have : n' + (cap - (0 + n')) = cap := by omega
    rw [this]; omega
  · rename_i k o
    split at hv
    · rename_i us hu
      split at hv
      · rename_i old hold
        cases hc : (vs.all one && Nat.beq c i.size) with
        | false => rw [hc] at hv; cases hv
        | true =>
          rw [hc] at hv
          simp only [cond_true, outRow, Out.value.injEq] at hv; obtain ⟨rfl, rfl⟩ := hv
          simp only [Bool.and_eq_true, beqN, decide_eq_true_eq] at hc
          obtain ⟨c1, rfl⟩ := hc
          cases hs with
          | slice hk hn hcp hp =>
            rename_i b p s cap adr
            obtain ⟨cc, tt, lo, hi', q1, q2, q3, q4, q5⟩ := hr.obj k b p s _ hk hu
            obtain ⟨o1, o2, o3⟩ := cut_get hold
            have o1' : old.length = n * i.size := o1
            have o2' : o + n * i.size ≤ us.length := o2
            by_cases hroom : n + n' ≤ cap
            · obtain ⟨rfl, hcs⟩ := hcp.resolve_left (by omega)
              have hmul : (n + n') * i.size ≤ cap * i.size := Nat.mul_le_mul_right _ hroom
              rw [Nat.add_mul] at hmul
              have hst : (storeCells ((⟨b, p + o, none⟩ : Addr).add (n * i.size)) news 0).run P w = .ok () (w.setCells b (p + o + n * i.size) news) := by
                rw [addA]
                have := run_storeCells_cells (P := P) b (p + o + n * i.size) news 0 w (fun j hj => ?_) (fun j hj => ?_) (hnews.one c1)
                · simpa using this
                · rw [cell_of q1, Nat.add_zero, Array.getElem?_eq_getElem (by omega)]; rfl
                · rw [frozen_of q1, Nat.add_zero]
                  have := q4.2 (p + o + n * i.size + j) (by omega)
                  simpa using this
              have hrun := append_room (P := P) (w := w) (ty := ty) (base := some ⟨b, p + o, none⟩) (sLen := n) (sCap := cap) h0 h1 hd hx hi hlen (hfc w rfl) hroom hst
              obtain ⟨c', k1, k2, k3, k4⟩ := setCells_block news (p + o + n * i.size) w b cc tt (lo, hi') q1
              obtain ⟨r1, r2, r3, r4⟩ := setCells_rest news (p + o + n * i.size) w b
              have hgood := take_ok (o := o) (m := cap * i.size) (q := old ++ vs) hr hk hu r2 r3 r4 r1 (fun b' hne => setCells_other news _ w b b' hne) hcs (fun μ' hle => by
                refine ⟨c', tt, lo, hi', k1, by omega, ?_, ⟨q4.1, fun j hj => q4.2 j (by omega)⟩, fun j u e => ?_⟩
                · rw [List.length_append, o1', ← hnews.length, hnl]; omega
                · by_cases hj : j < old.length
                  · rw [List.getElem?_append_left hj, o3 j (by omega)] at e
                    obtain ⟨u', e1, e2⟩ := q5 (o + j) u e
                    exact ⟨u', by rw [k4 (p + o + j) (by omega), Nat.add_assoc]; exact e1, e2.mono hle⟩
                  · rw [List.getElem?_append_right (by omega)] at e
                    have hjl := (List.getElem?_eq_some_iff.1 e).1
                    obtain ⟨u', e1, e2⟩ := hnews.get (j - old.length) u e
                    have hnl' := hnews.length
                    refine ⟨u', ?_, e2.mono hle⟩
                    have := k3 (j - old.length) (by omega) (by omega)
                    rw [← e1, ← this]
                    congr 1
                    omega)
              refine ⟨_, _, _, hrun, ?_, hgood⟩
              exact VR.slice (k := h.n) (o := 0) (b := b) (p := p + o) (s := cap * i.size) (by simp [Mu.add]) hroom (.inr ⟨rfl, by omega⟩) hes
            · have hkill := kill_ok hr hk hu rfl rfl
              have hfo : ∃ olds, VRL μ old olds ∧ olds.length = n * i.size ∧ ∀ w1 : World, w1.heap = w.heap → (Builtin.firstCells i.size n (.slice (some ⟨b, adr, none⟩) n cap)).run P w1 = .ok olds.toArray w1 := by
                obtain ⟨l', g1, g2, g3⟩ := read_ok q5 hold
                refine ⟨l', g1, g2, fun w1 he => firstCells_some g2 ?_⟩
                rcases hcp with hcp | ⟨rfl, _⟩
                · intro j u e2
                  have := (List.getElem?_eq_some_iff.1 e2).1
                  have hn0 : n = 0 := by omega
                  have g2' : l'.length = n * i.size := g2
                  rw [g2', hn0, Nat.zero_mul] at this
                  omega
                · intro j u e2
                  rw [addA]
                  have hb1 : w1.heap[b]? = some (.cells cc tt (lo, hi')) := by rw [he]; exact q1
                  rw [cell_of hb1]
                  exact g3 j u e2
              obtain ⟨olds, f1, f2, f3⟩ := hfo
              obtain ⟨cap', g1, g2⟩ := append_grow (ty := ty) (olds := olds) (base := some ⟨b, adr, none⟩) (sLen := n) (sCap := cap) h0 h1 hd hx hi hz hlen hfc f3 (by omega) h63 hby
              obtain ⟨μ', k1, k2, k3⟩ := row_new (h := h.set k .dead) hkill.hr hB { w with drawn := w.drawn + 1 } rfl rfl rfl rfl el (f1.append hnews) (Builtin.zeroCells z.cells (cap' - (n + n'))).toList 0 0 ⟨Nat.le_refl _, fun i _ => by omega⟩
              refine ⟨_, _, μ', g2, ?_, Good.trans hr hkill k3⟩
              refine VR.slice (o := 0) k1 g1 (.inr ⟨rfl, ?_⟩) hes
              rw [List.length_append, List.length_append, f2, hnl, hzl, ← Nat.add_mul, ← Nat.add_mul]
              have : n + n' + (cap' - (n + n')) = cap' := by omega
              rw [this]; omega
      · cases hv
    · cases hv
  · cases hv

theorem opAppend_ok (hr : HR B μ h.n h.t.get w) (hB : B ≤ w.heap.size) {argTypes : Array TypeId} {ty : TypeId} {vs vs' : List Value} {v : Value} {h' : Hp} (hvs : VRL μ vs vs') (hv : opAppend P h argTypes vs = .value v h') : VOk P B μ h w (Builtin.append_ argTypes ty vs'.toArray) v h' := by
  unfold opAppend at hv
  split at hv
  · rename_i ad n c x
    split at hv
    · rename_i st xt hst hxt
      split at hv
      · rename_i el hel
        cases hss : sliceOrString P xt with
        | false => rw [hss] at hv; cases hv
        | true =>
          rw [hss] at hv
          simp only [cond_true] at hv
          unfold appBody at hv
          split at hv
          · rename_i es z i hes hz hi
            cases hc : (Nat.blt 0 es && Nat.beq z.cells.size es && Nat.ble i.bytes 4096) with
            | false => rw [hc] at hv; cases hv
            | true =>
              rw [hc] at hv
              simp only [cond_true] at hv
              simp only [Bool.and_eq_true, blt_iff, beqN, decide_eq_true_eq, Nat.ble_eq] at hc
              obtain ⟨⟨c1, c2⟩, c3⟩ := hc
              obtain ⟨i1, i2⟩ := info_inv hes hz hi
              have hd := elemOf_inv hel
              cases hvs with
              | cons r1 t1 =>
                cases t1 with
                | cons r2 t2 =>
                  cases t2
                  rename_i sv x'
                  split at hv
                  · cases hv
                  · rename_i hap
                    simp only [Out.value.injEq] at hv; obtain ⟨rfl, rfl⟩ := hv
                    obtain ⟨m, l', g1, g2, g3, g4⟩ := appX_ok (P := P) hr c1 r2 hap
                    cases g2
                    have hm0 : m = 0 := by
                      have : m * es = 0 := by simpa using g3.symm
                      rcases Nat.mul_eq_zero.1 this with hh | hh <;> omega
                    subst hm0
                    have fin : ∀ base sLen sCap, sv = .slice base sLen sCap → sLen ≤ sCap → VOk P B μ h w (Builtin.append_ argTypes ty #[sv, x']) (.slice ad n c) h := fun base sLen sCap e2 hle => by
                      refine .pure hr (v' := sv) ?_ r1
                      rw [e2]
                      have := append_room (P := P) (w := w) (w' := w) (ty := ty) (base := base) (sLen := sLen) (sCap := sCap) (n := 0) (news := []) hst hxt hd hss hi g1 (by rw [i1]; exact g4 w rfl) (by omega) (by cases base <;> rfl)
                      simpa using this
                    cases r1 with
                    | nilSlice => exact fin none 0 0 rfl (Nat.le_refl _)
                    | slice hk hn hcp hp => exact fin _ _ _ rfl hn
                  · rename_i l hne hap
                    cases hb : Nat.ble (Nat.add n (Nat.div l.length es)) 16777216 with
                    | false => rw [hb] at hv; cases hv
                    | true =>
                      rw [hb] at hv
                      simp only [cond_true] at hv
                      obtain ⟨m, l', g1, g2, g3, g4⟩ := appX_ok (P := P) hr c1 r2 hap
                      have hll := g2.length
                      have hdiv : Nat.div l.length es = m := by
                        rw [← hll, g3]; exact Nat.mul_div_cancel m c1
                      rw [hdiv] at hv hb
                      have hm : 0 < m := by
                        rcases Nat.eq_zero_or_pos m with h0 | h0
                        · rw [h0, Nat.zero_mul, hll] at g3
                          cases l with
                          | nil => exact absurd rfl hne
                          | cons _ _ => simp at g3
                        · exact h0
                      exact appTo_ok hr hB hst hxt hd hss hi i2 i1 c2 c1 c3 g1 g2 g3 g4 hm (Nat.le_of_ble_eq_true hb) r1 hv
          · cases hv
      · cases hv
    · cases hv
  · cases hv
end
end Cx
end Go.Proofs.YtkljlbilhcdjhaaGreatDoor
namespace Go.Proofs.YtkljlbilhcdjhaaGreatDoor
namespace Cx
open Go

section
variable {P : Program} {G : GS} {B : Nat} {μ : Mu} {h : Hp} {w : World} {e : En} {a : Act}

/-- What an operation's answer stands for. -/
def OutOk (P : Program) (B : Nat) (μ : Mu) (h : Hp) (w : World) (s : Sem Next) : Out → Prop
  | .value v h' => ∃ nx v' w' μ', s.run P w = .ok nx w' ∧ ((nx = .value v') ∨ (nx = .skip ∧ v' = undef)) ∧ VR μ' v v' ∧ Good B μ h w μ' h' w'
  | .call f args => ∃ args', s.run P w = (callFunc f args'.toArray).run P w ∧ VRL μ args args'
  | .round l args => ∃ b p q args', μ l = some (b, p, q) ∧ s.run P w = (Instr.yield b args'.toArray).run P w ∧ VRL μ args args'
  | .fail => True

theorem VOk.out {s : Sem Value} {v : Value} {h' : Hp} (hv : VOk P B μ h w s v h') : OutOk P B μ h w (do let x ← s; Pure.pure (Next.value x)) (.value v h') := by
  obtain ⟨v', w', μ', h1, h2, h3⟩ := hv
  exact ⟨.value v', v', w', μ', by simp only [Sem.run_bind, h1, Result.andThen_ok, Sem.run_pure], .inl rfl, h2, h3⟩
theorem UOk.out {s : Sem Unit} {v : Value} {h' : Hp} (hv : UOk P B μ h w s v h') : OutOk P B μ h w (do s; Pure.pure Next.skip) (.value v h') := by
  obtain ⟨rfl, w', μ', h1, h3⟩ := hv
  exact ⟨.skip, undef, w', μ', by simp only [Sem.run_bind, h1, Result.andThen_ok, Sem.run_pure], .inr ⟨rfl, rfl⟩, undef_refl _, h3⟩

theorem nilCheck_ok (hr : HR B μ h.n h.t.get w) (hg : GR G μ) (he : TR μ e a.tmps) {o : Oper} {x : Operand} (ho : o.op = .nilCheck x) {v : Value} {h' : Hp} (hv : nilCheckV h (ev G e x) = .value v h') : OutOk P B μ h w (execOp a.eval o) (.value v h') := by
  obtain ⟨dst, op, type, pos, after, guard⟩ := o
  simp only at ho
  subst ho
  unfold nilCheckV at hv
  split at hv
  · rename_i f x1 x2 hx
    simp at hv; obtain ⟨rfl, rfl⟩ := hv
    have hxe := ev_ok hg he hx
    generalize hxx : a.eval x = x' at hxe
    cases hxe with
    | func f h1 h2 => exact ⟨_, _, w, μ, by simp only [execOp, hxx]; rfl, .inl rfl, .func f h1 h2, .refl hr⟩
  · rename_i ad hx
    simp at hv; obtain ⟨rfl, rfl⟩ := hv
    have hxe := ev_ok hg he hx
    generalize hxx : a.eval x = x' at hxe
    cases hxe with
    | ptr hk => exact ⟨_, _, w, μ, by simp only [execOp, hxx]; rfl, .inl rfl, .ptr hk, .refl hr⟩
  · rename_i f x1 x2 hx
    simp at hv; obtain ⟨rfl, rfl⟩ := hv
    have hxe := ev_ok hg he hx
    generalize hxx : a.eval x = x' at hxe
    cases hxe with
    | yield hk => exact ⟨_, _, w, μ, by simp only [execOp, hxx]; rfl, .inl rfl, .yield hk, .refl hr⟩
  · cases hv

theorem builtin_ok (hr : HR B μ h.n h.t.get w) (hB : B ≤ w.heap.size) {b : Builtin} {argTypes : Array TypeId} {ty : TypeId} {consts : Array Bool} {vs vs' : List Value} {v : Value} {h' : Hp} (hvs : VRL μ vs vs') (hv : opBuiltin P h b argTypes ty vs = .value v h') :
    OutOk P B μ h w (builtin b argTypes ty consts vs'.toArray) (.value v h') := by
  unfold opBuiltin at hv
  split at hv
  · exact (opLen_ok hr hvs hv).out
  · exact (opAppend_ok hr hB hvs hv).out
  · exact (opCopy_ok hr hvs hv).out
  · exact (opClear_ok hr hvs hv).out
  · cases hs : vs.all scalar with
    | false => rw [hs] at hv; cases hv
    | true =>
      rw [hs] at hv
      obtain ⟨h1, rfl⟩ := ofV_inv hv
      obtain ⟨p1, p2⟩ := pureS_ok (w := w) (μ := μ) h1
      rw [hvs.scalars hs]
      exact (VOk.pure hr p1 p2).out
  · cases hs : vs.all scalar with
    | false => rw [hs] at hv; cases hv
    | true =>
      rw [hs] at hv
      obtain ⟨h1, rfl⟩ := ofV_inv hv
      obtain ⟨p1, p2⟩ := pureS_ok (w := w) (μ := μ) h1
      rw [hvs.scalars hs]
      exact (VOk.pure hr p1 p2).out
  · cases hv

theorem opCall_ok (hr : HR B μ h.n h.t.get w) (hB : B ≤ w.heap.size) (hg : GR G μ) (he : TR μ e a.tmps) {o : Oper} {c : Call} (ho : o.op = .call c) : OutOk P B μ h w (execOp a.eval o) (opCall P G e h c o.type) := by
  obtain ⟨dst, op, type, pos, after, guard⟩ := o
  simp only at ho
  subst ho
  simp only
  cases ha : evs G e c.args.toList with
  | none => unfold opCall; rw [ha]; trivial
  | some args =>
    have hargs : VRL μ args (c.args.map a.eval).toList := by simpa using evs_ok hg he ha
    have hx : execOp a.eval ⟨dst, .call c, type, pos, after, guard⟩ = (do let d ← resolve a.eval c type; invoke d.target d.args) := rfl
    rw [hx]
    unfold opCall
    rw [ha]
    simp only
    cases hc : c.callee with
    | invoke r m => trivial
    | builtin b =>
      simp only
      cases hb : opBuiltin P h b c.argTypes type args with
      | value v h' =>
        have := builtin_ok (consts := c.args.map fun | .const _ => true | _ => false) hr hB hargs hb
        simp only [Array.toArray_toList] at this
        have hs : (do let d ← resolve a.eval c type; invoke d.target d.args : Sem Next) = builtin b c.argTypes type (c.args.map fun | .const _ => true | _ => false) (c.args.map a.eval) := by
          simp only [resolve, hc]; rfl
        rw [hs]
        exact this
      | fail => trivial
      | call f as => trivial
      | round f as => trivial
    | value f =>
      simp only
      cases hf : ev G e f with
      | none => trivial
      | some fv =>
        have hfe := ev_ok hg he hf
        cases hfe' : fv with
        | func fn first captured =>
          subst hfe'
          generalize hff : a.eval f = f' at hfe
          cases hfe with
          | func g q1 q2 =>
            rename_i first' captured'
            refine ⟨first'.toList ++ ((c.args.map a.eval).toList ++ captured'.toList), ?_, q1.append (hargs.append q2)⟩
            have hs : (do let d ← resolve a.eval c type; invoke d.target d.args : Sem Next) = callFunc g ((first' ++ c.args.map a.eval) ++ captured') := by
              simp only [resolve, hc, hff, Deferred.ofValue]; rfl
            rw [hs]
            congr 2
            apply Array.ext'; simp
          | yield hk =>
            rename_i l b p q
            refine ⟨b, p, q, (c.args.map a.eval).toList, hk, ?_, by simpa using hargs⟩
            have hs : (do let d ← resolve a.eval c type; invoke d.target d.args : Sem Next) = Instr.yield b (#[] ++ c.args.map a.eval) := by
              simp only [resolve, hc, hff, Deferred.ofValue]; rfl
            rw [hs]
            congr 2
            apply Array.ext'; simp
        | _ => trivial

theorem opAssert_ok (hr : HR B μ h.n h.t.get w) (hg : GR G μ) (he : TR μ e a.tmps) {x : Operand} {xt t : TypeId} {ok : Bool} {v : Value} {h' : Hp} (hv : opAssert P G e h x t ok = .value v h') : VOk P B μ h w (Instr.typeAssert (a.eval x) xt t ok) v h' := by
  unfold opAssert at hv
  split at hv
  · cases hv
  · rename_i u d hnot hx hd
    have hxe := ev_ok hg he hx
    have hno : ∀ (s : Sem Value), assertNo P h t ok = .value v h' → s = (if ok then (do Pure.pure (.tuple #[← zeroValue t, .bool false])) else s) → VOk P B μ h w s v h' := by
      intro s hn hs
      unfold assertNo at hn
      split at hn
      · rename_i z hz
        simp only [Out.value.injEq] at hn
        obtain ⟨rfl, rfl⟩ := hn
        obtain ⟨z1, z2⟩ := run_zero (w := w) t hz
        rw [hs]
        refine .pure hr (v' := .tuple #[z, .bool false]) ?_ (.tuple (.cons (constOk_refl μ z2) (.cons (.bool _) .nil)))
        simp only [if_true, Sem.run_bind, z1, Result.andThen_ok, Sem.run_pure]
      · cases hn
    generalize a.eval x = x' at hxe
    unfold assertV at hv
    split at hv
    · rename_i t' u'
      cases hxe with
      | iface _ hu =>
        rename_i u2
        cases hb : Nat.beq t' t with
        | true =>
          rw [hb] at hv
          simp only [cond_true, Out.value.injEq] at hv
          obtain ⟨rfl, rfl⟩ := hv
          have ht := Nat.eq_of_beq_eq_true hb
          subst ht
          refine .pure hr (v' := if ok then .tuple #[u2, .bool true] else u2) ?_ ?_
          · simp only [Instr.typeAssert, Sem.run_bind, run_underlying _ hd, Result.andThen_ok]
            cases d <;> first | (exact (hnot _ rfl).elim) | (simp only [if_true, Sem.run_pure])
          · cases ok
            · exact hu
            · exact .tuple (.cons hu (.cons (.bool _) .nil))
        | false =>
          rw [hb] at hv
          have ht : ¬ t' = t := fun e => by rw [e, Nat.beq_refl] at hb; cases hb
          have hs : (Instr.typeAssert (.iface t' u2) xt t ok).run P w = ((if ok then (do Pure.pure (.tuple #[← zeroValue t, .bool false])) else runtimePanic (.typeAssertion (some xt) (some t') t "")) : Sem Value).run P w := by
            simp only [Instr.typeAssert, Sem.run_bind, run_underlying _ hd, Result.andThen_ok]
            cases d <;> first | (exact (hnot _ rfl).elim) | (rw [if_neg ht])
          obtain ⟨v', w', μ', q1, q2⟩ := hno (if ok then (do Pure.pure (.tuple #[← zeroValue t, .bool false])) else runtimePanic (.typeAssertion (some xt) (some t') t "")) hv (by cases ok <;> rfl)
          exact ⟨v', w', μ', hs.trans q1, q2⟩
    · cases hxe
      have hs : (Instr.typeAssert .nilIface xt t ok).run P w = ((if ok then (do Pure.pure (.tuple #[← zeroValue t, .bool false])) else runtimePanic (.typeAssertion (some xt) none t "")) : Sem Value).run P w := by
        simp only [Instr.typeAssert, Sem.run_bind, run_underlying _ hd, Result.andThen_ok]
      obtain ⟨v', w', μ', q1, q2⟩ := hno (if ok then (do Pure.pure (.tuple #[← zeroValue t, .bool false])) else runtimePanic (.typeAssertion (some xt) none t "")) hv (by cases ok <;> rfl)
      exact ⟨v', w', μ', hs.trans q1, q2⟩
    · cases hv
  · cases hv
theorem opS_ok (hr : HR B μ h.n h.t.get w) (hB : B ≤ w.heap.size) (hg : GR G μ) (he : TR μ e a.tmps) (o : Oper) {v : Value} {h' : Hp} (hr' : opS P G e h o.op = .value v h') : OutOk P B μ h w (execOp a.eval o) (.value v h') := by
  obtain ⟨dst, op, type, pos, after, guard⟩ := o
  simp only at hr'
  cases op with
  | pick c x y =>
    obtain ⟨v', w', μ', g1, g2, g3⟩ := opPick_ok (P := P) hr hg he hr'
    refine ⟨.value v', v', w', μ', ?_, .inl rfl, g2, g3⟩
    simp only [execOp, Sem.run_bind, Sem.run_pure] at g1 ⊢
    cases hb : (asBool (a.eval c)).run P w with
    | halt x y => rw [hb] at g1; cases g1
    | ok b w1 =>
      rw [hb] at g1
      simp only [Result.andThen_ok, Result.ok.injEq] at g1 ⊢
      exact ⟨by rw [g1.1], g1.2⟩
  | alloc t => exact (opAlloc_ok hr hB hr').out
  | box t x => exact (opBox_ok hr hB hg he hr').out
  | build t ps => exact (opBuild_ok hr hg he hr').out
  | buildSlice t n ps => exact (opBuildSlice_ok hr hB hg he hr').out
  | load t x =>
    have hr2 : (match ev G e x with | some p => Out.ofV h (ld P h t p) | none => .fail) = .value v h' := hr'
    split at hr2
    · rename_i p hp
      obtain ⟨h1, rfl⟩ := ofV_inv hr2
      exact (opLoad_ok hr (ev_ok hg he hp) h1).out
    · cases hr2
  | store t x y => exact (opStore_ok hr hg he hr').out
  | nilCheck x => exact nilCheck_ok hr hg he rfl hr'
  | binOp op t x y t2 => exact (opBin_ok hr hg he hr').out
  | unOp op t x => exact (opUn_ok hr hg he hr').out
  | convert s d x => exact (opConv_ok hr hB hg he hr').out
  | makeInterface t x => exact (opIface_ok hr hg he hr').out
  | makeFunc fn x y => exact (opFunc_ok hr hg he hr').out
  | makeMap t x => exact (opMakeMap_ok hr hB hg he hr').out
  | makeSlice t x y => exact (opMakeSlice_ok hr hB hg he hr').out
  | slice t x lo hi mx => exact (opSlice_ok hr hg he hr').out
  | fieldAddr s x f => exact (opFieldAddr_ok hr hg he hr').out
  | indexAddr t x y => exact (opIndexAddr_ok hr hg he hr').out
  | index t x y => exact (opIndex_ok hr hg he hr').out
  | lookup t x y ok => exact (opLookup_ok hr hg he hr').out
  | mapUpdate t x y z => exact (opMapUpdate_ok hr hg he hr').out
  | extract t i => exact (opExtract_ok hr hg he hr').out
  | field s x f => exact (opField_ok hr hg he hr').out
  | typeAssert x xt t ok => exact (opAssert_ok hr hg he hr').out
  | move x => obtain ⟨h1, rfl⟩ := ofV_inv hr'; exact ⟨_, _, w, μ, rfl, .inl rfl, ev_ok hg he h1, .refl hr⟩
  | assign x => obtain ⟨h1, rfl⟩ := ofV_inv hr'; exact ⟨_, _, w, μ, rfl, .inl rfl, ev_ok hg he h1, .refl hr⟩
  | _ => cases hr'
theorem opC_ok (hr : HR B μ h.n h.t.get w) (hB : B ≤ w.heap.size) (hg : GR G μ) (he : TR μ e a.tmps) (o : Oper) : OutOk P B μ h w (execOp a.eval o) (opC P G e h o) := by
  unfold opC
  split
  · rename_i c hc; exact opCall_ok hr hB hg he hc
  · cases ho : opS P G e h o.op with
    | value v h' => exact opS_ok hr hB hg he o ho
    | _ => trivial
end
end Cx
end Go.Proofs.YtkljlbilhcdjhaaGreatDoor
