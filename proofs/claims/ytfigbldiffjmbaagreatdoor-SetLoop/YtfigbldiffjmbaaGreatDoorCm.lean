/- Closed runs: operations, eighth part: append, copy, len, min, max. -/
import Derived.Test.YtfigbldiffjmbaaGreatDoorCl
namespace Go.Proofs.YtfigbldiffjmbaaGreatDoor
namespace Cx
open Go

section
variable {P : Program} {G B : Nat} {μ : Mu} {h : Hp} {w : World} {e : En} {a : Act}

theorem opLen_ok (hr : HR B μ h.n h.t.get w) {argTypes : Array TypeId} {ty : TypeId} {vs vs' : List Value} {v : Value} {h' : Hp} (hvs : VRL μ vs vs') (hv : opLen P h argTypes vs = .value v h') : VOk P B μ h w (Builtin.len_ argTypes ty vs'.toArray) v h' := by
  unfold opLen at hv
  split at hv
  · rename_i ad n es
    split at hv
    · rename_i t ht
      split at hv
      · rename_i el hd
        simp at hv; obtain ⟨rfl, rfl⟩ := hv
        cases hvs with
        | cons h1 t1 =>
          cases t1
          cases h1 with
          | nilSlice => exact .pure hr (v' := .int .i64 (0 : Nat)) (by simp [Builtin.len_, ht, run_underlying t hd, goInt]) (.int _ _)
          | slice => exact .pure hr (v' := .int .i64 n) (by simp [Builtin.len_, ht, run_underlying t hd, goInt]) (.int _ _)
      · cases hv
    · cases hv
  · rename_i s
    split at hv
    · rename_i t ht
      split at hv
      · rename_i hd
        simp only [Out.value.injEq] at hv; obtain ⟨rfl, rfl⟩ := hv
        have hsz : s.size = s.data.toList.length := by rw [Array.length_toList]; rfl
        cases hvs with
        | cons h1 t1 =>
          cases t1
          cases h1
          exact .pure hr (v' := .int .i64 s.size) (by simp [Builtin.len_, ht, run_underlying t hd, goInt]) (by rw [hsz]; exact .int _ _)
      · cases hv
    · cases hv
  · cases hv

theorem firstCells_some {sz n m c : Nat} {ad : Addr} {l : List Value} (hl : l.length = n * sz) (hc : ∀ (j : Nat) (v : Value), l[j]? = some v → w.cell? (ad.add j) = some v) : (Builtin.firstCells sz n (.slice (some ad) m c)).run P w = .ok l.toArray w := by
  have := run_loadCells_list (P := P) w ad l hc
  rw [hl] at this
  exact this

theorem opCopy_ok (hr : HR B μ h.n h.t.get w) {argTypes : Array TypeId} {ty : TypeId} {vs vs' : List Value} {v : Value} {h' : Hp} (hvs : VRL μ vs vs') (hv : opCopy P h argTypes vs = .value v h') : VOk P B μ h w (Builtin.copy_ argTypes ty vs'.toArray) v h' := by
  unfold opCopy at hv
  split at hv
  · rename_i k o n es1 k' o' n' es2
    split at hv
    · rename_i st hst
      split at hv
      · rename_i el hel
        split at hv
        · rename_i es hes
          have hd := elemOf_inv hel
          cases hvs with
          | cons h1 t1 =>
            cases t1 with
            | cons h2 t2 =>
              cases t2
              cases h1 with
              | slice hk hn hc hp =>
                rename_i b p s cap adr
                cases h2 with
                | slice hk' hn' hc' hp' =>
                  rename_i b' p' s' cap' adr'
                  obtain ⟨m, hm⟩ : ∃ m, m = cond (Nat.ble n' n) n' n := ⟨_, rfl⟩
                  have hmin : m = Nat.min n' n := by
                    rw [hm]
                    cases hb : Nat.ble n' n
                    · have : ¬ n' ≤ n := fun hh => by rw [Nat.ble_eq_true_of_le hh] at hb; cases hb
                      exact (Nat.min_eq_right (by omega : n ≤ n')).symm
                    · have : n' ≤ n := Nat.le_of_ble_eq_true hb
                      exact (Nat.min_eq_left this).symm
                  have hle1 : m ≤ n' := by rw [hmin]; exact Nat.min_le_left _ _
                  have hle2 : m ≤ n := by rw [hmin]; exact Nat.min_le_right _ _
                  simp only [← hm] at hv
                  rw [beqN] at hv
                  by_cases h0 : m = 0
                  · simp [h0] at hv; obtain ⟨rfl, rfl⟩ := hv
                    have hmin0 : Nat.min n' n = 0 := by rw [← hmin]; exact h0
                    refine .pure hr (v' := goInt (0 : Nat)) ?_ (.int _ _)
                    have hl := run_loadCells_list (P := P) w ⟨b', adr', none⟩ [] (by simp)
                    simp only [List.length_nil] at hl
                    simp [Builtin.copy_, hst, run_underlying st hd, Builtin.lenOf, run_size el hes, hmin0, Builtin.firstCells, hl, storeCells]
                  · simp only [h0, decide_false, cond_false] at hv
                    split at hv
                    · rename_i l hl
                      split at hv
                      · rename_i h1 hw
                        simp at hv; obtain ⟨rfl, rfl⟩ := hv
                        obtain ⟨rfl, _⟩ : adr = p + o ∧ o + cap * es1 ≤ s := hc.resolve_left (by omega)
                        obtain ⟨rfl, _⟩ : adr' = p' + o' ∧ o' + cap' * es2 ≤ s' := hc'.resolve_left (by omega)
                        obtain ⟨l', g1, g2, g3⟩ := rd_ok hr hk' hl
                        obtain ⟨w', q1, q2⟩ := wr_ok (P := P) hr hk hw g1
                        refine ⟨goInt m, w', μ, ?_, .int _ _, q2⟩
                        have hf := firstCells_some (P := P) (w := w) (sz := es) (n := m) (m := n') (c := cap') (ad := ⟨b', p' + o', none⟩) g2 g3
                        simp only [Builtin.copy_, hst, List.getElem?_toArray, List.getElem?_cons_zero, List.getElem?_cons_succ, Sem.run_bind, run_underlying st hd, Result.andThen_ok, Builtin.lenOf, Sem.run_pure, run_size el hes, ← hmin, hf, q1]
                      · cases hv
                    · cases hv
        · cases hv
      · cases hv
    · cases hv
  · cases hv

/-- what is appended -/
theorem appX_ok (hr : HR B μ h.n h.t.get w) {es : Nat} {x x' : Value} {l : List Value} (hes : 0 < es) (hx : VR μ x x') (hl : appX h es x = some l) :
    ∃ n l', (∀ w1 : World, (Builtin.lenOf x').run P w1 = .ok n w1) ∧ VRL μ l l' ∧ l'.length = n * es ∧ ∀ w1 : World, w1.heap = w.heap → (Builtin.firstCells es n x').run P w1 = .ok l'.toArray w1 := by
  unfold appX at hl
  split at hl
  · simp at hl; subst hl
    cases hx
    exact ⟨0, [], fun _ => rfl, .nil, by simp, fun _ _ => rfl⟩
  · rename_i k o m es'
    cases hb : Nat.beq es es' with
    | false => rw [hb] at hl; cases hl
    | true =>
      rw [hb] at hl
      simp only [cond_true] at hl
      cases hx with
      | slice hk hn hc hp =>
        rename_i b p s cap adr
        obtain ⟨l', g1, g2, g3⟩ := rd_ok hr hk hl
        refine ⟨m, l', fun _ => rfl, g1, g2, fun w1 he => firstCells_some g2 ?_⟩
        rcases hc with hc | ⟨rfl, _⟩
        · intro j v e2
          have := (List.getElem?_eq_some_iff.1 e2).1
          have hm0 : m = 0 := by omega
          rw [g2, hm0, show Nat.mul 0 es = 0 from Nat.zero_mul es] at this
          omega
        · intro j v e2
          have := g3 j v e2
          simpa [World.cell?, he] using this
  · rename_i s
    cases hb : Nat.beq es 1 with
    | false => rw [hb] at hl; cases hl
    | true =>
      rw [hb] at hl
      rw [beqN] at hb
      have hb' : es = 1 := by simpa using hb
      subst hb'
      simp only [cond_true, Option.some.injEq] at hl; subst hl
      cases hx
      have hsz : s.size = s.data.toList.length := by rw [Array.length_toList]; rfl
      refine ⟨s.size, s.data.toList.map fun b => Value.int .u8 b.toNat, fun _ => rfl, VRL.refl fun v hv => ?_, by rw [List.length_map, hsz]; omega, fun w1 _ => ?_⟩
      · obtain ⟨b, _, rfl⟩ := List.mem_map.1 hv
        exact .int _ _
      · have he : s.extract 0 s.size = s := by
          have hx1 := ByteArray.extract_zero_size (b := s)
          exact hx1
        show Result.ok ((s.extract 0 s.size).data.map fun b => Value.int .u8 (b.toNat : Int)) w1 = _
        rw [he]
        congr 1
        apply Array.ext'
        simp
  · cases hl
theorem sos_inv {t : TypeId} (hx : sliceOrString P t = true) : (∃ q, P.underlying t = some (.slice q)) ∨ P.underlying t = some .string := by
  unfold sliceOrString at hx
  split at hx
  · rename_i q hq; exact .inl ⟨q, hq⟩
  · rename_i hq; exact .inr hq
  · cases hx
theorem append_room {argTypes : Array TypeId} {ty st xt el : TypeId} {i : TypeInfo} {x : Value} {sLen sCap n : Nat} {news : List Value} {base : Option Addr} {w' : World} (h0 : argTypes[0]? = some st) (h1 : argTypes[1]? = some xt) (hd : P.underlying st = some (.slice el)) (hx : sliceOrString P xt = true)
    (hi : P.info? el = some i) (hlen : ∀ w1 : World, (Builtin.lenOf x).run P w1 = .ok n w1) (hfc : (Builtin.firstCells i.size n x).run P w = .ok news.toArray w) (hroom : sLen + n ≤ sCap)
    (hst : (match base with | some ad => storeCells (ad.add (sLen * i.size)) news 0 | none => pure ()).run P w = .ok () w') :
    (Builtin.append_ argTypes ty #[.slice base sLen sCap, x]).run P w = .ok (.slice base (sLen + n) sCap) w' := by
  have hsz : (sizeOf el).run P w = .ok i.size w := by simp [sizeOf, typeInfo, program, Sem.run, hi]
  cases base with
  | none =>
    have hw : w' = w := by have : Result.ok () w = Result.ok () w' := hst; simpa using this.symm
    subst hw
    rcases sos_inv hx with ⟨q, hx'⟩ | hx' <;>
    · simp only [Builtin.append_, h0, h1, List.getElem?_toArray, List.getElem?_cons_zero, List.getElem?_cons_succ, Sem.run_bind, run_underlying st hd, run_underlying xt hx', Result.andThen_ok, hsz, Sem.run_pure, Bool.false_eq_true, if_false, hlen, Bool.not_false, if_true]
      rw [if_pos hroom]
      simp only [Sem.run_bind, hfc, Result.andThen_ok, Sem.run_pure]
  | some ad =>
    have hst' : (storeCells (ad.add (sLen * i.size)) news 0).run P w = .ok () w' := hst
    rcases sos_inv hx with ⟨q, hx'⟩ | hx' <;>
    · simp only [Builtin.append_, h0, h1, List.getElem?_toArray, List.getElem?_cons_zero, List.getElem?_cons_succ, Sem.run_bind, run_underlying st hd, run_underlying xt hx', Result.andThen_ok, hsz, Sem.run_pure, Bool.false_eq_true, if_false, hlen, Bool.not_false, if_true]
      rw [if_pos hroom]
      simp only [Sem.run_bind, hfc, Result.andThen_ok, Sem.run_pure, hst']
theorem append_grow {argTypes : Array TypeId} {ty st xt el : TypeId} {i : TypeInfo} {z x : Value} {sLen sCap n : Nat} {olds news : List Value} {base : Option Addr} (h0 : argTypes[0]? = some st) (h1 : argTypes[1]? = some xt) (hd : P.underlying st = some (.slice el)) (hx : sliceOrString P xt = true)
    (hi : P.info? el = some i) (hz : i.zero = some z) (hlen : ∀ w1 : World, (Builtin.lenOf x).run P w1 = .ok n w1) (hfc : ∀ w1 : World, w1.heap = w.heap → (Builtin.firstCells i.size n x).run P w1 = .ok news.toArray w1)
    (hfo : ∀ w1 : World, w1.heap = w.heap → (Builtin.firstCells i.size sLen (.slice base sLen sCap)).run P w1 = .ok olds.toArray w1)
    (hg : sCap < sLen + n) (h63 : sLen + n ≤ 16777216) (hby : i.bytes ≤ 4096) :
    ∃ cap, sLen + n ≤ cap ∧ (Builtin.append_ argTypes ty #[.slice base sLen sCap, x]).run P w = .ok (.slice (some ⟨w.heap.size, 0, none⟩) (sLen + n) cap)
      { ({ w with drawn := w.drawn + 1 } : World) with heap := w.heap.push (.cells (olds ++ news ++ (Builtin.zeroCells z.cells (cap - (sLen + n))).toList).toArray el) } := by
  refine ⟨(Question.appendCap (sLen + n) sCap el).cut (w.tape w.drawn (.appendCap (sLen + n) sCap el)), Nat.le_add_right _ _, ?_⟩
  obtain ⟨cap, hcap⟩ : ∃ cap, cap = (Question.appendCap (sLen + n) sCap el).cut (w.tape w.drawn (.appendCap (sLen + n) sCap el)) := ⟨_, rfl⟩
  rw [← hcap]
  have hsz : (sizeOf el).run P w = .ok i.size w := by simp [sizeOf, typeInfo, program, Sem.run, hi]
  have hti : ∀ w1 : World, (typeInfo el).run P w1 = .ok i w1 := fun w1 => by simp [typeInfo, program, Sem.run, hi]
  have hzv : ∀ w1 : World, (zeroValue el).run P w1 = .ok z w1 := fun w1 => by simp [zeroValue, hti, hz]
  have hq : (choose (.appendCap (sLen + n) sCap el)).run P w = .ok cap { w with drawn := w.drawn + 1 } := by rw [hcap]; rfl
  have hn : ¬ (sLen + n ≤ sCap) := by omega
  have h63' : ¬ (((sLen + n : Nat) : Int) > IntKind.i64.max) := by
    have : (IntKind.i64.max : Int) = 9223372036854775807 := by decide
    rw [this]; omega
  have hfit : ¬ (Builtin.nextslicecap (sLen + n) sCap * i.bytes > 2 ^ 48) := by
    have := growslice_fits (bytes := i.bytes) hg (by
      have : (sLen + n) * i.bytes ≤ 16777216 * 4096 := Nat.mul_le_mul h63 hby
      omega)
    omega
  have hask : ∀ (m : Nat) (w1 : World), (askRoom m).run P w1 = .ok () w1 := fun m w1 => by unfold askRoom; split <;> rfl
  have f1 := hfo { w with drawn := w.drawn + 1 } rfl
  have f2 := hfc { w with drawn := w.drawn + 1 } rfl
  have hnew : ∀ (c : Array Value) (w1 : World), (newRow el c).run P w1 = .ok ⟨w1.heap.size, 0, none⟩ { w1 with heap := w1.heap.push (.cells c el) } := fun _ _ => rfl
  have harr : ∀ (q : Array Value), olds.toArray ++ news.toArray ++ q = (olds ++ news ++ q.toList).toArray := fun q => by apply Array.ext'; simp
  rcases sos_inv hx with ⟨q, hx'⟩ | hx' <;>
  · simp only [Builtin.append_, h0, h1, List.getElem?_toArray, List.getElem?_cons_zero, List.getElem?_cons_succ, Sem.run_bind, run_underlying st hd, run_underlying xt hx', Result.andThen_ok, hsz, Sem.run_pure, Bool.false_eq_true, if_false, hlen, Bool.not_false, if_true]
    rw [if_neg hn]
    simp only [Sem.run_bind, hti, Result.andThen_ok, h63', false_and, if_false, hfit, hq, hask, f1, f2, hzv, Sem.run_pure, hnew, harr]
end
end Cx
end Go.Proofs.YtfigbldiffjmbaaGreatDoor
