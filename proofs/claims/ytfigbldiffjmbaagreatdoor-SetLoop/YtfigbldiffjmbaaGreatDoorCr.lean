/- Closed runs: operations, fourth part: conversions, slices, indices. -/
import Derived.Test.YtfigbldiffjmbaaGreatDoorCq
import Derived.Laws.BytesString
import Derived.Laws.MakeOwn
namespace Go.Proofs.YtfigbldiffjmbaaGreatDoor
namespace Cx
open Go

section
variable {P : Program} {G B : Nat} {μ : Mu} {h : Hp} {w : World} {e : En} {a : Act}

theorem opUn_ok (hr : HR B μ h.n h.t.get w) (hg : GR G μ) (he : TR μ e a.tmps) {op : UnOp} {x : Operand} {v : Value} {h' : Hp} (hv : opUn P G e h op x = .value v h') : VOk P B μ h w (Op.unary op (a.eval x)) v h' := by
  unfold opUn at hv
  split at hv
  · rename_i u hx
    cases hs : scalar u with
    | false => rw [hs] at hv; cases hv
    | true =>
      rw [hs] at hv
      obtain ⟨h1, rfl⟩ := ofV_inv hv
      obtain ⟨p1, p2⟩ := pureS_ok (w := w) (μ := μ) h1
      rw [(ev_ok hg he hx).scalar hs]
      exact .pure hr p1 p2
  · cases hv
theorem opIndex_ok (hr : HR B μ h.n h.t.get w) (hg : GR G μ) (he : TR μ e a.tmps) {t : TypeId} {x y : Operand} {v : Value} {h' : Hp} (hv : opIndex P G e h t x y = .value v h') : VOk P B μ h w (Instr.index t (a.eval x) (a.eval y)) v h' := by
  unfold opIndex at hv
  split at hv
  · rename_i u u2 hx hy
    cases hs : (scalar u && scalar u2) with
    | false => rw [hs] at hv; cases hv
    | true =>
      rw [hs] at hv
      simp only [Bool.and_eq_true] at hs
      obtain ⟨h1, rfl⟩ := ofV_inv hv
      obtain ⟨p1, p2⟩ := pureS_ok (w := w) (μ := μ) h1
      rw [(ev_ok hg he hx).scalar hs.1, (ev_ok hg he hy).scalar hs.2]
      exact .pure hr p1 p2
  · cases hv

theorem bytesOf_cons (v : Value) (l : List Value) : bytesOf (v :: l) = (match v with
    | .int .u8 n => (match bytesOf l with | some l => some (UInt8.ofNat n.toNat :: l) | none => none)
    | _ => none) := rfl
theorem bytesOf_ok {l l' : List Value} (hl : VRL μ l l') : ∀ {bs : List UInt8}, bytesOf l = some bs → ∃ ns : List Int, l' = ns.map (Value.int .u8) ∧ bs = ns.map fun n => UInt8.ofNat n.toNat := by
  induction l generalizing l' with
  | nil => intro bs hb; have hb' : some ([] : List UInt8) = some bs := hb; simp at hb'; subst hb'; cases hl; exact ⟨[], rfl, rfl⟩
  | cons v l ih =>
    intro bs hb
    rw [bytesOf_cons] at hb
    split at hb
    · rename_i n
      split at hb
      · rename_i q hq
        simp at hb; subst hb
        cases hl with
        | cons h1 t1 =>
          obtain ⟨ns, g1, g2⟩ := ih t1 hq
          cases h1
          exact ⟨n :: ns, by simp [g1], by simp [g2]⟩
      · cases hb
    · cases hb
theorem foldl_push : ∀ (ns : List Int) (s : ByteArray), ns.foldl (fun r n => r.push (UInt8.ofNat n.toNat)) s = ⟨(s.data.toList ++ ns.map fun n => UInt8.ofNat n.toNat).toArray⟩
  | [], s => by simp
  | n :: ns, s => by
    rw [List.foldl_cons, foldl_push ns]
    simp [ByteArray.push]
/-- a new row in a world that has drawn -/
theorem row_new (hr : HR B μ h.n h.t.get w) (hB : B ≤ w.heap.size) (w1 : World) (e1 : w1.heap = w.heap) (e2 : w1.os = w.os) (e3 : w1.tape = w.tape) (e4 : w1.output = w.output) (t : TypeId) {vs vs' : List Value} (hv : VRL μ vs vs') (rest : List Value) (lo hi : Nat)
    (hfr : lo ≤ hi ∧ ∀ i, i < (vs' ++ rest).length → ¬ (lo ≤ i ∧ i < hi)) :
    ∃ μ', μ' h.n = some (w.heap.size, 0, (vs' ++ rest).length) ∧ Mu.le μ μ' ∧ Good B μ h w μ' (h.new (.cells vs)) { w1 with heap := w1.heap.push (.cells (vs' ++ rest).toArray t (lo, hi)) } := by
  have hr1 : HR B μ h.n h.t.get w1 := hr.heap e1
  have hle : Mu.le μ (μ.add h.n (w.heap.size, 0, (vs' ++ rest).length)) := Mu.add_le fun y e => by have := hr.dom _ _ e; omega
  refine ⟨μ.add h.n (w.heap.size, 0, (vs' ++ rest).length), by simp [Mu.add], hle, ?_⟩
  have hn := new_ok (μ := μ) (h := h) (w := w1) hr1 (by rw [e1]; exact hB) (.cells (vs' ++ rest).toArray t (lo, hi)) (.cells vs) (vs' ++ rest).length rfl (by
    rw [e1]
    refine ⟨(vs' ++ rest).toArray, t, lo, hi, by simp, by simp, by have := hv.length; simp; omega, ⟨hfr.1, fun i hi' => hfr.2 i (by simpa using hi')⟩, fun i v e => ?_⟩
    obtain ⟨v', h1, h2⟩ := hv.get i v e
    have hi := (List.getElem?_eq_some_iff.1 h1).1
    exact ⟨v', by simp [List.getElem?_append_left hi, h1], h2.mono hle⟩)
  rw [e1] at hn ⊢
  exact Good.trans hr (Good.drew hr e1 e2 e3 e4) hn
/-- the row of a string's bytes -/
theorem bytes_row (w : World) (el : TypeId) (l : List Value) (n cap : Nat) (hl : l.length = cap) :
    ((newRow el l.toArray).run P w).andThen (fun a w' => ((markStringish a).run P w').andThen fun _ w' => (pure (.slice (some a) n cap) : Sem Value).run P w') =
      .ok (.slice (some ⟨w.heap.size, 0, none⟩) n cap) { w with heap := w.heap.push (.cells l.toArray el (cap, cap + 1)) } := by
  have h1 : (newRow el l.toArray).run P w = .ok ⟨w.heap.size, 0, none⟩ { w with heap := w.heap.push (.cells l.toArray el) } := rfl
  rw [h1, Result.andThen_ok]
  have h2 : ({ w with heap := w.heap.push (.cells l.toArray el) } : World).shape? w.heap.size = some (el, cap) := by simp [World.shape?, hl]
  have h3 : ({ w with heap := w.heap.push (.cells l.toArray el) } : World).freeze { block := w.heap.size, off := cap } 1 = { w with heap := w.heap.push (.cells l.toArray el (cap, cap + 1)) } := by
    have hh : (w.heap.push (.cells l.toArray el)).modify w.heap.size (fun | .cells c elem (lo, hi) => .cells c elem (if lo == hi then (cap, cap + 1) else (min lo cap, max hi (cap + 1))) | o => o) = w.heap.push (.cells l.toArray el (cap, cap + 1)) := by
      apply Array.ext_getElem?
      intro i
      rw [Array.getElem?_modify]
      by_cases hi : w.heap.size = i
      · subst hi; simp
      · simp only [hi, if_false, Array.getElem?_push]
        have : ¬ i = w.heap.size := fun e => hi e.symm
        simp [this]
    simp only [World.freeze, Nat.one_ne_zero, if_false]
    exact congrArg (fun x => ({ w with heap := x } : World)) hh
  have h4 : (shape w.heap.size).run P { w with heap := w.heap.push (.cells l.toArray el) } = .ok (some (el, cap)) { w with heap := w.heap.push (.cells l.toArray el) } := by
    show Result.ok _ _ = _
    rw [h2]
  simp only [markStringish, Sem.run_bind, h4, Result.andThen_ok]
  show (Result.ok _ (World.freeze _ _ _)).andThen _ = _
  rw [h3]
  rfl
/-- a row that is written out as a text: the mark lies behind its end -/
theorem freeze_block {w : World} {b : Nat} {c : Array Value} {ty : TypeId} {lo hi : Nat} (hb : w.heap[b]? = some (.cells c ty (lo, hi))) (h4 : lo ≤ hi ∧ ∀ i, i < c.size → ¬ (lo ≤ i ∧ i < hi)) :
    ∃ lo' hi', (w.freeze ⟨b, c.size, none⟩ 1).heap[b]? = some (.cells c ty (lo', hi')) ∧ lo' ≤ hi' ∧ ∀ i, i < c.size → ¬ (lo' ≤ i ∧ i < hi') := by
  have hx : (w.freeze ⟨b, c.size, none⟩ 1).heap[b]? = some (.cells c ty (if lo == hi then (c.size, c.size + 1) else (min lo c.size, max hi (c.size + 1)))) := by
    simp only [World.freeze, Nat.one_ne_zero, if_false]
    rw [Array.getElem?_modify, hb]
    simp
  by_cases hl : lo = hi
  · subst hl
    refine ⟨c.size, c.size + 1, by simpa using hx, by omega, fun i hi => by omega⟩
  · have hge : c.size ≤ lo := by
      rcases Nat.lt_or_ge lo c.size with h | h
      · exact absurd ⟨Nat.le_refl lo, by omega⟩ (h4.2 lo h)
      · exact h
    have hbq : (lo == hi) = false := by simpa using hl
    rw [hbq] at hx
    refine ⟨min lo c.size, max hi (c.size + 1), by simpa using hx, by omega, fun i hi => by omega⟩
theorem convB_ok (hr : HR B μ h.n h.t.get w) {src dst : TypeId} {es el : TypeId} (hs : P.underlying src = some (.slice es)) (hd : P.underlying dst = some (.slice el)) {k o n c cc : Nat} {x' v : Value} {h' : Hp} (hx : VR μ (.slice (some ⟨k, o, none⟩) n cc) x') (hc : c = cc)
    (hv : convB h k o n c (Nat.beq src dst) (P.underlying el) (h.t.get k) = .value v h') : VOk P B μ h w (convert src dst x') v h' := by
  subst hc
  unfold convB at hv
  split at hv
  · rename_i hsd hel hob
    rename_i vs
    simp only [Out.value.injEq] at hv
    obtain ⟨rfl, rfl⟩ := hv
    have hsd' := Nat.eq_of_beq_eq_true hsd
    subst hsd'
    have hse : es = el := by rw [hs] at hd; simpa using hd
    subst hse
    cases hx with
    | slice hk hn hcp he =>
      rename_i b p s cap adr
      obtain ⟨cc, ty, lo, hi, q1, q2, q3, q4, q5⟩ := hr.obj k b p s _ hk hob
      obtain ⟨lo', hi', g1, g2⟩ := freeze_block q1 q4
      refine ⟨.slice (some ⟨b, adr, none⟩) n cap, w.freeze ⟨b, cc.size, none⟩ 1, μ, ?_, .slice hk hn hcp he, ?_⟩
      · have h2 : w.shape? b = some (ty, cc.size) := by simp [World.shape?, q1]
        have h4 : (shape b).run P w = .ok (some (ty, cc.size)) w := by
          show Result.ok _ _ = _
          rw [h2]
        simp only [convert, Sem.run_bind, run_underlying src hs, run_underlying es hel, Result.andThen_ok, markStringish, beq_self_eq_true, h4]
        rfl
      · refine set_ok hr hk hob rfl rfl rfl rfl rfl rfl ?_ (fun b' hne => ?_) ⟨cc, ty, lo', hi', g1, q2, q3, g2, q5⟩
        · simp [World.freeze]
        · simp only [World.freeze, Nat.one_ne_zero, if_false]
          rw [Array.getElem?_modify, if_neg (fun e => hne e.symm)]
  · cases hv
theorem convV_ok (hr : HR B μ h.n h.t.get w) (hB : B ≤ w.heap.size) {src dst : TypeId} {x x' v : Value} {h' : Hp} (hx : VR μ x x') (hv : convV P h src dst x = .value v h') : VOk P B μ h w (convert src dst x') v h' := by
  unfold convV at hv
  split at hv
  · rename_i k o n es
    split at hv
    · rename_i el hs hd
      split at hv
      · rename_i hel
        split at hv
        · rename_i l hl
          split at hv
          · rename_i bs hbs
            simp at hv; obtain ⟨rfl, rfl⟩ := hv
            cases hx with
            | slice hk hn hc he =>
              rename_i b p s cap adr
              obtain ⟨l', g1, g2, g3⟩ := rd_ok hr hk hl
              obtain ⟨ns, q1, q2⟩ := bytesOf_ok g1 hbs
              have hload := run_loadCells_list (P := P) w ⟨b, adr, none⟩ l' (by
                rcases hc with hc | ⟨rfl, _⟩
                · intro j v e; have := (List.getElem?_eq_some_iff.1 e).1; omega
                · exact g3)
              rw [g2] at hload
              have := run_bytesToString (P := P) w ⟨b, adr, none⟩ n cap ns (by rw [hload, q1])
              refine .pure hr (v' := .string ⟨bs.toArray⟩) ?_ (.string _)
              simp only [convert, Sem.run_bind, run_underlying src hs, run_underlying dst hd, run_underlying el hel, Result.andThen_ok, this, foldl_push, q2]
              rfl
          · cases hv
        · cases hv
      · cases hv
    · rename_i es0 el hs hd
      exact convB_ok hr hs hd hx rfl hv
    · cases hv
  · split at hv
    · rename_i el hs hd
      split at hv
      · rename_i hel
        simp at hv; obtain ⟨rfl, rfl⟩ := hv
        cases hx
        refine .pure hr (v' := .string ⟨#[]⟩) ?_ (.string _)
        simp only [convert, Sem.run_bind, run_underlying src hs, run_underlying dst hd, run_underlying el hel, Result.andThen_ok]
        rfl
      · cases hv
    · cases hv
  · rename_i s
    cases hx
    split at hv
    · rename_i el hs hd
      split at hv
      · rename_i hel
        cases hc : Nat.ble s.data.toList.length 16777216 with
        | false => rw [hc] at hv; cases hv
        | true =>
          rw [hc] at hv
          have c1 : s.data.toList.length ≤ 16777216 := Nat.le_of_ble_eq_true hc
          simp only [cond_true, outRow, Out.value.injEq] at hv; obtain ⟨rfl, rfl⟩ := hv
          have hsz : s.size = s.data.toList.length := by rw [Array.length_toList]; rfl
          obtain ⟨cap, hcap⟩ : ∃ cap, cap = (Question.appendCap s.size 0 el).cut (w.tape w.drawn (.appendCap s.size 0 el)) := ⟨_, rfl⟩
          have hge : s.size ≤ cap := by rw [hcap]; exact Nat.le_add_right _ _
          have hself : VRL μ (s.data.toList.map fun b => Value.int .u8 b.toNat) (s.data.toList.map fun b => Value.int .u8 b.toNat) := VRL.refl fun v hv => by
            obtain ⟨b, _, rfl⟩ := List.mem_map.1 hv
            exact .int _ _
          have hlen : ((s.data.toList.map fun b => Value.int .u8 b.toNat) ++ List.replicate (cap - s.size) (Value.int .u8 0)).length = cap := by rw [List.length_append, List.length_map, List.length_replicate, ← hsz]; omega
          obtain ⟨μ', g1, g2, g3⟩ := row_new hr hB { w with drawn := w.drawn + 1 } rfl rfl rfl rfl el hself (List.replicate (cap - s.size) (.int .u8 0)) cap (cap + 1) ⟨by omega, fun i hi => by rw [hlen] at hi; omega⟩
          refine ⟨.slice (some ⟨w.heap.size, 0, none⟩) s.size cap, _, μ', ?_, ?_, g3⟩
          · have harr : (s.data.map fun b => Value.int .u8 (b.toNat : Int)) ++ Array.replicate (cap - s.size) (Value.int .u8 0) = ((s.data.toList.map fun b => Value.int .u8 b.toNat) ++ List.replicate (cap - s.size) (Value.int .u8 0)).toArray := by
              apply Array.ext'; simp
            have hcv : (convert src dst (.string s)).run P w = (Conv.stringToBytes el s).run P w := by
              simp only [convert, Sem.run_bind, run_underlying src hs, run_underlying dst hd, run_underlying el hel, Result.andThen_ok]
            rw [hcv]
            have hq : (choose (.appendCap s.size 0 el)).run P w = .ok cap { w with drawn := w.drawn + 1 } := by
              rw [hcap]; rfl
            simp only [Conv.stringToBytes, Sem.run_bind, hq, Result.andThen_ok]
            rw [harr]
            exact bytes_row _ _ _ _ _ hlen
          · rw [← hsz]
            exact VR.slice (μ := μ') (k := h.n) (o := 0) (n := s.size) (es := 1) (cap := cap) g1 hge (.inr ⟨rfl, by rw [hlen]; omega⟩) (by omega)
      · cases hv
    · rename_i hs hd
      simp at hv; obtain ⟨rfl, rfl⟩ := hv
      refine .pure hr (v' := .string s) ?_ (.string _)
      simp only [convert, Sem.run_bind, run_underlying src hs, run_underlying dst hd, Result.andThen_ok]
      rfl
    · cases hv
  · cases hs : scalar x with
    | false => rw [hs] at hv; cases hv
    | true =>
      rw [hs] at hv
      obtain ⟨h1, rfl⟩ := ofV_inv hv
      obtain ⟨p1, p2⟩ := pureS_ok (w := w) (μ := μ) h1
      rw [hx.scalar hs]
      exact .pure hr p1 p2
theorem opConv_ok (hr : HR B μ h.n h.t.get w) (hB : B ≤ w.heap.size) (hg : GR G μ) (he : TR μ e a.tmps) {src dst : TypeId} {x : Operand} {v : Value} {h' : Hp} (hv : opConv P G e h src dst x = .value v h') : VOk P B μ h w (convert src dst (a.eval x)) v h' := by
  unfold opConv at hv
  split at hv
  · rename_i u hx; exact convV_ok hr hB (ev_ok hg he hx) hv
  · cases hv

theorem idxV_ok (hr : HR B μ h.n h.t.get w) {t : TypeId} {i : Nat} {ki : IntKind} {x x' v : Value} {h' : Hp} (hx : VR μ x x') (hv : idxV P h t i x = .value v h') : VOk P B μ h w (Instr.indexAt t x' (.int ki (.ofNat i))) v h' := by
  unfold idxV at hv
  split at hv
  · rename_i k o n es
    split at hv
    · rename_i el hel
      split at hv
      · rename_i m hm
        cases hc : (Nat.blt i n && Nat.beq m es) with
        | false => rw [hc] at hv; cases hv
        | true =>
          rw [hc] at hv
          simp only [Bool.and_eq_true, blt_iff, beqN, decide_eq_true_eq] at hc
          obtain ⟨c1, rfl⟩ := hc
          simp [outP] at hv; obtain ⟨rfl, rfl⟩ := hv
          have hd : P.underlying t = some (.slice el) := by
            unfold elemOf at hel; split at hel
            · rename_i x hx; simp at hel; rw [hx, hel]
            · cases hel
          cases hx with
          | slice hk hn hcap he =>
            rename_i b p s cap adr
            obtain ⟨rfl, _⟩ : adr = p + o ∧ o + cap * m ≤ s := hcap.resolve_left (by omega)
            refine .pure hr (v' := .pointer (some ⟨b, p + o + i * m, none⟩)) ?_ (by rw [Nat.add_assoc]; exact VR.ptr hk)
            have c2 : 0 ≤ (Int.ofNat i) ∧ (Int.ofNat i) < (n : Int) := by constructor <;> simp <;> omega
            simp only [Instr.indexAt, asIntOf, Sem.run_bind, Sem.run_pure, Result.andThen_ok, run_underlying t hd]
            rw [if_pos c2]
            simp [run_size el hm, addA]
      · cases hv
    · cases hv
  · rename_i k o
    split at hv
    · rename_i n el hd
      split at hv
      · rename_i es hes
        cases hc : Nat.blt i n with
        | false => rw [hc] at hv; cases hv
        | true =>
          rw [hc] at hv
          have c1 := blt_iff.1 hc
          simp [outP] at hv; obtain ⟨rfl, rfl⟩ := hv
          cases hx with
          | ptr hk =>
            rename_i b p s
            refine .pure hr (v' := .pointer (some ⟨b, p + o + i * es, none⟩)) ?_ (by rw [Nat.add_assoc]; exact VR.ptr hk)
            have c2 : 0 ≤ (Int.ofNat i) ∧ (Int.ofNat i) < (n : Int) := by constructor <;> simp <;> omega
            simp only [Instr.indexAt, asIntOf, Sem.run_bind, Sem.run_pure, Result.andThen_ok, run_underlying t hd, Instr.sureAddr]
            rw [if_pos c2]
            simp [run_size el hes, addA]
      · cases hv
    · cases hv
  · cases hv
end
end Cx
end Go.Proofs.YtfigbldiffjmbaaGreatDoor
