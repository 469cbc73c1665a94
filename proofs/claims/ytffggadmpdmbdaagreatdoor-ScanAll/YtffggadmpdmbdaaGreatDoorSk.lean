/- scan: the reader, and what it puts. -/
import Derived.Test.YtffggadmpdmbdaaGreatDoorSj
import Derived.OwnWalk
import Derived.Deep.AppendLies
import Derived.Laws.OwnMore
import Derived.OneCell
namespace Go.Proofs.YtffggadmpdmbdaaGreatDoor
open Go.RowKit
attribute [local go_sem ↓] Go.wp_at_zero Go.wp_at_succ
/-- A token. -/
structure Tok where
  kind : Int
  text : ByteArray
  at' : Int
def encT (t : Tok) : List Value := [.int .i64 t.kind, .string t.text, .int .i64 t.at']
def flatT (L : List Tok) : List Value := L.flatMap encT
theorem flatT_len (L : List Tok) : (flatT L).length = L.length * 3 := by
  induction L with
  | nil => rfl
  | cons x L ih => simp [flatT, encT] at ih ⊢; omega
theorem flatT_snoc (L : List Tok) (x : Tok) : flatT (L ++ [x]) = flatT L ++ [.int .i64 x.kind, .string x.text, .int .i64 x.at'] := by simp [flatT, encT]
theorem flatT_get (L : List Tok) (i : Nat) (h : i < L.length) : (flatT L)[i * 3]? = some (.int .i64 L[i].kind) ∧ (flatT L)[i * 3 + 1]? = some (.string L[i].text) ∧ (flatT L)[i * 3 + 2]? = some (.int .i64 L[i].at') := by
  induction L generalizing i with
  | nil => simp at h
  | cons x L ih =>
    cases i with
    | zero => exact ⟨rfl, rfl, rfl⟩
    | succ i =>
      have := ih i (by simpa using h)
      have e : (i + 1) * 3 = i * 3 + 1 + 1 + 1 := by omega
      simp only [flatT, encT, List.flatMap_cons, e] at this ⊢
      simpa using this
theorem Tryz.info33 : (Tryz.prog.info? 33).map (fun i => (i.zero, i.size, i.bytes)) = some (some (.agg #[.int .i64 0, .string ⟨#[]⟩, .int .i64 0]), 3, 32) := by kernel_rfl
/-- The reader: its source, its place, its tokens, all from block B on. -/
structure Rd (w : World) (B g : Nat) (src : ByteArray) (pos : Nat) (ts : List Tok) : Prop where
  c0 : w.cell? ⟨g, 0, none⟩ = some (.string src)
  c1 : w.cell? ⟨g, 1, none⟩ = some (.int .i64 pos)
  c2 : ∃ v, w.cell? ⟨g, 2, none⟩ = some v ∧ w.ownsRow B 33 3 v ts.length (flatT ts) ∧ v.ownBlock ≠ some g ∧ ∃ a l c, v = .slice a l c
  fz : ∀ o, w.frozen? ⟨g, o, none⟩ = false
  lo : B ≤ g
  hi : g < w.heap.size
theorem grownBy_of_below {w w' : World} (h : Below w.heap.size w w') (r : Option Nat) : w.grownBy w' r := ⟨h.os, h.tape, h.output, h.size, fun k hk _ => h.block k hk⟩
theorem Rd.next {w w' : World} {B g : Nat} {src : ByteArray} {pos : Nat} {ts : List Tok} (h : Rd w B g src pos ts) (hb : Below w.heap.size w w') : Rd w' B g src pos ts := by
  obtain ⟨c0, c1, ⟨v, v0, v1, v2, v3⟩, fz, lo, hi⟩ := h
  refine ⟨keep_cell hb c0, keep_cell hb c1, ⟨v, keep_cell hb v0, v1.kept (grownBy_of_below hb none) ?_, v2, v3⟩, fun o => by rw [hb.frozen hi]; exact fz o, lo, Nat.lt_of_lt_of_le hi hb.size⟩
  rcases h : v.ownBlock with _ | k
  · exact .inl rfl
  · exact .inr (by simp)
theorem Glob.keep {w w' : World} {B : Nat} (h : Glob w) (hb : Below B w w') (hB : 3 < B) : Glob w' := by
  obtain ⟨⟨⟨h1, h2⟩, te, pe, h4⟩, m, h3⟩ := h
  refine ⟨⟨⟨fun c hc => ?_, fun i hi => ⟨?_, ?_⟩⟩, te, pe, ?_⟩, m, ?_⟩
  · rw [hb.cell (by show 0 < B; omega)]; exact h1 c hc
  · rw [hb.cell (by show 1 < B; omega)]; exact (h2 i hi).1
  · rw [hb.cell (by show 1 < B; omega)]; exact (h2 i hi).2
  · rw [hb.cell (by show 3 < B; omega)]; exact h4
  · rw [hb.cell (by show 2 < B; omega)]; exact h3
/-- The place is turned. -/
theorem Rd.move {w : World} {B g : Nat} {src : ByteArray} {pos : Nat} {ts : List Tok} (h : Rd w B g src pos ts) (p : Nat) : Rd (w.setCell ⟨g, 1, none⟩ (.int .i64 p)) B g src p ts := by
  obtain ⟨c0, c1, ⟨v, v0, v1, v2, v3⟩, fz, lo, hi⟩ := h
  obtain ⟨a, l, c, rfl⟩ := v3
  refine ⟨by simp [go_sem, c0], by simp [go_sem, c1], ⟨_, by simp [go_sem, v0], ownsRow_setCell_other v1 (by exact v2) _, v2, a, l, c, rfl⟩, fun o => by rw [World.frozen?_setCell]; exact fz o, lo, by simp; exact hi⟩
/-- The tokens are turned. -/
theorem Rd.put {w w4 : World} {B g : Nat} {src : ByteArray} {pos : Nat} {ts ts' : List Tok} {a : Option Addr} {l c : Nat} {r : Option Nat} (h : Rd w B g src pos ts) (hg : w.grownBy w4 r) (hr : r ≠ some g) (ho : w4.ownsRow B 33 3 (.slice a l c) ts'.length (flatT ts')) (hne : (Value.slice a l c).ownBlock ≠ some g) : Rd (w4.setCell ⟨g, 2, none⟩ (.slice a l c)) B g src pos ts' := by
  obtain ⟨c0, c1, ⟨v, v0, v1, v2, v3⟩, fz, lo, hi⟩ := h
  have k0 := hg.cell c0 (fun e => hr e.symm)
  have k1 := hg.cell c1 (fun e => hr e.symm)
  have k2 := hg.cell v0 (fun e => hr e.symm)
  refine ⟨by simp [go_sem, k0], by simp [go_sem, k1], ⟨_, by simp [go_sem, k2], ownsRow_setCell_other ho (by exact hne) _, hne, a, l, c, rfl⟩, fun o => by rw [World.frozen?_setCell, hg.frozen_far _ hi (fun e => hr e.symm)]; exact fz o, lo, by simp; exact Nat.lt_of_lt_of_le hi hg.size⟩
set_option maxRecDepth 20000 in
set_option maxHeartbeats 4000000 in
theorem put_any {w : World} {B g : Nat} {src : ByteArray} {pos : Nat} {ts : List Tok} (h : Rd w B g src pos ts) (k a : Int) (s : ByteArray) (hl : ts.length < 1000000000) : Calls Tryz.prog 13 #[.pointer (some ⟨g, 0, none⟩), .int .i64 k, .string s, .int .i64 a] w fun e w' => e = .returned (.tuple #[]) ∧ Rd w' B g src pos (ts ++ [⟨k, s, a⟩]) ∧ Below B w w' := by
  obtain ⟨i0, hi0, hz0, hz1, hz2⟩ := info_parts Tryz.info33
  have hlo := h.lo
  have hgs := h.hi
  obtain ⟨v, v0, v1, v2, va, vl, vc, rfl⟩ := h.c2
  have hBa : Below w.heap.size w (w.alloc (.cells #[.int .i64 k, .string s, .int .i64 a] 33)) := (Below.refl _ _).alloc (Nat.le_refl _) _
  have hO := v1.alloc (.cells #[.int .i64 k, .string s, .int .i64 a] 33)
  have hnews : ∀ j u, ([.int .i64 k, .string s, .int .i64 a] : List Value)[j]? = some u → (w.alloc (.cells #[.int .i64 k, .string s, .int .i64 a] 33)).cell? ((⟨w.heap.size, 0, none⟩ : Addr).add j) = some u := by
    intro j u hj
    rw [addr_add]
    match j, hj with
    | 0, hj => simp at hj; subst hj; simp [go_sem]
    | 1, hj => simp at hj; subst hj; simp [go_sem]
    | 2, hj => simp at hj; subst hj; simp [go_sem]
  have hone : ∀ u ∈ ([.int .i64 k, .string s, .int .i64 a] : List Value), u.oneCell' = true := by
    intro u hu
    simp at hu
    rcases hu with rfl | rfl | rfl <;> rfl
  have hR := h.next hBa
  replace hR : Hid _ := hR
  replace hO : Hid ((w.alloc (.cells #[.int .i64 k, .string s, .int .i64 a] 33)).ownsRow B 33 3 (.slice va vl vc) ts.length (flatT ts)) := hO
  have hvlt := v1.lt
  clear h v1
  go_enter Tryz.func13, Tryz.ntmps13
  go_wp2_with (at_builtin; refine wpList_append_lies _ (by rfl) (.tmp 12) (.tmp 17) 25 (by rfl) B 33 i0 _ 3 32 Tryz.underlying25 hi0 hz0 hz1 hz2 (by rfl) (by decide) (.slice va vl vc) ts.length (flatT ts) (by rfl) hO.out ⟨w.heap.size, 0, none⟩ 1 1 [.int .i64 k, .string s, .int .i64 a] (by rfl) (by rfl) hnews hone (by decide) (by unfold maxLen; omega) (by omega) (by simp; omega) (w.heap.size + 1) (by simp) ?_)
  intro g' cap' w4 hO4 hg4 hat hlt4
  have hne : (Value.slice (some ⟨g', 0, none⟩) (ts.length + 1) cap').ownBlock ≠ some g := by
    intro e
    have e' : g' = g := by simpa [Value.ownBlock] using e
    rcases hat with h1 | h1
    · exact v2 (by rw [h1, e'])
    · omega
  have c4 := hg4.cell (keep_cell hBa v0) (fun e => v2 e.symm)
  have fr4 := hR.out.fz 2
  rw [← hg4.frozen_far ⟨g, 2, none⟩ (by simp; omega) (fun e => v2 e.symm)] at fr4
  have hlen : (ts ++ [(⟨k, s, a⟩ : Tok)]).length = ts.length + 1 := by simp
  have hR4 : Hid _ := hR.out.put (ts' := ts ++ [⟨k, s, a⟩]) hg4 v2 (by rw [hlen, flatT_snoc]; exact hO4) hne
  have hB4 : Below B w w4 := ((Below.refl B w).alloc (by omega) _).grown hg4 (by simp; omega) (fun b hb => (hvlt b hb).1)
  have hBf : Hid (Below B w (w4.setCell ⟨g, 2, none⟩ (.slice (some ⟨g', 0, none⟩) (ts.length + 1) cap'))) := hB4.setCell hlo _
  clear hO4 hg4 hat hne hO hnews hone hR hB4
  go_wp2
  exact bodyPost_end (v := .tuple #[]) (by simp [results, Tryz.results13, go_sem]) rfl ⟨rfl, hR4.out, hBf.out⟩
/-- A line ends. -/
def endL (ts : List Tok) (a : Int) : List Tok := match ts.getLast? with
  | none => ts
  | some t => if asksM t.kind t.text.toList = true then ts ++ [⟨7, ⟨#[10]⟩, a⟩] else ts
set_option maxRecDepth 20000 in
set_option maxHeartbeats 4000000 in
theorem endLine_any {w : World} {B g : Nat} {src : ByteArray} {pos : Nat} {ts : List Tok} (h : Rd w B g src pos ts) (a : Int) (hl : ts.length < 1000000000) : Calls Tryz.prog 12 #[.pointer (some ⟨g, 0, none⟩), .int .i64 a] w fun e w' => e = .returned (.tuple #[]) ∧ Rd w' B g src pos (endL ts a) ∧ Below B w w' := by
  have hlo := h.lo
  have hgs := h.hi
  have hE : Hid (endL ts a = match ts.getLast? with
    | none => ts
    | some t => if asksM t.kind t.text.toList = true then ts ++ [⟨7, ⟨#[10]⟩, a⟩] else ts) := rfl
  obtain ⟨v, v0, v1, v2, va, vl, vc, rfl⟩ := h.c2
  rcases Nat.eq_zero_or_pos ts.length with h0 | h0
  · have ht : ts = [] := List.eq_nil_of_length_eq_zero h0
    subst ht
    have hvl : vl = 0 := by
      rcases v1.2 with ⟨e, _⟩ | ⟨g', cap, cur, e, _⟩
      · cases e; rfl
      · cases e; rfl
    subst hvl
    replace h : Hid _ := h
    clear v1
    go_enter Tryz.func12, Tryz.ntmps12
    go_wp2
    exact bodyPost_end (v := .tuple #[]) (by simp [results, Tryz.results12, go_sem]) rfl ⟨rfl, by rw [hE.out]; exact h.out, Below.refl _ _⟩
  · obtain ⟨g', cap, e, hg1, hg2⟩ := v1.form h0
    cases e
    obtain ⟨n, hn⟩ : ∃ n, ts.length = n + 1 := ⟨ts.length - 1, by omega⟩
    have hlt : n < ts.length := by omega
    obtain ⟨f0, f1, f2⟩ := flatT_get ts n hlt
    have q0 := v1.cellAt (n * 3) (by omega)
    have q1 := v1.cellAt (n * 3 + 1) (by omega)
    have q2 := v1.cellAt (n * 3 + 2) (by omega)
    rw [f0] at q0
    rw [f1] at q1
    rw [f2] at q2
    have hlast : ts.getLast? = some ts[n] := by
      rw [List.getLast?_eq_getElem?, hn]
      simp
    rw [hlast] at hE
    simp only at hE
    generalize ts[n] = t at *
    obtain ⟨tk, tt, ta⟩ := t
    simp only at q0 q1 q2 hE
    have hw1 : IntKind.i64.wrap ((ts.length : Int) - 1) = (n : Int) := by rw [IntKind.wrap_i64]; omega
    have ka : Hid _ := asks_any tk ta tt w
    replace h : Hid _ := h
    have hdg : decide ((ts.length : Int) > 0) = true := decide_eq_true (by omega)
    clear v1 f0 f1 f2 hlast
    go_enter Tryz.func12, Tryz.ntmps12
    go_wp2_with fail
    refine Calls.mono ka.out ?_
    rintro e w2 ⟨rfl, hb⟩
    have hR : Hid _ := h.out.next hb
    have hbB : Below B w w2 := hb.mono (by omega)
    have hl2 : ts.length < 1000000000 := hl
    cases hA : asksM tk tt.toList with
    | true =>
      rw [hA, if_pos rfl] at hE
      have kp : Hid _ := put_any hR.out 7 a ⟨#[10]⟩ hl2
      clear hA hR ka h
      go_wp2_with fail
      refine Calls.mono kp.out ?_
      rintro e w3 ⟨rfl, hR3, hb3⟩
      replace hR3 : Hid _ := hR3
      have hBB := hbB.trans hb3
      go_wp2
      exact bodyPost_end (v := .tuple #[]) (by simp [results, Tryz.results12, go_sem]) rfl ⟨rfl, by rw [hE.out]; exact hR3.out, hBB⟩
    | false =>
      rw [hA, if_neg (by decide)] at hE
      clear hA ka h
      go_wp2
      exact bodyPost_end (v := .tuple #[]) (by simp [results, Tryz.results12, go_sem]) rfl ⟨rfl, by rw [hE.out]; exact hR.out, hbB⟩
end Go.Proofs.YtffggadmpdmbdaaGreatDoor
