/- trees: rows of nodes. -/
import Derived.Test.YtbfklindcmmncaaAb
namespace Go.Proofs.Ytbfklindcmmncaa
open Go.RowKit
/-- A node's own cells. -/
structure NC where
  k : Int
  a : Int
  s : ByteArray
  x : Option Addr
  l : Nat
  c : Nat
def NC.cells (n : NC) : List Value := [.int .i64 n.k, .int .i64 n.a, .string n.s, .slice n.x n.l n.c]
def NC.val (n : NC) : Value := .agg #[.int .i64 n.k, .int .i64 n.a, .string n.s, .slice n.x n.l n.c]
def flatN (ns : List NC) : List Value := ns.flatMap NC.cells
theorem flatN_len (ns : List NC) : (flatN ns).length = ns.length * 4 := by
  induction ns with
  | nil => rfl
  | cons n ns ih =>
    show (n.cells ++ flatN ns).length = _
    rw [List.length_append, ih, List.length_cons]
    show 4 + _ = _
    omega
theorem flatN_app (ns ms : List NC) : flatN (ns ++ ms) = flatN ns ++ flatN ms := by unfold flatN; rw [List.flatMap_append]
theorem flatN_one (n : NC) : flatN [n] = n.cells := by show n.cells ++ [] = _; rw [List.append_nil]
theorem flatN_cell (ns : List NC) : ∀ u ∈ flatN ns, u.oneCell' = true := by
  intro u hu
  unfold flatN at hu
  obtain ⟨n, _, hn⟩ := List.mem_flatMap.1 hu
  simp only [NC.cells, List.mem_cons, List.not_mem_nil, or_false] at hn
  rcases hn with rfl | rfl | rfl | rfl <;> rfl
/-- A row of nodes that reads as some trees. -/
def Rds (w : World) (P : Nat → Prop) : List NC → List Tr → Prop
  | [], [] => True
  | n :: ns, t :: ts => TrV w P n.val t ∧ Rds w P ns ts
  | _, _ => False
theorem Rds.len {w : World} {P : Nat → Prop} : ∀ {ns : List NC} {ts : List Tr}, Rds w P ns ts → ns.length = ts.length
  | [], [], _ => rfl
  | n :: ns, t :: ts, h => by unfold Rds at h; simp [Rds.len h.2]
  | [], t :: ts, h => by unfold Rds at h; exact h.elim
  | n :: ns, [], h => by unfold Rds at h; exact h.elim
theorem Rds.app {w : World} {P : Nat → Prop} : ∀ {ns ms : List NC} {ts us : List Tr}, Rds w P ns ts → Rds w P ms us → Rds w P (ns ++ ms) (ts ++ us)
  | [], ms, [], us, _, h => h
  | n :: ns, ms, t :: ts, us, h, h2 => by unfold Rds at h; exact ⟨h.1, Rds.app h.2 h2⟩
  | [], _, t :: ts, _, h, _ => by unfold Rds at h; exact h.elim
  | n :: ns, _, [], _, h, _ => by unfold Rds at h; exact h.elim
theorem Rds.same {w w' : World} {P : Nat → Prop} (hw : ∀ p : Addr, ∀ u, P p.block → w.cell? p = some u → w'.cell? p = some u) : ∀ {ns : List NC} {ts : List Tr}, Rds w P ns ts → Rds w' P ns ts
  | [], [], h => h
  | n :: ns, t :: ts, h => by unfold Rds at h ⊢; exact ⟨TrV.same hw (fun _ h => h) h.1, Rds.same hw h.2⟩
  | [], t :: ts, h => by unfold Rds at h; exact h.elim
  | n :: ns, [], h => by unfold Rds at h; exact h.elim
/-- The last of both. -/
theorem Rds.last {w : World} {P : Nat → Prop} : ∀ {ns : List NC} {ts : List Tr}, Rds w P ns ts → 0 < ns.length → ∃ ns' n ts' t, ns = ns' ++ [n] ∧ ts = ts' ++ [t] ∧ Rds w P ns' ts' ∧ TrV w P n.val t
  | [n], [t], h, _ => by unfold Rds at h; exact ⟨[], n, [], t, rfl, rfl, trivial, h.1⟩
  | n :: m :: ns, t :: u :: ts, h, _ => by
    unfold Rds at h
    obtain ⟨ns', n', ts', t', e1, e2, h1, h2⟩ := Rds.last h.2 (by simp)
    exact ⟨n :: ns', n', t :: ts', t', by rw [e1]; rfl, by rw [e2]; rfl, ⟨h.1, h1⟩, h2⟩
  | [n], t :: u :: ts, h, _ => by unfold Rds at h; exact h.2.elim
  | n :: m :: ns, [t], h, _ => by unfold Rds at h; exact h.2.elim
  | [], _, _, h => by simp at h
  | n :: ns, [], h, _ => by unfold Rds at h; exact h.elim
theorem add_more (a : Addr) (n i : Nat) : (⟨(a.add n).block, (a.add n).off + (i + 1), none⟩ : Addr) = a.add (n + (i + 1)) := by
  unfold Addr.add
  by_cases h : n = 0
  · subst h; simp
  · rw [if_neg h, if_neg (by omega)]; simp; omega
/-- Kids as a row of nodes. -/
theorem KidsAt.row {w : World} {P : Nat → Prop} {x : Option Addr} : ∀ {ks : List Tr} {o : Nat}, KidsAt w P x o ks → ∃ ns : List NC, Rds w P ns ks ∧ ∀ ad, x = some ad → (∀ j u, (flatN ns)[j]? = some u → w.cell? (ad.add (o * 4 + j)) = some u) ∧ (ks ≠ [] → P ad.block)
  | [], _, _ => ⟨[], trivial, fun ad _ => ⟨fun j u h => by simp [flatN] at h, fun h => absurd rfl h⟩⟩
  | t :: ks, o, h => by
    unfold KidsAt at h
    obtain ⟨⟨ad, k, a, s, y, l, c, h1, h2, h3, h4, h5, h6, h7⟩, h8⟩ := h
    obtain ⟨ns, hr, hc⟩ := KidsAt.row h8
    refine ⟨⟨k, a, s, y, l, c⟩ :: ns, ⟨h7, hr⟩, fun ad' hx => ?_⟩
    have e : ad = ad' := Option.some.inj (h1.symm.trans hx)
    subst e
    refine ⟨fun j u hj => ?_, fun _ => h2⟩
    rw [add_more ad (o * 4) 0] at h4
    rw [add_more ad (o * 4) 1] at h5
    rw [add_more ad (o * 4) 2] at h6
    match j, hj with
    | 0, hj => simp [flatN, NC.cells] at hj; rw [← hj]; exact h3
    | 1, hj => simp [flatN, NC.cells] at hj; rw [← hj]; exact h4
    | 2, hj => simp [flatN, NC.cells] at hj; rw [← hj]; exact h5
    | 3, hj => simp [flatN, NC.cells] at hj; rw [← hj]; exact h6
    | j + 4, hj =>
      have := (hc ad hx).1 j u (by simpa [flatN, NC.cells] using hj)
      rw [show o * 4 + (j + 4) = (o + 1) * 4 + j by omega]
      exact this
theorem KidsAt.some {w : World} {P : Nat → Prop} {x : Option Addr} {ks : List Tr} {o : Nat} (h : KidsAt w P x o ks) (hne : ks ≠ []) : ∃ ad, x = Option.some ad := by
  cases ks with
  | nil => exact absurd rfl hne
  | cons t ts =>
    unfold KidsAt at h
    obtain ⟨⟨ad, k, a, s, y, l, c, h1, _⟩, _⟩ := h
    exact ⟨ad, h1⟩
theorem sizes_app (ts us : List Tr) : sizes (ts ++ us) = sizes ts + sizes us := by
  induction ts with
  | nil => simp [sizes]
  | cons t ts ih =>
    show t.size + sizes (ts ++ us) = _
    rw [ih]
    show _ = t.size + sizes ts + sizes us
    omega
theorem len_sizes (ts : List Tr) : ts.length ≤ sizes ts := by
  induction ts with
  | nil => simp
  | cons t ts ih =>
    have := size_pos t
    show ts.length + 1 ≤ t.size + sizes ts
    omega
theorem eqK_app {ts us : List Tr} {vs ws : List Tr} (hl : ts.length = us.length) : eqK (ts ++ vs) (us ++ ws) = (eqK ts us && eqK vs ws) := by
  induction ts generalizing us with
  | nil => cases us with
    | nil => simp [eqK]
    | cons u us => simp at hl
  | cons t ts ih => cases us with
    | nil => simp at hl
    | cons u us =>
      show (eqT t u && eqK (ts ++ vs) (us ++ ws)) = _
      rw [ih (by simpa using hl)]
      show _ = ((eqT t u && eqK ts us) && eqK vs ws)
      rw [Bool.and_assoc]
end Go.Proofs.Ytbfklindcmmncaa
