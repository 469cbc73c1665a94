/- trees in memory. -/
import Derived.Test.YtbfklindcmmncaaChecked
import Derived.WalkKit
import Derived.WalkSpells
import Derived.WalkLawsBesides
import Derived.Outline
import Derived.Deep.QuietTactic
import Derived.BigQuiet
import Derived.OpenShut
import Derived.Below
import Derived.Deep.DrawnRows
import Derived.Test.YtbfklindcmmncaaBase
import Derived.Test.YtbfklindcmmncaaStp
namespace Go.Proofs.Ytbfklindcmmncaa
open Go.RowKit
/-- A tree: kind, place, text, kids. -/
inductive Tr
  | node (k a : Int) (s : ByteArray) (kids : List Tr)
mutual
/-- How many nodes a tree has. -/
def Tr.size : Tr → Nat
  | .node _ _ _ ks => 1 + sizes ks
def sizes : List Tr → Nat
  | [] => 0
  | t :: ts => t.size + sizes ts
end
mutual
/-- Are two trees the same but for places? -/
def eqT : Tr → Tr → Bool
  | .node k _ s ks, .node k' _ s' ks' => (k == k') && (s.toList == s'.toList) && eqK ks ks'
def eqK : List Tr → List Tr → Bool
  | [], [] => true
  | t :: ts, u :: us => eqT t u && eqK ts us
  | _, _ => false
end
mutual
/-- A node that reads as a tree; its rows lie in blocks that P allows. -/
def TrV (w : World) (P : Nat → Prop) (v : Value) : Tr → Prop
  | .node k a s kids => ∃ x l cap, v = .agg #[.int .i64 k, .int .i64 a, .string s, .slice x l cap] ∧ l = kids.length ∧ l ≤ cap ∧ cap ≤ maxLen ∧ KidsAt w P x 0 kids
def KidsAt (w : World) (P : Nat → Prop) (x : Option Addr) (o : Nat) : List Tr → Prop
  | [] => True
  | t :: ts => (∃ ad k a s y l c, x = some ad ∧ P ad.block ∧ w.cell? (ad.add (o * 4)) = some (.int .i64 k) ∧ w.cell? ⟨(ad.add (o * 4)).block, (ad.add (o * 4)).off + 1, none⟩ = some (.int .i64 a) ∧ w.cell? ⟨(ad.add (o * 4)).block, (ad.add (o * 4)).off + 2, none⟩ = some (.string s) ∧ w.cell? ⟨(ad.add (o * 4)).block, (ad.add (o * 4)).off + 3, none⟩ = some (.slice y l c) ∧ TrV w P (.agg #[.int .i64 k, .int .i64 a, .string s, .slice y l c]) t) ∧ KidsAt w P x (o + 1) ts
end
theorem add_block (a : Addr) (n : Nat) : (a.add n).block = a.block := by unfold Addr.add; split <;> rfl
mutual
theorem TrV.same {w w' : World} {P Q : Nat → Prop} (hw : ∀ p : Addr, ∀ u, P p.block → w.cell? p = some u → w'.cell? p = some u) (hPQ : ∀ b, P b → Q b) {v : Value} : ∀ {t : Tr}, TrV w P v t → TrV w' Q v t
  | .node k a s kids, h => by
    unfold TrV at h ⊢
    obtain ⟨x, l, cap, h1, h2, h3, h4, h5⟩ := h
    exact ⟨x, l, cap, h1, h2, h3, h4, KidsAt.same hw hPQ h5⟩
theorem KidsAt.same {w w' : World} {P Q : Nat → Prop} (hw : ∀ p : Addr, ∀ u, P p.block → w.cell? p = some u → w'.cell? p = some u) (hPQ : ∀ b, P b → Q b) {x : Option Addr} : ∀ {o : Nat} {ts : List Tr}, KidsAt w P x o ts → KidsAt w' Q x o ts
  | _, [], _ => by unfold KidsAt; trivial
  | o, t :: ts, h => by
    unfold KidsAt at h ⊢
    obtain ⟨⟨ad, k, a, s, y, l, c, h1, h2, h3, h4, h5, h6, h7⟩, h8⟩ := h
    have hb : ∀ n, P (ad.add n).block := fun n => by rw [add_block]; exact h2
    exact ⟨⟨ad, k, a, s, y, l, c, h1, hPQ _ h2, hw _ _ (hb _) h3, hw _ _ (hb _) h4, hw _ _ (hb _) h5, hw _ _ (hb _) h6, TrV.same hw hPQ h7⟩, KidsAt.same hw hPQ h8⟩
end
theorem TrV.next {w w' : World} {P : Nat → Prop} {v : Value} {t : Tr} (h : TrV w P v t) (hb : Below w.heap.size w w') : TrV w' P v t := TrV.same (fun _ _ _ hc => keep_cell hb hc) (fun _ h => h) h
theorem KidsAt.next {w w' : World} {P : Nat → Prop} {x : Option Addr} {o : Nat} {ts : List Tr} (h : KidsAt w P x o ts) (hb : Below w.heap.size w w') : KidsAt w' P x o ts := KidsAt.same (fun _ _ _ hc => keep_cell hb hc) (fun _ h => h) h
/-- The kid at a place. -/
theorem KidsAt.at {w : World} {P : Nat → Prop} {x : Option Addr} : ∀ {ts : List Tr} {o : Nat}, KidsAt w P x o ts → ∀ j (hj : j < ts.length), ∃ ad k a s y l c, x = some ad ∧ P ad.block ∧ w.cell? (ad.add ((o + j) * 4)) = some (.int .i64 k) ∧ w.cell? ⟨(ad.add ((o + j) * 4)).block, (ad.add ((o + j) * 4)).off + 1, none⟩ = some (.int .i64 a) ∧ w.cell? ⟨(ad.add ((o + j) * 4)).block, (ad.add ((o + j) * 4)).off + 2, none⟩ = some (.string s) ∧ w.cell? ⟨(ad.add ((o + j) * 4)).block, (ad.add ((o + j) * 4)).off + 3, none⟩ = some (.slice y l c) ∧ TrV w P (.agg #[.int .i64 k, .int .i64 a, .string s, .slice y l c]) (ts[j]'hj)
  | t :: ts, o, h, 0, _ => by
    unfold KidsAt at h
    exact h.1
  | t :: ts, o, h, j + 1, hj => by
    unfold KidsAt at h
    have := KidsAt.at h.2 j (by simpa using hj)
    rw [show o + (j + 1) = o + 1 + j by omega]
    exact this
theorem size_pos (t : Tr) : 0 < t.size := by cases t; unfold Tr.size; omega
theorem size_kid {ks : List Tr} {j : Nat} (hj : j < ks.length) : (ks[j]'hj).size ≤ sizes ks := by
  induction ks generalizing j with
  | nil => simp at hj
  | cons t ts ih =>
    unfold sizes
    cases j with
    | zero => simp
    | succ j => have := ih (j := j) (by simpa using hj); simp; omega
/-- The two lists of kids from a place on. -/
theorem eqK_drop {ks us : List Tr} (hl : ks.length = us.length) {j : Nat} (hj : j < ks.length) : eqK (ks.drop j) (us.drop j) = (eqT (ks[j]'hj) (us[j]'(by omega)) && eqK (ks.drop (j + 1)) (us.drop (j + 1))) := by
  rw [List.drop_eq_getElem_cons hj, List.drop_eq_getElem_cons (by omega : j < us.length)]
  rfl
theorem eqK_len {ks us : List Tr} (hl : ks.length ≠ us.length) : eqK ks us = false := by
  induction ks generalizing us with
  | nil => cases us with
    | nil => simp at hl
    | cons u us => rfl
  | cons t ts ih => cases us with
    | nil => rfl
    | cons u us =>
      unfold eqK
      rw [ih (by simpa using hl), Bool.and_false]
mutual
theorem eqT_refl : ∀ t : Tr, eqT t t = true
  | .node k a s ks => by unfold eqT; rw [eqK_refl ks]; simp
theorem eqK_refl : ∀ ts : List Tr, eqK ts ts = true
  | [] => rfl
  | t :: ts => by unfold eqK; rw [eqT_refl t, eqK_refl ts]; rfl
end
mutual
theorem eqT_symm : ∀ t u : Tr, eqT t u = eqT u t
  | .node k a s ks, .node k' a' s' ks' => by
    unfold eqT
    rw [eqK_symm ks ks', show (k == k') = (k' == k) by rw [Bool.eq_iff_iff, beq_iff_eq, beq_iff_eq]; exact ⟨Eq.symm, Eq.symm⟩, show (s.toList == s'.toList) = (s'.toList == s.toList) by rw [Bool.eq_iff_iff, beq_iff_eq, beq_iff_eq]; exact ⟨Eq.symm, Eq.symm⟩]
theorem eqK_symm : ∀ ts us : List Tr, eqK ts us = eqK us ts
  | [], [] => rfl
  | t :: ts, u :: us => by unfold eqK; rw [eqT_symm t u, eqK_symm ts us]
  | [], u :: us => rfl
  | t :: ts, [] => rfl
end
end Go.Proofs.Ytbfklindcmmncaa
