/- a tree gone over in order: the stack. -/
import Derived.Test.YtbfklindcmmncaaBb
namespace Go.Proofs.Ytbfklindcmmncaa
open Go.RowKit
/-- A loop whose measure stands in no slot. -/
theorem wpIn_loop_g {F : Fence} {n : Nat} {P : Program} {Q : Exit → Act → World → Prop} {a : Act} {w : World} {c : Code} (I : Nat → Act → World → Prop) (m0 : Nat) (h0 : I m0 a w)
    (round : ∀ m a w, I m a w → c.wpIn F n P (Exit.then (fun a' w' => ∃ m', m' < m ∧ I m' a' w') Q) a w) : (Code.loop c).wpIn F n P Q a w := by
  have key : ∀ k m a w, m < k → I m a w → Code.roundsIn F n P c Q k a w := by
    intro k
    induction k with
    | zero => intro m a w h; omega
    | succ k ih =>
      intro m a w hm hI
      refine wpIn_mono (round m a w hI) ?_
      intro e a' w' hp
      cases e with
      | normal => obtain ⟨m', hlt, hI'⟩ := hp; exact ih m' a' w' (by omega) hI'
      | ret => exact hp
      | exit id => exact hp
      | goto t => exact hp
      | panic ch => exact hp
      | outgrown => exact hp
  exact wpIn_loop_rounds (m0 + 1) (key (m0 + 1) m0 a w (by omega) h0)
/-- A node on the stack: how deep, its cells, its tree. -/
structure XN where
  d : Nat
  n : NC
  t : Tr
def pcells (p : NC × Nat) : List Value := p.1.cells ++ [.int .i64 (p.2 : Int)]
def flatP (ps : List (NC × Nat)) : List Value := ps.flatMap pcells
theorem flatP_len (ps : List (NC × Nat)) : (flatP ps).length = ps.length * 5 := by
  induction ps with
  | nil => rfl
  | cons n ns ih =>
    show (pcells n ++ flatP ns).length = _
    rw [List.length_append, ih, List.length_cons]
    show 5 + _ = _
    omega
theorem flatP_app (ns ms : List (NC × Nat)) : flatP (ns ++ ms) = flatP ns ++ flatP ms := by unfold flatP; rw [List.flatMap_append]
theorem flatP_one (n : NC × Nat) : flatP [n] = pcells n := by show pcells n ++ [] = _; rw [List.append_nil]
def XN.pn (x : XN) : NC × Nat := (x.n, x.d)
mutual
def pre0 (d : Nat) : Tr → List (Nat × Tr)
  | .node k a s ks => (d, .node k a s ks) :: preK (d + 1) ks
def preK (d : Nat) : List Tr → List (Nat × Tr)
  | [] => []
  | t :: ts => pre0 d t ++ preK d ts
end
mutual
theorem pre0_len : ∀ (t : Tr) (d : Nat), (pre0 d t).length = t.size
  | .node k a s ks, d => by unfold pre0 Tr.size; rw [List.length_cons, preK_len ks (d + 1)]; omega
theorem preK_len : ∀ (ts : List Tr) (d : Nat), (preK d ts).length = sizes ts
  | [], _ => rfl
  | t :: ts, d => by unfold preK sizes; rw [List.length_append, pre0_len t d, preK_len ts d]
end
def XN.key (x : XN) : Nat × Tr := (x.d, x.t)
def wgt (st : List XN) : Nat := (st.map (fun x => x.t.size)).sum
def todo (st : List XN) : List (Nat × Tr) := st.reverse.flatMap fun x => pre0 x.d x.t
/-- The kids of a node, on the stack, the first one on top. -/
def push (d : Nat) (ns : List NC) (ks : List Tr) : List XN := ((ns.zip ks).map fun p => (⟨d, p.1, p.2⟩ : XN)).reverse
theorem push_pn {d : Nat} {ns : List NC} {ks : List Tr} (h : ns.length = ks.length) : (push d ns ks).map XN.pn = ns.reverse.map fun n => (n, d) := by
  unfold push
  rw [List.map_reverse, List.map_map, List.map_reverse]
  congr 1
  induction ns generalizing ks with
  | nil => rfl
  | cons n ns ih => cases ks with
    | nil => simp at h
    | cons k ks => simp [XN.pn]; simpa [XN.pn] using ih (by simpa using h)
theorem push_todo {d : Nat} {ns : List NC} {ks : List Tr} (h : ns.length = ks.length) : todo (push d ns ks) = preK d ks := by
  unfold todo push
  rw [List.reverse_reverse]
  induction ns generalizing ks with
  | nil => cases ks with
    | nil => rfl
    | cons k ks => simp at h
  | cons n ns ih => cases ks with
    | nil => simp at h
    | cons k ks =>
      show pre0 d k ++ List.flatMap _ (List.map _ (ns.zip ks)) = pre0 d k ++ preK d ks
      rw [ih (by simpa using h)]
theorem push_wgt {d : Nat} {ns : List NC} {ks : List Tr} (h : ns.length = ks.length) : wgt (push d ns ks) = sizes ks := by
  unfold wgt push
  rw [List.map_reverse, List.sum_reverse]
  induction ns generalizing ks with
  | nil => cases ks with
    | nil => rfl
    | cons k ks => simp at h
  | cons n ns ih => cases ks with
    | nil => simp at h
    | cons k ks =>
      have := ih (ks := ks) (by simpa using h)
      simp only [List.zip_cons_cons, List.map_cons, List.sum_cons]
      rw [this]
      rfl
theorem push_len {d : Nat} {ns : List NC} {ks : List Tr} (h : ns.length = ks.length) : (push d ns ks).length = ns.length := by unfold push; simp; omega
theorem todo_app (xs ys : List XN) : todo (xs ++ ys) = todo ys ++ todo xs := by unfold todo; rw [List.reverse_append, List.flatMap_append]
theorem wgt_app (xs ys : List XN) : wgt (xs ++ ys) = wgt xs + wgt ys := by unfold wgt; rw [List.map_append, List.sum_append]
theorem wgt_one (x : XN) : wgt [x] = x.t.size := by unfold wgt; simp
theorem len_wgt (st : List XN) : st.length ≤ wgt st := by
  induction st with
  | nil => simp
  | cons x st ih =>
    have := size_pos x.t
    unfold wgt at *
    simp only [List.map_cons, List.sum_cons, List.length_cons]
    omega
theorem mem_push {w : World} {P : Nat → Prop} {d : Nat} {ns : List NC} {ks : List Tr} (h : Rds w P ns ks) : ∀ x ∈ push d ns ks, TrV w P x.n.val x.t ∧ x.d = d ∧ x.t.size ≤ sizes ks := by
  intro x hx
  unfold push at hx
  rw [List.mem_reverse] at hx
  induction ns generalizing ks with
  | nil => simp at hx
  | cons n ns ih => cases ks with
    | nil => simp at hx
    | cons k ks =>
      unfold Rds at h
      simp only [List.zip_cons_cons, List.map_cons, List.mem_cons] at hx
      rcases hx with rfl | hx
      · exact ⟨h.1, rfl, by show k.size ≤ k.size + sizes ks; omega⟩
      · obtain ⟨h1, h2, h3⟩ := ih h.2 hx
        exact ⟨h1, h2, by show _ ≤ k.size + sizes ks; omega⟩
/-- Kids as a row of nodes, cell by cell. -/
theorem kids_row {w : World} {P : Nat → Prop} {x : Option Addr} {ks : List Tr} (h : KidsAt w P x 0 ks) : ∃ ns : List NC, Rds w P ns ks ∧ RowAt w x ns ∧ ∀ ad, x = some ad → ns ≠ [] → P ad.block := by
  obtain ⟨ns, hr, hc⟩ := KidsAt.row h
  have hl := Rds.len hr
  refine ⟨ns, hr, fun j hj => ?_, fun ad e hn => (hc ad e).2 (fun e' => hn (List.length_eq_zero_iff.1 (by rw [hl, e']; rfl)))⟩
  obtain ⟨ad, rfl⟩ := KidsAt.some h (fun e => by rw [e] at hl; rw [hl] at hj; simp at hj)
  have key : ∀ i, i < 4 → w.cell? (ad.add (j * 4 + i)) = (ns[j]'hj).cells[i]? := fun i hi => by
    have hi' : i < (ns[j]'hj).cells.length := hi
    have e : (flatN ns)[j * 4 + i]? = some ((ns[j]'hj).cells[i]'hi') := by
      clear hr hc hl h
      induction ns generalizing j with
      | nil => simp at hj
      | cons n ns ih =>
        cases j with
        | zero =>
          show (n.cells ++ flatN ns)[0 * 4 + i]? = _
          rw [Nat.zero_mul, Nat.zero_add, List.getElem?_append_left hi]
          exact List.getElem?_eq_getElem hi
        | succ j =>
          show (n.cells ++ flatN ns)[(j + 1) * 4 + i]? = _
          rw [List.getElem?_append_right (by show 4 ≤ _; omega), show (j + 1) * 4 + i - n.cells.length = j * 4 + i by show (j + 1) * 4 + i - 4 = _; omega]
          exact ih j (by simpa using hj) hi
    have := (hc ad rfl).1 (j * 4 + i) _ e
    rw [Nat.zero_mul, Nat.zero_add] at this
    rw [this, List.getElem?_eq_getElem hi']
  refine ⟨ad, rfl, key 0 (by decide), ?_, ?_, ?_⟩
  · rw [add_more ad (j * 4) 0]; exact key 1 (by decide)
  · rw [add_more ad (j * 4) 1]; exact key 2 (by decide)
  · rw [add_more ad (j * 4) 2]; exact key 3 (by decide)
end Go.Proofs.Ytbfklindcmmncaa
