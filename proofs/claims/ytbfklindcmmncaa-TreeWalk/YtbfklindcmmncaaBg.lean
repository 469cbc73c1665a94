/- a tree read again behind a store that puts a copy of a row; slices.Clone. -/
import Derived.Test.YtbfklindcmmncaaBf
namespace Go.Proofs.Ytbfklindcmmncaa
open Go.RowKit Go.Shelf
mutual
theorem TrV.inj {w : World} {P : Nat → Prop} {v : Value} : ∀ {t u : Tr}, TrV w P v t → TrV w P v u → t = u
  | .node k a s ks, .node k' a' s' ks', h, h' => by
    unfold TrV at h h'
    obtain ⟨x, l, c, rfl, h2, _, _, h5⟩ := h
    obtain ⟨x', l', c', e, h2', _, _, h5'⟩ := h'
    cases e
    rw [KidsAt.inj h5 h5' (by omega)]
theorem KidsAt.inj {w : World} {P : Nat → Prop} {x : Option Addr} : ∀ {o : Nat} {ts us : List Tr}, KidsAt w P x o ts → KidsAt w P x o us → ts.length = us.length → ts = us
  | _, [], [], _, _, _ => rfl
  | o, t :: ts, u :: us, h, h', hl => by
    unfold KidsAt at h h'
    obtain ⟨⟨ad, k, a, s, y, l, c, h1, _, c0, c1, c2, c3, hT⟩, hK⟩ := h
    obtain ⟨⟨ad', k', a', s', y', l', c', h1', _, c0', c1', c2', c3', hT'⟩, hK'⟩ := h'
    have e : ad = ad' := Option.some.inj (h1.symm.trans h1')
    subst e
    rw [c0] at c0'; cases c0'
    rw [c1] at c1'; cases c1'
    rw [c2] at c2'; cases c2'
    rw [c3] at c3'; cases c3'
    rw [TrV.inj hT hT', KidsAt.inj hK hK' (by simpa using hl)]
  | _, [], _ :: _, _, _, hl => by simp at hl
  | _, _ :: _, [], _, _, hl => by simp at hl
end
theorem reread {w w' : World} {P : Nat → Prop} {p : Addr} {x y : Option Addr} {l cap cap' : Nat} {ks : List Tr} (hw : ∀ q, q ≠ p → w'.cell? q = w.cell? q) (hp : w.cell? p = some (.slice x l cap)) (hp' : w'.cell? p = some (.slice y l cap')) (hx : KidsAt w P x 0 ks) (hy : KidsAt w P y 0 ks) (hl : l = ks.length) (hlc : l ≤ cap') (hcm : cap' ≤ maxLen) :
    ∀ (n : Nat) (ts : List Tr), sizes ts ≤ n → ∀ (z : Option Addr) (o : Nat), KidsAt w P z o ts → KidsAt w' P z o ts := by
  intro n
  induction n using Nat.strongRecOn with
  | _ n ih =>
    intro ts
    induction ts with
    | nil => intro _ z o _; unfold KidsAt; trivial
    | cons t ts iht =>
      intro hs z o h
      have hs' : t.size + sizes ts ≤ n := hs
      unfold KidsAt at h ⊢
      obtain ⟨⟨ad, k, a, s, y1, l1, c1, h1, hP, c0, c1', c2, c3, hT⟩, hK⟩ := h
      have ne : ∀ q u, w.cell? q = some u → (∀ a b c, u ≠ .slice a b c) → w'.cell? q = some u := fun q u hq hu => (hw q (fun e => by rw [e, hp] at hq; cases hq; exact hu _ _ _ rfl)).trans hq
      have d0 := ne _ _ c0 (fun _ _ _ e => by cases e)
      have d1 := ne _ _ c1' (fun _ _ _ e => by cases e)
      have d2 := ne _ _ c2 (fun _ _ _ e => by cases e)
      obtain ⟨k', a', s', kk⟩ := t
      have hsz : 1 + sizes kk + sizes ts ≤ n := hs'
      unfold TrV at hT
      obtain ⟨x2, l2, c2', e, h2, h3, h4, h5⟩ := hT
      cases e
      refine ⟨?_, iht (by omega) z (o + 1) hK⟩
      by_cases e3 : (⟨(ad.add (o * 4)).block, (ad.add (o * 4)).off + 3, none⟩ : Addr) = p
      · rw [e3, hp] at c3
        cases c3
        have : kk = ks := KidsAt.inj h5 hx (by omega)
        subst this
        exact ⟨ad, _, _, _, y, l, cap', h1, hP, d0, d1, d2, by rw [e3]; exact hp', by unfold TrV; exact ⟨y, l, cap', rfl, hl, hlc, hcm, ih (sizes kk) (by omega) kk (Nat.le_refl _) y 0 hy⟩⟩
      · exact ⟨ad, _, _, _, y1, l1, c1, h1, hP, d0, d1, d2, (hw _ e3).trans c3, by unfold TrV; exact ⟨y1, l1, c1, rfl, h2, h3, h4, ih (sizes kk) (by omega) kk (Nat.le_refl _) _ 0 h5⟩⟩
theorem flatN_one_cell (ns : List NC) : ∀ u ∈ flatN ns, u.oneCell' = true := flatN_cell ns
theorem eq_nil (x : Option Addr) (n c : Nat) (w : World) : Sem.run Try.prog (binOp BinOp.eql 22 (.slice x n c) (.slice none 0 0)) w = .ok (.bool x.isNone) w := by
  cases x <;> kernel_rfl
set_option maxHeartbeats 1000000 in
theorem Clone_nil (w : World) (c : Nat) : Calls Try.prog 30 #[.slice none 0 c] w fun e w' => e = .returned (.slice none 0 0) ∧ w' = w := by
  have hq := eq_nil none
  go_enter Try.func30, Try.ntmps30
  go_wp2
  go_ret
  exact ⟨rfl, rfl⟩
set_option maxRecDepth 20000 in
set_option maxHeartbeats 2000000 in
theorem Clone_any (w : World) (ad : Addr) (c : Nat) (ns : List NC) (hl : ns.length ≤ 1000) (hc : ∀ j u, (flatN ns)[j]? = some u → w.cell? (ad.add j) = some u) (hs : ns ≠ [] → ad.block < w.heap.size) : Calls Try.prog 30 #[.slice (some ad) ns.length c] w fun e w' => ∃ v', e = .returned v' ∧ w'.ownsRow w.heap.size 24 4 v' ns.length (flatN ns) ∧ Below w.heap.size w w' := by
  obtain ⟨i0, hi, hz0, hz1, hz2⟩ := info_parts info24
  have hmx : 2000 ≤ maxLen := by decide
  have hq := eq_nil (some ad)
  have hmade := World.ownsRow_made (e := 24) (size := 4) w #[] 0 (Nat.le_refl _) (by decide) rfl
  have hc2 : ∀ j u, (flatN ns)[j]? = some u → (w.alloc (.cells #[] 24)).cell? (ad.add j) = some u := fun j u hj => by
    rw [World.cell?_of_block (Below.heap_alloc _ _ _ (by rw [add_block]; exact hs (fun e => by rw [e] at hj; simp [flatN] at hj)))]
    exact hc j u hj
  have hfl := flatN_len ns
  have h1c := flatN_cell ns
  go_enter Try.func30, Try.ntmps30
  go_wp2_with (at_builtin; refine wpList_append_own _ rfl _ _ 22 rfl w.heap.size 24 i0 _ 4 56 Try.underlying22 hi hz0 hz1 hz2 rfl (by decide) _ _ _ rfl hmade ad ns.length c (flatN ns) rfl hfl hc2 h1c (by omega) (by omega) (by simp) ?_; intro v' w1 hown' hgrow _)
  rw [Nat.zero_add, List.nil_append] at hown'
  go_ret
  exact ⟨v', rfl, hown', ((Below.refl _ w).alloc (Nat.le_refl _) _).grown hgrow (by simp) (fun k e => by cases e; exact Nat.le_refl _)⟩
/-- A row in a block of its own that reads as some trees. -/
def Ent (Q : Nat → Prop) (W : World) (base : Nat) (e : Value) (ts : List Tr) : Prop :=
  (e = .slice none 0 0 ∧ ts = []) ∨ ∃ g c cur, e = .slice (some ⟨g, 0, none⟩) ts.length c ∧ base ≤ g ∧ ts.length ≤ c ∧ c ≤ maxLen ∧ W.heap[g]? = some (.cells cur 24 (0, 0)) ∧ KidsAt W Q (some ⟨g, 0, none⟩) 0 ts
theorem Ent.same {Q Q' : Nat → Prop} {W W' : World} {base base' : Nat} {e : Value} {ts : List Tr} (h : Ent Q W base e ts) (hb : base' ≤ base) (hk : ∀ b, Q b → W'.heap[b]? = W.heap[b]?) (hQ : ∀ b, Q b → Q' b) (hg : ∀ (g : Nat) (cur : Array Value), W.heap[g]? = some (Obj.cells cur 24 (0, 0)) → ∃ cur' : Array Value, W'.heap[g]? = some (Obj.cells cur' 24 (0, 0))) : Ent Q' W' base' e ts := by
  rcases h with h | ⟨g, c, cur, h1, h2, h3, h4, h5, h6⟩
  · exact .inl h
  · obtain ⟨cur', h5'⟩ := hg g cur h5
    exact .inr ⟨g, c, cur', h1, Nat.le_trans hb h2, h3, h4, h5', KidsAt.same (fun p u hp hc => by rw [World.cell?_of_block (hk _ hp)]; exact hc) hQ h6⟩
/-- Blocks that a copy may lie in. -/
def PB (P0 : Nat → Prop) (z go b2 : Nat) (W : World) : Nat → Prop := fun b => (P0 b ∨ z ≤ b) ∧ b < W.heap.size ∧ b ≠ go ∧ b ≠ b2
theorem PB.next {P0 : Nat → Prop} {z go b2 : Nat} {W W' : World} (h : W.heap.size ≤ W'.heap.size) (b : Nat) (hb : PB P0 z go b2 W b) : PB P0 z go b2 W' b := ⟨hb.1, Nat.lt_of_lt_of_le hb.2.1 h, hb.2.2⟩
/-- A row of one's own, read as trees. -/
theorem own_ent {W : World} {Q : Nat → Prop} {base : Nat} {v : Value} {ns : List NC} {ts : List Tr} (hO : W.ownsRow base 24 4 v ns.length (flatN ns)) (hR : Rds W Q ns ts) (hQ : ∀ g, v.ownBlock = some g → Q g) : Ent Q W base v ts := by
  have hl := Rds.len hR
  have hcs := fun (g : Nat) (e : v.ownBlock = some g) => hO.cells e
  obtain ⟨h1, h2 | ⟨g, cap, cur, rfl, h3, h4, h5, h6, h7⟩⟩ := hO
  · obtain ⟨rfl, h2⟩ := h2
    exact .inl ⟨rfl, List.length_eq_zero_iff.1 (by omega)⟩
  · refine .inr ⟨g, cap, cur, by rw [hl], h3, by omega, h6, h4, kids_of (hQ g rfl) hR fun j u hj => ?_⟩
    rw [Nat.zero_mul, Nat.zero_add]
    exact hcs g rfl j u hj
theorem Rds.to {w w' : World} {P Q : Nat → Prop} (hw : ∀ p : Addr, ∀ u, P p.block → w.cell? p = some u → w'.cell? p = some u) (hPQ : ∀ b, P b → Q b) : ∀ {ns : List NC} {ts : List Tr}, Rds w P ns ts → Rds w' Q ns ts
  | [], [], h => h
  | n :: ns, t :: ts, h => by unfold Rds at h ⊢; exact ⟨TrV.same hw hPQ h.1, Rds.to hw hPQ h.2⟩
  | [], t :: ts, h => by unfold Rds at h; exact h.elim
  | n :: ns, [], h => by unfold Rds at h; exact h.elim
theorem Clone_ent {P0 : Nat → Prop} {z go b2 : Nat} (w : World) (n : NC) (ks : List Tr) (k a : Int) (s : ByteArray) (ht : TrV w (PB P0 z go b2 w) n.val (.node k a s ks)) (hs : sizes ks ≤ 1000) (hz : z ≤ w.heap.size) (hgo : go < w.heap.size) (hb2 : b2 < w.heap.size) :
    Calls Try.prog 30 #[.slice n.x n.l n.c] w fun e w' => ∃ v', e = .returned v' ∧ Below w.heap.size w w' ∧ Ent (PB P0 z go b2 w') w' w.heap.size v' ks ∧ KidsAt w' (PB P0 z go b2 w') n.x 0 ks ∧ n.l = ks.length := by
  have hK : KidsAt w (PB P0 z go b2 w) n.x 0 ks ∧ n.l = ks.length := by
    unfold TrV at ht
    obtain ⟨x, l, c, h1, h2, h3, h4, h5⟩ := ht
    unfold NC.val at h1
    cases h1
    exact ⟨h5, h2⟩
  obtain ⟨hK, hnl⟩ := hK
  have nextK : ∀ w', Below w.heap.size w w' → KidsAt w' (PB P0 z go b2 w') n.x 0 ks := fun w' hb => KidsAt.same (fun p u hp hc => by rw [World.cell?_of_block (hb.block _ hp.2.1)]; exact hc) (PB.next hb.size) hK
  obtain ⟨ns, hR, hc⟩ := KidsAt.row hK
  have hl := Rds.len hR
  have hlk := len_sizes ks
  cases hx : n.x with
  | none =>
    have hks : ks = [] := by
      cases ks with
      | nil => rfl
      | cons t ts => obtain ⟨ad, e⟩ := KidsAt.some hK (by simp); rw [hx] at e; cases e
    subst hks
    rw [show n.l = 0 from hnl]
    refine Calls.mono (Clone_nil w n.c) ?_
    rintro e w' ⟨rfl, rfl⟩
    exact ⟨_, rfl, Below.refl _ _, .inl ⟨rfl, rfl⟩, by rw [← hx]; exact nextK _ (Below.refl _ _), rfl⟩
  | some ad =>
    rw [show n.l = ns.length by omega]
    refine Calls.mono (Clone_any w ad n.c ns (by omega) (fun j u hj => by have := (hc ad hx).1 j u hj; rw [Nat.zero_mul, Nat.zero_add] at this; exact this) (fun hn => ((hc ad hx).2 (fun e => hn (List.length_eq_zero_iff.1 (by rw [hl, e]; rfl)))).2.1)) ?_
    rintro e w' ⟨v', rfl, hO, hb⟩
    refine ⟨v', rfl, hb, own_ent hO (Rds.to (fun p u hp hc => by rw [World.cell?_of_block (hb.block _ hp.2.1)]; exact hc) (PB.next hb.size) hR) (fun g hg => ?_), by rw [← hx]; exact nextK w' hb, by omega⟩
    have := hO.lt g hg
    exact ⟨.inr (by omega), this.2, by omega, by omega⟩
end Go.Proofs.Ytbfklindcmmncaa
