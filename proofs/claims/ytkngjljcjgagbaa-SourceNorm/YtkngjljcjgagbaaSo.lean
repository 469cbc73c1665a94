/- A tree as it came and as it comes out, by numbers. -/
import Derived.Test.YtkngjljcjgagbaaRp
namespace Go.Proofs.Ytkngjljcjgagbaa
open Go.Shelf Go.RowKit Go.Lib Go.Sort
/-- Packages by number. -/
def pdOf (n : Nat) (X : Nat → NS) (Y : Nat → Nat → NS) (Bd : Nat → Nat → List Int) : List PD := (List.range n).map fun i => ⟨(X i).name, (List.range (X i).n).map fun j => ⟨(Y i j).name, Bd i j⟩⟩
/-- What the law sees of the tree that was handed in. -/
structure InT (w : World) (a : Option Addr) (n cap : Nat) (X : Nat → NS) (Y : Nat → Nat → NS) (Bd : Nat → Nat → List Int) : Prop where
  le : n ≤ cap
  max : cap ≤ maxLen
  pk : ∀ i, i < n → ∃ p, a = some p ∧ w.cell? (p.add (i * 2)) = some (.string (X i).name) ∧ w.cell? ⟨(p.add (i * 2)).block, (p.add (i * 2)).off + 1, none⟩ = some (.slice (X i).a (X i).n (X i).c)
  fle : ∀ i, i < n → (X i).n ≤ (X i).c ∧ (X i).c ≤ maxLen
  fl : ∀ i, i < n → ∀ j, j < (X i).n → ∃ p, (X i).a = some p ∧ w.cell? (p.add (j * 2)) = some (.string (Y i j).name) ∧ w.cell? ⟨(p.add (j * 2)).block, (p.add (j * 2)).off + 1, none⟩ = some (.slice (Y i j).a (Y i j).n (Y i j).c)
  bd : ∀ i, i < n → ∀ j, j < (X i).n → (Y i j).n = (Bd i j).length ∧ Row w .u8 256 (Y i j).a (Y i j).c (Bd i j)
theorem InT.next {w w' : World} {a : Option Addr} {n cap : Nat} {X : Nat → NS} {Y : Nat → Nat → NS} {Bd : Nat → Nat → List Int} (h : InT w a n cap X Y Bd) (hb : Below w.heap.size w w') : InT w' a n cap X Y Bd := by
  refine ⟨h.le, h.max, fun i hi => ?_, h.fle, fun i hi j hj => ?_, fun i hi j hj => ⟨(h.bd i hi j hj).1, (h.bd i hi j hj).2.next hb⟩⟩
  · obtain ⟨p, h0, h1, h2⟩ := h.pk i hi
    exact ⟨p, h0, keep_cell hb h1, keep_cell hb h2⟩
  · obtain ⟨p, h0, h1, h2⟩ := h.fl i hi j hj
    exact ⟨p, h0, keep_cell hb h1, keep_cell hb h2⟩
theorem RowNS.at' {w : World} {a : Option Addr} {cap : Nat} {xs : List NS} (h : RowNS w a cap xs) (i : Nat) (hi : i < xs.length) : ∃ p, a = some p ∧ w.cell? (p.add (i * 2)) = some (.string xs[i].name) ∧ w.cell? ⟨(p.add (i * 2)).block, (p.add (i * 2)).off + 1, none⟩ = some (.slice xs[i].a xs[i].n xs[i].c) := by
  cases a with
  | none => have h1 := h.nil rfl; have h2 := h.le; omega
  | some p => exact ⟨p, rfl, h.cell0 p rfl i hi, h.cell1 p rfl i hi⟩
theorem map_range {α β : Type} (f : α → β) (d : α) (l : List α) : l.map f = (List.range l.length).map fun i => f (l[i]?.getD d) := by
  apply List.ext_getElem
  · simp
  · intro i h1 h2
    simp at h1
    simp [h1]
theorem inT_of {w : World} {a : Option Addr} {cap : Nat} {ps : List (NS × PD)} (h : RowNS w a cap (ps.map Prod.fst)) (hp : ∀ q ∈ ps, PkgRaw w q.1 q.2) :
    ∃ X Y Bd, InT w a ps.length cap X Y Bd ∧ ps.map Prod.snd = pdOf ps.length X Y Bd ∧ (∀ q ∈ ps, q.1.n ≤ 1000000 → PkgAt w q.1 q.2) ∧ ∀ i (hi : i < ps.length), X i = ps[i].1 := by
  let d : NS × PD := (⟨⟨#[]⟩, none, 0, 0⟩, ⟨⟨#[]⟩, []⟩)
  let e : NS × FD := (⟨⟨#[]⟩, none, 0, 0⟩, ⟨⟨#[]⟩, []⟩)
  haveI : Inhabited (List (NS × FD)) := ⟨[]⟩
  obtain ⟨X, hX⟩ : ∃ X : Nat → NS, X = fun i => (ps[i]?.getD d).1 := ⟨_, rfl⟩
  have hXi : ∀ i (hi : i < ps.length), X i = ps[i].1 := fun i hi => by rw [hX]; simp [hi]
  have each : ∀ i, i < ps.length → ∃ fps : List (NS × FD), (X i).n = fps.length ∧ RowNS w (X i).a (X i).c (fps.map Prod.fst) ∧ (∀ q ∈ fps, FileAt w q.1 q.2) ∧ fps.map Prod.snd = (ps[i]?.getD d).2.files ∧ (X i).name = (ps[i]?.getD d).2.path := by
    intro i hi
    obtain ⟨h1, fps, h2, h3, h4, h5, h6⟩ := hp ps[i] (List.getElem_mem hi)
    rw [hXi i hi]
    exact ⟨fps, h2, h3, h4, by simpa [hi] using h5, by simpa [hi] using h1⟩
  obtain ⟨F, hF⟩ := Go.Deep.choose_lt each
  refine ⟨X, fun i j => ((F i)[j]?.getD e).1, fun i j => ((F i)[j]?.getD e).2.body, ⟨by have := h.le; simpa using this, h.max, fun i hi => ?_, fun i hi => ?_, fun i hi j hj => ?_, fun i hi j hj => ?_⟩, ?_, ?_, hXi⟩
  · obtain ⟨p, h0, h1, h2⟩ := h.at' i (by simpa using hi)
    refine ⟨p, h0, ?_, ?_⟩
    · rw [h1, hXi i hi]; simp
    · rw [h2, hXi i hi]; simp
  · obtain ⟨h1, h2, _⟩ := hF i hi
    have := h2.le
    simp at this
    exact ⟨by omega, h2.max⟩
  · obtain ⟨h1, h2, _⟩ := hF i hi
    have hj' : j < (F i).length := by omega
    obtain ⟨p, h0, h1, h2⟩ := h2.at' j (by simpa using hj')
    refine ⟨p, h0, ?_, ?_⟩
    · rw [h1]; simp [hj']
    · rw [h2]; simp [hj']
  · obtain ⟨h1, h2, h3, _⟩ := hF i hi
    have hj' : j < (F i).length := by omega
    have := h3 (F i)[j] (List.getElem_mem hj')
    simp only [hj', List.getElem?_eq_getElem, Option.getD_some]
    exact ⟨this.2.1, this.2.2⟩
  · unfold pdOf
    rw [map_range Prod.snd d ps]
    apply List.map_congr_left
    intro i hi
    obtain ⟨h1, h2, h3, h4, h5⟩ := hF i (List.mem_range.1 hi)
    have : (ps[i]?.getD d).2 = ⟨(ps[i]?.getD d).2.path, (ps[i]?.getD d).2.files⟩ := rfl
    rw [this, ← h5, ← h4, h1, map_range Prod.snd e (F i)]
    congr 1
    apply List.map_congr_left
    intro j hj
    have hj' := List.mem_range.1 hj
    have k := h3 (F i)[j] (List.getElem_mem hj')
    have k2 : ((F i)[j]?.getD e).1.name = ((F i)[j]?.getD e).2.name := by simp [hj']; exact k.1
    rw [k2]
  · intro q hq hn
    obtain ⟨h1, fps, h2, h3, h4, h5, h6⟩ := hp q hq
    exact ⟨h1, fps, h2, h3, h4, h5, by omega, h6⟩
/-- Apart, by numbers. -/
def AP (X : Nat → NS) (Y : Nat → Nat → NS) (i : Nat) : Prop := ∀ j, j < i → (∀ k, k < j → (X j).name ≠ (X k).name) ∧ ∀ s, s < (X j).n → ∀ t, t < s → (Y j s).name ≠ (Y j t).name
theorem apart_range {β : Type} (n : Nat) (f : Nat → β) : ((List.range n).map f).Pairwise (fun x y => x ≠ y) ↔ ∀ j, j < n → ∀ k, k < j → f j ≠ f k := by
  rw [List.pairwise_iff_getElem]
  constructor
  · intro h j hj k hk e
    have := h k j (by simp; omega) (by simpa using hj) hk
    simp at this
    exact this e.symm
  · intro h i j hi hj hij e
    simp at hi hj e
    exact h j hj i hij e.symm
theorem apartT_iff (n : Nat) (X : Nat → NS) (Y : Nat → Nat → NS) (Bd : Nat → Nat → List Int) : ApartT (pdOf n X Y Bd) ↔ AP X Y n := by
  unfold ApartT AP
  have h1 : (pdOf n X Y Bd).Pairwise (fun x y => x.path ≠ y.path) ↔ ∀ j, j < n → ∀ k, k < j → (X j).name ≠ (X k).name := by
    rw [← apart_range n fun i => (X i).name, ← List.pairwise_map]
    unfold pdOf
    rw [List.map_map]
    rfl
  have h2 : (∀ p ∈ pdOf n X Y Bd, ApartF p.files) ↔ ∀ j, j < n → ∀ s, s < (X j).n → ∀ t, t < s → (Y j s).name ≠ (Y j t).name := by
    unfold pdOf
    simp only [List.mem_map, List.mem_range, forall_exists_index, and_imp, forall_apply_eq_imp_iff₂]
    refine forall_congr' fun j => forall_congr' fun hj => ?_
    rw [← apart_range (X j).n fun t => (Y j t).name]
    unfold ApartF
    rw [← List.pairwise_map, List.map_map]
    rfl
  rw [h1, h2]
  exact ⟨fun h j hj => ⟨h.1 j hj, h.2 j hj⟩, fun h => ⟨fun j hj => (h j hj).1, fun j hj => (h j hj).2⟩⟩
theorem less_of {x y : ByteArray} (h : Lib.compareBytes x.data.toList y.data.toList ≤ 0) (hne : x ≠ y) : Op.bytesLess x.toList y.toList = true := by
  have h1 := cb_less x.data.toList y.data.toList
  have h2 := cb_zero x.data.toList y.data.toList
  simp only [ByteArray.toList_eq]
  rw [h1]
  have : Lib.compareBytes x.data.toList y.data.toList ≠ 0 := fun e => hne (by
    have := h2.1 e
    obtain ⟨⟨a⟩⟩ := x
    obtain ⟨⟨b⟩⟩ := y
    simp at this
    rw [this])
  simp
  omega
/-- What the law sees of the tree that comes out. -/
structure OutT (w' : World) (G n : Nat) (X : Nat → NS) (Y : Nat → Nat → NS) (Bd : Nat → Nat → List Int) (Z : Nat → NS) (V : Nat → Nat → NS) (Vb : Nat → Nat → List Int) : Prop where
  pk : ∀ i, i < n → w'.cell? ⟨G, i * 2, none⟩ = some (.string (Z i).name) ∧ w'.cell? ⟨G, i * 2 + 1, none⟩ = some (.slice (Z i).a (Z i).n (Z i).c)
  less : ∀ i, i + 1 < n → Op.bytesLess (Z i).name.toList (Z (i + 1)).name.toList = true
  fl : ∀ i, i < n → ∃ g, (Z i).a = some ⟨g, 0, none⟩ ∧ (Z i).n ≤ (Z i).c ∧ (Z i).c ≤ maxLen ∧ ∀ s, s < (Z i).n → w'.cell? ⟨g, s * 2, none⟩ = some (.string (V i s).name) ∧ w'.cell? ⟨g, s * 2 + 1, none⟩ = some (.slice (V i s).a (V i s).n (V i s).c)
  bd : ∀ i, i < n → ∀ s, s < (Z i).n → (V i s).n = (Vb i s).length ∧ Row w' .u8 256 (V i s).a (V i s).c (Vb i s)
  fless : ∀ i, i < n → ∀ s, s + 1 < (Z i).n → Op.bytesLess (V i s).name.toList (V i (s + 1)).name.toList = true
  found : ∀ i, i < n → ∃ k, k < n ∧ (X k).name = (Z i).name
  same : ∀ i, i < n → ∀ k, k < n → (X k).name = (Z i).name → (X k).n = (Z i).n ∧ ∀ s, s < (Z i).n → (∃ t, t < (X k).n ∧ (Y k t).name = (V i s).name) ∧ ∀ t, t < (X k).n → (Y k t).name = (V i s).name → Bd k t = Vb i s
theorem OutT.next {w w' : World} {G n : Nat} {X : Nat → NS} {Y : Nat → Nat → NS} {Bd : Nat → Nat → List Int} {Z : Nat → NS} {V : Nat → Nat → NS} {Vb : Nat → Nat → List Int} (h : OutT w G n X Y Bd Z V Vb) (hb : Below w.heap.size w w') : OutT w' G n X Y Bd Z V Vb := by
  refine ⟨fun i hi => ⟨keep_cell hb (h.pk i hi).1, keep_cell hb (h.pk i hi).2⟩, h.less, fun i hi => ?_, fun i hi s hs => ⟨(h.bd i hi s hs).1, (h.bd i hi s hs).2.next hb⟩, h.fless, h.found, h.same⟩
  obtain ⟨g, h0, h1, h2, h3⟩ := h.fl i hi
  exact ⟨g, h0, h1, h2, fun s hs => ⟨keep_cell hb (h3 s hs).1, keep_cell hb (h3 s hs).2⟩⟩
theorem ap_one {X : Nat → NS} {Y : Nat → Nat → NS} {n j k : Nat} (h : AP X Y n) (hj : j < n) (hk : k < n) (e : (X j).name = (X k).name) : j = k := by
  rcases Nat.lt_trichotomy j k with hl | hl | hl
  · exact absurd e.symm ((h k hk).1 j hl)
  · exact hl
  · exact absurd e ((h j hj).1 k hl)
theorem ap_two {X : Nat → NS} {Y : Nat → Nat → NS} {n i j k : Nat} (h : AP X Y n) (hi : i < n) (hj : j < (X i).n) (hk : k < (X i).n) (e : (Y i j).name = (Y i k).name) : j = k := by
  rcases Nat.lt_trichotomy j k with hl | hl | hl
  · exact absurd e.symm ((h i hi).2 k hk j hl)
  · exact hl
  · exact absurd e ((h i hi).2 j hj k hl)
theorem asc_apart {L : List NS} (ha : Asc cmpNS L) (hp : Apart L) (i : Nat) (h : i + 1 < L.length) : Op.bytesLess L[i].name.toList L[i + 1].name.toList = true :=
  less_of ((List.pairwise_iff_getElem.1 ha) i (i + 1) (by omega) h (by omega)) (next_of_apart hp i h)
theorem outT_of [Inhabited NS] {w' : World} {lo G cap n : Nat} {X : Nat → NS} {Y : Nat → Nat → NS} {Bd : Nat → Nat → List Int} {Qs : List (NS × PD)} (h : PkgsOut w' lo G cap Qs (pdOf n X Y Bd)) (hA : AP X Y n) :
    Qs.length = n ∧ ∃ Z V Vb, OutT w' G n X Y Bd Z V Vb := by
  let d : NS × PD := (⟨⟨#[]⟩, none, 0, 0⟩, ⟨⟨#[]⟩, []⟩)
  let e : NS × FD := (⟨⟨#[]⟩, none, 0, 0⟩, ⟨⟨#[]⟩, []⟩)
  haveI : Inhabited (List (NS × FD)) := ⟨[]⟩
  have hlen : Qs.length = n := by have := h.perm.length_eq; simpa [pdOf] using this
  refine ⟨hlen, ?_⟩
  have hT := (apartT_iff n X Y Bd).2 hA
  have hap : Apart (Qs.map Prod.fst) := (apartP_iff (fun p hp => (h.own p hp).1) h.perm).2 hT.1
  obtain ⟨Z, hZ⟩ : ∃ Z : Nat → NS, Z = fun i => (Qs[i]?.getD d).1 := ⟨_, rfl⟩
  have hZi : ∀ i (hi : i < Qs.length), Z i = Qs[i].1 := fun i hi => by rw [hZ]; simp [hi]
  have hmem : ∀ i (hi : i < Qs.length), ∃ k, k < n ∧ Qs[i].2 = ⟨(X k).name, (List.range (X k).n).map fun j => ⟨(Y k j).name, Bd k j⟩⟩ := by
    intro i hi
    have h1 : Qs[i].2 ∈ pdOf n X Y Bd := h.perm.mem_iff.1 (List.mem_map.2 ⟨Qs[i], List.getElem_mem hi, rfl⟩)
    obtain ⟨k, hk, e⟩ := List.mem_map.1 h1
    exact ⟨k, List.mem_range.1 hk, e.symm⟩
  have each : ∀ i, i < Qs.length → ∃ qs : List (NS × FD), ∃ lo' g cap', (Z i).a = some ⟨g, 0, none⟩ ∧ (Z i).n = qs.length ∧ (Z i).c = cap' ∧ FilesOut w' lo' g cap' qs (Qs[i]?.getD d).2.files ∧ (Z i).name = (Qs[i]?.getD d).2.path := by
    intro i hi
    obtain ⟨h1, lo', g, cap', qs, h2, h3, h4, h5, _⟩ := h.own Qs[i] (List.getElem_mem hi)
    rw [hZi i hi]
    exact ⟨qs, lo', g, cap', h2, h3, h4, by simpa [hi] using h5, by simpa [hi] using h1⟩
  obtain ⟨R, hR⟩ := Go.Deep.choose_lt each
  rw [hlen] at hR
  have hfile : ∀ i, i < n → ∀ k, k < n → (X k).name = (Z i).name → (Qs[i]?.getD d).2.files = (List.range (X k).n).map fun j => ⟨(Y k j).name, Bd k j⟩ := by
    intro i hi k hk hn
    obtain ⟨k', hk', e'⟩ := hmem i (by omega)
    obtain ⟨lo', g, cap', z1, z2, z3, z4, z5⟩ := hR i hi
    have hq : (Qs[i]?.getD d).2 = Qs[i].2 := by simp [show i < Qs.length by omega]
    rw [hq, e'] at z5
    rw [hq, e']
    obtain rfl : k = k' := ap_one hA hk hk' (hn.trans z5)
    rfl
  refine ⟨Z, fun i s => ((R i)[s]?.getD e).1, fun i s => ((R i)[s]?.getD e).2.body, ⟨fun i hi => ?_, fun i hi => ?_, fun i hi => ?_, fun i hi s hs => ?_, fun i hi s hs => ?_, fun i hi => ?_, fun i hi k hk hn => ?_⟩⟩
  · have := holdNS h.holds i (by simp; omega)
    rw [hZi i (by omega)]
    simpa using this
  · have := asc_apart h.asc hap i (by simp; omega)
    rw [hZi i (by omega), hZi (i + 1) (by omega)]
    simpa using this
  · obtain ⟨lo', g, cap', z1, z2, z3, z4, z5⟩ := hR i hi
    refine ⟨g, z1, by rw [z2, z3]; exact z4.le, by rw [z3]; exact z4.max, fun s hs => ?_⟩
    have hs' : s < (R i).length := by omega
    have := holdNS z4.holds s (by simpa using hs')
    simpa [hs'] using this
  · obtain ⟨lo', g, cap', z1, z2, z3, z4, z5⟩ := hR i hi
    have hs' : s < (R i).length := by omega
    have := (z4.own (R i)[s] (List.getElem_mem hs')).1
    simp only [hs', List.getElem?_eq_getElem, Option.getD_some]
    exact ⟨this.2.1, this.2.2⟩
  · obtain ⟨lo', g, cap', z1, z2, z3, z4, z5⟩ := hR i hi
    have hs' : s + 1 < (R i).length := by omega
    have hF : ApartF (Qs[i]?.getD d).2.files := by
      have hq : (Qs[i]?.getD d).2 = Qs[i].2 := by simp [show i < Qs.length by omega]
      rw [hq]
      exact hT.2 _ (h.perm.mem_iff.1 (List.mem_map.2 ⟨Qs[i], List.getElem_mem (by omega), rfl⟩))
    have := asc_apart z4.asc ((apartF_iff (fun p hp => (z4.own p hp).1.1) z4.perm).2 hF) s (by simpa using hs')
    simpa [hs', show s < (R i).length by omega] using this
  · obtain ⟨k, hk, e'⟩ := hmem i (by omega)
    obtain ⟨lo', g, cap', z1, z2, z3, z4, z5⟩ := hR i hi
    have hq : (Qs[i]?.getD d).2 = Qs[i].2 := by simp [show i < Qs.length by omega]
    rw [hq, e'] at z5
    exact ⟨k, hk, z5.symm⟩
  · have hf := hfile i hi k hk hn
    obtain ⟨lo', g, cap', z1, z2, z3, z4, z5⟩ := hR i hi
    rw [hf] at z4
    have hl : (X k).n = (Z i).n := by have := z4.perm.length_eq; simp at this; omega
    refine ⟨hl, fun s hs => ?_⟩
    have hs' : s < (R i).length := by omega
    have h1 := z4.perm.mem_iff.1 (List.mem_map.2 ⟨(R i)[s], List.getElem_mem hs', rfl⟩)
    obtain ⟨t, ht, et⟩ := List.mem_map.1 h1
    have h2 := (z4.own (R i)[s] (List.getElem_mem hs')).1.1
    rw [← et] at h2
    have ht' := List.mem_range.1 ht
    simp only [hs', List.getElem?_eq_getElem, Option.getD_some]
    refine ⟨⟨t, ht', h2.symm⟩, fun t' ht2 e2 => ?_⟩
    obtain rfl : t' = t := ap_two hA hk ht2 ht' (e2.trans h2)
    rw [← et]
end Go.Proofs.Ytkngjljcjgagbaa
