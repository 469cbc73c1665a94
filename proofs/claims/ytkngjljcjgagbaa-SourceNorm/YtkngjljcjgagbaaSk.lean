/- The opening check of the laws. -/
import Derived.Test.YtkngjljcjgagbaaSh
import Derived.Test.YtkngjljcjgagbaaSj
import Derived.Test.YtkngjljcjgagbaaSa
import Derived.Lib.SlBytesConst
namespace Go.Proofs.Ytkngjljcjgagbaa
open Go.Shelf Go.RowKit Go.Lib Go.Sort
attribute [local go_sem ↓] Go.wp_at_zero Go.wp_at_succ
theorem cmpDG_zero (x y : DG) : cmpDG x y = 0 ↔ x = y := by
  unfold cmpDG first3
  have e1 := cb_zero x.pkg.data.toList y.pkg.data.toList
  have e2 := cb_zero x.file.data.toList y.file.data.toList
  have b : ∀ a b : ByteArray, a.data.toList = b.data.toList → a = b := fun a b h => by cases a; cases b; simp at h; rw [h]
  constructor
  · intro h
    by_cases h1 : Lib.compareBytes x.pkg.data.toList y.pkg.data.toList = 0
    · by_cases h2 : Lib.compareBytes x.file.data.toList y.file.data.toList = 0
      · simp [h1, h2] at h
        have h3 : x.at' = y.at' := by
          unfold Lib.compareInt at h
          split at h
          · omega
          · split at h <;> omega
        exact DG.ext' (b _ _ (e1.1 h1)) (b _ _ (e2.1 h2)) h3
      · simp [h1, h2] at h
    · simp [h1] at h
  · intro h
    subst h
    have h1 := e1.2 rfl
    have h2 := e2.2 rfl
    simp [h1, h2, Lib.compareInt]
theorem nth_mem [Inhabited DG] (L : List DG) (i : Nat) (h : i < L.length) : nth L i ∈ L := by
  unfold nth
  rw [List.getElem?_eq_getElem h]
  exact List.getElem_mem h
theorem asc_nth [Inhabited DG] {L : List DG} (h : Asc cmpDG L) (i j : Nat) (hij : i < j) (hj : j < L.length) : cmpDG (nth L i) (nth L j) ≤ 0 := by
  have := (List.pairwise_iff_getElem.1 h) i j (by omega) hj hij
  simpa [nth, List.getElem?_eq_getElem hj, List.getElem?_eq_getElem (show i < L.length by omega)] using this
theorem ddn_props [Inhabited DG] {L : List DG} (h : Asc cmpDG L) (n : Nat) (hn : n ≤ L.length) : (ddn L n).Pairwise (fun x y => cmpDG x y < 0) ∧ (∀ x ∈ ddn L n, ∃ i, i < n ∧ x = nth L i) ∧ (∀ i, i < n → nth L i ∈ ddn L n) := by
  induction n with
  | zero => exact ⟨List.Pairwise.nil, fun x hx => (by cases hx), fun i hi => (by omega)⟩
  | succ n ih =>
    obtain ⟨h1, h2, h3⟩ := ih (by omega)
    by_cases hk : n = 0 ∨ nth L n ≠ nth L (n - 1)
    · rw [ddn_keep L n hk]
      refine ⟨?_, ?_, ?_⟩
      · rw [List.pairwise_append]
        refine ⟨h1, List.pairwise_singleton _ _, fun x hx y hy => ?_⟩
        simp at hy
        subst hy
        obtain ⟨i, hi, rfl⟩ := h2 x hx
        rcases hk with hk | hk
        · omega
        · have e1 := asc_nth h (n - 1) n (by omega) (by omega)
          have e2 : cmpDG (nth L (n - 1)) (nth L n) ≠ 0 := fun e => hk ((cmpDG_zero _ _).1 e).symm
          by_cases e : i = n - 1
          · subst e; omega
          · exact cmpDG_cmp.le_lt _ _ _ (asc_nth h i (n - 1) (by omega) (by omega)) (by omega)
      · intro x hx
        rcases List.mem_append.1 hx with hx | hx
        · obtain ⟨i, hi, rfl⟩ := h2 x hx
          exact ⟨i, by omega, rfl⟩
        · simp at hx
          exact ⟨n, by omega, hx⟩
      · intro i hi
        by_cases e : i = n
        · subst e; simp
        · exact List.mem_append.2 (.inl (h3 i (by omega)))
    · have hk1 : n ≠ 0 := fun e => hk (.inl e)
      have hk2 : nth L n = nth L (n - 1) := Classical.byContradiction fun e => hk (.inr e)
      rw [ddn_drop L n hk1 hk2]
      refine ⟨h1, fun x hx => ?_, fun i hi => ?_⟩
      · obtain ⟨i, hi, rfl⟩ := h2 x hx
        exact ⟨i, by omega, rfl⟩
      · by_cases e : i = n
        · subst e; rw [hk2]; exact h3 _ (by omega)
        · exact h3 i (by omega)
theorem ddn_mem [Inhabited DG] {L : List DG} (h : Asc cmpDG L) (x : DG) : x ∈ ddn L L.length ↔ x ∈ L := by
  obtain ⟨_, h2, h3⟩ := ddn_props h L.length (Nat.le_refl _)
  constructor
  · intro hx
    obtain ⟨i, hi, rfl⟩ := h2 x hx
    exact nth_mem L i hi
  · intro hx
    obtain ⟨i, hi, rfl⟩ := List.getElem_of_mem hx
    have := h3 i hi
    unfold nth at this
    rw [List.getElem?_eq_getElem hi] at this
    exact this
theorem two_told [Inhabited DG] {L' : List DG} (hp : L'.Perm [⟨⟨#[]⟩, ⟨#[]⟩, 2⟩, ⟨⟨#[]⟩, ⟨#[]⟩, 1⟩, ⟨⟨#[]⟩, ⟨#[]⟩, 2⟩]) (ha : Asc cmpDG L') : (ddn L' L'.length).length = 2 := by
  have hm := fun x => (ddn_mem ha x).trans (hp.mem_iff (a := x))
  have hs := (ddn_props ha L'.length (Nat.le_refl _)).1
  have hnd : (ddn L' L'.length).Nodup := hs.imp fun {x y} h e => by rw [(cmpDG_zero x y).2 e] at h; omega
  have hn2 : ([⟨⟨#[]⟩, ⟨#[]⟩, 1⟩, ⟨⟨#[]⟩, ⟨#[]⟩, 2⟩] : List DG).Nodup := by
    rw [List.nodup_cons]
    refine ⟨by simp, by simp⟩
  have := (List.perm_ext_iff_of_nodup hnd hn2).2 (fun x => by rw [hm x]; simp; intro h; exact .inr h)
  rw [this.length_eq]
  rfl
theorem perm_two {α : Type} {a b x y : α} (h : [a, b].Perm [x, y]) : (a = x ∧ b = y) ∨ (a = y ∧ b = x) := by
  have hm : a ∈ [x, y] := h.mem_iff.1 (by simp)
  simp at hm
  rcases hm with rfl | rfl
  · have := h.cons_inv
    simp at this
    exact .inl ⟨rfl, this⟩
  · have := (h.trans (List.Perm.swap _ _ _)).cons_inv
    simp at this
    exact .inr ⟨rfl, this⟩
theorem two_sorted {qs : List (NS × FD)} {x y : FD} (hp : (qs.map Prod.snd).Perm [x, y]) (ha : Asc cmpNS (qs.map Prod.fst)) (hn : ∀ p ∈ qs, p.1.name = p.2.name) (hlt : Lib.compareBytes y.name.data.toList x.name.data.toList < 0) : ∃ p q, qs = [p, q] ∧ p.2 = y ∧ q.2 = x := by
  have hl : qs.length = 2 := by have := hp.length_eq; simpa using this
  match qs, hl with
  | [p, q], _ =>
    simp at hp ha hn
    have hc : cmpNS p.1 q.1 ≤ 0 := by simpa [Asc] using ha
    have hpm : p.2 = x ∧ q.2 = y ∨ p.2 = y ∧ q.2 = x := by
      exact perm_two hp
    rcases hpm with ⟨h1, h2⟩ | ⟨h1, h2⟩
    · unfold cmpNS at hc
      rw [hn.1, hn.2, h1, h2] at hc
      have := cb_anti x.name.data.toList y.name.data.toList
      omega
    · exact ⟨p, q, rfl, h1, h2⟩
theorem two_sortedP {qs : List (NS × PD)} {x y : PD} (hp : (qs.map Prod.snd).Perm [x, y]) (ha : Asc cmpNS (qs.map Prod.fst)) (hn : ∀ p ∈ qs, p.1.name = p.2.path) (hlt : Lib.compareBytes y.path.data.toList x.path.data.toList < 0) : ∃ p q, qs = [p, q] ∧ p.2 = y ∧ q.2 = x := by
  have hl : qs.length = 2 := by have := hp.length_eq; simpa using this
  match qs, hl with
  | [p, q], _ =>
    simp at hp ha hn
    have hc : cmpNS p.1 q.1 ≤ 0 := by simpa [Asc] using ha
    rcases perm_two hp with ⟨h1, h2⟩ | ⟨h1, h2⟩
    · unfold cmpNS at hc
      rw [hn.1, hn.2, h1, h2] at hc
      have := cb_anti x.path.data.toList y.path.data.toList
      omega
    · exact ⟨p, q, rfl, h1, h2⟩
theorem add_off (g o i : Nat) : (⟨g, o, none⟩ : Addr).add i = ⟨g, o + i, none⟩ := addr_add g o i
/-- Two names in a row, as a literal lays them. -/
theorem rowNS_two (w : World) (T : TypeId) (x y : NS) : RowNS (w.alloc (.cells #[.string x.name, .slice x.a x.n x.c, .string y.name, .slice y.a y.n y.c] T)) (some ⟨w.heap.size, 0, none⟩) 2 [x, y] := by
  refine ⟨Nat.le_refl _, by decide, fun h => (by cases h), fun p hp i hi => ?_, fun p hp i hi => ?_⟩
  · cases hp
    rw [add_off]
    match i, hi with
    | 0, _ => simp [go_sem]
    | 1, _ => simp [go_sem]
  · cases hp
    rw [add_off]
    match i, hi with
    | 0, _ => simp [go_sem]
    | 1, _ => simp [go_sem]
def sB : ByteArray := ⟨#[98]⟩
def sA : ByteArray := ⟨#[97]⟩
def sY : ByteArray := ⟨#[121]⟩
def sX : ByteArray := ⟨#[120]⟩
def fY : FD := ⟨sY, []⟩
def fX : FD := ⟨sX, []⟩
def pB : PD := ⟨sB, []⟩
def pA : PD := ⟨sA, [fY, fX]⟩
theorem apart_begun : ApartT [pB, pA] := by
  have h1 : sB ≠ sA := fun h => absurd (congrArg (fun s : ByteArray => s.data) h) (by decide)
  have h2 : sY ≠ sX := fun h => absurd (congrArg (fun s : ByteArray => s.data) h) (by decide)
  refine ⟨by simp [pB, pA, h1], fun p hp => ?_⟩
  simp at hp
  rcases hp with rfl | rfl
  · simp [pB, ApartF]
  · simp [pA, ApartF, fY, fX, h2]
theorem norm_begun (w : World) :
    Calls Try.prog 8 #[.agg #[.slice (some ⟨w.heap.size + 1, 0, none⟩) 2 2]] ((w.alloc (.cells #[.string ⟨#[121]⟩, .slice none 0 0, .string ⟨#[120]⟩, .slice none 0 0] 31)).alloc (.cells #[.string ⟨#[98]⟩, .slice none 0 0, .string ⟨#[97]⟩, .slice (some ⟨w.heap.size, 0, none⟩) 2 2] 28)) fun e w' =>
      ∃ G c g c', e = .returned (.tuple #[.agg #[.slice (some ⟨G, 0, none⟩) 2 c], .bool true]) ∧ w'.cell? ⟨G, 0, none⟩ = some (.string ⟨#[97]⟩) ∧ w'.cell? ⟨G, 1, none⟩ = some (.slice (some ⟨g, 0, none⟩) 2 c') ∧ w'.cell? ⟨g, 0, none⟩ = some (.string ⟨#[120]⟩) ∧ 2 ≤ c ∧ 2 ≤ c' ∧ Below w.heap.size w w' := by
  haveI : Inhabited NS := ⟨⟨⟨#[]⟩, none, 0, 0⟩⟩
  obtain ⟨W1, hW1⟩ : ∃ W1, W1 = w.alloc (.cells #[.string ⟨#[121]⟩, .slice none 0 0, .string ⟨#[120]⟩, .slice none 0 0] 31) := ⟨_, rfl⟩
  have hs1 : W1.heap.size = w.heap.size + 1 := by rw [hW1]; simp
  have hB1 : Below w.heap.size w W1 := by rw [hW1]; exact (Below.refl _ _).alloc (Nat.le_refl _) _
  have hr1 : RowNS W1 (some ⟨w.heap.size, 0, none⟩) 2 [⟨sY, none, 0, 0⟩, ⟨sX, none, 0, 0⟩] := by rw [hW1]; exact rowNS_two w 31 ⟨sY, none, 0, 0⟩ ⟨sX, none, 0, 0⟩
  rw [← hW1, ← hs1]
  have hr2 := rowNS_two W1 28 ⟨sB, none, 0, 0⟩ ⟨sA, some ⟨w.heap.size, 0, none⟩, 2, 2⟩
  have hB2 : Below W1.heap.size W1 (W1.alloc (.cells #[.string ⟨#[98]⟩, .slice none 0 0, .string ⟨#[97]⟩, .slice (some ⟨w.heap.size, 0, none⟩) 2 2] 28)) := (Below.refl _ _).alloc (Nat.le_refl _) _
  have hr2' : RowNS (W1.alloc (.cells #[.string ⟨#[98]⟩, .slice none 0 0, .string ⟨#[97]⟩, .slice (some ⟨w.heap.size, 0, none⟩) 2 2] 28)) (some ⟨W1.heap.size, 0, none⟩) 2 [⟨sB, none, 0, 0⟩, ⟨sA, some ⟨w.heap.size, 0, none⟩, 2, 2⟩] := hr2
  have hr1' := hr1.next hB2
  have hB3 := bthen hB1 hB2
  generalize W1.alloc (.cells #[.string ⟨#[98]⟩, .slice none 0 0, .string ⟨#[97]⟩, .slice (some ⟨w.heap.size, 0, none⟩) 2 2] 28) = W2 at *
  have hfY : FileAt W2 ⟨sY, none, 0, 0⟩ fY := ⟨rfl, rfl, Row.empty _ _ _⟩
  have hfX : FileAt W2 ⟨sX, none, 0, 0⟩ fX := ⟨rfl, rfl, Row.empty _ _ _⟩
  have hpB : PkgAt W2 ⟨sB, none, 0, 0⟩ pB := ⟨rfl, [], rfl, ⟨Nat.le_refl _, by decide, fun _ => rfl, fun p hp => (by cases hp), fun p hp => (by cases hp)⟩, fun q hq => (by cases hq), rfl, by decide, fun q hq => (by cases hq)⟩
  have hpA : PkgAt W2 ⟨sA, some ⟨w.heap.size, 0, none⟩, 2, 2⟩ pA := ⟨rfl, [(⟨sY, none, 0, 0⟩, fY), (⟨sX, none, 0, 0⟩, fX)], rfl, hr1', fun q hq => (by
    simp at hq
    rcases hq with rfl | rfl
    · exact hfY
    · exact hfX), rfl, by decide, fun q hq => (by
    simp at hq
    rcases hq with rfl | rfl <;> decide)⟩
  have k := Norm_any (some ⟨W1.heap.size, 0, none⟩) 2 [(⟨sB, none, 0, 0⟩, pB), (⟨sA, some ⟨w.heap.size, 0, none⟩, 2, 2⟩, pA)] W2 hr2' (fun q hq => by
    simp at hq
    rcases hq with rfl | rfl
    · exact hpB
    · exact hpA) (by simp)
  refine Calls.mono k ?_
  rintro e w' ⟨hB, ⟨hno, _⟩ | ⟨_, G, c, Qs, rfl, hO⟩⟩
  · exact absurd apart_begun hno
  · obtain ⟨p, q, rfl, hp, hq⟩ := two_sortedP (x := pB) (y := pA) hO.perm hO.asc (fun t ht => (hO.own t ht).1) (by decide)
    have hc := holdNS hO.holds 0 (by simp)
    simp at hc
    obtain ⟨hn, lo, g, cp, qs, z1, z2, z3, z4, z5, z6, z7⟩ := hO.own p (by simp)
    rw [hp] at z4 hn
    obtain ⟨r, s, rfl, hr, hs⟩ := two_sorted (x := fY) (y := fX) z4.perm z4.asc (fun t ht => (z4.own t ht).1.1) (by decide)
    have hd := holdNS z4.holds 0 (by simp)
    simp at hd
    have hrn := (z4.own r (by simp)).1.1
    rw [hr] at hrn
    rw [z1, z2, z3, hn] at hc
    rw [hrn] at hd
    exact ⟨G, c, g, cp, rfl, hc.1, hc.2, hd.1, hO.le, z4.le, bthen hB3 hB⟩
theorem path_ab : PathP ⟨#[97, 47, 98]⟩ := by
  refine ⟨by decide, by decide, fun _ => ?_, fun _ => ?_, fun i h => ?_⟩
  · show ((97 : UInt8).toNat : Int) ≠ 47
    decide
  · show ((98 : UInt8).toNat : Int) ≠ 47
    decide
  · have h' : i < 3 := h
    match i, h' with
    | 0, _ => show okB ((97 : UInt8).toNat : Int) = true; decide
    | 1, _ => show okB ((47 : UInt8).toNat : Int) = true; decide
    | 2, _ => show okB ((98 : UInt8).toNat : Int) = true; decide
theorem rowDG_three (w : World) : RowDG (w.alloc (.cells #[.string ⟨#[]⟩, .string ⟨#[]⟩, .int .i64 2, .string ⟨#[]⟩, .string ⟨#[]⟩, .int .i64 1, .string ⟨#[]⟩, .string ⟨#[]⟩, .int .i64 2] 41)) (some ⟨w.heap.size, 0, none⟩) 3 [⟨⟨#[]⟩, ⟨#[]⟩, 2⟩, ⟨⟨#[]⟩, ⟨#[]⟩, 1⟩, ⟨⟨#[]⟩, ⟨#[]⟩, 2⟩] := by
  refine ⟨Nat.le_refl _, by decide, fun h => (by cases h), fun p hp j u hj => ?_⟩
  cases hp
  rw [add_off]
  have hlt : j < 9 := by
    by_cases h : j < 9
    · exact h
    · rw [List.getElem?_eq_none (by simp [flatDG, encDG]; omega)] at hj; cases hj
  match j, hlt with
  | 0, _ => simp [flatDG, encDG] at hj; subst hj; simp [go_sem]
  | 1, _ => simp [flatDG, encDG] at hj; subst hj; simp [go_sem]
  | 2, _ => simp [flatDG, encDG] at hj; subst hj; simp [go_sem]
  | 3, _ => simp [flatDG, encDG] at hj; subst hj; simp [go_sem]
  | 4, _ => simp [flatDG, encDG] at hj; subst hj; simp [go_sem]
  | 5, _ => simp [flatDG, encDG] at hj; subst hj; simp [go_sem]
  | 6, _ => simp [flatDG, encDG] at hj; subst hj; simp [go_sem]
  | 7, _ => simp [flatDG, encDG] at hj; subst hj; simp [go_sem]
  | 8, _ => simp [flatDG, encDG] at hj; subst hj; simp [go_sem]
theorem diags_begun (w : World) : Calls Try.prog 10 #[.slice (some ⟨w.heap.size, 0, none⟩) 3 3] (w.alloc (.cells #[.string ⟨#[]⟩, .string ⟨#[]⟩, .int .i64 2, .string ⟨#[]⟩, .string ⟨#[]⟩, .int .i64 1, .string ⟨#[]⟩, .string ⟨#[]⟩, .int .i64 2] 41)) fun e w' => ∃ a c, e = .returned (.slice a 2 c) ∧ Below w.heap.size w w' := by
  haveI : Inhabited DG := ⟨⟨⟨#[]⟩, ⟨#[]⟩, 0⟩⟩
  have k := Diags_any (some ⟨w.heap.size, 0, none⟩) 3 _ _ (rowDG_three w) (by decide)
  refine Calls.mono k ?_
  rintro e w' ⟨a', c', M, L', rfl, hp, ha, hM, _, _, hB⟩
  have := two_told hp ha
  rw [← hM] at this
  rw [this]
  exact ⟨a', c', rfl, bthen ((Below.refl _ _).alloc (Nat.le_refl _) _) hB⟩
theorem place_begun (w : World) : Calls Try.prog 9 #[.slice (some ⟨w.heap.size, 0, none⟩) 5 5, .int .i64 4] (w.alloc (.cells #[.int .u8 97, .int .u8 98, .int .u8 10, .int .u8 99, .int .u8 100] 5 (5, 6))) fun e w' => e = .returned (.tuple #[.int .i64 2, .int .i64 2]) ∧ w' = (w.alloc (.cells #[.int .u8 97, .int .u8 98, .int .u8 10, .int .u8 99, .int .u8 100] 5 (5, 6))) := by
  have hr : Row (w.alloc (.cells #[.int .u8 97, .int .u8 98, .int .u8 10, .int .u8 99, .int .u8 100] 5 (5, 6))) .u8 256 (some ⟨w.heap.size, 0, none⟩) 5 [97, 98, 10, 99, 100] := by
    refine ⟨Nat.le_refl _, by decide, fun h => (by cases h), fun x hx i hi => ?_, ?_⟩
    · cases hx
      rw [add_off]
      have hh := heap_alloc_new w (.cells #[.int .u8 97, .int .u8 98, .int .u8 10, .int .u8 99, .int .u8 100] 5 (5, 6))
      match i, hi with
      | 0, _ => show (match (w.alloc (.cells #[.int .u8 97, .int .u8 98, .int .u8 10, .int .u8 99, .int .u8 100] 5 (5, 6))).heap[w.heap.size]? with | some (Obj.cells c elem frozen) => _ | x => _) = _; rw [hh]; rfl
      | 1, _ => show (match (w.alloc (.cells #[.int .u8 97, .int .u8 98, .int .u8 10, .int .u8 99, .int .u8 100] 5 (5, 6))).heap[w.heap.size]? with | some (Obj.cells c elem frozen) => _ | x => _) = _; rw [hh]; rfl
      | 2, _ => show (match (w.alloc (.cells #[.int .u8 97, .int .u8 98, .int .u8 10, .int .u8 99, .int .u8 100] 5 (5, 6))).heap[w.heap.size]? with | some (Obj.cells c elem frozen) => _ | x => _) = _; rw [hh]; rfl
      | 3, _ => show (match (w.alloc (.cells #[.int .u8 97, .int .u8 98, .int .u8 10, .int .u8 99, .int .u8 100] 5 (5, 6))).heap[w.heap.size]? with | some (Obj.cells c elem frozen) => _ | x => _) = _; rw [hh]; rfl
      | 4, _ => show (match (w.alloc (.cells #[.int .u8 97, .int .u8 98, .int .u8 10, .int .u8 99, .int .u8 100] 5 (5, 6))).heap[w.heap.size]? with | some (Obj.cells c elem frozen) => _ | x => _) = _; rw [hh]; rfl
    · intro z hz
      simp at hz
      omega
  exact Place_any (some ⟨w.heap.size, 0, none⟩) 5 [97, 98, 10, 99, 100] 4 _ hr (by decide)
set_option maxRecDepth 20000 in
set_option maxHeartbeats 4000000 in
theorem begun_any (w : World) : Calls Try.prog 7 #[] w fun e w' => e = .returned (.bool true) ∧ Below w.heap.size w w' := by
  have kN := norm_begun w
  replace kN := (show Hid _ from kN)
  go_enter Try.func7, Try.ntmps7
  go_wp2_with fail
  refine Calls.mono kN.out ?_
  rintro e w1 ⟨G, c, g, c', rfl, d0, d1, d2, hc, hc', hB⟩
  clear kN
  have hB2 : Below w1.heap.size w1 ((w1.alloc (.cells #[.slice (some ⟨G, 0, none⟩) 2 c] 24)).alloc (.cells #[.int .u8 97, .int .u8 98, .int .u8 10, .int .u8 99, .int .u8 100] 5 (5, 6))) := ((Below.refl _ _).alloc (Nat.le_refl _) _).alloc (by simp) _
  have kP := place_begun (w1.alloc (.cells #[.slice (some ⟨G, 0, none⟩) 2 c] 24))
  have hcv : (convert 29 29 (.slice (some ⟨w1.heap.size + 1, 0, none⟩) 5 5)).run Try.prog ((w1.alloc (.cells #[.slice (some ⟨G, 0, none⟩) 2 c] 24)).alloc (.cells #[.int .u8 97, .int .u8 98, .int .u8 10, .int .u8 99, .int .u8 100] 5)) = .ok (.slice (some ⟨w1.heap.size + 1, 0, none⟩) 5 5) ((w1.alloc (.cells #[.slice (some ⟨G, 0, none⟩) 2 c] 24)).alloc (.cells #[.int .u8 97, .int .u8 98, .int .u8 10, .int .u8 99, .int .u8 100] 5 (5, 6))) := by
    have := run_convert_bytes_const (P := Try.prog) (w1.alloc (.cells #[.slice (some ⟨G, 0, none⟩) 2 c] 24)) 29 5 #[.int .u8 97, .int .u8 98, .int .u8 10, .int .u8 99, .int .u8 100] 5 5 Try.underlying29 Try.underlying5
    simpa using this
  have hsz : (w1.alloc (.cells #[.slice (some ⟨G, 0, none⟩) 2 c] 24)).heap.size = w1.heap.size + 1 := by simp
  rw [hsz] at kP
  have e0 := keep_cell hB2 d0
  have e1 := keep_cell hB2 d1
  have e2 := keep_cell hB2 d2
  have e3 : ((w1.alloc (.cells #[.slice (some ⟨G, 0, none⟩) 2 c] 24)).alloc (.cells #[.int .u8 97, .int .u8 98, .int .u8 10, .int .u8 99, .int .u8 100] 5 (5, 6))).cell? ⟨w1.heap.size, 0, none⟩ = some (.slice (some ⟨G, 0, none⟩) 2 c) := by simp [go_sem]
  have hB3 := bthen hB hB2
  generalize hw2 : (w1.alloc (.cells #[.slice (some ⟨G, 0, none⟩) 2 c] 24)).alloc (.cells #[.int .u8 97, .int .u8 98, .int .u8 10, .int .u8 99, .int .u8 100] 5 (5, 6)) = w2 at *
  clear hw2
  have kA := path12_any ⟨#[97, 47, 98]⟩ w2
  have kD := diags_begun w2
  replace kA := (show Hid _ from kA)
  replace kD := (show Hid _ from kD)
  go_wp2_with fail
  refine Calls.mono kP ?_
  rintro e w3 ⟨rfl, rfl⟩
  clear kP hcv
  go_wp2_with fail
  refine Calls.mono kA.out ?_
  rintro e w4 ⟨b, rfl, hb, rfl⟩
  have hbt : b = true := hb.2 path_ab
  subst hbt
  clear kA hb
  go_wp2_with fail
  refine Calls.mono kD.out ?_
  rintro e w5 ⟨a5, c5, rfl, hB5⟩
  clear kD
  go_wp2
  go_ret
  exact ⟨rfl, bthen hB3 hB5⟩
end Go.Proofs.Ytkngjljcjgagbaa
