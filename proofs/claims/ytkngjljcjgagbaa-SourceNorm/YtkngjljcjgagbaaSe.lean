/- Orders, and the sorts by them. -/
import Derived.Test.YtkngjljcjgagbaaSd
namespace Go.Proofs.Ytkngjljcjgagbaa
open Go.Shelf Go.RowKit Go.Lib Go.Sort
set_option linter.unusedVariables false
/-- A comparison: the other way round it is opposite, and it goes through. -/
structure Cmp {α : Type} (c : α → α → Int) : Prop where
  anti : ∀ a b, c a b = - c b a
  le : ∀ a b d, c a b ≤ 0 → c b d ≤ 0 → c a d ≤ 0
namespace Cmp
variable {α : Type} {c c' : α → α → Int}
theorem self (h : Cmp c) (a : α) : c a a = 0 := by have := h.anti a a; omega
theorem eqt (h : Cmp c) (a b d : α) (h1 : c a b = 0) (h2 : c b d = 0) : c a d = 0 := by
  have e1 := h.le a b d (by omega) (by omega)
  have e2 := h.le d b a (by have := h.anti b d; omega) (by have := h.anti a b; omega)
  have := h.anti a d
  omega
theorem lt_le (h : Cmp c) (a b d : α) (h1 : c a b < 0) (h2 : c b d ≤ 0) : c a d < 0 := by
  have e1 := h.le a b d (by omega) h2
  by_cases e : c a d = 0
  · have e2 := h.le b d a h2 (by have := h.anti a d; omega)
    have := h.anti a b
    omega
  · omega
theorem le_lt (h : Cmp c) (a b d : α) (h1 : c a b ≤ 0) (h2 : c b d < 0) : c a d < 0 := by
  have e1 := h.le a b d h1 (by omega)
  by_cases e : c a d = 0
  · have e2 := h.le d a b (by have := h.anti a d; omega) h1
    have := h.anti b d
    omega
  · omega
theorem swo (h : Cmp c) : SWO (ltOf c) where
  irrefl x := by simp [ltOf, h.self x]
  trans x y z h1 h2 := by
    simp [ltOf] at *
    exact h.lt_le x y z h1 (by omega)
  ntrans x y z h1 h2 := by
    simp [ltOf] at *
    have e1 := h.anti x y
    have e2 := h.anti y z
    have e3 := h.anti x z
    have := h.le z y x (by omega) (by omega)
    omega
theorem lex (h : Cmp c) (h' : Cmp c') : Cmp (fun a b => if c a b ≠ 0 then c a b else c' a b) where
  anti a b := by
    have e1 := h.anti a b
    have e2 := h'.anti a b
    by_cases e : c a b = 0
    · have e3 : c b a = 0 := by omega
      simp [e, e3, e2]
    · have e3 : ¬ c b a = 0 := by omega
      simp only [ne_eq, e, e3, not_false_eq_true, if_true]
      exact e1
  le a b d h1 h2 := by
    by_cases e1 : c a b = 0
    · by_cases e2 : c b d = 0
      · simp [e1, e2] at h1 h2
        simp [h.eqt a b d e1 e2]
        exact h'.le a b d h1 h2
      · simp [e2] at h2
        have := h.le_lt a b d (by omega) (by omega)
        have e3 : ¬ c a d = 0 := by omega
        simp [e3]
        omega
    · simp [e1] at h1
      by_cases e2 : c b d = 0
      · have := h.lt_le a b d (by omega) (by omega)
        have e3 : ¬ c a d = 0 := by omega
        simp [e3]
        omega
      · simp [e2] at h2
        have := h.lt_le a b d (by omega) (by omega)
        have e3 : ¬ c a d = 0 := by omega
        simp [e3]
        omega
theorem of {β : Type} {c : β → β → Int} (h : Cmp c) (f : α → β) : Cmp (fun a b => c (f a) (f b)) := ⟨fun a b => h.anti _ _, fun a b d => h.le _ _ _⟩
end Cmp
theorem cb_anti : ∀ a b : List UInt8, Lib.compareBytes a b = - Lib.compareBytes b a
  | [], [] => rfl
  | [], _ :: _ => rfl
  | _ :: _, [] => rfl
  | a :: xs, b :: ys => by
    have ih := cb_anti xs ys
    unfold Lib.compareBytes
    by_cases h1 : a < b
    · have h2 : ¬ b < a := by rw [UInt8.lt_iff_toNat_lt] at *; omega
      simp [h1, h2]
    · by_cases h2 : b < a
      · simp [h1, h2]
      · simp [h1, h2, ih]
theorem cb_zero : ∀ a b : List UInt8, Lib.compareBytes a b = 0 ↔ a = b
  | [], [] => by simp [Lib.compareBytes]
  | [], _ :: _ => by simp [Lib.compareBytes]
  | _ :: _, [] => by simp [Lib.compareBytes]
  | a :: xs, b :: ys => by
    have ih := cb_zero xs ys
    unfold Lib.compareBytes
    by_cases h1 : a < b
    · have : a ≠ b := fun e => by subst e; simp at h1
      simp [h1, this]
    · by_cases h2 : b < a
      · have : a ≠ b := fun e => by subst e; simp at h2
        simp [h1, h2, this]
      · have : a = b := by
          rw [UInt8.lt_iff_toNat_lt] at *
          exact UInt8.toNat_inj.1 (by omega)
        simp [ih, this]
theorem cb_less : ∀ a b : List UInt8, Op.bytesLess a b = decide (Lib.compareBytes a b < 0)
  | [], [] => by simp [Lib.compareBytes, Op.bytesLess]
  | [], _ :: _ => by simp [Lib.compareBytes, Op.bytesLess]
  | _ :: _, [] => by simp [Lib.compareBytes, Op.bytesLess]
  | a :: xs, b :: ys => by
    have ih := cb_less xs ys
    unfold Lib.compareBytes Op.bytesLess
    by_cases h1 : a < b
    · simp [h1]
    · by_cases h2 : b < a
      · have : a ≠ b := fun e => by subst e; simp at h2
        simp [h1, h2, this]
      · have : a = b := by
          rw [UInt8.lt_iff_toNat_lt] at *
          exact UInt8.toNat_inj.1 (by omega)
        simp [ih, this]
theorem cb_le : ∀ a b d : List UInt8, Lib.compareBytes a b ≤ 0 → Lib.compareBytes b d ≤ 0 → Lib.compareBytes a d ≤ 0
  | [], _, [] => by simp [Lib.compareBytes]
  | [], _, _ :: _ => by simp [Lib.compareBytes]
  | _ :: _, [], _ => by simp [Lib.compareBytes]
  | _ :: _, _ :: _, [] => by simp [Lib.compareBytes]
  | a :: xs, b :: ys, d :: ds => by
    have ih := cb_le xs ys ds
    unfold Lib.compareBytes
    intro h1 h2
    simp only [UInt8.lt_iff_toNat_lt] at *
    by_cases e1 : a.toNat < b.toNat
    · by_cases e2 : b.toNat < d.toNat
      · rw [if_pos (by omega)]; omega
      · by_cases e3 : d.toNat < b.toNat
        · rw [if_neg e2, if_pos e3] at h2; omega
        · rw [if_pos (by omega)]; omega
    · by_cases e3 : b.toNat < a.toNat
      · rw [if_neg e1, if_pos e3] at h1; omega
      · rw [if_neg e1, if_neg e3] at h1
        by_cases e2 : b.toNat < d.toNat
        · rw [if_pos (by omega)]; omega
        · by_cases e4 : d.toNat < b.toNat
          · rw [if_neg e2, if_pos e4] at h2; omega
          · rw [if_neg e2, if_neg e4] at h2
            rw [if_neg (by omega), if_neg (by omega)]
            exact ih h1 h2
theorem cmpBytes : Cmp Lib.compareBytes := ⟨cb_anti, cb_le⟩
theorem ci_le (a b : Int) : Lib.compareInt a b ≤ 0 ↔ a ≤ b := by
  unfold Lib.compareInt
  split
  · omega
  · split <;> omega
theorem cmpInts : Cmp Lib.compareInt := ⟨fun a b => by unfold Lib.compareInt; split <;> split <;> first | omega | (split <;> omega), fun a b d h1 h2 => by rw [ci_le] at *; omega⟩
theorem cmpNS_cmp : Cmp cmpNS := cmpBytes.of (fun x : NS => x.name.data.toList)
theorem cmpDG_cmp : Cmp cmpDG :=
  (cmpBytes.of (fun x : DG => x.pkg.data.toList)).lex ((cmpBytes.of (fun x : DG => x.file.data.toList)).lex (cmpInts.of (fun x : DG => x.at')))
/-- Ascending. -/
def Asc {α : Type} (c : α → α → Int) (L : List α) : Prop := L.Pairwise (fun x y => c x y ≤ 0)
section
variable {α : Type} [Inhabited α] {enc : α → List Value} {k : Nat} {w w' : World} {blk off : Nat}
theorem sortWorldK_grown (hb : blk < w.heap.size) (n : Nat) (d : Array α) (os : Array Obj) : w.grownBy (sortWorldK enc k w blk off n d os) (some blk) := by
  refine ⟨rfl, rfl, rfl, ?_, fun j hj hne => ?_⟩
  · simp [sortWorldK, putRowK, putRow, mapBlock]
  · unfold sortWorldK
    rw [heap_grow_old _ _ (by simpa [putRowK, putRow, mapBlock, ahead] using hj)]
    have hne' : blk ≠ j := fun e => hne (by rw [e])
    simp [putRowK, putRow, mapBlock, Array.getElem?_modify, hne']
theorem sort_post {cf : α → α → Int} (hC : Cmp cf) {L : List α} (hH : HoldsK enc k w blk off L.toArray) (hb : blk < w.heap.size)
    (h : ∃ d' n os, PermIn 0 L.toArray.size L.toArray d' ∧ SortedIn (ltOf cf) 0 L.toArray.size d' ∧ w' = sortWorldK enc k w blk off n d' os) :
    ∃ L' : List α, L'.Perm L ∧ Asc cf L' ∧ HoldsK enc k w' blk off L'.toArray ∧ w.grownBy w' (some blk) := by
  obtain ⟨d', n, os, hp, hs, rfl⟩ := h
  obtain ⟨hp1, hp2, hp3⟩ := hp
  have hsz : d'.size = L.length := by simpa using hp1
  refine ⟨d'.toList, ?_, ?_, ?_, sortWorldK_grown hb n d' os⟩
  · have e1 : (d'.extract 0 L.toArray.size) = d' := by rw [← hp1]; simp
    have e2 : (L.toArray.extract 0 L.toArray.size).toList = L := by simp
    rw [e1, e2] at hp3
    exact hp3
  · unfold Asc
    rw [List.pairwise_iff_getElem]
    intro i j hi hj hij
    have hi' : i < d'.size := by simpa using hi
    have hj' : j < d'.size := by simpa using hj
    have := hs i j (Nat.zero_le _) hij (by simpa [hsz] using hj')
    rw [getElem!_pos d' i hi', getElem!_pos d' j hj'] at this
    simp [ltOf] at this
    have e := hC.anti d'[i] d'[j]
    simp
    omega
  · rw [Array.toArray_toList]
    exact holdsK_grow enc k _ os blk off d' (by simpa [putRowK, putRow, mapBlock, ahead] using hb) (holdsK_putRowK enc k _ blk off L.toArray d' (holdsK_ahead enc k w n blk off _ hH) (by simpa using hsz))
end
theorem Grw_iff {w w' : World} (h : Grw w w') : ∃ q os', w' = grow (w.drewN q) os' := h
theorem sortPkg_any [Inhabited NS] (c blk off cap : Nat) (L : List NS) (w : World) (hc : w.cell? ⟨c, 0, none⟩ = some (.func (.func 16) #[] #[])) (hne : c ≠ blk) (hH : HoldsK encNS 2 w blk off L.toArray) (hblk : blk < w.heap.size) (hsz : L.length < 4611686018427387904) :
    Calls Try.prog 23 #[.slice (some ⟨blk, off, none⟩) L.length cap, .func (.func 24) #[] #[.pointer (some ⟨c, 0, none⟩)]] w fun e w' => e = .returned (.tuple #[]) ∧ ∃ L' : List NS, L'.Perm L ∧ Asc cmpNS L' ∧ HoldsK encNS 2 w' blk off L'.toArray ∧ w.grownBy w' (some blk) := by
  have hcl := cell_lt hc
  have hcmp : CmpLays Try.prog 24 #[.pointer (some ⟨c, 0, none⟩)] encNS 2 cmpNS blk off L.toArray.size w := fun m os dk hs x y => by
    have hc' : (sortWorldK encNS 2 w blk off m dk os).cell? ⟨c, 0, none⟩ = some (.func (.func 16) #[] #[]) :=
      (sortWorldK_grown hblk m dk os).cell hc (by simpa using hne)
    exact cmpPkg_any x y c _ hc'
  have h := AnyQ.slices_SortFunc Try.sortPkg 2 Try.isAgg28 Try.sizeOf28 encNS encNS_len encNS_one cmpNS cmpNS_cmp.swo 24 #[.pointer (some ⟨c, 0, none⟩)] blk off cap L.toArray w (enters_of Try.func24 (by kernel_rfl) rfl) hcmp hH hblk (by simpa using hsz)
  rw [List.size_toArray] at h
  change Calls Try.prog 23 _ _ _ at h
  exact h.mono fun e w' ⟨he, hh⟩ => ⟨he, sort_post cmpNS_cmp hH hblk (by simpa using hh)⟩
theorem sortFile_any [Inhabited NS] (c blk off cap : Nat) (L : List NS) (w : World) (hc : w.cell? ⟨c, 0, none⟩ = some (.func (.func 22) #[] #[])) (hne : c ≠ blk) (hH : HoldsK encNS 2 w blk off L.toArray) (hblk : blk < w.heap.size) (hsz : L.length < 4611686018427387904) :
    Calls Try.prog 30 #[.slice (some ⟨blk, off, none⟩) L.length cap, .func (.func 31) #[] #[.pointer (some ⟨c, 0, none⟩)]] w fun e w' => e = .returned (.tuple #[]) ∧ ∃ L' : List NS, L'.Perm L ∧ Asc cmpNS L' ∧ HoldsK encNS 2 w' blk off L'.toArray ∧ w.grownBy w' (some blk) := by
  have hcl := cell_lt hc
  have hcmp : CmpLays Try.prog 31 #[.pointer (some ⟨c, 0, none⟩)] encNS 2 cmpNS blk off L.toArray.size w := fun m os dk hs x y => by
    have hc' : (sortWorldK encNS 2 w blk off m dk os).cell? ⟨c, 0, none⟩ = some (.func (.func 22) #[] #[]) :=
      (sortWorldK_grown hblk m dk os).cell hc (by simpa using hne)
    exact cmpFile_any x y c _ hc'
  have h := AnyQ.slices_SortFunc Try.sortFile 2 Try.isAgg31 Try.sizeOf31 encNS encNS_len encNS_one cmpNS cmpNS_cmp.swo 31 #[.pointer (some ⟨c, 0, none⟩)] blk off cap L.toArray w (enters_of Try.func31 (by kernel_rfl) rfl) hcmp hH hblk (by simpa using hsz)
  rw [List.size_toArray] at h
  change Calls Try.prog 30 _ _ _ at h
  exact h.mono fun e w' ⟨he, hh⟩ => ⟨he, sort_post cmpNS_cmp hH hblk (by simpa using hh)⟩
theorem sortDiag_any [Inhabited DG] (blk off cap : Nat) (L : List DG) (w : World) (hH : HoldsK encDG 3 w blk off L.toArray) (hblk : blk < w.heap.size) (hsz : L.length < 4611686018427387904) :
    Calls Try.prog 17 #[.slice (some ⟨blk, off, none⟩) L.length cap, .func (.func 18) #[] #[]] w fun e w' => e = .returned (.tuple #[]) ∧ ∃ L' : List DG, L'.Perm L ∧ Asc cmpDG L' ∧ HoldsK encDG 3 w' blk off L'.toArray ∧ w.grownBy w' (some blk) := by
  have hcmp : CmpLays Try.prog 18 #[] encDG 3 cmpDG blk off L.toArray.size w := fun m os dk hs x y => cmpDiags_any x y _
  have h := AnyQ.slices_SortFunc Try.sortDiag 3 Try.isAgg41 Try.sizeOf41 encDG encDG_len encDG_one cmpDG cmpDG_cmp.swo 18 #[] blk off cap L.toArray w (enters_of Try.func18 (by kernel_rfl) rfl) hcmp hH hblk (by simpa using hsz)
  rw [List.size_toArray] at h
  change Calls Try.prog 17 _ _ _ at h
  exact h.mono fun e w' ⟨he, hh⟩ => ⟨he, sort_post cmpDG_cmp hH hblk (by simpa using hh)⟩
end Go.Proofs.Ytkngjljcjgagbaa
