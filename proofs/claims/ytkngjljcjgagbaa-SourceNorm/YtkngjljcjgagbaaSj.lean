/- Diags. -/
import Derived.Test.YtkngjljcjgagbaaSi
import Derived.Test.YtkngjljcjgagbaaSg
namespace Go.Proofs.Ytkngjljcjgagbaa
open Go.Shelf Go.RowKit Go.Lib Go.Sort
attribute [local go_sem ↓] Go.wp_at_zero Go.wp_at_succ
def flatDG (L : List DG) : List Value := L.flatMap encDG
theorem flatDG_len (L : List DG) : (flatDG L).length = L.length * 3 := by
  induction L with
  | nil => rfl
  | cons x L ih => simp [flatDG, encDG] at ih ⊢; omega
theorem flatDG_get [Inhabited DG] (L : List DG) (i : Nat) (h : i < L.length) : (flatDG L)[i * 3]? = some (.string (nth L i).pkg) ∧ (flatDG L)[i * 3 + 1]? = some (.string (nth L i).file) ∧ (flatDG L)[i * 3 + 2]? = some (.int .i64 (nth L i).at') := by
  induction L generalizing i with
  | nil => simp at h
  | cons x L ih =>
    cases i with
    | zero => exact ⟨rfl, rfl, rfl⟩
    | succ i =>
      have := ih i (by simpa using h)
      have e : (i + 1) * 3 = i * 3 + 1 + 1 + 1 := by omega
      simp only [flatDG, encDG, List.flatMap_cons, e] at this ⊢
      simpa [nth] using this
/-- A row of what is told that came in. -/
structure RowDG (w : World) (a : Option Addr) (cap : Nat) (L : List DG) : Prop where
  le : L.length ≤ cap
  max : cap ≤ maxLen
  nil : a = none → cap = 0
  cell : ∀ p, a = some p → ∀ j u, (flatDG L)[j]? = some u → w.cell? (p.add j) = some u
theorem RowDG.next {w w' : World} {a : Option Addr} {cap : Nat} {L : List DG} (h : RowDG w a cap L) (hb : Below w.heap.size w w') : RowDG w' a cap L :=
  ⟨h.le, h.max, h.nil, fun p hp j u hj => keep_cell hb (h.cell p hp j u hj)⟩
theorem owns_cells3 {w : World} {base T k g n cap : Nat} {xs : List Value} (h : w.ownsRow base T k (.slice (some ⟨g, 0, none⟩) n cap) n xs) (j : Nat) (v : Value) (hj : xs[j]? = some v) : w.cell? ⟨g, j, none⟩ = some v ∧ w.frozen? ⟨g, j, none⟩ = false := by
  obtain ⟨h1, ⟨h2, _⟩ | ⟨g', cap', cur, h2, h3, h4, h5, h6, h7, h8⟩⟩ := h
  · cases h2
  · cases h2
    have e : cur[j]? = some v := by
      rw [← h8] at hj
      rw [List.getElem?_take] at hj
      split at hj
      · simpa using hj
      · cases hj
    constructor
    · simp [World.cell?, h4, e]
    · simp [World.frozen?, h4]
theorem holdsDG_of_owns [Inhabited DG] {w : World} {base T g cap : Nat} {L : List DG} (h : w.ownsRow base T 3 (.slice (some ⟨g, 0, none⟩) L.length cap) L.length (flatDG L)) : HoldsK encDG 3 w g 0 L.toArray := by
  intro j hj
  rw [size_flatK] at hj
  simp only [List.size_toArray] at hj
  rw [get_flatK _ _ _ _ (by simpa using hj), Nat.zero_add]
  have hd : j / 3 < L.length := by omega
  have e : L.toArray[j / 3]! = nth L (j / 3) := by rw [getElem!_pos _ _ (by simpa using hd)]; simp [nth, hd]
  rw [e]
  have hg := flatDG_get L (j / 3) hd
  rcases (show j % 3 = 0 ∨ j % 3 = 1 ∨ j % 3 = 2 by omega) with hm | hm | hm
  · rw [hm]
    refine owns_cells3 h j _ ?_
    have := hg.1
    rw [show j / 3 * 3 = j by omega] at this
    exact this
  · rw [hm]
    refine owns_cells3 h j _ ?_
    have := hg.2.1
    rw [show j / 3 * 3 + 1 = j by omega] at this
    exact this
  · rw [hm]
    refine owns_cells3 h j _ ?_
    have := hg.2.2
    rw [show j / 3 * 3 + 2 = j by omega] at this
    exact this
theorem Try.info41 : (Try.prog.info? 41).map (fun i => (i.zero, i.size, i.bytes)) = some (some (.agg #[.string ⟨#[]⟩, .string ⟨#[]⟩, .int .i64 0]), 3, 40) := by kernel_rfl
/-- What is told, as it comes out. -/
def DiagsOut [Inhabited DG] (w w' : World) (e : Ending) (L : List DG) : Prop := ∃ (a' : Option Addr) (c' : Nat) (M L' : List DG), e = .returned (.slice a' M.length c') ∧ L'.Perm L ∧ Asc cmpDG L' ∧ M = ddn L' L'.length ∧ ((a' = none ∧ M = []) ∨ ∃ g, a' = some ⟨g, 0, none⟩ ∧ HD w' g M) ∧ M.length ≤ c' ∧ Below w.heap.size w w'
theorem Compact_nil (w : World) : Calls Try.prog 19 #[.slice none 0 0] w fun e w' => e = .returned (.slice none 0 0) ∧ w' = w := by
  go_enter Try.func19, Try.ntmps19
  go_wp2
  go_ret
  exact ⟨rfl, rfl⟩
theorem sortDiag_nil (fv : Value) (w : World) : Calls Try.prog 17 #[.slice none 0 0, fv] w fun e w' => e = .returned (.tuple #[]) ∧ w' = w :=
  AnyF.slices_SortFunc_none Try.sortDiag none 0 fv w
theorem encDG_mem {L : List DG} {u : Value} (h : u ∈ flatDG L) : u.oneCell' = true := by
  unfold flatDG at h
  obtain ⟨x, _, hx⟩ := List.mem_flatMap.1 h
  exact encDG_one x u hx
set_option maxRecDepth 20000 in
set_option maxHeartbeats 4000000 in
theorem Diags_any [Inhabited DG] (a : Option Addr) (cap : Nat) (L : List DG) (w : World) (hx : RowDG w a cap L) (hn : L.length < 1000000) :
    Calls Try.prog 10 #[.slice a L.length cap] w fun e w' => DiagsOut w w' e L := by
  by_cases h0 : L = []
  · subst h0
    have k1 := fun w => sortDiag_nil (.func (.func 18) #[] #[]) w
    cases a with
    | none =>
      go_enter Try.func10, Try.ntmps10
      go_wp2_with (first | (go_at_call 17; refine (k1 _).mono ?_; rintro e w' ⟨rfl, rfl⟩) | (go_at_call 19; refine (Compact_nil _).mono ?_; rintro e w' ⟨rfl, rfl⟩))
      go_ret
      exact ⟨none, 0, [], [], rfl, List.Perm.refl _, List.Pairwise.nil, rfl, .inl ⟨rfl, rfl⟩, Nat.le_refl _, Below.refl _ _⟩
    | some p =>
      go_enter Try.func10, Try.ntmps10
      go_wp2_with (first | (go_at_call 17; refine (k1 _).mono ?_; rintro e w' ⟨rfl, rfl⟩) | (go_at_call 19; refine (Compact_nil _).mono ?_; rintro e w' ⟨rfl, rfl⟩))
      go_ret
      exact ⟨none, 0, [], [], rfl, List.Perm.refl _, List.Pairwise.nil, rfl, .inl ⟨rfl, rfl⟩, Nat.le_refl _, Below.refl _ _⟩
  · have hlen : 0 < L.length := List.length_pos_iff.2 h0
    obtain ⟨i0, hi, hz0, hz1, hz2⟩ := info_parts Try.info41
    obtain ⟨p, rfl⟩ : ∃ p, a = some p := by
      cases a with
      | none => have h1 := hx.nil rfl; have h2 := hx.le; omega
      | some p => exact ⟨p, rfl⟩
    have hle := hx.le
    have hcell := hx.cell p rfl
    have hall : ∀ u ∈ flatDG L, u.oneCell' = true := fun u hu => encDG_mem hu
    have hfl : (flatDG L).length = L.length * 3 := flatDG_len L
    clear h0
    replace hcell : Hid (∀ j u, (flatDG L)[j]? = some u → w.cell? (p.add j) = some u) := hcell
    replace hall : Hid (∀ u ∈ flatDG L, u.oneCell' = true) := hall
    replace hfl : Hid ((flatDG L).length = L.length * 3) := hfl
    go_enter Try.func10, Try.ntmps10
    go_wp2_with (at_builtin; refine wpList_append_lies w (by rfl) (.const (.slice none 0 0)) (.tmp 4) 38 (by rfl) w.heap.size 41 i0 _ 3 40 Try.underlying38 hi hz0 hz1 hz2 (by rfl) (by decide) (.slice none 0 0) 0 [] (by rfl) (World.ownsRow_nil _ _ _ _) p L.length cap (flatDG L) (by rfl) hfl.out hcell.out hall.out hlen (by unfold maxLen; omega) (by omega) (Nat.le_refl _) w.heap.size rfl ?_)
    intro g c w1 hO hg hat hlt
    have hge : g = w.heap.size := by
      rcases hat with h1 | h1
      · simp [Value.ownBlock] at h1
      · exact h1
    replace hge : Hid (g = w.heap.size) := hge
    have hB1 : Below w.heap.size w w1 := (Below.refl _ _).grown hg (Nat.le_refl _) (by intro k hk; simp [Value.ownBlock] at hk)
    have hcc : L.length ≤ c := by
      obtain ⟨_, ⟨h2, _⟩ | ⟨g', cap', cur, h2, h3, h4, h5, h6, h7, h8⟩⟩ := hO
      · cases h2
      · cases h2; exact h5
    have hH := holdsDG_of_owns hO
    have kS := sortDiag_any g 0 c L w1 hH hlt (by omega)
    replace kS : Hid (Calls Try.prog 17 #[.slice (some ⟨g, 0, none⟩) L.length c, .func (.func 18) #[] #[]] w1 fun e w' => e = .returned (.tuple #[]) ∧ ∃ L' : List DG, L'.Perm L ∧ Asc cmpDG L' ∧ HoldsK encDG 3 w' g 0 L'.toArray ∧ w1.grownBy w' (some g)) := kS
    clear hO hH hcell hall hfl hat hg
    go_wp2_with fail
    refine Calls.mono kS.out ?_
    rintro e w2 ⟨rfl, L', hp, ha, hH2, hg2⟩
    clear kS
    have hl' := hp.length_eq
    have kC := Compact_any g c L' w2 (HD.of hH2) (Nat.lt_of_lt_of_le hlt hg2.size) (by omega) (by omega)
    rw [hl'] at kC
    replace kC : Hid (Calls Try.prog 19 #[.slice (some ⟨g, 0, none⟩) L.length c] w2 fun e w' => ∃ M, M = ddn L' L.length ∧ e = .returned (.slice (some ⟨g, 0, none⟩) M.length c) ∧ HD w' g M ∧ w2.grownBy w' (some g)) := kC
    replace hp : Hid (L'.Perm L) := hp
    replace ha : Hid (Asc cmpDG L') := ha
    replace hl' : Hid (L'.length = L.length) := hl'
    go_wp2_with fail
    refine Calls.mono kC.out ?_
    rintro e w3 ⟨M, hM, rfl, hHM, hg3⟩
    clear kC
    replace hM : Hid (M = ddn L' L.length) := hM
    have hml : M.length ≤ c := by have := ddn_le L' L.length; rw [← hM.out] at this; omega
    have hB3 : Below w.heap.size w w3 := (hB1.grown hg2 hB1.size (by intro k hk; cases hk; have := hge.out; omega)).grown hg3 (Nat.le_trans hB1.size hg2.size) (by intro k hk; cases hk; have := hge.out; omega)
    go_wp2
    go_ret
    exact ⟨some ⟨g, 0, none⟩, c, M, L', rfl, hp.out, ha.out, by rw [hl'.out]; exact hM.out, .inr ⟨g, rfl, hHM⟩, hml, hB3⟩
end Go.Proofs.Ytkngjljcjgagbaa
