/- A tree, handed in. -/
import Derived.Test.YtkngjljcjgagbaaRo
import Derived.Test.YtkngjljcjgagbaaSh
import Derived.Deep.Slices
import Derived.SizedLaws
namespace Go.Proofs.Ytkngjljcjgagbaa
set_option linter.unusedVariables false
open Go.ChangeShapes Go.WideShapes Go.ChangeAt Go.RowKit Go.Joins
theorem Try.cells31 : Try.prog.cellsOf 31 = 2 := by kernel_rfl
theorem Try.cells28 : Try.prog.cellsOf 28 = 2 := by kernel_rfl
theorem Try.cells9' : Try.prog.cellsOf 9 = 1 := by kernel_rfl
theorem Try.cells29 : Try.prog.cellsOf 29 = 1 := by kernel_rfl
theorem Try.cells26 : Try.prog.cellsOf 26 = 1 := by kernel_rfl
theorem Try.cells22 : Try.prog.cellsOf 22 = 1 := by kernel_rfl
theorem Try.cells24' : Try.prog.cellsOf 24 = 1 := by kernel_rfl
theorem Try.bytes5 : Try.prog.bytesOf 5 = 1 := by kernel_rfl
def PkgRaw (w : World) (x : NS) (p : PD) : Prop := x.name = p.path ∧ ∃ fps : List (NS × FD), x.n = fps.length ∧ RowNS w x.a x.c (fps.map Prod.fst) ∧ (∀ q ∈ fps, FileAt w q.1 q.2) ∧ fps.map Prod.snd = p.files ∧ ∀ q ∈ fps, q.2.body.length ≤ 140737488355328
theorem add_one'' (x : Addr) : x.add 1 = ⟨x.block, x.off + 1, none⟩ := by simp [Addr.add]
section
variable {H : Type} {enc : TypeId × Value → H} {W : World}
theorem weights_all {P : Program} {e : TypeId} : ∀ {ds : List (DataW H)} {d : DataW H}, d ∈ ds → ∀ n ∈ d.weights P e, n ∈ DataW.weightsAll P e ds
  | d0 :: ds, d, hd, n, hn => by
    simp only [DataW.weightsAll, List.mem_append]
    rcases List.mem_cons.1 hd with rfl | h
    · exact .inl hn
    · exact .inr (weights_all h n hn)
theorem slice_elem {P : Program} {t e : TypeId} {len m : Nat} {D : Nat → DataW H} {sp : List (DataW H)} (hu : P.underlying t = some (.slice e)) (hz : ∀ k ∈ (DataW.slice ((List.range len).map D) sp).weights P t, k ≤ reachBytes) (i : Nat) (hi : i < len) : ∀ k ∈ (D i).weights P e, k ≤ reachBytes := fun k hk => by
  refine hz k ?_
  simp only [DataW.weights, hu, List.mem_cons, List.mem_append]
  exact .inr (.inl (weights_all (List.mem_map.2 ⟨i, List.mem_range.2 hi, rfl⟩) k hk))
set_option maxRecDepth 100000 in
theorem bytes_trod {n : Nat} {v : Value} {D : DataW H} {Pl : List MemPlace} (h : DataW.trod enc Try.prog W 0 (fun _ => true) true n 29 [v] = some (D, Pl)) (hz : ∀ k ∈ D.weights Try.prog 29, k ≤ reachBytes) :
    ∃ (a : Option Addr) (cap : Nat) (zs : List Int), v = .slice a zs.length cap ∧ Row W .u8 256 a cap zs ∧ zs.length ≤ 140737488355328 := by
  rcases open_ints Try.underlying29 Try.underlying5 Try.cells5 h with ⟨hcs, _⟩ | ⟨x, l, c, zs, hcs, _, hl, hm, hzl, hx, hcell, hwz⟩
  · simp at hcs
    exact ⟨none, 0, [], hcs, Row.empty _ _ _, Nat.zero_le _⟩
  · simp at hcs
    subst hcs
    simp only [if_true] at hzl
    have hlen : (zs.take l).length = l := by rw [List.length_take]; omega
    refine ⟨some x, c, zs.take l, by rw [hlen], ⟨by omega, hm, fun h => (by cases h), fun x' hx i hi => ?_, fun n hn => ?_⟩, ?_⟩
    · cases hx
      rw [hcell i (by omega), List.getElem?_take_of_lt (by omega)]
      simp
    · have := hwz n (List.mem_of_mem_take hn)
      simp [Lit.wf, IntKind.min, IntKind.max, IntKind.signed, IntKind.bits] at this
      omega
    · have e : D = .slice (lits .u8 (zs.take l)) (lits .u8 (zs.drop l)) := congrArg Prod.fst hx
      have := hz (((lits .u8 (zs.take l) : List (DataW H)).length + (lits .u8 (zs.drop l) : List (DataW H)).length) * Try.prog.bytesOf 5) (by rw [e]; simp [DataW.weights, Try.underlying29])
      rw [Try.bytes5] at this
      simp only [lits, List.length_map, List.length_take, List.length_drop, reachBytes] at this
      omega
set_option maxRecDepth 100000 in
theorem file_trod {n : Nat} {cs : List Value} {D : DataW H} {Pl : List MemPlace} (hcs : cs.length = 2) (h : DataW.trod enc Try.prog W 0 (fun _ => true) true n 31 cs = some (D, Pl)) (hz : ∀ k ∈ D.weights Try.prog 31, k ≤ reachBytes) :
    ∃ q : NS × FD, cs = [.string q.1.name, .slice q.1.a q.1.n q.1.c] ∧ FileAt W q.1 q.2 ∧ q.2.body.length ≤ 140737488355328 := by
  obtain ⟨xs, k, hk, hxy, _, hxl, hf⟩ := DataW.trod_struct Try.underlying31 h
  match xs, hxl, cs, hcs with
  | [y0, y1], _, [v0, v1], _ =>
    have g0 := hf 0 _ rfl
    have g1 := hf 1 _ rfl
    simp [Try.cells9', Try.cells29] at g0 g1
    obtain ⟨s0, e0, _⟩ := DataW.trod_string Try.underlying9 g0
    simp at e0
    subst e0
    have hz1 : ∀ k ∈ y1.1.weights Try.prog 29, k ≤ reachBytes := fun k hk => hz k (by
      have e : D = .agg [y0.1, y1.1] := congrArg Prod.fst hxy
      rw [e]
      simp only [DataW.weights, Try.underlying31]
      exact DataW.weights_mem_each (j := 1) rfl rfl k hk)
    obtain ⟨a, cap, zs, rfl, hrow, hlen⟩ := bytes_trod (Pl := y1.2) g1 hz1
    exact ⟨(⟨s0, a, zs.length, cap⟩, ⟨s0, zs⟩), rfl, ⟨rfl, rfl, hrow⟩, hlen⟩
theorem rowNS_of {α : Type} {x : Addr} {len cap : Nat} (q : Nat → NS × α) (hl : len ≤ cap) (hm : cap ≤ maxLen) (h : ∀ i, i < len → W.cell? (x.add (i * 2)) = some (.string (q i).1.name) ∧ W.cell? ((x.add (i * 2)).add 1) = some (.slice (q i).1.a (q i).1.n (q i).1.c)) : RowNS W (some x) cap (((List.range len).map q).map Prod.fst) := by
  refine ⟨by simpa using hl, hm, fun h => (by cases h), fun p hp i hi => ?_, fun p hp i hi => ?_⟩
  · cases hp
    have := (h i (by simpa using hi)).1
    simpa using this
  · cases hp
    have := (h i (by simpa using hi)).2
    rw [add_one''] at this
    simpa using this
set_option maxRecDepth 100000 in
theorem files_trod [Inhabited (NS × FD)] {n : Nat} {v : Value} {D : DataW H} {Pl : List MemPlace} (h : DataW.trod enc Try.prog W 0 (fun _ => true) true n 26 [v] = some (D, Pl)) (hz : ∀ k ∈ D.weights Try.prog 26, k ≤ reachBytes) :
    ∃ (a : Option Addr) (cap : Nat) (fps : List (NS × FD)), v = .slice a fps.length cap ∧ RowNS W a cap (fps.map Prod.fst) ∧ (∀ q ∈ fps, FileAt W q.1 q.2) ∧ ∀ q ∈ fps, q.2.body.length ≤ 140737488355328 := by
  rcases Go.Deep.open_slice Try.underlying26 h with ⟨hcs, _⟩ | ⟨x, l, c, m2, n, E, Pl, hcs, _, hl, hmax, hm2, hD, hx⟩
  · simp at hcs
    exact ⟨none, 0, [], hcs, ⟨Nat.le_refl _, by decide, fun _ => rfl, fun p hp => (by cases hp), fun p hp => (by cases hp)⟩, by simp, by simp⟩
  · simp at hcs
    subst hcs
    simp only [if_true] at hm2
    have e : D = _ := congrArg Prod.fst hD
    subst e
    have each : ∀ i, i < l → ∃ q : NS × FD, (W.cell? (x.add (i * 2)) = some (.string q.1.name) ∧ W.cell? ((x.add (i * 2)).add 1) = some (.slice q.1.a q.1.n q.1.c)) ∧ FileAt W q.1 q.2 ∧ q.2.body.length ≤ 140737488355328 := by
      intro i hi
      obtain ⟨cs', h1, h2⟩ := hx i (by omega)
      rw [Try.cells31] at h1
      obtain ⟨_, hlen, hcell⟩ := World.cells?_some h1
      obtain ⟨q, rfl, hq⟩ := file_trod hlen h2 (slice_elem (m := 0) Try.underlying26 hz i hi)
      have c0 := hcell 0 (by omega)
      rw [Addr.add_add] at c0
      have c1 := hcell 1 (by omega)
      exact ⟨q, ⟨by simpa using c0, by simpa using c1⟩, hq⟩
    obtain ⟨q, hq⟩ := Go.Deep.choose_lt each
    refine ⟨some x, c, (List.range l).map q, by simp, rowNS_of q hl hmax (fun i hi => (hq i hi).1), fun y hy => ?_, fun y hy => ?_⟩
    · obtain ⟨i, hi, rfl⟩ := List.mem_map.1 hy
      exact (hq i (List.mem_range.1 hi)).2.1
    · obtain ⟨i, hi, rfl⟩ := List.mem_map.1 hy
      exact (hq i (List.mem_range.1 hi)).2.2
set_option maxRecDepth 100000 in
theorem pkg_trod [Inhabited (NS × FD)] {n : Nat} {cs : List Value} {D : DataW H} {Pl : List MemPlace} (hcs : cs.length = 2) (h : DataW.trod enc Try.prog W 0 (fun _ => true) true n 28 cs = some (D, Pl)) (hz : ∀ k ∈ D.weights Try.prog 28, k ≤ reachBytes) :
    ∃ q : NS × PD, cs = [.string q.1.name, .slice q.1.a q.1.n q.1.c] ∧ PkgRaw W q.1 q.2 := by
  obtain ⟨xs, k, hk, hxy, _, hxl, hf⟩ := DataW.trod_struct Try.underlying28 h
  match xs, hxl, cs, hcs with
  | [y0, y1], _, [v0, v1], _ =>
    have g0 := hf 0 _ rfl
    have g1 := hf 1 _ rfl
    simp [Try.cells9', Try.cells26] at g0 g1
    obtain ⟨s0, e0, _⟩ := DataW.trod_string Try.underlying9 g0
    simp at e0
    subst e0
    have hz1 : ∀ k ∈ y1.1.weights Try.prog 26, k ≤ reachBytes := fun k hk => hz k (by
      have e : D = .agg [y0.1, y1.1] := congrArg Prod.fst hxy
      rw [e]
      simp only [DataW.weights, Try.underlying28]
      exact DataW.weights_mem_each (j := 1) rfl rfl k hk)
    obtain ⟨a, cap, fps, rfl, hrow, hat, hlen⟩ := files_trod (Pl := y1.2) g1 hz1
    exact ⟨(⟨s0, a, fps.length, cap⟩, ⟨s0, fps.map Prod.snd⟩), rfl, rfl, fps, rfl, hrow, hat, rfl, hlen⟩
set_option maxRecDepth 100000 in
theorem pkgs_trod [Inhabited (NS × FD)] [Inhabited (NS × PD)] {n : Nat} {v : Value} {D : DataW H} {Pl : List MemPlace} (h : DataW.trod enc Try.prog W 0 (fun _ => true) true n 22 [v] = some (D, Pl)) (hz : ∀ k ∈ D.weights Try.prog 22, k ≤ reachBytes) :
    ∃ (a : Option Addr) (cap : Nat) (ps : List (NS × PD)), v = .slice a ps.length cap ∧ RowNS W a cap (ps.map Prod.fst) ∧ (∀ q ∈ ps, PkgRaw W q.1 q.2) := by
  rcases Go.Deep.open_slice Try.underlying22 h with ⟨hcs, _⟩ | ⟨x, l, c, m2, n, E, Pl, hcs, _, hl, hmax, hm2, hD, hx⟩
  · simp at hcs
    exact ⟨none, 0, [], hcs, ⟨Nat.le_refl _, by decide, fun _ => rfl, fun p hp => (by cases hp), fun p hp => (by cases hp)⟩, by simp⟩
  · simp at hcs
    subst hcs
    simp only [if_true] at hm2
    have e : D = _ := congrArg Prod.fst hD
    subst e
    have each : ∀ i, i < l → ∃ q : NS × PD, (W.cell? (x.add (i * 2)) = some (.string q.1.name) ∧ W.cell? ((x.add (i * 2)).add 1) = some (.slice q.1.a q.1.n q.1.c)) ∧ PkgRaw W q.1 q.2 := by
      intro i hi
      obtain ⟨cs', h1, h2⟩ := hx i (by omega)
      rw [Try.cells28] at h1
      obtain ⟨_, hlen, hcell⟩ := World.cells?_some h1
      obtain ⟨q, rfl, hq⟩ := pkg_trod hlen h2 (slice_elem (m := 0) Try.underlying22 hz i hi)
      have c0 := hcell 0 (by omega)
      rw [Addr.add_add] at c0
      have c1 := hcell 1 (by omega)
      exact ⟨q, ⟨by simpa using c0, by simpa using c1⟩, hq⟩
    obtain ⟨q, hq⟩ := Go.Deep.choose_lt each
    refine ⟨some x, c, (List.range l).map q, by simp, rowNS_of q hl hmax (fun i hi => (hq i hi).1), fun y hy => ?_⟩
    obtain ⟨i, hi, rfl⟩ := List.mem_map.1 hy
    exact (hq i (List.mem_range.1 hi)).2
set_option maxRecDepth 100000 in
/-- A tree that was handed in. -/
theorem open_tree {b0 : Nat} {v : Value} {d : DataW H} {p : List MemPlace} (hv : Value.okWide Try.prog W .any b0 24 v) (h : DataW.Trod enc Try.prog W 0 (fun _ => true) true 24 v d p) (hz : ∀ k ∈ d.weights Try.prog 24, k ≤ reachBytes) :
    ∃ (a : Option Addr) (cap : Nat) (ps : List (NS × PD)), v = .agg #[.slice a ps.length cap] ∧ RowNS W a cap (ps.map Prod.fst) ∧ (∀ q ∈ ps, PkgRaw W q.1 q.2) := by
  haveI : Inhabited (NS × FD) := ⟨(⟨⟨#[]⟩, none, 0, 0⟩, ⟨⟨#[]⟩, []⟩)⟩
  haveI : Inhabited (NS × PD) := ⟨(⟨⟨#[]⟩, none, 0, 0⟩, ⟨⟨#[]⟩, []⟩)⟩
  obtain ⟨cs, rfl, hsz⟩ := okWide_struct Try.underlying24 hv
  rw [Try.cells24'] at hsz
  obtain ⟨x0, rfl⟩ : ∃ x0, cs = #[x0] := by
    obtain ⟨l⟩ := cs
    match l, hsz with
    | [x0], _ => exact ⟨x0, rfl⟩
  obtain ⟨m, hm⟩ := h
  obtain ⟨xs, k, hk, hxy, _, hxl, hf⟩ := DataW.trod_struct Try.underlying24 hm
  match xs, hxl with
  | [y0], _ =>
    have g0 := hf 0 _ rfl
    simp [Try.cells22, Value.cells] at g0
    have hz1 : ∀ k ∈ y0.1.weights Try.prog 22, k ≤ reachBytes := fun k hk => hz k (by
      have e : d = .agg [y0.1] := congrArg Prod.fst hxy
      rw [e]
      simp only [DataW.weights, Try.underlying24]
      exact DataW.weights_mem_each (j := 0) rfl rfl k hk)
    obtain ⟨a, cap, ps, rfl, hrow, hat⟩ := pkgs_trod (Pl := y0.2) g0 hz1
    exact ⟨a, cap, ps, rfl, hrow, hat⟩
end
end Go.Proofs.Ytkngjljcjgagbaa
