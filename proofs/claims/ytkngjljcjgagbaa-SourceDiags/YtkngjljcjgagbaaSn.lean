/- SourceDiags. -/
import Derived.Test.YtkngjljcjgagbaaRy
namespace Go.Proofs.Ytkngjljcjgagbaa
open Go.Shelf Go.RowKit Go.Lib Go.Sort
set_option linter.unusedVariables false
attribute [local go_sem ↓] Go.wp_at_zero Go.wp_at_succ
theorem less_yes {x y : DG} (h : cmpDG x y < 0) (w : World) :
    Calls Try.prog 11 #[.agg #[.string x.pkg, .string x.file, .int .i64 x.at'], .agg #[.string y.pkg, .string y.file, .int .i64 y.at']] w fun e w' => e = .returned (.bool true) ∧ ∃ q os', w' = grow (w.drewN q) os' := by
  have k := less_any x y w
  rw [decide_eq_true h] at k
  exact k
theorem less_no {x y : DG} (h : ¬ cmpDG x y < 0) (w : World) :
    Calls Try.prog 11 #[.agg #[.string x.pkg, .string x.file, .int .i64 x.at'], .agg #[.string y.pkg, .string y.file, .int .i64 y.at']] w fun e w' => e = .returned (.bool false) ∧ ∃ q os', w' = grow (w.drewN q) os' := by
  have k := less_any x y w
  rw [decide_eq_false h] at k
  exact k
theorem HD_grown [Inhabited DG] {w : World} {g : Nat} {M : List DG} (h : HD w g M) (i : Nat) (hi : i < M.length) : (∀ n os, (grow (w.drewN n) os).cell? ⟨g, i * 3, none⟩ = some (.string (nth M i).pkg)) ∧ (∀ n os, (grow (w.drewN n) os).cell? ⟨g, i * 3 + 1, none⟩ = some (.string (nth M i).file)) ∧ (∀ n os, (grow (w.drewN n) os).cell? ⟨g, i * 3 + 2, none⟩ = some (.int .i64 (nth M i).at')) := by
  obtain ⟨⟨h0, h1, h2⟩, _⟩ := h i hi
  exact ⟨cell_grown (cell_lt h0) h0, cell_grown (cell_lt h1) h1, cell_grown (cell_lt h2) h2⟩
theorem add_one' (x : Addr) (n : Nat) : x.add (n + 1) = ⟨x.block, x.off + (n + 1), none⟩ := by simp [Addr.add]
theorem RowDG.cells3 [Inhabited DG] {w : World} {p : Addr} {cap : Nat} {L : List DG} (h : RowDG w (some p) cap L) (i : Nat) (hi : i < L.length) : w.cell? (p.add (i * 3)) = some (.string (nth L i).pkg) ∧ w.cell? ⟨(p.add (i * 3)).block, (p.add (i * 3)).off + 1, none⟩ = some (.string (nth L i).file) ∧ w.cell? ⟨(p.add (i * 3)).block, (p.add (i * 3)).off + 2, none⟩ = some (.int .i64 (nth L i).at') := by
  obtain ⟨g0, g1, g2⟩ := flatDG_get L i hi
  have e0 := h.cell p rfl _ _ g0
  have e1 := h.cell p rfl _ _ g1
  have e2 := h.cell p rfl _ _ g2
  rw [← Addr.add_add, add_one'] at e1
  rw [← Addr.add_add, add_one'] at e2
  exact ⟨e0, e1, e2⟩
theorem RowDG.grown [Inhabited DG] {w : World} {p : Addr} {cap : Nat} {L : List DG} (h : RowDG w (some p) cap L) (i : Nat) (hi : i < L.length) : (∀ n os, (grow (w.drewN n) os).cell? (p.add (i * 3)) = some (.string (nth L i).pkg)) ∧ (∀ n os, (grow (w.drewN n) os).cell? ⟨(p.add (i * 3)).block, (p.add (i * 3)).off + 1, none⟩ = some (.string (nth L i).file)) ∧ (∀ n os, (grow (w.drewN n) os).cell? ⟨(p.add (i * 3)).block, (p.add (i * 3)).off + 2, none⟩ = some (.int .i64 (nth L i).at')) := by
  obtain ⟨h0, h1, h2⟩ := h.cells3 i hi
  exact ⟨cell_grown (cell_lt h0) h0, cell_grown (cell_lt h1) h1, cell_grown (cell_lt h2) h2⟩
theorem RowDG.take {w : World} {a : Option Addr} {cap : Nat} {L : List DG} (h : RowDG w a cap L) (n : Nat) : RowDG w a cap (L.take n) := by
  refine ⟨by have := h.le; rw [List.length_take]; omega, h.max, h.nil, fun p hp j u hj => h.cell p hp j u ?_⟩
  have e : flatDG L = flatDG (L.take n) ++ flatDG (L.drop n) := by simp [flatDG, ← List.flatMap_append]
  rw [e, List.getElem?_append_left]
  · exact hj
  · by_cases hh : j < (flatDG (L.take n)).length
    · exact hh
    · rw [List.getElem?_eq_none (by omega)] at hj; cases hj
theorem below_grown (w : World) (n : Nat) (os : Array Obj) : Below w.heap.size w (grow (w.drewN n) os) := Grw.below ⟨n, os, rfl⟩
def late18A (p : Addr) (g n cap cM ml i k : Nat) (x y : DG) (t : Nat) (v : Value) (_ : World) : Prop := match t with
  | 51 => v = .bool true
  | 52 => v = .bool true
  | 53 => v = undef
  | 54 => v = undef
  | 55 => v = undef
  | 56 => v = undef
  | 57 => v = undef
  | 58 => v = undef
  | 59 => v = undef
  | 60 => v = undef
  | 61 => v = undef
  | 62 => v = undef
  | 63 => v = undef
  | 64 => v = undef
  | 65 => v = undef
  | 66 => v = undef
  | 67 => v = undef
  | 68 => v = undef
  | 69 => v = undef
  | 70 => v = undef
  | 71 => v = undef
  | 72 => v = undef
  | 73 => v = undef
  | 74 => v = undef
  | 75 => v = undef
  | 76 => v = undef
  | 77 => v = .bool true
  | _ => True
def late18L (p : Addr) (g n cap cM ml i k : Nat) (x y : DG) (t : Nat) (v : Value) (_ : World) : Prop := match t with
  | 51 => v = .bool false
  | 52 => v = .bool false
  | 53 => v = .func (.func 11) #[] #[]
  | 54 => v = .slice (some p) n cap
  | 55 => v = .int .i64 (i : Int)
  | 56 => v = .pointer (some (p.add (i * 3)))
  | 57 => v = .agg #[.string (x).pkg, .string (x).file, .int .i64 (x).at']
  | 58 => v = .slice (some ⟨g, 0, none⟩) ml cM
  | 59 => v = .int .i64 (k : Int)
  | 60 => v = .pointer (some ⟨g, k * 3, none⟩)
  | 61 => v = .agg #[.string (y).pkg, .string (y).file, .int .i64 (y).at']
  | 62 => v = .bool true
  | 63 => v = .bool false
  | 64 => v = .bool false
  | 65 => v = undef
  | 66 => v = undef
  | 67 => v = undef
  | 68 => v = undef
  | 69 => v = undef
  | 70 => v = undef
  | 71 => v = undef
  | 72 => v = undef
  | 73 => v = undef
  | 74 => v = undef
  | 75 => v = undef
  | 76 => v = .bool false
  | 77 => v = .bool false
  | _ => True
def late18E (p : Addr) (g n cap cM ml i k : Nat) (x y : DG) (t : Nat) (v : Value) (_ : World) : Prop := match t with
  | 51 => v = .bool false
  | 52 => v = .bool false
  | 53 => v = .func (.func 11) #[] #[]
  | 54 => v = .slice (some p) n cap
  | 55 => v = .int .i64 (i : Int)
  | 56 => v = .pointer (some (p.add (i * 3)))
  | 57 => v = .agg #[.string (x).pkg, .string (x).file, .int .i64 (x).at']
  | 58 => v = .slice (some ⟨g, 0, none⟩) ml cM
  | 59 => v = .int .i64 (k : Int)
  | 60 => v = .pointer (some ⟨g, k * 3, none⟩)
  | 61 => v = .agg #[.string (y).pkg, .string (y).file, .int .i64 (y).at']
  | 62 => v = .bool false
  | 63 => v = .bool true
  | 64 => v = .bool true
  | 65 => v = .func (.func 11) #[] #[]
  | 66 => v = .slice (some ⟨g, 0, none⟩) ml cM
  | 67 => v = .int .i64 (k : Int)
  | 68 => v = .pointer (some ⟨g, k * 3, none⟩)
  | 69 => v = .agg #[.string (y).pkg, .string (y).file, .int .i64 (y).at']
  | 70 => v = .slice (some p) n cap
  | 71 => v = .int .i64 (i : Int)
  | 72 => v = .pointer (some (p.add (i * 3)))
  | 73 => v = .agg #[.string (x).pkg, .string (x).file, .int .i64 (x).at']
  | 74 => v = .bool false
  | 75 => v = .bool true
  | 76 => v = .bool true
  | 77 => v = .bool true
  | _ => True
def late18G (p : Addr) (g n cap cM ml i k : Nat) (x y : DG) (t : Nat) (v : Value) (_ : World) : Prop := match t with
  | 51 => v = .bool false
  | 52 => v = .bool false
  | 53 => v = .func (.func 11) #[] #[]
  | 54 => v = .slice (some p) n cap
  | 55 => v = .int .i64 (i : Int)
  | 56 => v = .pointer (some (p.add (i * 3)))
  | 57 => v = .agg #[.string (x).pkg, .string (x).file, .int .i64 (x).at']
  | 58 => v = .slice (some ⟨g, 0, none⟩) ml cM
  | 59 => v = .int .i64 (k : Int)
  | 60 => v = .pointer (some ⟨g, k * 3, none⟩)
  | 61 => v = .agg #[.string (y).pkg, .string (y).file, .int .i64 (y).at']
  | 62 => v = .bool false
  | 63 => v = .bool true
  | 64 => v = .bool true
  | 65 => v = .func (.func 11) #[] #[]
  | 66 => v = .slice (some ⟨g, 0, none⟩) ml cM
  | 67 => v = .int .i64 (k : Int)
  | 68 => v = .pointer (some ⟨g, k * 3, none⟩)
  | 69 => v = .agg #[.string (y).pkg, .string (y).file, .int .i64 (y).at']
  | 70 => v = .slice (some p) n cap
  | 71 => v = .int .i64 (i : Int)
  | 72 => v = .pointer (some (p.add (i * 3)))
  | 73 => v = .agg #[.string (x).pkg, .string (x).file, .int .i64 (x).at']
  | 74 => v = .bool true
  | 75 => v = .bool false
  | 76 => v = .bool false
  | 77 => v = .bool false
  | _ => True
def late28A (p : Addr) (g n cap cM ml i k : Nat) (x y : DG) (t : Nat) (v : Value) (_ : World) : Prop := match t with
  | 92 => v = .bool true
  | 93 => v = .bool true
  | 94 => v = undef
  | 95 => v = undef
  | 96 => v = undef
  | 97 => v = undef
  | 98 => v = undef
  | 99 => v = undef
  | 100 => v = undef
  | 101 => v = undef
  | 102 => v = undef
  | 103 => v = undef
  | 104 => v = undef
  | 105 => v = undef
  | 106 => v = undef
  | 107 => v = undef
  | 108 => v = undef
  | 109 => v = undef
  | 110 => v = undef
  | 111 => v = undef
  | 112 => v = undef
  | 113 => v = undef
  | 114 => v = undef
  | 115 => v = undef
  | 116 => v = undef
  | 117 => v = undef
  | 118 => v = .bool true
  | _ => True
def late28L (p : Addr) (g n cap cM ml i k : Nat) (x y : DG) (t : Nat) (v : Value) (_ : World) : Prop := match t with
  | 92 => v = .bool false
  | 93 => v = .bool false
  | 94 => v = .func (.func 11) #[] #[]
  | 95 => v = .slice (some p) n cap
  | 96 => v = .int .i64 (k : Int)
  | 97 => v = .pointer (some (p.add (k * 3)))
  | 98 => v = .agg #[.string (x).pkg, .string (x).file, .int .i64 (x).at']
  | 99 => v = .slice (some ⟨g, 0, none⟩) ml cM
  | 100 => v = .int .i64 (i : Int)
  | 101 => v = .pointer (some ⟨g, i * 3, none⟩)
  | 102 => v = .agg #[.string (y).pkg, .string (y).file, .int .i64 (y).at']
  | 103 => v = .bool true
  | 104 => v = .bool false
  | 105 => v = .bool false
  | 106 => v = undef
  | 107 => v = undef
  | 108 => v = undef
  | 109 => v = undef
  | 110 => v = undef
  | 111 => v = undef
  | 112 => v = undef
  | 113 => v = undef
  | 114 => v = undef
  | 115 => v = undef
  | 116 => v = undef
  | 117 => v = .bool false
  | 118 => v = .bool false
  | _ => True
def late28E (p : Addr) (g n cap cM ml i k : Nat) (x y : DG) (t : Nat) (v : Value) (_ : World) : Prop := match t with
  | 92 => v = .bool false
  | 93 => v = .bool false
  | 94 => v = .func (.func 11) #[] #[]
  | 95 => v = .slice (some p) n cap
  | 96 => v = .int .i64 (k : Int)
  | 97 => v = .pointer (some (p.add (k * 3)))
  | 98 => v = .agg #[.string (x).pkg, .string (x).file, .int .i64 (x).at']
  | 99 => v = .slice (some ⟨g, 0, none⟩) ml cM
  | 100 => v = .int .i64 (i : Int)
  | 101 => v = .pointer (some ⟨g, i * 3, none⟩)
  | 102 => v = .agg #[.string (y).pkg, .string (y).file, .int .i64 (y).at']
  | 103 => v = .bool false
  | 104 => v = .bool true
  | 105 => v = .bool true
  | 106 => v = .func (.func 11) #[] #[]
  | 107 => v = .slice (some ⟨g, 0, none⟩) ml cM
  | 108 => v = .int .i64 (i : Int)
  | 109 => v = .pointer (some ⟨g, i * 3, none⟩)
  | 110 => v = .agg #[.string (y).pkg, .string (y).file, .int .i64 (y).at']
  | 111 => v = .slice (some p) n cap
  | 112 => v = .int .i64 (k : Int)
  | 113 => v = .pointer (some (p.add (k * 3)))
  | 114 => v = .agg #[.string (x).pkg, .string (x).file, .int .i64 (x).at']
  | 115 => v = .bool false
  | 116 => v = .bool true
  | 117 => v = .bool true
  | 118 => v = .bool true
  | _ => True
def late28G (p : Addr) (g n cap cM ml i k : Nat) (x y : DG) (t : Nat) (v : Value) (_ : World) : Prop := match t with
  | 92 => v = .bool false
  | 93 => v = .bool false
  | 94 => v = .func (.func 11) #[] #[]
  | 95 => v = .slice (some p) n cap
  | 96 => v = .int .i64 (k : Int)
  | 97 => v = .pointer (some (p.add (k * 3)))
  | 98 => v = .agg #[.string (x).pkg, .string (x).file, .int .i64 (x).at']
  | 99 => v = .slice (some ⟨g, 0, none⟩) ml cM
  | 100 => v = .int .i64 (i : Int)
  | 101 => v = .pointer (some ⟨g, i * 3, none⟩)
  | 102 => v = .agg #[.string (y).pkg, .string (y).file, .int .i64 (y).at']
  | 103 => v = .bool false
  | 104 => v = .bool true
  | 105 => v = .bool true
  | 106 => v = .func (.func 11) #[] #[]
  | 107 => v = .slice (some ⟨g, 0, none⟩) ml cM
  | 108 => v = .int .i64 (i : Int)
  | 109 => v = .pointer (some ⟨g, i * 3, none⟩)
  | 110 => v = .agg #[.string (y).pkg, .string (y).file, .int .i64 (y).at']
  | 111 => v = .slice (some p) n cap
  | 112 => v = .int .i64 (k : Int)
  | 113 => v = .pointer (some (p.add (k * 3)))
  | 114 => v = .agg #[.string (x).pkg, .string (x).file, .int .i64 (x).at']
  | 115 => v = .bool true
  | 116 => v = .bool false
  | 117 => v = .bool false
  | 118 => v = .bool false
  | _ => True
set_option maxRecDepth 20000 in
set_option maxHeartbeats 8000000 in
theorem law_diags (a : Option Addr) (cap : Nat) (L : List DG) (w : World) (h : RowDG w a cap L) : Calls Try.prog 5 #[.slice a L.length cap] w fun e w' => e = .returned (.bool true) ∧ Below w.heap.size w w' := by
  haveI : Inhabited DG := ⟨⟨⟨#[]⟩, ⟨#[]⟩, 0⟩⟩
  have kB := begun_any w
  have hle := h.le
  by_cases hl : 30 < L.length
  · obtain ⟨ys, hys⟩ : ∃ ys, ys = L.take 30 := ⟨_, rfl⟩
    have hN : ys.length = 30 := by rw [hys, List.length_take]; omega
    have hy : RowDG w a cap ys := by rw [hys]; exact h.take 30
    clear hys h
    have hyr := fun w1 (hB : Below w.heap.size w w1) => hy.next hB
    have kD := fun w1 (hB : Below w.heap.size w w1) => Diags_any a cap ys w1 (hyr w1 hB) (by omega)
    rw [hN] at kD
    go_enter Try.func5, Try.ntmps5
    go_wp2_with (go_at_call 7; refine kB.mono ?_; rintro e w1 ⟨rfl, hB1⟩)
    refine Calls.mono (kD w1 hB1) ?_
    rintro e w2 ⟨a', c', M, L', rfl, hp, ha, hM, hcase, hmc, hB2⟩
    clear kD kB
    have hB := bthen hB1 hB2
    have hmem := fun x => (ddn_mem ha x).trans (hp.mem_iff (a := x))
    have hstr := (ddn_props ha L'.length (Nat.le_refl _)).1
    rw [← hM] at hmem hstr
    have hml : M.length ≤ 30 := by have := ddn_le L' L'.length; rw [← hM, hp.length_eq, hN] at this; exact this
    clear hM ha hp hB1 hB2
    replace hmem : Hid (∀ x, x ∈ M ↔ x ∈ ys) := hmem
    replace hstr : Hid (M.Pairwise (fun x y => cmpDG x y < 0)) := hstr
    have hmx : Try.prog.follows .mixedOrders = true := by kernel_rfl
    rcases hcase with ⟨rfl, rfl⟩ | ⟨g, rfl, hHD⟩
    · have hy0 : ys = [] := List.eq_nil_iff_forall_not_mem.2 (fun x hx => by have := (hmem.out x).2 hx; cases this)
      have hN0 : 30 = 0 := by rw [← hN, hy0]; rfl
      omega
    · have hgl : M.length = 0 ∨ g < w2.heap.size := by
        by_cases e : 0 < M.length
        · exact .inr (cell_lt (hHD 0 e).1.1)
        · exact .inl (by omega)
      have hyw := hyr w2 hB
      clear hyr
      replace hHD : Hid (HD w2 g M) := hHD
      go_wp2
      go_loopw [6] (fun v wr => ∃ j : Nat, j ≤ M.length ∧ v = .int .i64 ((j : Int) + 1) ∧ Below w2.heap.size w2 wr) (fun v _ => M.length + 1 - (intOf v).toNat)
      case atStart => exact ⟨0, Nat.zero_le _, rfl, Below.refl _ _⟩
      case round =>
        obtain ⟨j, hj, rfl, hBr⟩ := hrel
        by_cases hlt : j + 1 < M.length
        · have hHr : HD wr g M := hHD.out.next (by omega) hBr
          obtain ⟨x0, x1, x2⟩ := HD_grown hHr j (by omega)
          obtain ⟨y0, y1, y2⟩ := HD_grown hHr (j + 1) hlt
          have hls : cmpDG (nth M j) (nth M (j + 1)) < 0 := by
            have := (List.pairwise_iff_getElem.1 hstr.out) j (j + 1) (by omega) hlt (by omega)
            simpa [nth, List.getElem?_eq_getElem hlt, List.getElem?_eq_getElem (show j < M.length by omega)] using this
          have kL := fun W => less_yes hls W
          have hwj := wrap_i64 (j : Int) (by omega) (by omega)
          have i0 : 0 ≤ (j : Int) ∧ (j : Int) < (M.length : Int) := by omega
          have i1 : 0 ≤ (j : Int) + 1 ∧ (j : Int) + 1 < (M.length : Int) := by omega
          clear hls hHr
          go_wp2_with fail
          go_quiet_grown (first | (go_at_call 11; refine Calls.grown_of (kL _)))
          go_wp2
          go_roundw
          case rel => exact ⟨j + 1, by omega, by go_num, bthen hBr (below_grown _ _ _)⟩
          case measure => simp [intOf]; omega
        · go_wp2
          go_loopw [7, 8, 9] (fun v _ _ wr => ∃ i : Nat, i ≤ 30 ∧ v = .int .i64 (i : Int) ∧ Below w2.heap.size w2 wr) (fun v _ _ _ => 30 - (intOf v).toNat)
          case atStart => exact ⟨0, Nat.zero_le _, rfl, hBr⟩
          case round =>
            obtain ⟨i, hi, rfl, hBr⟩ := hrel
            by_cases hlt : i < 30
            · have hlti : (i : Int) < (30 : Int) := by omega
              go_wp2
              go_loopw [8, 9] (fun vb vk wq => ∃ (k : Nat) (b : Bool), k ≤ M.length ∧ vk = .int .i64 (k : Int) ∧ vb = .bool b ∧ Hid (b = true ↔ ∃ t, t < k ∧ nth M t = nth ys i) ∧ Below w2.heap.size w2 wq) (fun _ vk _ => M.length - (intOf vk).toNat)
              case atStart => exact ⟨0, false, Nat.zero_le _, rfl, rfl, ⟨fun h => (Bool.false_ne_true h).elim, fun ⟨t, ht, _⟩ => (by omega)⟩, hBr⟩
              case round =>
                obtain ⟨k, b, hk, rfl, rfl, hrb, hBq⟩ := hrel
                by_cases hkl : k < M.length
                · have hHq : HD wr g M := hHD.out.next (by omega) hBq
                  obtain ⟨⟨cy0, cy1, cy2⟩, _, _, _⟩ := hHq k (by omega)
                  obtain ⟨p, rfl⟩ : ∃ p, a = some p := by
                    cases a with
                    | none => have h1 := hyw.nil rfl; have h2 := hyw.le; omega
                    | some p => exact ⟨p, rfl⟩
                  obtain ⟨cx0, cx1, cx2⟩ := (hyw.next hBq).cells3 i (by omega)
                  clear hHq
                  have i0 : 0 ≤ (i : Int) ∧ (i : Int) < (30 : Int) := by omega
                  have i1 : 0 ≤ (k : Int) ∧ (k : Int) < (M.length : Int) := by omega
                  cases b with
                  | true =>
                    have hnew : ∃ t, t < k + 1 ∧ nth M t = nth ys i := by obtain ⟨t, ht, he⟩ := hrb.out.1 rfl; exact ⟨t, by omega, he⟩
                    replace hnew : Hid (∃ t, t < k + 1 ∧ nth M t = nth ys i) := hnew
                    go_wp2_with fail
                    refine wp_region_late (late18A p g 30 cap c' M.length i k (nth ys i) (nth M k)) (.bool true) [51, 52, 53, 54, 55, 56, 57, 58, 59, 60, 61, 62, 63, 64, 65, 66, 67, 68, 69, 70, 71, 72, 73, 74, 75, 76, 77] [0, 1, 2, 3, 4, 5, 6, 7, 8, 9, 10, 11, 12, 13, 14, 15, 16, 17, 18, 19, 20, 21, 22, 23, 24, 25, 26, 27, 28, 29, 30, 31, 32, 33, 34, 35, 36, 37, 38, 39, 40, 41, 42, 43, 44, 45, 46, 47, 48, 49, 50, 78, 79, 80, 81, 82, 83, 84, 85, 86, 87, 88, 89, 90, 91, 92, 93, 94, 95, 96, 97, 98, 99, 100, 101, 102, 103, 104, 105, 106, 107, 108, 109, 110, 111, 112, 113, 114, 115, 116, 117, 118, 119, 120, 121] 122 8 77 (by kernel_rfl) (by decide) (by kernel_rfl) (by kernel_rfl) (by decide) (by kernel_rfl) (by kernel_rfl) (by kernel_rfl) rfl ⟨_, rfl, rfl, rfl, rfl, by kernel_rfl, by decide⟩ (fun t v w w' _ h => h) (by kernel_rfl) (fun v w h => h) (by kernel_rfl) ?hstep ?hend
                    case hstep =>
                     refine Gw.steps_cons ?s0 (Gw.steps_cons ?s1 (Gw.steps_cons ?s2 (Gw.steps_cons ?s3 (Gw.steps_cons ?s4 (Gw.steps_cons ?s5 (Gw.steps_cons ?s6 (Gw.steps_cons ?s7 (Gw.steps_cons ?s8 (Gw.steps_cons ?s9 (Gw.steps_cons ?s10 (Gw.steps_cons ?s11 (Gw.steps_cons ?s12 (Gw.steps_cons ?s13 (Gw.steps_cons ?s14 (Gw.steps_cons ?s15 (Gw.steps_cons ?s16 (Gw.steps_cons ?s17 (Gw.steps_cons ?s18 (Gw.steps_cons ?s19 (Gw.steps_cons ?s20 (Gw.steps_cons ?s21 (Gw.steps_cons ?s22 (Gw.steps_cons ?s23 (Gw.steps_cons ?s24 (Gw.steps_cons ?s25 (Gw.steps_cons ?s26 (Gw.steps_nil)))))))))))))))))))))))))))
                     case s0 => exact Gw.step_move 8 51 rfl rfl (Gw.guard_none rfl) (by kernel_rfl) (fun v w h => h)
                     case s1 => exact Gw.step_move 51 52 rfl rfl (Gw.guard_none rfl) (by kernel_rfl) (fun v w h => h)
                     case s2 => exact Gw_shut 1 52 53 false rfl (by kernel_rfl) (by kernel_rfl) (fun v w h e => by have h : v = .bool true := h; rw [h] at e; cases e) rfl (fun w => rfl)
                     case s3 => exact Gw_shut 1 52 54 false rfl (by kernel_rfl) (by kernel_rfl) (fun v w h e => by have h : v = .bool true := h; rw [h] at e; cases e) rfl (fun w => rfl)
                     case s4 => exact Gw_shut 1 52 55 false rfl (by kernel_rfl) (by kernel_rfl) (fun v w h e => by have h : v = .bool true := h; rw [h] at e; cases e) rfl (fun w => rfl)
                     case s5 => exact Gw_shut 1 52 56 false rfl (by kernel_rfl) (by kernel_rfl) (fun v w h e => by have h : v = .bool true := h; rw [h] at e; cases e) rfl (fun w => rfl)
                     case s6 => exact Gw_shut 1 52 57 false rfl (by kernel_rfl) (by kernel_rfl) (fun v w h e => by have h : v = .bool true := h; rw [h] at e; cases e) rfl (fun w => rfl)
                     case s7 => exact Gw_shut 1 52 58 false rfl (by kernel_rfl) (by kernel_rfl) (fun v w h e => by have h : v = .bool true := h; rw [h] at e; cases e) rfl (fun w => rfl)
                     case s8 => exact Gw_shut 1 52 59 false rfl (by kernel_rfl) (by kernel_rfl) (fun v w h e => by have h : v = .bool true := h; rw [h] at e; cases e) rfl (fun w => rfl)
                     case s9 => exact Gw_shut 1 52 60 false rfl (by kernel_rfl) (by kernel_rfl) (fun v w h e => by have h : v = .bool true := h; rw [h] at e; cases e) rfl (fun w => rfl)
                     case s10 => exact Gw_shut 1 52 61 false rfl (by kernel_rfl) (by kernel_rfl) (fun v w h e => by have h : v = .bool true := h; rw [h] at e; cases e) rfl (fun w => rfl)
                     case s11 => exact Gw_shut 1 52 62 false rfl (by kernel_rfl) (by kernel_rfl) (fun v w h e => by have h : v = .bool true := h; rw [h] at e; cases e) rfl (fun w => rfl)
                     case s12 => exact Gw_shut 1 52 63 false rfl (by kernel_rfl) (by kernel_rfl) (fun v w h e => by have h : v = .bool true := h; rw [h] at e; cases e) rfl (fun w => rfl)
                     case s13 => exact Gw_shut 1 52 64 false rfl (by kernel_rfl) (by kernel_rfl) (fun v w h e => by have h : v = .bool true := h; rw [h] at e; cases e) rfl (fun w => rfl)
                     case s14 => exact Gw_shut 13 64 65 true rfl (by kernel_rfl) (by kernel_rfl) (fun v w h e => by have h : v = undef := h; rw [h] at e; cases e) rfl (fun w => rfl)
                     case s15 => exact Gw_shut 13 64 66 true rfl (by kernel_rfl) (by kernel_rfl) (fun v w h e => by have h : v = undef := h; rw [h] at e; cases e) rfl (fun w => rfl)
                     case s16 => exact Gw_shut 13 64 67 true rfl (by kernel_rfl) (by kernel_rfl) (fun v w h e => by have h : v = undef := h; rw [h] at e; cases e) rfl (fun w => rfl)
                     case s17 => exact Gw_shut 13 64 68 true rfl (by kernel_rfl) (by kernel_rfl) (fun v w h e => by have h : v = undef := h; rw [h] at e; cases e) rfl (fun w => rfl)
                     case s18 => exact Gw_shut 13 64 69 true rfl (by kernel_rfl) (by kernel_rfl) (fun v w h e => by have h : v = undef := h; rw [h] at e; cases e) rfl (fun w => rfl)
                     case s19 => exact Gw_shut 13 64 70 true rfl (by kernel_rfl) (by kernel_rfl) (fun v w h e => by have h : v = undef := h; rw [h] at e; cases e) rfl (fun w => rfl)
                     case s20 => exact Gw_shut 13 64 71 true rfl (by kernel_rfl) (by kernel_rfl) (fun v w h e => by have h : v = undef := h; rw [h] at e; cases e) rfl (fun w => rfl)
                     case s21 => exact Gw_shut 13 64 72 true rfl (by kernel_rfl) (by kernel_rfl) (fun v w h e => by have h : v = undef := h; rw [h] at e; cases e) rfl (fun w => rfl)
                     case s22 => exact Gw_shut 13 64 73 true rfl (by kernel_rfl) (by kernel_rfl) (fun v w h e => by have h : v = undef := h; rw [h] at e; cases e) rfl (fun w => rfl)
                     case s23 => exact Gw_shut 13 64 74 true rfl (by kernel_rfl) (by kernel_rfl) (fun v w h e => by have h : v = undef := h; rw [h] at e; cases e) rfl (fun w => rfl)
                     case s24 => exact Gw_shut 13 64 75 true rfl (by kernel_rfl) (by kernel_rfl) (fun v w h e => by have h : v = undef := h; rw [h] at e; cases e) rfl (fun w => rfl)
                     case s25 => exact Gw_shut 1 52 76 false rfl (by kernel_rfl) (by kernel_rfl) (fun v w h e => by have h : v = .bool true := h; rw [h] at e; cases e) rfl (fun w => rfl)
                     case s26 => exact Gw_pick 52 (.const (.bool true)) (.tmp 76) 77 true (.bool true) rfl rfl (Gw.guard_none rfl) (by kernel_rfl) (fun v w h => h) (fun b w' hl => rfl) (fun w => rfl)
                    case hend =>
                     intro xs wz hGz _ hxl
                     have hBz := bthen hBq hGz.below
                     simp only [mixed, List.contains_cons, List.contains_nil, Nat.reduceBEq, Nat.reduceAdd, Bool.or_false, Bool.or_true, Bool.false_eq_true, if_false, if_true]
                     rw [hxl]
                     go_wp2
                     go_roundw
                     case rel =>
                      first
                       | exact ⟨k + 1, true, by omega, by go_num, rfl, ⟨fun _ => hnew.out, fun _ => rfl⟩, hBz⟩
                       | ((repeat apply Exists.intro); refine ⟨⟨k + 1, true, by omega, rfl, rfl, ⟨fun _ => hnew.out, fun _ => rfl⟩, hBz⟩, ?_⟩; repeat' (first | rfl | go_num | constructor))
                     case measure => simp [intOf]; omega
                  | false =>
                    rcases Int.lt_trichotomy (cmpDG (nth ys i) (nth M k)) 0 with hc | hc | hc
                    · have kL := fun W => less_yes hc W
                      have hne : ¬ nth M k = nth ys i := fun e => by rw [e] at hc; rw [(cmpDG_zero _ _).2 rfl] at hc; omega
                      have hnew : false = true ↔ ∃ t, t < k + 1 ∧ nth M t = nth ys i := ⟨fun h => (Bool.false_ne_true h).elim, fun ⟨t, ht, he⟩ => by
                        by_cases e : t = k
                        · subst e; exact absurd he hne
                        · exact absurd (hrb.out.2 ⟨t, by omega, he⟩) Bool.false_ne_true⟩
                      replace hnew : Hid (false = true ↔ ∃ t, t < k + 1 ∧ nth M t = nth ys i) := hnew
                      clear hc hne
                      go_wp2_with fail
                      refine wp_region_late (late18L p g 30 cap c' M.length i k (nth ys i) (nth M k)) (.bool false) [51, 52, 53, 54, 55, 56, 57, 58, 59, 60, 61, 62, 63, 64, 65, 66, 67, 68, 69, 70, 71, 72, 73, 74, 75, 76, 77] [0, 1, 2, 3, 4, 5, 6, 7, 8, 9, 10, 11, 12, 13, 14, 15, 16, 17, 18, 19, 20, 21, 22, 23, 24, 25, 26, 27, 28, 29, 30, 31, 32, 33, 34, 35, 36, 37, 38, 39, 40, 41, 42, 43, 44, 45, 46, 47, 48, 49, 50, 78, 79, 80, 81, 82, 83, 84, 85, 86, 87, 88, 89, 90, 91, 92, 93, 94, 95, 96, 97, 98, 99, 100, 101, 102, 103, 104, 105, 106, 107, 108, 109, 110, 111, 112, 113, 114, 115, 116, 117, 118, 119, 120, 121] 122 8 77 (by kernel_rfl) (by decide) (by kernel_rfl) (by kernel_rfl) (by decide) (by kernel_rfl) (by kernel_rfl) (by kernel_rfl) rfl ⟨_, rfl, rfl, rfl, rfl, by kernel_rfl, by decide⟩ (fun t v w w' _ h => h) (by kernel_rfl) (fun v w h => h) (by kernel_rfl) ?hstep ?hend
                      case hstep =>
                       refine Gw.steps_cons ?s0 (Gw.steps_cons ?s1 (Gw.steps_cons ?s2 (Gw.steps_cons ?s3 (Gw.steps_cons ?s4 (Gw.steps_cons ?s5 (Gw.steps_cons ?s6 (Gw.steps_cons ?s7 (Gw.steps_cons ?s8 (Gw.steps_cons ?s9 (Gw.steps_cons ?s10 (Gw.steps_cons ?s11 (Gw.steps_cons ?s12 (Gw.steps_cons ?s13 (Gw.steps_cons ?s14 (Gw.steps_cons ?s15 (Gw.steps_cons ?s16 (Gw.steps_cons ?s17 (Gw.steps_cons ?s18 (Gw.steps_cons ?s19 (Gw.steps_cons ?s20 (Gw.steps_cons ?s21 (Gw.steps_cons ?s22 (Gw.steps_cons ?s23 (Gw.steps_cons ?s24 (Gw.steps_cons ?s25 (Gw.steps_cons ?s26 (Gw.steps_nil)))))))))))))))))))))))))))
                       case s0 => exact Gw.step_move 8 51 rfl rfl (Gw.guard_none rfl) (by kernel_rfl) (fun v w h => h)
                       case s1 => exact Gw.step_move 51 52 rfl rfl (Gw.guard_none rfl) (by kernel_rfl) (fun v w h => h)
                       case s2 => exact Gw.step_move 5 53 rfl rfl (Gw_guard_open 1 52 false rfl (by kernel_rfl) (by kernel_rfl) (fun v w h => h)) (by kernel_rfl) (fun v w h => h)
                       case s3 => exact Gw.step_move 0 54 rfl rfl (Gw_guard_open 1 52 false rfl (by kernel_rfl) (by kernel_rfl) (fun v w h => h)) (by kernel_rfl) (fun v w h => h)
                       case s4 => exact Gw.step_move 7 55 rfl rfl (Gw_guard_open 1 52 false rfl (by kernel_rfl) (by kernel_rfl) (fun v w h => h)) (by kernel_rfl) (fun v w h => h)
                       case s5 =>
                        refine Gw.StepOk.of (Gw_guard_open 1 52 false rfl (by kernel_rfl) (by kernel_rfl) (fun v w h => h)) fun b w' hsz hW hl K hK => ?_
                        clear hsz
                        unfold Oper.wp
                        have e54 : b.tmps[54]?.getD undef = .slice (some p) 30 cap := getD' (Gw.look hl 54 (by kernel_rfl))
                        have e55 : b.tmps[55]?.getD undef = .int .i64 (i : Int) := getD' (Gw.look hl 55 (by kernel_rfl))
                        go_simp
                        exact hK _ _ (Grw.refl _) (Gw.dst_eq rfl rfl)
                       case s6 =>
                        refine Gw.StepOk.of (Gw_guard_open 1 52 false rfl (by kernel_rfl) (by kernel_rfl) (fun v w h => h)) fun b w' hsz hW hl K hK => ?_
                        clear hsz
                        unfold Oper.wp
                        have e56 : b.tmps[56]?.getD undef = .pointer (some (p.add (i * 3))) := getD' (Gw.look hl 56 (by kernel_rfl))
                        have kcx0 := hW.cell cx0
                        have kcx1 := hW.cell cx1
                        have kcx2 := hW.cell cx2
                        have kcy0 := hW.cell cy0
                        have kcy1 := hW.cell cy1
                        have kcy2 := hW.cell cy2
                        go_simp
                        exact hK _ _ (Grw.refl _) (Gw.dst_eq rfl rfl)
                       case s7 => exact Gw.step_move 4 58 rfl rfl (Gw_guard_open 1 52 false rfl (by kernel_rfl) (by kernel_rfl) (fun v w h => h)) (by kernel_rfl) (fun v w h => h)
                       case s8 => exact Gw.step_move 9 59 rfl rfl (Gw_guard_open 1 52 false rfl (by kernel_rfl) (by kernel_rfl) (fun v w h => h)) (by kernel_rfl) (fun v w h => h)
                       case s9 =>
                        refine Gw.StepOk.of (Gw_guard_open 1 52 false rfl (by kernel_rfl) (by kernel_rfl) (fun v w h => h)) fun b w' hsz hW hl K hK => ?_
                        clear hsz
                        unfold Oper.wp
                        have e58 : b.tmps[58]?.getD undef = .slice (some ⟨g, 0, none⟩) M.length c' := getD' (Gw.look hl 58 (by kernel_rfl))
                        have e59 : b.tmps[59]?.getD undef = .int .i64 (k : Int) := getD' (Gw.look hl 59 (by kernel_rfl))
                        go_simp
                        exact hK _ _ (Grw.refl _) (Gw.dst_eq rfl rfl)
                       case s10 =>
                        refine Gw.StepOk.of (Gw_guard_open 1 52 false rfl (by kernel_rfl) (by kernel_rfl) (fun v w h => h)) fun b w' hsz hW hl K hK => ?_
                        clear hsz
                        unfold Oper.wp
                        have e60 : b.tmps[60]?.getD undef = .pointer (some ⟨g, k * 3, none⟩) := getD' (Gw.look hl 60 (by kernel_rfl))
                        have kcx0 := hW.cell cx0
                        have kcx1 := hW.cell cx1
                        have kcx2 := hW.cell cx2
                        have kcy0 := hW.cell cy0
                        have kcy1 := hW.cell cy1
                        have kcy2 := hW.cell cy2
                        go_simp
                        exact hK _ _ (Grw.refl _) (Gw.dst_eq rfl rfl)
                       case s11 => exact Gw_callv2 11 53 57 61 62 _ (by kernel_rfl) rfl rfl (Gw_guard_open 1 52 false rfl (by kernel_rfl) (by kernel_rfl) (fun v w h => h)) (by kernel_rfl) (by kernel_rfl) (by kernel_rfl) (fun v w h => h) (fun x y w' hW hx hy => by have hx : x = .agg #[.string (nth ys i).pkg, .string (nth ys i).file, .int .i64 (nth ys i).at'] := hx; have hy : y = .agg #[.string (nth M k).pkg, .string (nth M k).file, .int .i64 (nth M k).at'] := hy; subst hx; subst hy; exact (kL w').mono fun e w'' h => ⟨_, h.1, rfl, h.2⟩)
                       case s12 =>
                        refine Gw.StepOk.of (Gw_guard_open 1 52 false rfl (by kernel_rfl) (by kernel_rfl) (fun v w h => h)) fun b w' hsz hW hl K hK => ?_
                        clear hsz
                        unfold Oper.wp
                        have e62 : b.tmps[62]?.getD undef = .bool true := getD' (Gw.look hl 62 (by kernel_rfl))
                        go_simp
                        exact hK _ _ (Grw.refl _) (Gw.dst_eq rfl rfl)
                       case s13 => exact Gw.step_move 63 64 rfl rfl (Gw_guard_open 1 52 false rfl (by kernel_rfl) (by kernel_rfl) (fun v w h => h)) (by kernel_rfl) (fun v w h => h)
                       case s14 => exact Gw_shut 13 64 65 true rfl (by kernel_rfl) (by kernel_rfl) (fun v w h e => by have h : v = .bool false := h; rw [h] at e; cases e) rfl (fun w => rfl)
                       case s15 => exact Gw_shut 13 64 66 true rfl (by kernel_rfl) (by kernel_rfl) (fun v w h e => by have h : v = .bool false := h; rw [h] at e; cases e) rfl (fun w => rfl)
                       case s16 => exact Gw_shut 13 64 67 true rfl (by kernel_rfl) (by kernel_rfl) (fun v w h e => by have h : v = .bool false := h; rw [h] at e; cases e) rfl (fun w => rfl)
                       case s17 => exact Gw_shut 13 64 68 true rfl (by kernel_rfl) (by kernel_rfl) (fun v w h e => by have h : v = .bool false := h; rw [h] at e; cases e) rfl (fun w => rfl)
                       case s18 => exact Gw_shut 13 64 69 true rfl (by kernel_rfl) (by kernel_rfl) (fun v w h e => by have h : v = .bool false := h; rw [h] at e; cases e) rfl (fun w => rfl)
                       case s19 => exact Gw_shut 13 64 70 true rfl (by kernel_rfl) (by kernel_rfl) (fun v w h e => by have h : v = .bool false := h; rw [h] at e; cases e) rfl (fun w => rfl)
                       case s20 => exact Gw_shut 13 64 71 true rfl (by kernel_rfl) (by kernel_rfl) (fun v w h e => by have h : v = .bool false := h; rw [h] at e; cases e) rfl (fun w => rfl)
                       case s21 => exact Gw_shut 13 64 72 true rfl (by kernel_rfl) (by kernel_rfl) (fun v w h e => by have h : v = .bool false := h; rw [h] at e; cases e) rfl (fun w => rfl)
                       case s22 => exact Gw_shut 13 64 73 true rfl (by kernel_rfl) (by kernel_rfl) (fun v w h e => by have h : v = .bool false := h; rw [h] at e; cases e) rfl (fun w => rfl)
                       case s23 => exact Gw_shut 13 64 74 true rfl (by kernel_rfl) (by kernel_rfl) (fun v w h e => by have h : v = .bool false := h; rw [h] at e; cases e) rfl (fun w => rfl)
                       case s24 => exact Gw_shut 13 64 75 true rfl (by kernel_rfl) (by kernel_rfl) (fun v w h e => by have h : v = .bool false := h; rw [h] at e; cases e) rfl (fun w => rfl)
                       case s25 => exact Gw_pick 64 (.tmp 75) (.const (.bool false)) 76 false (.bool false) rfl rfl (Gw_guard_open 1 52 false rfl (by kernel_rfl) (by kernel_rfl) (fun v w h => h)) (by kernel_rfl) (fun v w h => h) (fun b w' hl => rfl) (fun w => rfl)
                       case s26 => exact Gw_pick 52 (.const (.bool true)) (.tmp 76) 77 false (.bool false) rfl rfl (Gw.guard_none rfl) (by kernel_rfl) (fun v w h => h) (fun b w' hl => Gw.look hl 76 (by kernel_rfl)) (fun w => rfl)
                      case hend =>
                       intro xs wz hGz _ hxl
                       have hBz := bthen hBq hGz.below
                       simp only [mixed, List.contains_cons, List.contains_nil, Nat.reduceBEq, Nat.reduceAdd, Bool.or_false, Bool.or_true, Bool.false_eq_true, if_false, if_true]
                       rw [hxl]
                       go_wp2
                       go_roundw
                       case rel =>
                        first
                         | exact ⟨k + 1, false, by omega, by go_num, rfl, hnew.out, hBz⟩
                         | ((repeat apply Exists.intro); refine ⟨⟨k + 1, false, by omega, rfl, rfl, hnew.out, hBz⟩, ?_⟩; repeat' (first | rfl | go_num | constructor))
                       case measure => simp [intOf]; omega
                    · have kL := fun W => less_no (show ¬ cmpDG (nth ys i) (nth M k) < 0 by omega) W
                      have kM := fun W => less_no (show ¬ cmpDG (nth M k) (nth ys i) < 0 by have := cmpDG_cmp.anti (nth ys i) (nth M k); omega) W
                      have heq : nth M k = nth ys i := ((cmpDG_zero _ _).1 hc).symm
                      have hnew : ∃ t, t < k + 1 ∧ nth M t = nth ys i := ⟨k, by omega, heq⟩
                      replace hnew : Hid (∃ t, t < k + 1 ∧ nth M t = nth ys i) := hnew
                      clear hc heq
                      go_wp2_with fail
                      refine wp_region_late (late18E p g 30 cap c' M.length i k (nth ys i) (nth M k)) (.bool true) [51, 52, 53, 54, 55, 56, 57, 58, 59, 60, 61, 62, 63, 64, 65, 66, 67, 68, 69, 70, 71, 72, 73, 74, 75, 76, 77] [0, 1, 2, 3, 4, 5, 6, 7, 8, 9, 10, 11, 12, 13, 14, 15, 16, 17, 18, 19, 20, 21, 22, 23, 24, 25, 26, 27, 28, 29, 30, 31, 32, 33, 34, 35, 36, 37, 38, 39, 40, 41, 42, 43, 44, 45, 46, 47, 48, 49, 50, 78, 79, 80, 81, 82, 83, 84, 85, 86, 87, 88, 89, 90, 91, 92, 93, 94, 95, 96, 97, 98, 99, 100, 101, 102, 103, 104, 105, 106, 107, 108, 109, 110, 111, 112, 113, 114, 115, 116, 117, 118, 119, 120, 121] 122 8 77 (by kernel_rfl) (by decide) (by kernel_rfl) (by kernel_rfl) (by decide) (by kernel_rfl) (by kernel_rfl) (by kernel_rfl) rfl ⟨_, rfl, rfl, rfl, rfl, by kernel_rfl, by decide⟩ (fun t v w w' _ h => h) (by kernel_rfl) (fun v w h => h) (by kernel_rfl) ?hstep ?hend
                      case hstep =>
                       refine Gw.steps_cons ?s0 (Gw.steps_cons ?s1 (Gw.steps_cons ?s2 (Gw.steps_cons ?s3 (Gw.steps_cons ?s4 (Gw.steps_cons ?s5 (Gw.steps_cons ?s6 (Gw.steps_cons ?s7 (Gw.steps_cons ?s8 (Gw.steps_cons ?s9 (Gw.steps_cons ?s10 (Gw.steps_cons ?s11 (Gw.steps_cons ?s12 (Gw.steps_cons ?s13 (Gw.steps_cons ?s14 (Gw.steps_cons ?s15 (Gw.steps_cons ?s16 (Gw.steps_cons ?s17 (Gw.steps_cons ?s18 (Gw.steps_cons ?s19 (Gw.steps_cons ?s20 (Gw.steps_cons ?s21 (Gw.steps_cons ?s22 (Gw.steps_cons ?s23 (Gw.steps_cons ?s24 (Gw.steps_cons ?s25 (Gw.steps_cons ?s26 (Gw.steps_nil)))))))))))))))))))))))))))
                       case s0 => exact Gw.step_move 8 51 rfl rfl (Gw.guard_none rfl) (by kernel_rfl) (fun v w h => h)
                       case s1 => exact Gw.step_move 51 52 rfl rfl (Gw.guard_none rfl) (by kernel_rfl) (fun v w h => h)
                       case s2 => exact Gw.step_move 5 53 rfl rfl (Gw_guard_open 1 52 false rfl (by kernel_rfl) (by kernel_rfl) (fun v w h => h)) (by kernel_rfl) (fun v w h => h)
                       case s3 => exact Gw.step_move 0 54 rfl rfl (Gw_guard_open 1 52 false rfl (by kernel_rfl) (by kernel_rfl) (fun v w h => h)) (by kernel_rfl) (fun v w h => h)
                       case s4 => exact Gw.step_move 7 55 rfl rfl (Gw_guard_open 1 52 false rfl (by kernel_rfl) (by kernel_rfl) (fun v w h => h)) (by kernel_rfl) (fun v w h => h)
                       case s5 =>
                        refine Gw.StepOk.of (Gw_guard_open 1 52 false rfl (by kernel_rfl) (by kernel_rfl) (fun v w h => h)) fun b w' hsz hW hl K hK => ?_
                        clear hsz
                        unfold Oper.wp
                        have e54 : b.tmps[54]?.getD undef = .slice (some p) 30 cap := getD' (Gw.look hl 54 (by kernel_rfl))
                        have e55 : b.tmps[55]?.getD undef = .int .i64 (i : Int) := getD' (Gw.look hl 55 (by kernel_rfl))
                        go_simp
                        exact hK _ _ (Grw.refl _) (Gw.dst_eq rfl rfl)
                       case s6 =>
                        refine Gw.StepOk.of (Gw_guard_open 1 52 false rfl (by kernel_rfl) (by kernel_rfl) (fun v w h => h)) fun b w' hsz hW hl K hK => ?_
                        clear hsz
                        unfold Oper.wp
                        have e56 : b.tmps[56]?.getD undef = .pointer (some (p.add (i * 3))) := getD' (Gw.look hl 56 (by kernel_rfl))
                        have kcx0 := hW.cell cx0
                        have kcx1 := hW.cell cx1
                        have kcx2 := hW.cell cx2
                        have kcy0 := hW.cell cy0
                        have kcy1 := hW.cell cy1
                        have kcy2 := hW.cell cy2
                        go_simp
                        exact hK _ _ (Grw.refl _) (Gw.dst_eq rfl rfl)
                       case s7 => exact Gw.step_move 4 58 rfl rfl (Gw_guard_open 1 52 false rfl (by kernel_rfl) (by kernel_rfl) (fun v w h => h)) (by kernel_rfl) (fun v w h => h)
                       case s8 => exact Gw.step_move 9 59 rfl rfl (Gw_guard_open 1 52 false rfl (by kernel_rfl) (by kernel_rfl) (fun v w h => h)) (by kernel_rfl) (fun v w h => h)
                       case s9 =>
                        refine Gw.StepOk.of (Gw_guard_open 1 52 false rfl (by kernel_rfl) (by kernel_rfl) (fun v w h => h)) fun b w' hsz hW hl K hK => ?_
                        clear hsz
                        unfold Oper.wp
                        have e58 : b.tmps[58]?.getD undef = .slice (some ⟨g, 0, none⟩) M.length c' := getD' (Gw.look hl 58 (by kernel_rfl))
                        have e59 : b.tmps[59]?.getD undef = .int .i64 (k : Int) := getD' (Gw.look hl 59 (by kernel_rfl))
                        go_simp
                        exact hK _ _ (Grw.refl _) (Gw.dst_eq rfl rfl)
                       case s10 =>
                        refine Gw.StepOk.of (Gw_guard_open 1 52 false rfl (by kernel_rfl) (by kernel_rfl) (fun v w h => h)) fun b w' hsz hW hl K hK => ?_
                        clear hsz
                        unfold Oper.wp
                        have e60 : b.tmps[60]?.getD undef = .pointer (some ⟨g, k * 3, none⟩) := getD' (Gw.look hl 60 (by kernel_rfl))
                        have kcx0 := hW.cell cx0
                        have kcx1 := hW.cell cx1
                        have kcx2 := hW.cell cx2
                        have kcy0 := hW.cell cy0
                        have kcy1 := hW.cell cy1
                        have kcy2 := hW.cell cy2
                        go_simp
                        exact hK _ _ (Grw.refl _) (Gw.dst_eq rfl rfl)
                       case s11 => exact Gw_callv2 11 53 57 61 62 _ (by kernel_rfl) rfl rfl (Gw_guard_open 1 52 false rfl (by kernel_rfl) (by kernel_rfl) (fun v w h => h)) (by kernel_rfl) (by kernel_rfl) (by kernel_rfl) (fun v w h => h) (fun x y w' hW hx hy => by have hx : x = .agg #[.string (nth ys i).pkg, .string (nth ys i).file, .int .i64 (nth ys i).at'] := hx; have hy : y = .agg #[.string (nth M k).pkg, .string (nth M k).file, .int .i64 (nth M k).at'] := hy; subst hx; subst hy; exact (kL w').mono fun e w'' h => ⟨_, h.1, rfl, h.2⟩)
                       case s12 =>
                        refine Gw.StepOk.of (Gw_guard_open 1 52 false rfl (by kernel_rfl) (by kernel_rfl) (fun v w h => h)) fun b w' hsz hW hl K hK => ?_
                        clear hsz
                        unfold Oper.wp
                        have e62 : b.tmps[62]?.getD undef = .bool false := getD' (Gw.look hl 62 (by kernel_rfl))
                        go_simp
                        exact hK _ _ (Grw.refl _) (Gw.dst_eq rfl rfl)
                       case s13 => exact Gw.step_move 63 64 rfl rfl (Gw_guard_open 1 52 false rfl (by kernel_rfl) (by kernel_rfl) (fun v w h => h)) (by kernel_rfl) (fun v w h => h)
                       case s14 => exact Gw.step_move 5 65 rfl rfl (Gw_guard_open 13 64 true rfl (by kernel_rfl) (by kernel_rfl) (fun v w h => h)) (by kernel_rfl) (fun v w h => h)
                       case s15 => exact Gw.step_move 4 66 rfl rfl (Gw_guard_open 13 64 true rfl (by kernel_rfl) (by kernel_rfl) (fun v w h => h)) (by kernel_rfl) (fun v w h => h)
                       case s16 => exact Gw.step_move 9 67 rfl rfl (Gw_guard_open 13 64 true rfl (by kernel_rfl) (by kernel_rfl) (fun v w h => h)) (by kernel_rfl) (fun v w h => h)
                       case s17 =>
                        refine Gw.StepOk.of (Gw_guard_open 13 64 true rfl (by kernel_rfl) (by kernel_rfl) (fun v w h => h)) fun b w' hsz hW hl K hK => ?_
                        clear hsz
                        unfold Oper.wp
                        have e66 : b.tmps[66]?.getD undef = .slice (some ⟨g, 0, none⟩) M.length c' := getD' (Gw.look hl 66 (by kernel_rfl))
                        have e67 : b.tmps[67]?.getD undef = .int .i64 (k : Int) := getD' (Gw.look hl 67 (by kernel_rfl))
                        go_simp
                        exact hK _ _ (Grw.refl _) (Gw.dst_eq rfl rfl)
                       case s18 =>
                        refine Gw.StepOk.of (Gw_guard_open 13 64 true rfl (by kernel_rfl) (by kernel_rfl) (fun v w h => h)) fun b w' hsz hW hl K hK => ?_
                        clear hsz
                        unfold Oper.wp
                        have e68 : b.tmps[68]?.getD undef = .pointer (some ⟨g, k * 3, none⟩) := getD' (Gw.look hl 68 (by kernel_rfl))
                        have kcx0 := hW.cell cx0
                        have kcx1 := hW.cell cx1
                        have kcx2 := hW.cell cx2
                        have kcy0 := hW.cell cy0
                        have kcy1 := hW.cell cy1
                        have kcy2 := hW.cell cy2
                        go_simp
                        exact hK _ _ (Grw.refl _) (Gw.dst_eq rfl rfl)
                       case s19 => exact Gw.step_move 0 70 rfl rfl (Gw_guard_open 13 64 true rfl (by kernel_rfl) (by kernel_rfl) (fun v w h => h)) (by kernel_rfl) (fun v w h => h)
                       case s20 => exact Gw.step_move 7 71 rfl rfl (Gw_guard_open 13 64 true rfl (by kernel_rfl) (by kernel_rfl) (fun v w h => h)) (by kernel_rfl) (fun v w h => h)
                       case s21 =>
                        refine Gw.StepOk.of (Gw_guard_open 13 64 true rfl (by kernel_rfl) (by kernel_rfl) (fun v w h => h)) fun b w' hsz hW hl K hK => ?_
                        clear hsz
                        unfold Oper.wp
                        have e70 : b.tmps[70]?.getD undef = .slice (some p) 30 cap := getD' (Gw.look hl 70 (by kernel_rfl))
                        have e71 : b.tmps[71]?.getD undef = .int .i64 (i : Int) := getD' (Gw.look hl 71 (by kernel_rfl))
                        go_simp
                        exact hK _ _ (Grw.refl _) (Gw.dst_eq rfl rfl)
                       case s22 =>
                        refine Gw.StepOk.of (Gw_guard_open 13 64 true rfl (by kernel_rfl) (by kernel_rfl) (fun v w h => h)) fun b w' hsz hW hl K hK => ?_
                        clear hsz
                        unfold Oper.wp
                        have e72 : b.tmps[72]?.getD undef = .pointer (some (p.add (i * 3))) := getD' (Gw.look hl 72 (by kernel_rfl))
                        have kcx0 := hW.cell cx0
                        have kcx1 := hW.cell cx1
                        have kcx2 := hW.cell cx2
                        have kcy0 := hW.cell cy0
                        have kcy1 := hW.cell cy1
                        have kcy2 := hW.cell cy2
                        go_simp
                        exact hK _ _ (Grw.refl _) (Gw.dst_eq rfl rfl)
                       case s23 => exact Gw_callv2 11 65 69 73 74 _ (by kernel_rfl) rfl rfl (Gw_guard_open 13 64 true rfl (by kernel_rfl) (by kernel_rfl) (fun v w h => h)) (by kernel_rfl) (by kernel_rfl) (by kernel_rfl) (fun v w h => h) (fun x y w' hW hx hy => by have hx : x = .agg #[.string (nth M k).pkg, .string (nth M k).file, .int .i64 (nth M k).at'] := hx; have hy : y = .agg #[.string (nth ys i).pkg, .string (nth ys i).file, .int .i64 (nth ys i).at'] := hy; subst hx; subst hy; exact (kM w').mono fun e w'' h => ⟨_, h.1, rfl, h.2⟩)
                       case s24 =>
                        refine Gw.StepOk.of (Gw_guard_open 13 64 true rfl (by kernel_rfl) (by kernel_rfl) (fun v w h => h)) fun b w' hsz hW hl K hK => ?_
                        clear hsz
                        unfold Oper.wp
                        have e74 : b.tmps[74]?.getD undef = .bool false := getD' (Gw.look hl 74 (by kernel_rfl))
                        go_simp
                        exact hK _ _ (Grw.refl _) (Gw.dst_eq rfl rfl)
                       case s25 => exact Gw_pick 64 (.tmp 75) (.const (.bool false)) 76 true (.bool true) rfl rfl (Gw_guard_open 1 52 false rfl (by kernel_rfl) (by kernel_rfl) (fun v w h => h)) (by kernel_rfl) (fun v w h => h) (fun b w' hl => Gw.look hl 75 (by kernel_rfl)) (fun w => rfl)
                       case s26 => exact Gw_pick 52 (.const (.bool true)) (.tmp 76) 77 false (.bool true) rfl rfl (Gw.guard_none rfl) (by kernel_rfl) (fun v w h => h) (fun b w' hl => Gw.look hl 76 (by kernel_rfl)) (fun w => rfl)
                      case hend =>
                       intro xs wz hGz _ hxl
                       have hBz := bthen hBq hGz.below
                       simp only [mixed, List.contains_cons, List.contains_nil, Nat.reduceBEq, Nat.reduceAdd, Bool.or_false, Bool.or_true, Bool.false_eq_true, if_false, if_true]
                       rw [hxl]
                       go_wp2
                       go_roundw
                       case rel =>
                        first
                         | exact ⟨k + 1, true, by omega, by go_num, rfl, ⟨fun _ => hnew.out, fun _ => rfl⟩, hBz⟩
                         | ((repeat apply Exists.intro); refine ⟨⟨k + 1, true, by omega, rfl, rfl, ⟨fun _ => hnew.out, fun _ => rfl⟩, hBz⟩, ?_⟩; repeat' (first | rfl | go_num | constructor))
                       case measure => simp [intOf]; omega
                    · have kL := fun W => less_no (show ¬ cmpDG (nth ys i) (nth M k) < 0 by omega) W
                      have kM := fun W => less_yes (show cmpDG (nth M k) (nth ys i) < 0 by have := cmpDG_cmp.anti (nth ys i) (nth M k); omega) W
                      have hne : ¬ nth M k = nth ys i := fun e => by rw [e] at hc; rw [(cmpDG_zero _ _).2 rfl] at hc; omega
                      have hnew : false = true ↔ ∃ t, t < k + 1 ∧ nth M t = nth ys i := ⟨fun h => (Bool.false_ne_true h).elim, fun ⟨t, ht, he⟩ => by
                        by_cases e : t = k
                        · subst e; exact absurd he hne
                        · exact absurd (hrb.out.2 ⟨t, by omega, he⟩) Bool.false_ne_true⟩
                      replace hnew : Hid (false = true ↔ ∃ t, t < k + 1 ∧ nth M t = nth ys i) := hnew
                      clear hc hne
                      go_wp2_with fail
                      refine wp_region_late (late18G p g 30 cap c' M.length i k (nth ys i) (nth M k)) (.bool false) [51, 52, 53, 54, 55, 56, 57, 58, 59, 60, 61, 62, 63, 64, 65, 66, 67, 68, 69, 70, 71, 72, 73, 74, 75, 76, 77] [0, 1, 2, 3, 4, 5, 6, 7, 8, 9, 10, 11, 12, 13, 14, 15, 16, 17, 18, 19, 20, 21, 22, 23, 24, 25, 26, 27, 28, 29, 30, 31, 32, 33, 34, 35, 36, 37, 38, 39, 40, 41, 42, 43, 44, 45, 46, 47, 48, 49, 50, 78, 79, 80, 81, 82, 83, 84, 85, 86, 87, 88, 89, 90, 91, 92, 93, 94, 95, 96, 97, 98, 99, 100, 101, 102, 103, 104, 105, 106, 107, 108, 109, 110, 111, 112, 113, 114, 115, 116, 117, 118, 119, 120, 121] 122 8 77 (by kernel_rfl) (by decide) (by kernel_rfl) (by kernel_rfl) (by decide) (by kernel_rfl) (by kernel_rfl) (by kernel_rfl) rfl ⟨_, rfl, rfl, rfl, rfl, by kernel_rfl, by decide⟩ (fun t v w w' _ h => h) (by kernel_rfl) (fun v w h => h) (by kernel_rfl) ?hstep ?hend
                      case hstep =>
                       refine Gw.steps_cons ?s0 (Gw.steps_cons ?s1 (Gw.steps_cons ?s2 (Gw.steps_cons ?s3 (Gw.steps_cons ?s4 (Gw.steps_cons ?s5 (Gw.steps_cons ?s6 (Gw.steps_cons ?s7 (Gw.steps_cons ?s8 (Gw.steps_cons ?s9 (Gw.steps_cons ?s10 (Gw.steps_cons ?s11 (Gw.steps_cons ?s12 (Gw.steps_cons ?s13 (Gw.steps_cons ?s14 (Gw.steps_cons ?s15 (Gw.steps_cons ?s16 (Gw.steps_cons ?s17 (Gw.steps_cons ?s18 (Gw.steps_cons ?s19 (Gw.steps_cons ?s20 (Gw.steps_cons ?s21 (Gw.steps_cons ?s22 (Gw.steps_cons ?s23 (Gw.steps_cons ?s24 (Gw.steps_cons ?s25 (Gw.steps_cons ?s26 (Gw.steps_nil)))))))))))))))))))))))))))
                       case s0 => exact Gw.step_move 8 51 rfl rfl (Gw.guard_none rfl) (by kernel_rfl) (fun v w h => h)
                       case s1 => exact Gw.step_move 51 52 rfl rfl (Gw.guard_none rfl) (by kernel_rfl) (fun v w h => h)
                       case s2 => exact Gw.step_move 5 53 rfl rfl (Gw_guard_open 1 52 false rfl (by kernel_rfl) (by kernel_rfl) (fun v w h => h)) (by kernel_rfl) (fun v w h => h)
                       case s3 => exact Gw.step_move 0 54 rfl rfl (Gw_guard_open 1 52 false rfl (by kernel_rfl) (by kernel_rfl) (fun v w h => h)) (by kernel_rfl) (fun v w h => h)
                       case s4 => exact Gw.step_move 7 55 rfl rfl (Gw_guard_open 1 52 false rfl (by kernel_rfl) (by kernel_rfl) (fun v w h => h)) (by kernel_rfl) (fun v w h => h)
                       case s5 =>
                        refine Gw.StepOk.of (Gw_guard_open 1 52 false rfl (by kernel_rfl) (by kernel_rfl) (fun v w h => h)) fun b w' hsz hW hl K hK => ?_
                        clear hsz
                        unfold Oper.wp
                        have e54 : b.tmps[54]?.getD undef = .slice (some p) 30 cap := getD' (Gw.look hl 54 (by kernel_rfl))
                        have e55 : b.tmps[55]?.getD undef = .int .i64 (i : Int) := getD' (Gw.look hl 55 (by kernel_rfl))
                        go_simp
                        exact hK _ _ (Grw.refl _) (Gw.dst_eq rfl rfl)
                       case s6 =>
                        refine Gw.StepOk.of (Gw_guard_open 1 52 false rfl (by kernel_rfl) (by kernel_rfl) (fun v w h => h)) fun b w' hsz hW hl K hK => ?_
                        clear hsz
                        unfold Oper.wp
                        have e56 : b.tmps[56]?.getD undef = .pointer (some (p.add (i * 3))) := getD' (Gw.look hl 56 (by kernel_rfl))
                        have kcx0 := hW.cell cx0
                        have kcx1 := hW.cell cx1
                        have kcx2 := hW.cell cx2
                        have kcy0 := hW.cell cy0
                        have kcy1 := hW.cell cy1
                        have kcy2 := hW.cell cy2
                        go_simp
                        exact hK _ _ (Grw.refl _) (Gw.dst_eq rfl rfl)
                       case s7 => exact Gw.step_move 4 58 rfl rfl (Gw_guard_open 1 52 false rfl (by kernel_rfl) (by kernel_rfl) (fun v w h => h)) (by kernel_rfl) (fun v w h => h)
                       case s8 => exact Gw.step_move 9 59 rfl rfl (Gw_guard_open 1 52 false rfl (by kernel_rfl) (by kernel_rfl) (fun v w h => h)) (by kernel_rfl) (fun v w h => h)
                       case s9 =>
                        refine Gw.StepOk.of (Gw_guard_open 1 52 false rfl (by kernel_rfl) (by kernel_rfl) (fun v w h => h)) fun b w' hsz hW hl K hK => ?_
                        clear hsz
                        unfold Oper.wp
                        have e58 : b.tmps[58]?.getD undef = .slice (some ⟨g, 0, none⟩) M.length c' := getD' (Gw.look hl 58 (by kernel_rfl))
                        have e59 : b.tmps[59]?.getD undef = .int .i64 (k : Int) := getD' (Gw.look hl 59 (by kernel_rfl))
                        go_simp
                        exact hK _ _ (Grw.refl _) (Gw.dst_eq rfl rfl)
                       case s10 =>
                        refine Gw.StepOk.of (Gw_guard_open 1 52 false rfl (by kernel_rfl) (by kernel_rfl) (fun v w h => h)) fun b w' hsz hW hl K hK => ?_
                        clear hsz
                        unfold Oper.wp
                        have e60 : b.tmps[60]?.getD undef = .pointer (some ⟨g, k * 3, none⟩) := getD' (Gw.look hl 60 (by kernel_rfl))
                        have kcx0 := hW.cell cx0
                        have kcx1 := hW.cell cx1
                        have kcx2 := hW.cell cx2
                        have kcy0 := hW.cell cy0
                        have kcy1 := hW.cell cy1
                        have kcy2 := hW.cell cy2
                        go_simp
                        exact hK _ _ (Grw.refl _) (Gw.dst_eq rfl rfl)
                       case s11 => exact Gw_callv2 11 53 57 61 62 _ (by kernel_rfl) rfl rfl (Gw_guard_open 1 52 false rfl (by kernel_rfl) (by kernel_rfl) (fun v w h => h)) (by kernel_rfl) (by kernel_rfl) (by kernel_rfl) (fun v w h => h) (fun x y w' hW hx hy => by have hx : x = .agg #[.string (nth ys i).pkg, .string (nth ys i).file, .int .i64 (nth ys i).at'] := hx; have hy : y = .agg #[.string (nth M k).pkg, .string (nth M k).file, .int .i64 (nth M k).at'] := hy; subst hx; subst hy; exact (kL w').mono fun e w'' h => ⟨_, h.1, rfl, h.2⟩)
                       case s12 =>
                        refine Gw.StepOk.of (Gw_guard_open 1 52 false rfl (by kernel_rfl) (by kernel_rfl) (fun v w h => h)) fun b w' hsz hW hl K hK => ?_
                        clear hsz
                        unfold Oper.wp
                        have e62 : b.tmps[62]?.getD undef = .bool false := getD' (Gw.look hl 62 (by kernel_rfl))
                        go_simp
                        exact hK _ _ (Grw.refl _) (Gw.dst_eq rfl rfl)
                       case s13 => exact Gw.step_move 63 64 rfl rfl (Gw_guard_open 1 52 false rfl (by kernel_rfl) (by kernel_rfl) (fun v w h => h)) (by kernel_rfl) (fun v w h => h)
                       case s14 => exact Gw.step_move 5 65 rfl rfl (Gw_guard_open 13 64 true rfl (by kernel_rfl) (by kernel_rfl) (fun v w h => h)) (by kernel_rfl) (fun v w h => h)
                       case s15 => exact Gw.step_move 4 66 rfl rfl (Gw_guard_open 13 64 true rfl (by kernel_rfl) (by kernel_rfl) (fun v w h => h)) (by kernel_rfl) (fun v w h => h)
                       case s16 => exact Gw.step_move 9 67 rfl rfl (Gw_guard_open 13 64 true rfl (by kernel_rfl) (by kernel_rfl) (fun v w h => h)) (by kernel_rfl) (fun v w h => h)
                       case s17 =>
                        refine Gw.StepOk.of (Gw_guard_open 13 64 true rfl (by kernel_rfl) (by kernel_rfl) (fun v w h => h)) fun b w' hsz hW hl K hK => ?_
                        clear hsz
                        unfold Oper.wp
                        have e66 : b.tmps[66]?.getD undef = .slice (some ⟨g, 0, none⟩) M.length c' := getD' (Gw.look hl 66 (by kernel_rfl))
                        have e67 : b.tmps[67]?.getD undef = .int .i64 (k : Int) := getD' (Gw.look hl 67 (by kernel_rfl))
                        go_simp
                        exact hK _ _ (Grw.refl _) (Gw.dst_eq rfl rfl)
                       case s18 =>
                        refine Gw.StepOk.of (Gw_guard_open 13 64 true rfl (by kernel_rfl) (by kernel_rfl) (fun v w h => h)) fun b w' hsz hW hl K hK => ?_
                        clear hsz
                        unfold Oper.wp
                        have e68 : b.tmps[68]?.getD undef = .pointer (some ⟨g, k * 3, none⟩) := getD' (Gw.look hl 68 (by kernel_rfl))
                        have kcx0 := hW.cell cx0
                        have kcx1 := hW.cell cx1
                        have kcx2 := hW.cell cx2
                        have kcy0 := hW.cell cy0
                        have kcy1 := hW.cell cy1
                        have kcy2 := hW.cell cy2
                        go_simp
                        exact hK _ _ (Grw.refl _) (Gw.dst_eq rfl rfl)
                       case s19 => exact Gw.step_move 0 70 rfl rfl (Gw_guard_open 13 64 true rfl (by kernel_rfl) (by kernel_rfl) (fun v w h => h)) (by kernel_rfl) (fun v w h => h)
                       case s20 => exact Gw.step_move 7 71 rfl rfl (Gw_guard_open 13 64 true rfl (by kernel_rfl) (by kernel_rfl) (fun v w h => h)) (by kernel_rfl) (fun v w h => h)
                       case s21 =>
                        refine Gw.StepOk.of (Gw_guard_open 13 64 true rfl (by kernel_rfl) (by kernel_rfl) (fun v w h => h)) fun b w' hsz hW hl K hK => ?_
                        clear hsz
                        unfold Oper.wp
                        have e70 : b.tmps[70]?.getD undef = .slice (some p) 30 cap := getD' (Gw.look hl 70 (by kernel_rfl))
                        have e71 : b.tmps[71]?.getD undef = .int .i64 (i : Int) := getD' (Gw.look hl 71 (by kernel_rfl))
                        go_simp
                        exact hK _ _ (Grw.refl _) (Gw.dst_eq rfl rfl)
                       case s22 =>
                        refine Gw.StepOk.of (Gw_guard_open 13 64 true rfl (by kernel_rfl) (by kernel_rfl) (fun v w h => h)) fun b w' hsz hW hl K hK => ?_
                        clear hsz
                        unfold Oper.wp
                        have e72 : b.tmps[72]?.getD undef = .pointer (some (p.add (i * 3))) := getD' (Gw.look hl 72 (by kernel_rfl))
                        have kcx0 := hW.cell cx0
                        have kcx1 := hW.cell cx1
                        have kcx2 := hW.cell cx2
                        have kcy0 := hW.cell cy0
                        have kcy1 := hW.cell cy1
                        have kcy2 := hW.cell cy2
                        go_simp
                        exact hK _ _ (Grw.refl _) (Gw.dst_eq rfl rfl)
                       case s23 => exact Gw_callv2 11 65 69 73 74 _ (by kernel_rfl) rfl rfl (Gw_guard_open 13 64 true rfl (by kernel_rfl) (by kernel_rfl) (fun v w h => h)) (by kernel_rfl) (by kernel_rfl) (by kernel_rfl) (fun v w h => h) (fun x y w' hW hx hy => by have hx : x = .agg #[.string (nth M k).pkg, .string (nth M k).file, .int .i64 (nth M k).at'] := hx; have hy : y = .agg #[.string (nth ys i).pkg, .string (nth ys i).file, .int .i64 (nth ys i).at'] := hy; subst hx; subst hy; exact (kM w').mono fun e w'' h => ⟨_, h.1, rfl, h.2⟩)
                       case s24 =>
                        refine Gw.StepOk.of (Gw_guard_open 13 64 true rfl (by kernel_rfl) (by kernel_rfl) (fun v w h => h)) fun b w' hsz hW hl K hK => ?_
                        clear hsz
                        unfold Oper.wp
                        have e74 : b.tmps[74]?.getD undef = .bool true := getD' (Gw.look hl 74 (by kernel_rfl))
                        go_simp
                        exact hK _ _ (Grw.refl _) (Gw.dst_eq rfl rfl)
                       case s25 => exact Gw_pick 64 (.tmp 75) (.const (.bool false)) 76 true (.bool false) rfl rfl (Gw_guard_open 1 52 false rfl (by kernel_rfl) (by kernel_rfl) (fun v w h => h)) (by kernel_rfl) (fun v w h => h) (fun b w' hl => Gw.look hl 75 (by kernel_rfl)) (fun w => rfl)
                       case s26 => exact Gw_pick 52 (.const (.bool true)) (.tmp 76) 77 false (.bool false) rfl rfl (Gw.guard_none rfl) (by kernel_rfl) (fun v w h => h) (fun b w' hl => Gw.look hl 76 (by kernel_rfl)) (fun w => rfl)
                      case hend =>
                       intro xs wz hGz _ hxl
                       have hBz := bthen hBq hGz.below
                       simp only [mixed, List.contains_cons, List.contains_nil, Nat.reduceBEq, Nat.reduceAdd, Bool.or_false, Bool.or_true, Bool.false_eq_true, if_false, if_true]
                       rw [hxl]
                       go_wp2
                       go_roundw
                       case rel =>
                        first
                         | exact ⟨k + 1, false, by omega, by go_num, rfl, hnew.out, hBz⟩
                         | ((repeat apply Exists.intro); refine ⟨⟨k + 1, false, by omega, rfl, rfl, hnew.out, hBz⟩, ?_⟩; repeat' (first | rfl | go_num | constructor))
                       case measure => simp [intOf]; omega
                · obtain rfl : k = M.length := by omega
                  have hbt : b = true := by
                    refine hrb.out.2 ?_
                    obtain ⟨t, ht, he⟩ := List.getElem_of_mem ((hmem.out (nth ys i)).2 (nth_mem ys i (by omega)))
                    exact ⟨t, ht, by simp [nth, List.getElem?_eq_getElem ht]; exact he⟩
                  subst hbt
                  clear hrb
                  go_wp2
                  go_roundw
                  case rel => exact ⟨i + 1, by omega, by go_num, hBq⟩
                  case measure => simp [intOf]; omega
            · go_wp2
              go_loopw [10, 11, 12] (fun v _ _ wr => ∃ i : Nat, i ≤ M.length ∧ v = .int .i64 (i : Int) ∧ Below w2.heap.size w2 wr) (fun v _ _ _ => M.length - (intOf v).toNat)
              case atStart => exact ⟨0, Nat.zero_le _, rfl, hBr⟩
              case round =>
                obtain ⟨i, hi, rfl, hBr⟩ := hrel
                by_cases hlt : i < M.length
                · go_wp2
                  go_loopw [11, 12] (fun vb vk wq => ∃ (k : Nat) (b : Bool), k ≤ 30 ∧ vk = .int .i64 (k : Int) ∧ vb = .bool b ∧ Hid (b = true ↔ ∃ t, t < k ∧ nth ys t = nth M i) ∧ Below w2.heap.size w2 wq) (fun _ vk _ => 30 - (intOf vk).toNat)
                  case atStart => exact ⟨0, false, Nat.zero_le _, rfl, rfl, ⟨fun h => (Bool.false_ne_true h).elim, fun ⟨t, ht, _⟩ => (by omega)⟩, hBr⟩
                  case round =>
                    obtain ⟨k, b, hk, rfl, rfl, hrb, hBq⟩ := hrel
                    by_cases hkl : k < 30
                    · have hHq : HD wr g M := hHD.out.next (by omega) hBq
                      obtain ⟨⟨cy0, cy1, cy2⟩, _, _, _⟩ := hHq i (by omega)
                      obtain ⟨p, rfl⟩ : ∃ p, a = some p := by
                        cases a with
                        | none => have h1 := hyw.nil rfl; have h2 := hyw.le; omega
                        | some p => exact ⟨p, rfl⟩
                      obtain ⟨cx0, cx1, cx2⟩ := (hyw.next hBq).cells3 k (by omega)
                      clear hHq
                      have i0 : 0 ≤ (k : Int) ∧ (k : Int) < (30 : Int) := by omega
                      have i1 : 0 ≤ (i : Int) ∧ (i : Int) < (M.length : Int) := by omega
                      cases b with
                      | true =>
                        have hnew : ∃ t, t < k + 1 ∧ nth ys t = nth M i := by obtain ⟨t, ht, he⟩ := hrb.out.1 rfl; exact ⟨t, by omega, he⟩
                        replace hnew : Hid (∃ t, t < k + 1 ∧ nth ys t = nth M i) := hnew
                        go_wp2_with fail
                        refine wp_region_late (late28A p g 30 cap c' M.length i k (nth ys k) (nth M i)) (.bool true) [92, 93, 94, 95, 96, 97, 98, 99, 100, 101, 102, 103, 104, 105, 106, 107, 108, 109, 110, 111, 112, 113, 114, 115, 116, 117, 118] [0, 1, 2, 3, 4, 5, 6, 7, 8, 9, 10, 11, 12, 13, 14, 15, 16, 17, 18, 19, 20, 21, 22, 23, 24, 25, 26, 27, 28, 29, 30, 31, 32, 33, 34, 35, 36, 37, 38, 39, 40, 41, 42, 43, 44, 45, 46, 47, 48, 49, 50, 51, 52, 53, 54, 55, 56, 57, 58, 59, 60, 61, 62, 63, 64, 65, 66, 67, 68, 69, 70, 71, 72, 73, 74, 75, 76, 77, 78, 79, 80, 81, 82, 83, 84, 85, 86, 87, 88, 89, 90, 91, 119, 120, 121] 122 11 118 (by kernel_rfl) (by decide) (by kernel_rfl) (by kernel_rfl) (by decide) (by kernel_rfl) (by kernel_rfl) (by kernel_rfl) rfl ⟨_, rfl, rfl, rfl, rfl, by kernel_rfl, by decide⟩ (fun t v w w' _ h => h) (by kernel_rfl) (fun v w h => h) (by kernel_rfl) ?hstep ?hend
                        case hstep =>
                         refine Gw.steps_cons ?s0 (Gw.steps_cons ?s1 (Gw.steps_cons ?s2 (Gw.steps_cons ?s3 (Gw.steps_cons ?s4 (Gw.steps_cons ?s5 (Gw.steps_cons ?s6 (Gw.steps_cons ?s7 (Gw.steps_cons ?s8 (Gw.steps_cons ?s9 (Gw.steps_cons ?s10 (Gw.steps_cons ?s11 (Gw.steps_cons ?s12 (Gw.steps_cons ?s13 (Gw.steps_cons ?s14 (Gw.steps_cons ?s15 (Gw.steps_cons ?s16 (Gw.steps_cons ?s17 (Gw.steps_cons ?s18 (Gw.steps_cons ?s19 (Gw.steps_cons ?s20 (Gw.steps_cons ?s21 (Gw.steps_cons ?s22 (Gw.steps_cons ?s23 (Gw.steps_cons ?s24 (Gw.steps_cons ?s25 (Gw.steps_cons ?s26 (Gw.steps_nil)))))))))))))))))))))))))))
                         case s0 => exact Gw.step_move 11 92 rfl rfl (Gw.guard_none rfl) (by kernel_rfl) (fun v w h => h)
                         case s1 => exact Gw.step_move 92 93 rfl rfl (Gw.guard_none rfl) (by kernel_rfl) (fun v w h => h)
                         case s2 => exact Gw_shut 1 93 94 false rfl (by kernel_rfl) (by kernel_rfl) (fun v w h e => by have h : v = .bool true := h; rw [h] at e; cases e) rfl (fun w => rfl)
                         case s3 => exact Gw_shut 1 93 95 false rfl (by kernel_rfl) (by kernel_rfl) (fun v w h e => by have h : v = .bool true := h; rw [h] at e; cases e) rfl (fun w => rfl)
                         case s4 => exact Gw_shut 1 93 96 false rfl (by kernel_rfl) (by kernel_rfl) (fun v w h e => by have h : v = .bool true := h; rw [h] at e; cases e) rfl (fun w => rfl)
                         case s5 => exact Gw_shut 1 93 97 false rfl (by kernel_rfl) (by kernel_rfl) (fun v w h e => by have h : v = .bool true := h; rw [h] at e; cases e) rfl (fun w => rfl)
                         case s6 => exact Gw_shut 1 93 98 false rfl (by kernel_rfl) (by kernel_rfl) (fun v w h e => by have h : v = .bool true := h; rw [h] at e; cases e) rfl (fun w => rfl)
                         case s7 => exact Gw_shut 1 93 99 false rfl (by kernel_rfl) (by kernel_rfl) (fun v w h e => by have h : v = .bool true := h; rw [h] at e; cases e) rfl (fun w => rfl)
                         case s8 => exact Gw_shut 1 93 100 false rfl (by kernel_rfl) (by kernel_rfl) (fun v w h e => by have h : v = .bool true := h; rw [h] at e; cases e) rfl (fun w => rfl)
                         case s9 => exact Gw_shut 1 93 101 false rfl (by kernel_rfl) (by kernel_rfl) (fun v w h e => by have h : v = .bool true := h; rw [h] at e; cases e) rfl (fun w => rfl)
                         case s10 => exact Gw_shut 1 93 102 false rfl (by kernel_rfl) (by kernel_rfl) (fun v w h e => by have h : v = .bool true := h; rw [h] at e; cases e) rfl (fun w => rfl)
                         case s11 => exact Gw_shut 1 93 103 false rfl (by kernel_rfl) (by kernel_rfl) (fun v w h e => by have h : v = .bool true := h; rw [h] at e; cases e) rfl (fun w => rfl)
                         case s12 => exact Gw_shut 1 93 104 false rfl (by kernel_rfl) (by kernel_rfl) (fun v w h e => by have h : v = .bool true := h; rw [h] at e; cases e) rfl (fun w => rfl)
                         case s13 => exact Gw_shut 1 93 105 false rfl (by kernel_rfl) (by kernel_rfl) (fun v w h e => by have h : v = .bool true := h; rw [h] at e; cases e) rfl (fun w => rfl)
                         case s14 => exact Gw_shut 13 105 106 true rfl (by kernel_rfl) (by kernel_rfl) (fun v w h e => by have h : v = undef := h; rw [h] at e; cases e) rfl (fun w => rfl)
                         case s15 => exact Gw_shut 13 105 107 true rfl (by kernel_rfl) (by kernel_rfl) (fun v w h e => by have h : v = undef := h; rw [h] at e; cases e) rfl (fun w => rfl)
                         case s16 => exact Gw_shut 13 105 108 true rfl (by kernel_rfl) (by kernel_rfl) (fun v w h e => by have h : v = undef := h; rw [h] at e; cases e) rfl (fun w => rfl)
                         case s17 => exact Gw_shut 13 105 109 true rfl (by kernel_rfl) (by kernel_rfl) (fun v w h e => by have h : v = undef := h; rw [h] at e; cases e) rfl (fun w => rfl)
                         case s18 => exact Gw_shut 13 105 110 true rfl (by kernel_rfl) (by kernel_rfl) (fun v w h e => by have h : v = undef := h; rw [h] at e; cases e) rfl (fun w => rfl)
                         case s19 => exact Gw_shut 13 105 111 true rfl (by kernel_rfl) (by kernel_rfl) (fun v w h e => by have h : v = undef := h; rw [h] at e; cases e) rfl (fun w => rfl)
                         case s20 => exact Gw_shut 13 105 112 true rfl (by kernel_rfl) (by kernel_rfl) (fun v w h e => by have h : v = undef := h; rw [h] at e; cases e) rfl (fun w => rfl)
                         case s21 => exact Gw_shut 13 105 113 true rfl (by kernel_rfl) (by kernel_rfl) (fun v w h e => by have h : v = undef := h; rw [h] at e; cases e) rfl (fun w => rfl)
                         case s22 => exact Gw_shut 13 105 114 true rfl (by kernel_rfl) (by kernel_rfl) (fun v w h e => by have h : v = undef := h; rw [h] at e; cases e) rfl (fun w => rfl)
                         case s23 => exact Gw_shut 13 105 115 true rfl (by kernel_rfl) (by kernel_rfl) (fun v w h e => by have h : v = undef := h; rw [h] at e; cases e) rfl (fun w => rfl)
                         case s24 => exact Gw_shut 13 105 116 true rfl (by kernel_rfl) (by kernel_rfl) (fun v w h e => by have h : v = undef := h; rw [h] at e; cases e) rfl (fun w => rfl)
                         case s25 => exact Gw_shut 1 93 117 false rfl (by kernel_rfl) (by kernel_rfl) (fun v w h e => by have h : v = .bool true := h; rw [h] at e; cases e) rfl (fun w => rfl)
                         case s26 => exact Gw_pick 93 (.const (.bool true)) (.tmp 117) 118 true (.bool true) rfl rfl (Gw.guard_none rfl) (by kernel_rfl) (fun v w h => h) (fun b w' hl => rfl) (fun w => rfl)
                        case hend =>
                         intro xs wz hGz _ hxl
                         have hBz := bthen hBq hGz.below
                         simp only [mixed, List.contains_cons, List.contains_nil, Nat.reduceBEq, Nat.reduceAdd, Bool.or_false, Bool.or_true, Bool.false_eq_true, if_false, if_true]
                         rw [hxl]
                         go_wp2
                         go_roundw
                         case rel =>
                          first
                           | exact ⟨k + 1, true, by omega, by go_num, rfl, ⟨fun _ => hnew.out, fun _ => rfl⟩, hBz⟩
                           | ((repeat apply Exists.intro); refine ⟨⟨k + 1, true, by omega, rfl, rfl, ⟨fun _ => hnew.out, fun _ => rfl⟩, hBz⟩, ?_⟩; repeat' (first | rfl | go_num | constructor))
                         case measure => simp [intOf]; omega
                      | false =>
                        rcases Int.lt_trichotomy (cmpDG (nth ys k) (nth M i)) 0 with hc | hc | hc
                        · have kL := fun W => less_yes hc W
                          have hne : ¬ nth ys k = nth M i := fun e => by rw [e] at hc; rw [(cmpDG_zero _ _).2 rfl] at hc; omega
                          have hnew : false = true ↔ ∃ t, t < k + 1 ∧ nth ys t = nth M i := ⟨fun h => (Bool.false_ne_true h).elim, fun ⟨t, ht, he⟩ => by
                            by_cases e : t = k
                            · subst e; exact absurd he hne
                            · exact absurd (hrb.out.2 ⟨t, by omega, he⟩) Bool.false_ne_true⟩
                          replace hnew : Hid (false = true ↔ ∃ t, t < k + 1 ∧ nth ys t = nth M i) := hnew
                          clear hc hne
                          go_wp2_with fail
                          refine wp_region_late (late28L p g 30 cap c' M.length i k (nth ys k) (nth M i)) (.bool false) [92, 93, 94, 95, 96, 97, 98, 99, 100, 101, 102, 103, 104, 105, 106, 107, 108, 109, 110, 111, 112, 113, 114, 115, 116, 117, 118] [0, 1, 2, 3, 4, 5, 6, 7, 8, 9, 10, 11, 12, 13, 14, 15, 16, 17, 18, 19, 20, 21, 22, 23, 24, 25, 26, 27, 28, 29, 30, 31, 32, 33, 34, 35, 36, 37, 38, 39, 40, 41, 42, 43, 44, 45, 46, 47, 48, 49, 50, 51, 52, 53, 54, 55, 56, 57, 58, 59, 60, 61, 62, 63, 64, 65, 66, 67, 68, 69, 70, 71, 72, 73, 74, 75, 76, 77, 78, 79, 80, 81, 82, 83, 84, 85, 86, 87, 88, 89, 90, 91, 119, 120, 121] 122 11 118 (by kernel_rfl) (by decide) (by kernel_rfl) (by kernel_rfl) (by decide) (by kernel_rfl) (by kernel_rfl) (by kernel_rfl) rfl ⟨_, rfl, rfl, rfl, rfl, by kernel_rfl, by decide⟩ (fun t v w w' _ h => h) (by kernel_rfl) (fun v w h => h) (by kernel_rfl) ?hstep ?hend
                          case hstep =>
                           refine Gw.steps_cons ?s0 (Gw.steps_cons ?s1 (Gw.steps_cons ?s2 (Gw.steps_cons ?s3 (Gw.steps_cons ?s4 (Gw.steps_cons ?s5 (Gw.steps_cons ?s6 (Gw.steps_cons ?s7 (Gw.steps_cons ?s8 (Gw.steps_cons ?s9 (Gw.steps_cons ?s10 (Gw.steps_cons ?s11 (Gw.steps_cons ?s12 (Gw.steps_cons ?s13 (Gw.steps_cons ?s14 (Gw.steps_cons ?s15 (Gw.steps_cons ?s16 (Gw.steps_cons ?s17 (Gw.steps_cons ?s18 (Gw.steps_cons ?s19 (Gw.steps_cons ?s20 (Gw.steps_cons ?s21 (Gw.steps_cons ?s22 (Gw.steps_cons ?s23 (Gw.steps_cons ?s24 (Gw.steps_cons ?s25 (Gw.steps_cons ?s26 (Gw.steps_nil)))))))))))))))))))))))))))
                           case s0 => exact Gw.step_move 11 92 rfl rfl (Gw.guard_none rfl) (by kernel_rfl) (fun v w h => h)
                           case s1 => exact Gw.step_move 92 93 rfl rfl (Gw.guard_none rfl) (by kernel_rfl) (fun v w h => h)
                           case s2 => exact Gw.step_move 5 94 rfl rfl (Gw_guard_open 1 93 false rfl (by kernel_rfl) (by kernel_rfl) (fun v w h => h)) (by kernel_rfl) (fun v w h => h)
                           case s3 => exact Gw.step_move 0 95 rfl rfl (Gw_guard_open 1 93 false rfl (by kernel_rfl) (by kernel_rfl) (fun v w h => h)) (by kernel_rfl) (fun v w h => h)
                           case s4 => exact Gw.step_move 12 96 rfl rfl (Gw_guard_open 1 93 false rfl (by kernel_rfl) (by kernel_rfl) (fun v w h => h)) (by kernel_rfl) (fun v w h => h)
                           case s5 =>
                            refine Gw.StepOk.of (Gw_guard_open 1 93 false rfl (by kernel_rfl) (by kernel_rfl) (fun v w h => h)) fun b w' hsz hW hl K hK => ?_
                            clear hsz
                            unfold Oper.wp
                            have e95 : b.tmps[95]?.getD undef = .slice (some p) 30 cap := getD' (Gw.look hl 95 (by kernel_rfl))
                            have e96 : b.tmps[96]?.getD undef = .int .i64 (k : Int) := getD' (Gw.look hl 96 (by kernel_rfl))
                            go_simp
                            exact hK _ _ (Grw.refl _) (Gw.dst_eq rfl rfl)
                           case s6 =>
                            refine Gw.StepOk.of (Gw_guard_open 1 93 false rfl (by kernel_rfl) (by kernel_rfl) (fun v w h => h)) fun b w' hsz hW hl K hK => ?_
                            clear hsz
                            unfold Oper.wp
                            have e97 : b.tmps[97]?.getD undef = .pointer (some (p.add (k * 3))) := getD' (Gw.look hl 97 (by kernel_rfl))
                            have kcx0 := hW.cell cx0
                            have kcx1 := hW.cell cx1
                            have kcx2 := hW.cell cx2
                            have kcy0 := hW.cell cy0
                            have kcy1 := hW.cell cy1
                            have kcy2 := hW.cell cy2
                            go_simp
                            exact hK _ _ (Grw.refl _) (Gw.dst_eq rfl rfl)
                           case s7 => exact Gw.step_move 4 99 rfl rfl (Gw_guard_open 1 93 false rfl (by kernel_rfl) (by kernel_rfl) (fun v w h => h)) (by kernel_rfl) (fun v w h => h)
                           case s8 => exact Gw.step_move 10 100 rfl rfl (Gw_guard_open 1 93 false rfl (by kernel_rfl) (by kernel_rfl) (fun v w h => h)) (by kernel_rfl) (fun v w h => h)
                           case s9 =>
                            refine Gw.StepOk.of (Gw_guard_open 1 93 false rfl (by kernel_rfl) (by kernel_rfl) (fun v w h => h)) fun b w' hsz hW hl K hK => ?_
                            clear hsz
                            unfold Oper.wp
                            have e99 : b.tmps[99]?.getD undef = .slice (some ⟨g, 0, none⟩) M.length c' := getD' (Gw.look hl 99 (by kernel_rfl))
                            have e100 : b.tmps[100]?.getD undef = .int .i64 (i : Int) := getD' (Gw.look hl 100 (by kernel_rfl))
                            go_simp
                            exact hK _ _ (Grw.refl _) (Gw.dst_eq rfl rfl)
                           case s10 =>
                            refine Gw.StepOk.of (Gw_guard_open 1 93 false rfl (by kernel_rfl) (by kernel_rfl) (fun v w h => h)) fun b w' hsz hW hl K hK => ?_
                            clear hsz
                            unfold Oper.wp
                            have e101 : b.tmps[101]?.getD undef = .pointer (some ⟨g, i * 3, none⟩) := getD' (Gw.look hl 101 (by kernel_rfl))
                            have kcx0 := hW.cell cx0
                            have kcx1 := hW.cell cx1
                            have kcx2 := hW.cell cx2
                            have kcy0 := hW.cell cy0
                            have kcy1 := hW.cell cy1
                            have kcy2 := hW.cell cy2
                            go_simp
                            exact hK _ _ (Grw.refl _) (Gw.dst_eq rfl rfl)
                           case s11 => exact Gw_callv2 11 94 98 102 103 _ (by kernel_rfl) rfl rfl (Gw_guard_open 1 93 false rfl (by kernel_rfl) (by kernel_rfl) (fun v w h => h)) (by kernel_rfl) (by kernel_rfl) (by kernel_rfl) (fun v w h => h) (fun x y w' hW hx hy => by have hx : x = .agg #[.string (nth ys k).pkg, .string (nth ys k).file, .int .i64 (nth ys k).at'] := hx; have hy : y = .agg #[.string (nth M i).pkg, .string (nth M i).file, .int .i64 (nth M i).at'] := hy; subst hx; subst hy; exact (kL w').mono fun e w'' h => ⟨_, h.1, rfl, h.2⟩)
                           case s12 =>
                            refine Gw.StepOk.of (Gw_guard_open 1 93 false rfl (by kernel_rfl) (by kernel_rfl) (fun v w h => h)) fun b w' hsz hW hl K hK => ?_
                            clear hsz
                            unfold Oper.wp
                            have e103 : b.tmps[103]?.getD undef = .bool true := getD' (Gw.look hl 103 (by kernel_rfl))
                            go_simp
                            exact hK _ _ (Grw.refl _) (Gw.dst_eq rfl rfl)
                           case s13 => exact Gw.step_move 104 105 rfl rfl (Gw_guard_open 1 93 false rfl (by kernel_rfl) (by kernel_rfl) (fun v w h => h)) (by kernel_rfl) (fun v w h => h)
                           case s14 => exact Gw_shut 13 105 106 true rfl (by kernel_rfl) (by kernel_rfl) (fun v w h e => by have h : v = .bool false := h; rw [h] at e; cases e) rfl (fun w => rfl)
                           case s15 => exact Gw_shut 13 105 107 true rfl (by kernel_rfl) (by kernel_rfl) (fun v w h e => by have h : v = .bool false := h; rw [h] at e; cases e) rfl (fun w => rfl)
                           case s16 => exact Gw_shut 13 105 108 true rfl (by kernel_rfl) (by kernel_rfl) (fun v w h e => by have h : v = .bool false := h; rw [h] at e; cases e) rfl (fun w => rfl)
                           case s17 => exact Gw_shut 13 105 109 true rfl (by kernel_rfl) (by kernel_rfl) (fun v w h e => by have h : v = .bool false := h; rw [h] at e; cases e) rfl (fun w => rfl)
                           case s18 => exact Gw_shut 13 105 110 true rfl (by kernel_rfl) (by kernel_rfl) (fun v w h e => by have h : v = .bool false := h; rw [h] at e; cases e) rfl (fun w => rfl)
                           case s19 => exact Gw_shut 13 105 111 true rfl (by kernel_rfl) (by kernel_rfl) (fun v w h e => by have h : v = .bool false := h; rw [h] at e; cases e) rfl (fun w => rfl)
                           case s20 => exact Gw_shut 13 105 112 true rfl (by kernel_rfl) (by kernel_rfl) (fun v w h e => by have h : v = .bool false := h; rw [h] at e; cases e) rfl (fun w => rfl)
                           case s21 => exact Gw_shut 13 105 113 true rfl (by kernel_rfl) (by kernel_rfl) (fun v w h e => by have h : v = .bool false := h; rw [h] at e; cases e) rfl (fun w => rfl)
                           case s22 => exact Gw_shut 13 105 114 true rfl (by kernel_rfl) (by kernel_rfl) (fun v w h e => by have h : v = .bool false := h; rw [h] at e; cases e) rfl (fun w => rfl)
                           case s23 => exact Gw_shut 13 105 115 true rfl (by kernel_rfl) (by kernel_rfl) (fun v w h e => by have h : v = .bool false := h; rw [h] at e; cases e) rfl (fun w => rfl)
                           case s24 => exact Gw_shut 13 105 116 true rfl (by kernel_rfl) (by kernel_rfl) (fun v w h e => by have h : v = .bool false := h; rw [h] at e; cases e) rfl (fun w => rfl)
                           case s25 => exact Gw_pick 105 (.tmp 116) (.const (.bool false)) 117 false (.bool false) rfl rfl (Gw_guard_open 1 93 false rfl (by kernel_rfl) (by kernel_rfl) (fun v w h => h)) (by kernel_rfl) (fun v w h => h) (fun b w' hl => rfl) (fun w => rfl)
                           case s26 => exact Gw_pick 93 (.const (.bool true)) (.tmp 117) 118 false (.bool false) rfl rfl (Gw.guard_none rfl) (by kernel_rfl) (fun v w h => h) (fun b w' hl => Gw.look hl 117 (by kernel_rfl)) (fun w => rfl)
                          case hend =>
                           intro xs wz hGz _ hxl
                           have hBz := bthen hBq hGz.below
                           simp only [mixed, List.contains_cons, List.contains_nil, Nat.reduceBEq, Nat.reduceAdd, Bool.or_false, Bool.or_true, Bool.false_eq_true, if_false, if_true]
                           rw [hxl]
                           go_wp2
                           go_roundw
                           case rel =>
                            first
                             | exact ⟨k + 1, false, by omega, by go_num, rfl, hnew.out, hBz⟩
                             | ((repeat apply Exists.intro); refine ⟨⟨k + 1, false, by omega, rfl, rfl, hnew.out, hBz⟩, ?_⟩; repeat' (first | rfl | go_num | constructor))
                           case measure => simp [intOf]; omega
                        · have kL := fun W => less_no (show ¬ cmpDG (nth ys k) (nth M i) < 0 by omega) W
                          have kM := fun W => less_no (show ¬ cmpDG (nth M i) (nth ys k) < 0 by have := cmpDG_cmp.anti (nth ys k) (nth M i); omega) W
                          have heq : nth ys k = nth M i := (cmpDG_zero _ _).1 hc
                          have hnew : ∃ t, t < k + 1 ∧ nth ys t = nth M i := ⟨k, by omega, heq⟩
                          replace hnew : Hid (∃ t, t < k + 1 ∧ nth ys t = nth M i) := hnew
                          clear hc heq
                          go_wp2_with fail
                          refine wp_region_late (late28E p g 30 cap c' M.length i k (nth ys k) (nth M i)) (.bool true) [92, 93, 94, 95, 96, 97, 98, 99, 100, 101, 102, 103, 104, 105, 106, 107, 108, 109, 110, 111, 112, 113, 114, 115, 116, 117, 118] [0, 1, 2, 3, 4, 5, 6, 7, 8, 9, 10, 11, 12, 13, 14, 15, 16, 17, 18, 19, 20, 21, 22, 23, 24, 25, 26, 27, 28, 29, 30, 31, 32, 33, 34, 35, 36, 37, 38, 39, 40, 41, 42, 43, 44, 45, 46, 47, 48, 49, 50, 51, 52, 53, 54, 55, 56, 57, 58, 59, 60, 61, 62, 63, 64, 65, 66, 67, 68, 69, 70, 71, 72, 73, 74, 75, 76, 77, 78, 79, 80, 81, 82, 83, 84, 85, 86, 87, 88, 89, 90, 91, 119, 120, 121] 122 11 118 (by kernel_rfl) (by decide) (by kernel_rfl) (by kernel_rfl) (by decide) (by kernel_rfl) (by kernel_rfl) (by kernel_rfl) rfl ⟨_, rfl, rfl, rfl, rfl, by kernel_rfl, by decide⟩ (fun t v w w' _ h => h) (by kernel_rfl) (fun v w h => h) (by kernel_rfl) ?hstep ?hend
                          case hstep =>
                           refine Gw.steps_cons ?s0 (Gw.steps_cons ?s1 (Gw.steps_cons ?s2 (Gw.steps_cons ?s3 (Gw.steps_cons ?s4 (Gw.steps_cons ?s5 (Gw.steps_cons ?s6 (Gw.steps_cons ?s7 (Gw.steps_cons ?s8 (Gw.steps_cons ?s9 (Gw.steps_cons ?s10 (Gw.steps_cons ?s11 (Gw.steps_cons ?s12 (Gw.steps_cons ?s13 (Gw.steps_cons ?s14 (Gw.steps_cons ?s15 (Gw.steps_cons ?s16 (Gw.steps_cons ?s17 (Gw.steps_cons ?s18 (Gw.steps_cons ?s19 (Gw.steps_cons ?s20 (Gw.steps_cons ?s21 (Gw.steps_cons ?s22 (Gw.steps_cons ?s23 (Gw.steps_cons ?s24 (Gw.steps_cons ?s25 (Gw.steps_cons ?s26 (Gw.steps_nil)))))))))))))))))))))))))))
                           case s0 => exact Gw.step_move 11 92 rfl rfl (Gw.guard_none rfl) (by kernel_rfl) (fun v w h => h)
                           case s1 => exact Gw.step_move 92 93 rfl rfl (Gw.guard_none rfl) (by kernel_rfl) (fun v w h => h)
                           case s2 => exact Gw.step_move 5 94 rfl rfl (Gw_guard_open 1 93 false rfl (by kernel_rfl) (by kernel_rfl) (fun v w h => h)) (by kernel_rfl) (fun v w h => h)
                           case s3 => exact Gw.step_move 0 95 rfl rfl (Gw_guard_open 1 93 false rfl (by kernel_rfl) (by kernel_rfl) (fun v w h => h)) (by kernel_rfl) (fun v w h => h)
                           case s4 => exact Gw.step_move 12 96 rfl rfl (Gw_guard_open 1 93 false rfl (by kernel_rfl) (by kernel_rfl) (fun v w h => h)) (by kernel_rfl) (fun v w h => h)
                           case s5 =>
                            refine Gw.StepOk.of (Gw_guard_open 1 93 false rfl (by kernel_rfl) (by kernel_rfl) (fun v w h => h)) fun b w' hsz hW hl K hK => ?_
                            clear hsz
                            unfold Oper.wp
                            have e95 : b.tmps[95]?.getD undef = .slice (some p) 30 cap := getD' (Gw.look hl 95 (by kernel_rfl))
                            have e96 : b.tmps[96]?.getD undef = .int .i64 (k : Int) := getD' (Gw.look hl 96 (by kernel_rfl))
                            go_simp
                            exact hK _ _ (Grw.refl _) (Gw.dst_eq rfl rfl)
                           case s6 =>
                            refine Gw.StepOk.of (Gw_guard_open 1 93 false rfl (by kernel_rfl) (by kernel_rfl) (fun v w h => h)) fun b w' hsz hW hl K hK => ?_
                            clear hsz
                            unfold Oper.wp
                            have e97 : b.tmps[97]?.getD undef = .pointer (some (p.add (k * 3))) := getD' (Gw.look hl 97 (by kernel_rfl))
                            have kcx0 := hW.cell cx0
                            have kcx1 := hW.cell cx1
                            have kcx2 := hW.cell cx2
                            have kcy0 := hW.cell cy0
                            have kcy1 := hW.cell cy1
                            have kcy2 := hW.cell cy2
                            go_simp
                            exact hK _ _ (Grw.refl _) (Gw.dst_eq rfl rfl)
                           case s7 => exact Gw.step_move 4 99 rfl rfl (Gw_guard_open 1 93 false rfl (by kernel_rfl) (by kernel_rfl) (fun v w h => h)) (by kernel_rfl) (fun v w h => h)
                           case s8 => exact Gw.step_move 10 100 rfl rfl (Gw_guard_open 1 93 false rfl (by kernel_rfl) (by kernel_rfl) (fun v w h => h)) (by kernel_rfl) (fun v w h => h)
                           case s9 =>
                            refine Gw.StepOk.of (Gw_guard_open 1 93 false rfl (by kernel_rfl) (by kernel_rfl) (fun v w h => h)) fun b w' hsz hW hl K hK => ?_
                            clear hsz
                            unfold Oper.wp
                            have e99 : b.tmps[99]?.getD undef = .slice (some ⟨g, 0, none⟩) M.length c' := getD' (Gw.look hl 99 (by kernel_rfl))
                            have e100 : b.tmps[100]?.getD undef = .int .i64 (i : Int) := getD' (Gw.look hl 100 (by kernel_rfl))
                            go_simp
                            exact hK _ _ (Grw.refl _) (Gw.dst_eq rfl rfl)
                           case s10 =>
                            refine Gw.StepOk.of (Gw_guard_open 1 93 false rfl (by kernel_rfl) (by kernel_rfl) (fun v w h => h)) fun b w' hsz hW hl K hK => ?_
                            clear hsz
                            unfold Oper.wp
                            have e101 : b.tmps[101]?.getD undef = .pointer (some ⟨g, i * 3, none⟩) := getD' (Gw.look hl 101 (by kernel_rfl))
                            have kcx0 := hW.cell cx0
                            have kcx1 := hW.cell cx1
                            have kcx2 := hW.cell cx2
                            have kcy0 := hW.cell cy0
                            have kcy1 := hW.cell cy1
                            have kcy2 := hW.cell cy2
                            go_simp
                            exact hK _ _ (Grw.refl _) (Gw.dst_eq rfl rfl)
                           case s11 => exact Gw_callv2 11 94 98 102 103 _ (by kernel_rfl) rfl rfl (Gw_guard_open 1 93 false rfl (by kernel_rfl) (by kernel_rfl) (fun v w h => h)) (by kernel_rfl) (by kernel_rfl) (by kernel_rfl) (fun v w h => h) (fun x y w' hW hx hy => by have hx : x = .agg #[.string (nth ys k).pkg, .string (nth ys k).file, .int .i64 (nth ys k).at'] := hx; have hy : y = .agg #[.string (nth M i).pkg, .string (nth M i).file, .int .i64 (nth M i).at'] := hy; subst hx; subst hy; exact (kL w').mono fun e w'' h => ⟨_, h.1, rfl, h.2⟩)
                           case s12 =>
                            refine Gw.StepOk.of (Gw_guard_open 1 93 false rfl (by kernel_rfl) (by kernel_rfl) (fun v w h => h)) fun b w' hsz hW hl K hK => ?_
                            clear hsz
                            unfold Oper.wp
                            have e103 : b.tmps[103]?.getD undef = .bool false := getD' (Gw.look hl 103 (by kernel_rfl))
                            go_simp
                            exact hK _ _ (Grw.refl _) (Gw.dst_eq rfl rfl)
                           case s13 => exact Gw.step_move 104 105 rfl rfl (Gw_guard_open 1 93 false rfl (by kernel_rfl) (by kernel_rfl) (fun v w h => h)) (by kernel_rfl) (fun v w h => h)
                           case s14 => exact Gw.step_move 5 106 rfl rfl (Gw_guard_open 13 105 true rfl (by kernel_rfl) (by kernel_rfl) (fun v w h => h)) (by kernel_rfl) (fun v w h => h)
                           case s15 => exact Gw.step_move 4 107 rfl rfl (Gw_guard_open 13 105 true rfl (by kernel_rfl) (by kernel_rfl) (fun v w h => h)) (by kernel_rfl) (fun v w h => h)
                           case s16 => exact Gw.step_move 10 108 rfl rfl (Gw_guard_open 13 105 true rfl (by kernel_rfl) (by kernel_rfl) (fun v w h => h)) (by kernel_rfl) (fun v w h => h)
                           case s17 =>
                            refine Gw.StepOk.of (Gw_guard_open 13 105 true rfl (by kernel_rfl) (by kernel_rfl) (fun v w h => h)) fun b w' hsz hW hl K hK => ?_
                            clear hsz
                            unfold Oper.wp
                            have e107 : b.tmps[107]?.getD undef = .slice (some ⟨g, 0, none⟩) M.length c' := getD' (Gw.look hl 107 (by kernel_rfl))
                            have e108 : b.tmps[108]?.getD undef = .int .i64 (i : Int) := getD' (Gw.look hl 108 (by kernel_rfl))
                            go_simp
                            exact hK _ _ (Grw.refl _) (Gw.dst_eq rfl rfl)
                           case s18 =>
                            refine Gw.StepOk.of (Gw_guard_open 13 105 true rfl (by kernel_rfl) (by kernel_rfl) (fun v w h => h)) fun b w' hsz hW hl K hK => ?_
                            clear hsz
                            unfold Oper.wp
                            have e109 : b.tmps[109]?.getD undef = .pointer (some ⟨g, i * 3, none⟩) := getD' (Gw.look hl 109 (by kernel_rfl))
                            have kcx0 := hW.cell cx0
                            have kcx1 := hW.cell cx1
                            have kcx2 := hW.cell cx2
                            have kcy0 := hW.cell cy0
                            have kcy1 := hW.cell cy1
                            have kcy2 := hW.cell cy2
                            go_simp
                            exact hK _ _ (Grw.refl _) (Gw.dst_eq rfl rfl)
                           case s19 => exact Gw.step_move 0 111 rfl rfl (Gw_guard_open 13 105 true rfl (by kernel_rfl) (by kernel_rfl) (fun v w h => h)) (by kernel_rfl) (fun v w h => h)
                           case s20 => exact Gw.step_move 12 112 rfl rfl (Gw_guard_open 13 105 true rfl (by kernel_rfl) (by kernel_rfl) (fun v w h => h)) (by kernel_rfl) (fun v w h => h)
                           case s21 =>
                            refine Gw.StepOk.of (Gw_guard_open 13 105 true rfl (by kernel_rfl) (by kernel_rfl) (fun v w h => h)) fun b w' hsz hW hl K hK => ?_
                            clear hsz
                            unfold Oper.wp
                            have e111 : b.tmps[111]?.getD undef = .slice (some p) 30 cap := getD' (Gw.look hl 111 (by kernel_rfl))
                            have e112 : b.tmps[112]?.getD undef = .int .i64 (k : Int) := getD' (Gw.look hl 112 (by kernel_rfl))
                            go_simp
                            exact hK _ _ (Grw.refl _) (Gw.dst_eq rfl rfl)
                           case s22 =>
                            refine Gw.StepOk.of (Gw_guard_open 13 105 true rfl (by kernel_rfl) (by kernel_rfl) (fun v w h => h)) fun b w' hsz hW hl K hK => ?_
                            clear hsz
                            unfold Oper.wp
                            have e113 : b.tmps[113]?.getD undef = .pointer (some (p.add (k * 3))) := getD' (Gw.look hl 113 (by kernel_rfl))
                            have kcx0 := hW.cell cx0
                            have kcx1 := hW.cell cx1
                            have kcx2 := hW.cell cx2
                            have kcy0 := hW.cell cy0
                            have kcy1 := hW.cell cy1
                            have kcy2 := hW.cell cy2
                            go_simp
                            exact hK _ _ (Grw.refl _) (Gw.dst_eq rfl rfl)
                           case s23 => exact Gw_callv2 11 106 110 114 115 _ (by kernel_rfl) rfl rfl (Gw_guard_open 13 105 true rfl (by kernel_rfl) (by kernel_rfl) (fun v w h => h)) (by kernel_rfl) (by kernel_rfl) (by kernel_rfl) (fun v w h => h) (fun x y w' hW hx hy => by have hx : x = .agg #[.string (nth M i).pkg, .string (nth M i).file, .int .i64 (nth M i).at'] := hx; have hy : y = .agg #[.string (nth ys k).pkg, .string (nth ys k).file, .int .i64 (nth ys k).at'] := hy; subst hx; subst hy; exact (kM w').mono fun e w'' h => ⟨_, h.1, rfl, h.2⟩)
                           case s24 =>
                            refine Gw.StepOk.of (Gw_guard_open 13 105 true rfl (by kernel_rfl) (by kernel_rfl) (fun v w h => h)) fun b w' hsz hW hl K hK => ?_
                            clear hsz
                            unfold Oper.wp
                            have e115 : b.tmps[115]?.getD undef = .bool false := getD' (Gw.look hl 115 (by kernel_rfl))
                            go_simp
                            exact hK _ _ (Grw.refl _) (Gw.dst_eq rfl rfl)
                           case s25 => exact Gw_pick 105 (.tmp 116) (.const (.bool false)) 117 true (.bool true) rfl rfl (Gw_guard_open 1 93 false rfl (by kernel_rfl) (by kernel_rfl) (fun v w h => h)) (by kernel_rfl) (fun v w h => h) (fun b w' hl => Gw.look hl 116 (by kernel_rfl)) (fun w => rfl)
                           case s26 => exact Gw_pick 93 (.const (.bool true)) (.tmp 117) 118 false (.bool true) rfl rfl (Gw.guard_none rfl) (by kernel_rfl) (fun v w h => h) (fun b w' hl => Gw.look hl 117 (by kernel_rfl)) (fun w => rfl)
                          case hend =>
                           intro xs wz hGz _ hxl
                           have hBz := bthen hBq hGz.below
                           simp only [mixed, List.contains_cons, List.contains_nil, Nat.reduceBEq, Nat.reduceAdd, Bool.or_false, Bool.or_true, Bool.false_eq_true, if_false, if_true]
                           rw [hxl]
                           go_wp2
                           go_roundw
                           case rel =>
                            first
                             | exact ⟨k + 1, true, by omega, by go_num, rfl, ⟨fun _ => hnew.out, fun _ => rfl⟩, hBz⟩
                             | ((repeat apply Exists.intro); refine ⟨⟨k + 1, true, by omega, rfl, rfl, ⟨fun _ => hnew.out, fun _ => rfl⟩, hBz⟩, ?_⟩; repeat' (first | rfl | go_num | constructor))
                           case measure => simp [intOf]; omega
                        · have kL := fun W => less_no (show ¬ cmpDG (nth ys k) (nth M i) < 0 by omega) W
                          have kM := fun W => less_yes (show cmpDG (nth M i) (nth ys k) < 0 by have := cmpDG_cmp.anti (nth ys k) (nth M i); omega) W
                          have hne : ¬ nth ys k = nth M i := fun e => by rw [e] at hc; rw [(cmpDG_zero _ _).2 rfl] at hc; omega
                          have hnew : false = true ↔ ∃ t, t < k + 1 ∧ nth ys t = nth M i := ⟨fun h => (Bool.false_ne_true h).elim, fun ⟨t, ht, he⟩ => by
                            by_cases e : t = k
                            · subst e; exact absurd he hne
                            · exact absurd (hrb.out.2 ⟨t, by omega, he⟩) Bool.false_ne_true⟩
                          replace hnew : Hid (false = true ↔ ∃ t, t < k + 1 ∧ nth ys t = nth M i) := hnew
                          clear hc hne
                          go_wp2_with fail
                          refine wp_region_late (late28G p g 30 cap c' M.length i k (nth ys k) (nth M i)) (.bool false) [92, 93, 94, 95, 96, 97, 98, 99, 100, 101, 102, 103, 104, 105, 106, 107, 108, 109, 110, 111, 112, 113, 114, 115, 116, 117, 118] [0, 1, 2, 3, 4, 5, 6, 7, 8, 9, 10, 11, 12, 13, 14, 15, 16, 17, 18, 19, 20, 21, 22, 23, 24, 25, 26, 27, 28, 29, 30, 31, 32, 33, 34, 35, 36, 37, 38, 39, 40, 41, 42, 43, 44, 45, 46, 47, 48, 49, 50, 51, 52, 53, 54, 55, 56, 57, 58, 59, 60, 61, 62, 63, 64, 65, 66, 67, 68, 69, 70, 71, 72, 73, 74, 75, 76, 77, 78, 79, 80, 81, 82, 83, 84, 85, 86, 87, 88, 89, 90, 91, 119, 120, 121] 122 11 118 (by kernel_rfl) (by decide) (by kernel_rfl) (by kernel_rfl) (by decide) (by kernel_rfl) (by kernel_rfl) (by kernel_rfl) rfl ⟨_, rfl, rfl, rfl, rfl, by kernel_rfl, by decide⟩ (fun t v w w' _ h => h) (by kernel_rfl) (fun v w h => h) (by kernel_rfl) ?hstep ?hend
                          case hstep =>
                           refine Gw.steps_cons ?s0 (Gw.steps_cons ?s1 (Gw.steps_cons ?s2 (Gw.steps_cons ?s3 (Gw.steps_cons ?s4 (Gw.steps_cons ?s5 (Gw.steps_cons ?s6 (Gw.steps_cons ?s7 (Gw.steps_cons ?s8 (Gw.steps_cons ?s9 (Gw.steps_cons ?s10 (Gw.steps_cons ?s11 (Gw.steps_cons ?s12 (Gw.steps_cons ?s13 (Gw.steps_cons ?s14 (Gw.steps_cons ?s15 (Gw.steps_cons ?s16 (Gw.steps_cons ?s17 (Gw.steps_cons ?s18 (Gw.steps_cons ?s19 (Gw.steps_cons ?s20 (Gw.steps_cons ?s21 (Gw.steps_cons ?s22 (Gw.steps_cons ?s23 (Gw.steps_cons ?s24 (Gw.steps_cons ?s25 (Gw.steps_cons ?s26 (Gw.steps_nil)))))))))))))))))))))))))))
                           case s0 => exact Gw.step_move 11 92 rfl rfl (Gw.guard_none rfl) (by kernel_rfl) (fun v w h => h)
                           case s1 => exact Gw.step_move 92 93 rfl rfl (Gw.guard_none rfl) (by kernel_rfl) (fun v w h => h)
                           case s2 => exact Gw.step_move 5 94 rfl rfl (Gw_guard_open 1 93 false rfl (by kernel_rfl) (by kernel_rfl) (fun v w h => h)) (by kernel_rfl) (fun v w h => h)
                           case s3 => exact Gw.step_move 0 95 rfl rfl (Gw_guard_open 1 93 false rfl (by kernel_rfl) (by kernel_rfl) (fun v w h => h)) (by kernel_rfl) (fun v w h => h)
                           case s4 => exact Gw.step_move 12 96 rfl rfl (Gw_guard_open 1 93 false rfl (by kernel_rfl) (by kernel_rfl) (fun v w h => h)) (by kernel_rfl) (fun v w h => h)
                           case s5 =>
                            refine Gw.StepOk.of (Gw_guard_open 1 93 false rfl (by kernel_rfl) (by kernel_rfl) (fun v w h => h)) fun b w' hsz hW hl K hK => ?_
                            clear hsz
                            unfold Oper.wp
                            have e95 : b.tmps[95]?.getD undef = .slice (some p) 30 cap := getD' (Gw.look hl 95 (by kernel_rfl))
                            have e96 : b.tmps[96]?.getD undef = .int .i64 (k : Int) := getD' (Gw.look hl 96 (by kernel_rfl))
                            go_simp
                            exact hK _ _ (Grw.refl _) (Gw.dst_eq rfl rfl)
                           case s6 =>
                            refine Gw.StepOk.of (Gw_guard_open 1 93 false rfl (by kernel_rfl) (by kernel_rfl) (fun v w h => h)) fun b w' hsz hW hl K hK => ?_
                            clear hsz
                            unfold Oper.wp
                            have e97 : b.tmps[97]?.getD undef = .pointer (some (p.add (k * 3))) := getD' (Gw.look hl 97 (by kernel_rfl))
                            have kcx0 := hW.cell cx0
                            have kcx1 := hW.cell cx1
                            have kcx2 := hW.cell cx2
                            have kcy0 := hW.cell cy0
                            have kcy1 := hW.cell cy1
                            have kcy2 := hW.cell cy2
                            go_simp
                            exact hK _ _ (Grw.refl _) (Gw.dst_eq rfl rfl)
                           case s7 => exact Gw.step_move 4 99 rfl rfl (Gw_guard_open 1 93 false rfl (by kernel_rfl) (by kernel_rfl) (fun v w h => h)) (by kernel_rfl) (fun v w h => h)
                           case s8 => exact Gw.step_move 10 100 rfl rfl (Gw_guard_open 1 93 false rfl (by kernel_rfl) (by kernel_rfl) (fun v w h => h)) (by kernel_rfl) (fun v w h => h)
                           case s9 =>
                            refine Gw.StepOk.of (Gw_guard_open 1 93 false rfl (by kernel_rfl) (by kernel_rfl) (fun v w h => h)) fun b w' hsz hW hl K hK => ?_
                            clear hsz
                            unfold Oper.wp
                            have e99 : b.tmps[99]?.getD undef = .slice (some ⟨g, 0, none⟩) M.length c' := getD' (Gw.look hl 99 (by kernel_rfl))
                            have e100 : b.tmps[100]?.getD undef = .int .i64 (i : Int) := getD' (Gw.look hl 100 (by kernel_rfl))
                            go_simp
                            exact hK _ _ (Grw.refl _) (Gw.dst_eq rfl rfl)
                           case s10 =>
                            refine Gw.StepOk.of (Gw_guard_open 1 93 false rfl (by kernel_rfl) (by kernel_rfl) (fun v w h => h)) fun b w' hsz hW hl K hK => ?_
                            clear hsz
                            unfold Oper.wp
                            have e101 : b.tmps[101]?.getD undef = .pointer (some ⟨g, i * 3, none⟩) := getD' (Gw.look hl 101 (by kernel_rfl))
                            have kcx0 := hW.cell cx0
                            have kcx1 := hW.cell cx1
                            have kcx2 := hW.cell cx2
                            have kcy0 := hW.cell cy0
                            have kcy1 := hW.cell cy1
                            have kcy2 := hW.cell cy2
                            go_simp
                            exact hK _ _ (Grw.refl _) (Gw.dst_eq rfl rfl)
                           case s11 => exact Gw_callv2 11 94 98 102 103 _ (by kernel_rfl) rfl rfl (Gw_guard_open 1 93 false rfl (by kernel_rfl) (by kernel_rfl) (fun v w h => h)) (by kernel_rfl) (by kernel_rfl) (by kernel_rfl) (fun v w h => h) (fun x y w' hW hx hy => by have hx : x = .agg #[.string (nth ys k).pkg, .string (nth ys k).file, .int .i64 (nth ys k).at'] := hx; have hy : y = .agg #[.string (nth M i).pkg, .string (nth M i).file, .int .i64 (nth M i).at'] := hy; subst hx; subst hy; exact (kL w').mono fun e w'' h => ⟨_, h.1, rfl, h.2⟩)
                           case s12 =>
                            refine Gw.StepOk.of (Gw_guard_open 1 93 false rfl (by kernel_rfl) (by kernel_rfl) (fun v w h => h)) fun b w' hsz hW hl K hK => ?_
                            clear hsz
                            unfold Oper.wp
                            have e103 : b.tmps[103]?.getD undef = .bool false := getD' (Gw.look hl 103 (by kernel_rfl))
                            go_simp
                            exact hK _ _ (Grw.refl _) (Gw.dst_eq rfl rfl)
                           case s13 => exact Gw.step_move 104 105 rfl rfl (Gw_guard_open 1 93 false rfl (by kernel_rfl) (by kernel_rfl) (fun v w h => h)) (by kernel_rfl) (fun v w h => h)
                           case s14 => exact Gw.step_move 5 106 rfl rfl (Gw_guard_open 13 105 true rfl (by kernel_rfl) (by kernel_rfl) (fun v w h => h)) (by kernel_rfl) (fun v w h => h)
                           case s15 => exact Gw.step_move 4 107 rfl rfl (Gw_guard_open 13 105 true rfl (by kernel_rfl) (by kernel_rfl) (fun v w h => h)) (by kernel_rfl) (fun v w h => h)
                           case s16 => exact Gw.step_move 10 108 rfl rfl (Gw_guard_open 13 105 true rfl (by kernel_rfl) (by kernel_rfl) (fun v w h => h)) (by kernel_rfl) (fun v w h => h)
                           case s17 =>
                            refine Gw.StepOk.of (Gw_guard_open 13 105 true rfl (by kernel_rfl) (by kernel_rfl) (fun v w h => h)) fun b w' hsz hW hl K hK => ?_
                            clear hsz
                            unfold Oper.wp
                            have e107 : b.tmps[107]?.getD undef = .slice (some ⟨g, 0, none⟩) M.length c' := getD' (Gw.look hl 107 (by kernel_rfl))
                            have e108 : b.tmps[108]?.getD undef = .int .i64 (i : Int) := getD' (Gw.look hl 108 (by kernel_rfl))
                            go_simp
                            exact hK _ _ (Grw.refl _) (Gw.dst_eq rfl rfl)
                           case s18 =>
                            refine Gw.StepOk.of (Gw_guard_open 13 105 true rfl (by kernel_rfl) (by kernel_rfl) (fun v w h => h)) fun b w' hsz hW hl K hK => ?_
                            clear hsz
                            unfold Oper.wp
                            have e109 : b.tmps[109]?.getD undef = .pointer (some ⟨g, i * 3, none⟩) := getD' (Gw.look hl 109 (by kernel_rfl))
                            have kcx0 := hW.cell cx0
                            have kcx1 := hW.cell cx1
                            have kcx2 := hW.cell cx2
                            have kcy0 := hW.cell cy0
                            have kcy1 := hW.cell cy1
                            have kcy2 := hW.cell cy2
                            go_simp
                            exact hK _ _ (Grw.refl _) (Gw.dst_eq rfl rfl)
                           case s19 => exact Gw.step_move 0 111 rfl rfl (Gw_guard_open 13 105 true rfl (by kernel_rfl) (by kernel_rfl) (fun v w h => h)) (by kernel_rfl) (fun v w h => h)
                           case s20 => exact Gw.step_move 12 112 rfl rfl (Gw_guard_open 13 105 true rfl (by kernel_rfl) (by kernel_rfl) (fun v w h => h)) (by kernel_rfl) (fun v w h => h)
                           case s21 =>
                            refine Gw.StepOk.of (Gw_guard_open 13 105 true rfl (by kernel_rfl) (by kernel_rfl) (fun v w h => h)) fun b w' hsz hW hl K hK => ?_
                            clear hsz
                            unfold Oper.wp
                            have e111 : b.tmps[111]?.getD undef = .slice (some p) 30 cap := getD' (Gw.look hl 111 (by kernel_rfl))
                            have e112 : b.tmps[112]?.getD undef = .int .i64 (k : Int) := getD' (Gw.look hl 112 (by kernel_rfl))
                            go_simp
                            exact hK _ _ (Grw.refl _) (Gw.dst_eq rfl rfl)
                           case s22 =>
                            refine Gw.StepOk.of (Gw_guard_open 13 105 true rfl (by kernel_rfl) (by kernel_rfl) (fun v w h => h)) fun b w' hsz hW hl K hK => ?_
                            clear hsz
                            unfold Oper.wp
                            have e113 : b.tmps[113]?.getD undef = .pointer (some (p.add (k * 3))) := getD' (Gw.look hl 113 (by kernel_rfl))
                            have kcx0 := hW.cell cx0
                            have kcx1 := hW.cell cx1
                            have kcx2 := hW.cell cx2
                            have kcy0 := hW.cell cy0
                            have kcy1 := hW.cell cy1
                            have kcy2 := hW.cell cy2
                            go_simp
                            exact hK _ _ (Grw.refl _) (Gw.dst_eq rfl rfl)
                           case s23 => exact Gw_callv2 11 106 110 114 115 _ (by kernel_rfl) rfl rfl (Gw_guard_open 13 105 true rfl (by kernel_rfl) (by kernel_rfl) (fun v w h => h)) (by kernel_rfl) (by kernel_rfl) (by kernel_rfl) (fun v w h => h) (fun x y w' hW hx hy => by have hx : x = .agg #[.string (nth M i).pkg, .string (nth M i).file, .int .i64 (nth M i).at'] := hx; have hy : y = .agg #[.string (nth ys k).pkg, .string (nth ys k).file, .int .i64 (nth ys k).at'] := hy; subst hx; subst hy; exact (kM w').mono fun e w'' h => ⟨_, h.1, rfl, h.2⟩)
                           case s24 =>
                            refine Gw.StepOk.of (Gw_guard_open 13 105 true rfl (by kernel_rfl) (by kernel_rfl) (fun v w h => h)) fun b w' hsz hW hl K hK => ?_
                            clear hsz
                            unfold Oper.wp
                            have e115 : b.tmps[115]?.getD undef = .bool true := getD' (Gw.look hl 115 (by kernel_rfl))
                            go_simp
                            exact hK _ _ (Grw.refl _) (Gw.dst_eq rfl rfl)
                           case s25 => exact Gw_pick 105 (.tmp 116) (.const (.bool false)) 117 true (.bool false) rfl rfl (Gw_guard_open 1 93 false rfl (by kernel_rfl) (by kernel_rfl) (fun v w h => h)) (by kernel_rfl) (fun v w h => h) (fun b w' hl => Gw.look hl 116 (by kernel_rfl)) (fun w => rfl)
                           case s26 => exact Gw_pick 93 (.const (.bool true)) (.tmp 117) 118 false (.bool false) rfl rfl (Gw.guard_none rfl) (by kernel_rfl) (fun v w h => h) (fun b w' hl => Gw.look hl 117 (by kernel_rfl)) (fun w => rfl)
                          case hend =>
                           intro xs wz hGz _ hxl
                           have hBz := bthen hBq hGz.below
                           simp only [mixed, List.contains_cons, List.contains_nil, Nat.reduceBEq, Nat.reduceAdd, Bool.or_false, Bool.or_true, Bool.false_eq_true, if_false, if_true]
                           rw [hxl]
                           go_wp2
                           go_roundw
                           case rel =>
                            first
                             | exact ⟨k + 1, false, by omega, by go_num, rfl, hnew.out, hBz⟩
                             | ((repeat apply Exists.intro); refine ⟨⟨k + 1, false, by omega, rfl, rfl, hnew.out, hBz⟩, ?_⟩; repeat' (first | rfl | go_num | constructor))
                           case measure => simp [intOf]; omega
                    · obtain rfl : k = 30 := by omega
                      have hbt : b = true := by
                        refine hrb.out.2 ?_
                        obtain ⟨t, ht, he⟩ := List.getElem_of_mem ((hmem.out (nth M i)).1 (nth_mem M i (by omega)))
                        exact ⟨t, by omega, by simp [nth, List.getElem?_eq_getElem ht]; exact he⟩
                      subst hbt
                      clear hrb
                      go_wp2
                      go_roundw
                      case rel => exact ⟨i + 1, by omega, by go_num, hBq⟩
                      case measure => simp [intOf]; omega
                · go_wp2
                  go_ret
                  exact ⟨rfl, bthen hB hBr⟩
  · obtain ⟨n, hn⟩ : ∃ n, n = L.length := ⟨_, rfl⟩
    rw [← hn] at hl hle ⊢
    obtain ⟨ys, hys⟩ : ∃ ys, ys = L := ⟨_, rfl⟩
    have hN : ys.length = n := by rw [hys, hn]
    have hy : RowDG w a cap ys := by rw [hys]; exact h
    clear hys h hn
    have hyr := fun w1 (hB : Below w.heap.size w w1) => hy.next hB
    have kD := fun w1 (hB : Below w.heap.size w w1) => Diags_any a cap ys w1 (hyr w1 hB) (by omega)
    rw [hN] at kD
    go_enter Try.func5, Try.ntmps5
    go_wp2_with (go_at_call 7; refine kB.mono ?_; rintro e w1 ⟨rfl, hB1⟩)
    refine Calls.mono (kD w1 hB1) ?_
    rintro e w2 ⟨a', c', M, L', rfl, hp, ha, hM, hcase, hmc, hB2⟩
    clear kD kB
    have hB := bthen hB1 hB2
    have hmem := fun x => (ddn_mem ha x).trans (hp.mem_iff (a := x))
    have hstr := (ddn_props ha L'.length (Nat.le_refl _)).1
    rw [← hM] at hmem hstr
    have hml : M.length ≤ n := by have := ddn_le L' L'.length; rw [← hM, hp.length_eq, hN] at this; exact this
    clear hM ha hp hB1 hB2
    replace hmem : Hid (∀ x, x ∈ M ↔ x ∈ ys) := hmem
    replace hstr : Hid (M.Pairwise (fun x y => cmpDG x y < 0)) := hstr
    have hmx : Try.prog.follows .mixedOrders = true := by kernel_rfl
    rcases hcase with ⟨rfl, rfl⟩ | ⟨g, rfl, hHD⟩
    · have hy0 : ys = [] := List.eq_nil_iff_forall_not_mem.2 (fun x hx => by have := (hmem.out x).2 hx; cases this)
      have hN0 : n = 0 := by rw [← hN, hy0]; rfl
      subst hN0
      clear hmem hstr
      go_wp2
      refine wp_loop_rounds 1 ?_
      rw [rounds_succ]
      go_wp2
      refine wp_loop_rounds 1 ?_
      rw [rounds_succ]
      go_wp2
      refine wp_loop_rounds 1 ?_
      rw [rounds_succ]
      go_wp2
      go_ret
      exact ⟨rfl, hB⟩
    · have hgl : M.length = 0 ∨ g < w2.heap.size := by
        by_cases e : 0 < M.length
        · exact .inr (cell_lt (hHD 0 e).1.1)
        · exact .inl (by omega)
      have hyw := hyr w2 hB
      clear hyr
      replace hHD : Hid (HD w2 g M) := hHD
      go_wp2
      go_loopw [6] (fun v wr => ∃ j : Nat, j ≤ M.length ∧ v = .int .i64 ((j : Int) + 1) ∧ Below w2.heap.size w2 wr) (fun v _ => M.length + 1 - (intOf v).toNat)
      case atStart => exact ⟨0, Nat.zero_le _, rfl, Below.refl _ _⟩
      case round =>
        obtain ⟨j, hj, rfl, hBr⟩ := hrel
        by_cases hlt : j + 1 < M.length
        · have hHr : HD wr g M := hHD.out.next (by omega) hBr
          obtain ⟨x0, x1, x2⟩ := HD_grown hHr j (by omega)
          obtain ⟨y0, y1, y2⟩ := HD_grown hHr (j + 1) hlt
          have hls : cmpDG (nth M j) (nth M (j + 1)) < 0 := by
            have := (List.pairwise_iff_getElem.1 hstr.out) j (j + 1) (by omega) hlt (by omega)
            simpa [nth, List.getElem?_eq_getElem hlt, List.getElem?_eq_getElem (show j < M.length by omega)] using this
          have kL := fun W => less_yes hls W
          have hwj := wrap_i64 (j : Int) (by omega) (by omega)
          have i0 : 0 ≤ (j : Int) ∧ (j : Int) < (M.length : Int) := by omega
          have i1 : 0 ≤ (j : Int) + 1 ∧ (j : Int) + 1 < (M.length : Int) := by omega
          clear hls hHr
          go_wp2_with fail
          go_quiet_grown (first | (go_at_call 11; refine Calls.grown_of (kL _)))
          go_wp2
          go_roundw
          case rel => exact ⟨j + 1, by omega, by go_num, bthen hBr (below_grown _ _ _)⟩
          case measure => simp [intOf]; omega
        · go_wp2
          go_loopw [7, 8, 9] (fun v _ _ wr => ∃ i : Nat, i ≤ n ∧ v = .int .i64 (i : Int) ∧ Below w2.heap.size w2 wr) (fun v _ _ _ => n - (intOf v).toNat)
          case atStart => exact ⟨0, Nat.zero_le _, rfl, hBr⟩
          case round =>
            obtain ⟨i, hi, rfl, hBr⟩ := hrel
            by_cases hlt : i < n
            · have hlti : (i : Int) < (n : Int) := by omega
              go_wp2
              go_loopw [8, 9] (fun vb vk wq => ∃ (k : Nat) (b : Bool), k ≤ M.length ∧ vk = .int .i64 (k : Int) ∧ vb = .bool b ∧ Hid (b = true ↔ ∃ t, t < k ∧ nth M t = nth ys i) ∧ Below w2.heap.size w2 wq) (fun _ vk _ => M.length - (intOf vk).toNat)
              case atStart => exact ⟨0, false, Nat.zero_le _, rfl, rfl, ⟨fun h => (Bool.false_ne_true h).elim, fun ⟨t, ht, _⟩ => (by omega)⟩, hBr⟩
              case round =>
                obtain ⟨k, b, hk, rfl, rfl, hrb, hBq⟩ := hrel
                by_cases hkl : k < M.length
                · have hHq : HD wr g M := hHD.out.next (by omega) hBq
                  obtain ⟨⟨cy0, cy1, cy2⟩, _, _, _⟩ := hHq k (by omega)
                  obtain ⟨p, rfl⟩ : ∃ p, a = some p := by
                    cases a with
                    | none => have h1 := hyw.nil rfl; have h2 := hyw.le; omega
                    | some p => exact ⟨p, rfl⟩
                  obtain ⟨cx0, cx1, cx2⟩ := (hyw.next hBq).cells3 i (by omega)
                  clear hHq
                  have i0 : 0 ≤ (i : Int) ∧ (i : Int) < (n : Int) := by omega
                  have i1 : 0 ≤ (k : Int) ∧ (k : Int) < (M.length : Int) := by omega
                  cases b with
                  | true =>
                    have hnew : ∃ t, t < k + 1 ∧ nth M t = nth ys i := by obtain ⟨t, ht, he⟩ := hrb.out.1 rfl; exact ⟨t, by omega, he⟩
                    replace hnew : Hid (∃ t, t < k + 1 ∧ nth M t = nth ys i) := hnew
                    go_wp2_with fail
                    refine wp_region_late (late18A p g n cap c' M.length i k (nth ys i) (nth M k)) (.bool true) [51, 52, 53, 54, 55, 56, 57, 58, 59, 60, 61, 62, 63, 64, 65, 66, 67, 68, 69, 70, 71, 72, 73, 74, 75, 76, 77] [0, 1, 2, 3, 4, 5, 6, 7, 8, 9, 10, 11, 12, 13, 14, 15, 16, 17, 18, 19, 20, 21, 22, 23, 24, 25, 26, 27, 28, 29, 30, 31, 32, 33, 34, 35, 36, 37, 38, 39, 40, 41, 42, 43, 44, 45, 46, 47, 48, 49, 50, 78, 79, 80, 81, 82, 83, 84, 85, 86, 87, 88, 89, 90, 91, 92, 93, 94, 95, 96, 97, 98, 99, 100, 101, 102, 103, 104, 105, 106, 107, 108, 109, 110, 111, 112, 113, 114, 115, 116, 117, 118, 119, 120, 121] 122 8 77 (by kernel_rfl) (by decide) (by kernel_rfl) (by kernel_rfl) (by decide) (by kernel_rfl) (by kernel_rfl) (by kernel_rfl) rfl ⟨_, rfl, rfl, rfl, rfl, by kernel_rfl, by decide⟩ (fun t v w w' _ h => h) (by kernel_rfl) (fun v w h => h) (by kernel_rfl) ?hstep ?hend
                    case hstep =>
                     refine Gw.steps_cons ?s0 (Gw.steps_cons ?s1 (Gw.steps_cons ?s2 (Gw.steps_cons ?s3 (Gw.steps_cons ?s4 (Gw.steps_cons ?s5 (Gw.steps_cons ?s6 (Gw.steps_cons ?s7 (Gw.steps_cons ?s8 (Gw.steps_cons ?s9 (Gw.steps_cons ?s10 (Gw.steps_cons ?s11 (Gw.steps_cons ?s12 (Gw.steps_cons ?s13 (Gw.steps_cons ?s14 (Gw.steps_cons ?s15 (Gw.steps_cons ?s16 (Gw.steps_cons ?s17 (Gw.steps_cons ?s18 (Gw.steps_cons ?s19 (Gw.steps_cons ?s20 (Gw.steps_cons ?s21 (Gw.steps_cons ?s22 (Gw.steps_cons ?s23 (Gw.steps_cons ?s24 (Gw.steps_cons ?s25 (Gw.steps_cons ?s26 (Gw.steps_nil)))))))))))))))))))))))))))
                     case s0 => exact Gw.step_move 8 51 rfl rfl (Gw.guard_none rfl) (by kernel_rfl) (fun v w h => h)
                     case s1 => exact Gw.step_move 51 52 rfl rfl (Gw.guard_none rfl) (by kernel_rfl) (fun v w h => h)
                     case s2 => exact Gw_shut 1 52 53 false rfl (by kernel_rfl) (by kernel_rfl) (fun v w h e => by have h : v = .bool true := h; rw [h] at e; cases e) rfl (fun w => rfl)
                     case s3 => exact Gw_shut 1 52 54 false rfl (by kernel_rfl) (by kernel_rfl) (fun v w h e => by have h : v = .bool true := h; rw [h] at e; cases e) rfl (fun w => rfl)
                     case s4 => exact Gw_shut 1 52 55 false rfl (by kernel_rfl) (by kernel_rfl) (fun v w h e => by have h : v = .bool true := h; rw [h] at e; cases e) rfl (fun w => rfl)
                     case s5 => exact Gw_shut 1 52 56 false rfl (by kernel_rfl) (by kernel_rfl) (fun v w h e => by have h : v = .bool true := h; rw [h] at e; cases e) rfl (fun w => rfl)
                     case s6 => exact Gw_shut 1 52 57 false rfl (by kernel_rfl) (by kernel_rfl) (fun v w h e => by have h : v = .bool true := h; rw [h] at e; cases e) rfl (fun w => rfl)
                     case s7 => exact Gw_shut 1 52 58 false rfl (by kernel_rfl) (by kernel_rfl) (fun v w h e => by have h : v = .bool true := h; rw [h] at e; cases e) rfl (fun w => rfl)
                     case s8 => exact Gw_shut 1 52 59 false rfl (by kernel_rfl) (by kernel_rfl) (fun v w h e => by have h : v = .bool true := h; rw [h] at e; cases e) rfl (fun w => rfl)
                     case s9 => exact Gw_shut 1 52 60 false rfl (by kernel_rfl) (by kernel_rfl) (fun v w h e => by have h : v = .bool true := h; rw [h] at e; cases e) rfl (fun w => rfl)
                     case s10 => exact Gw_shut 1 52 61 false rfl (by kernel_rfl) (by kernel_rfl) (fun v w h e => by have h : v = .bool true := h; rw [h] at e; cases e) rfl (fun w => rfl)
                     case s11 => exact Gw_shut 1 52 62 false rfl (by kernel_rfl) (by kernel_rfl) (fun v w h e => by have h : v = .bool true := h; rw [h] at e; cases e) rfl (fun w => rfl)
                     case s12 => exact Gw_shut 1 52 63 false rfl (by kernel_rfl) (by kernel_rfl) (fun v w h e => by have h : v = .bool true := h; rw [h] at e; cases e) rfl (fun w => rfl)
                     case s13 => exact Gw_shut 1 52 64 false rfl (by kernel_rfl) (by kernel_rfl) (fun v w h e => by have h : v = .bool true := h; rw [h] at e; cases e) rfl (fun w => rfl)
                     case s14 => exact Gw_shut 13 64 65 true rfl (by kernel_rfl) (by kernel_rfl) (fun v w h e => by have h : v = undef := h; rw [h] at e; cases e) rfl (fun w => rfl)
                     case s15 => exact Gw_shut 13 64 66 true rfl (by kernel_rfl) (by kernel_rfl) (fun v w h e => by have h : v = undef := h; rw [h] at e; cases e) rfl (fun w => rfl)
                     case s16 => exact Gw_shut 13 64 67 true rfl (by kernel_rfl) (by kernel_rfl) (fun v w h e => by have h : v = undef := h; rw [h] at e; cases e) rfl (fun w => rfl)
                     case s17 => exact Gw_shut 13 64 68 true rfl (by kernel_rfl) (by kernel_rfl) (fun v w h e => by have h : v = undef := h; rw [h] at e; cases e) rfl (fun w => rfl)
                     case s18 => exact Gw_shut 13 64 69 true rfl (by kernel_rfl) (by kernel_rfl) (fun v w h e => by have h : v = undef := h; rw [h] at e; cases e) rfl (fun w => rfl)
                     case s19 => exact Gw_shut 13 64 70 true rfl (by kernel_rfl) (by kernel_rfl) (fun v w h e => by have h : v = undef := h; rw [h] at e; cases e) rfl (fun w => rfl)
                     case s20 => exact Gw_shut 13 64 71 true rfl (by kernel_rfl) (by kernel_rfl) (fun v w h e => by have h : v = undef := h; rw [h] at e; cases e) rfl (fun w => rfl)
                     case s21 => exact Gw_shut 13 64 72 true rfl (by kernel_rfl) (by kernel_rfl) (fun v w h e => by have h : v = undef := h; rw [h] at e; cases e) rfl (fun w => rfl)
                     case s22 => exact Gw_shut 13 64 73 true rfl (by kernel_rfl) (by kernel_rfl) (fun v w h e => by have h : v = undef := h; rw [h] at e; cases e) rfl (fun w => rfl)
                     case s23 => exact Gw_shut 13 64 74 true rfl (by kernel_rfl) (by kernel_rfl) (fun v w h e => by have h : v = undef := h; rw [h] at e; cases e) rfl (fun w => rfl)
                     case s24 => exact Gw_shut 13 64 75 true rfl (by kernel_rfl) (by kernel_rfl) (fun v w h e => by have h : v = undef := h; rw [h] at e; cases e) rfl (fun w => rfl)
                     case s25 => exact Gw_shut 1 52 76 false rfl (by kernel_rfl) (by kernel_rfl) (fun v w h e => by have h : v = .bool true := h; rw [h] at e; cases e) rfl (fun w => rfl)
                     case s26 => exact Gw_pick 52 (.const (.bool true)) (.tmp 76) 77 true (.bool true) rfl rfl (Gw.guard_none rfl) (by kernel_rfl) (fun v w h => h) (fun b w' hl => rfl) (fun w => rfl)
                    case hend =>
                     intro xs wz hGz _ hxl
                     have hBz := bthen hBq hGz.below
                     simp only [mixed, List.contains_cons, List.contains_nil, Nat.reduceBEq, Nat.reduceAdd, Bool.or_false, Bool.or_true, Bool.false_eq_true, if_false, if_true]
                     rw [hxl]
                     go_wp2
                     go_roundw
                     case rel =>
                      first
                       | exact ⟨k + 1, true, by omega, by go_num, rfl, ⟨fun _ => hnew.out, fun _ => rfl⟩, hBz⟩
                       | ((repeat apply Exists.intro); refine ⟨⟨k + 1, true, by omega, rfl, rfl, ⟨fun _ => hnew.out, fun _ => rfl⟩, hBz⟩, ?_⟩; repeat' (first | rfl | go_num | constructor))
                     case measure => simp [intOf]; omega
                  | false =>
                    rcases Int.lt_trichotomy (cmpDG (nth ys i) (nth M k)) 0 with hc | hc | hc
                    · have kL := fun W => less_yes hc W
                      have hne : ¬ nth M k = nth ys i := fun e => by rw [e] at hc; rw [(cmpDG_zero _ _).2 rfl] at hc; omega
                      have hnew : false = true ↔ ∃ t, t < k + 1 ∧ nth M t = nth ys i := ⟨fun h => (Bool.false_ne_true h).elim, fun ⟨t, ht, he⟩ => by
                        by_cases e : t = k
                        · subst e; exact absurd he hne
                        · exact absurd (hrb.out.2 ⟨t, by omega, he⟩) Bool.false_ne_true⟩
                      replace hnew : Hid (false = true ↔ ∃ t, t < k + 1 ∧ nth M t = nth ys i) := hnew
                      clear hc hne
                      go_wp2_with fail
                      refine wp_region_late (late18L p g n cap c' M.length i k (nth ys i) (nth M k)) (.bool false) [51, 52, 53, 54, 55, 56, 57, 58, 59, 60, 61, 62, 63, 64, 65, 66, 67, 68, 69, 70, 71, 72, 73, 74, 75, 76, 77] [0, 1, 2, 3, 4, 5, 6, 7, 8, 9, 10, 11, 12, 13, 14, 15, 16, 17, 18, 19, 20, 21, 22, 23, 24, 25, 26, 27, 28, 29, 30, 31, 32, 33, 34, 35, 36, 37, 38, 39, 40, 41, 42, 43, 44, 45, 46, 47, 48, 49, 50, 78, 79, 80, 81, 82, 83, 84, 85, 86, 87, 88, 89, 90, 91, 92, 93, 94, 95, 96, 97, 98, 99, 100, 101, 102, 103, 104, 105, 106, 107, 108, 109, 110, 111, 112, 113, 114, 115, 116, 117, 118, 119, 120, 121] 122 8 77 (by kernel_rfl) (by decide) (by kernel_rfl) (by kernel_rfl) (by decide) (by kernel_rfl) (by kernel_rfl) (by kernel_rfl) rfl ⟨_, rfl, rfl, rfl, rfl, by kernel_rfl, by decide⟩ (fun t v w w' _ h => h) (by kernel_rfl) (fun v w h => h) (by kernel_rfl) ?hstep ?hend
                      case hstep =>
                       refine Gw.steps_cons ?s0 (Gw.steps_cons ?s1 (Gw.steps_cons ?s2 (Gw.steps_cons ?s3 (Gw.steps_cons ?s4 (Gw.steps_cons ?s5 (Gw.steps_cons ?s6 (Gw.steps_cons ?s7 (Gw.steps_cons ?s8 (Gw.steps_cons ?s9 (Gw.steps_cons ?s10 (Gw.steps_cons ?s11 (Gw.steps_cons ?s12 (Gw.steps_cons ?s13 (Gw.steps_cons ?s14 (Gw.steps_cons ?s15 (Gw.steps_cons ?s16 (Gw.steps_cons ?s17 (Gw.steps_cons ?s18 (Gw.steps_cons ?s19 (Gw.steps_cons ?s20 (Gw.steps_cons ?s21 (Gw.steps_cons ?s22 (Gw.steps_cons ?s23 (Gw.steps_cons ?s24 (Gw.steps_cons ?s25 (Gw.steps_cons ?s26 (Gw.steps_nil)))))))))))))))))))))))))))
                       case s0 => exact Gw.step_move 8 51 rfl rfl (Gw.guard_none rfl) (by kernel_rfl) (fun v w h => h)
                       case s1 => exact Gw.step_move 51 52 rfl rfl (Gw.guard_none rfl) (by kernel_rfl) (fun v w h => h)
                       case s2 => exact Gw.step_move 5 53 rfl rfl (Gw_guard_open 1 52 false rfl (by kernel_rfl) (by kernel_rfl) (fun v w h => h)) (by kernel_rfl) (fun v w h => h)
                       case s3 => exact Gw.step_move 0 54 rfl rfl (Gw_guard_open 1 52 false rfl (by kernel_rfl) (by kernel_rfl) (fun v w h => h)) (by kernel_rfl) (fun v w h => h)
                       case s4 => exact Gw.step_move 7 55 rfl rfl (Gw_guard_open 1 52 false rfl (by kernel_rfl) (by kernel_rfl) (fun v w h => h)) (by kernel_rfl) (fun v w h => h)
                       case s5 =>
                        refine Gw.StepOk.of (Gw_guard_open 1 52 false rfl (by kernel_rfl) (by kernel_rfl) (fun v w h => h)) fun b w' hsz hW hl K hK => ?_
                        clear hsz
                        unfold Oper.wp
                        have e54 : b.tmps[54]?.getD undef = .slice (some p) n cap := getD' (Gw.look hl 54 (by kernel_rfl))
                        have e55 : b.tmps[55]?.getD undef = .int .i64 (i : Int) := getD' (Gw.look hl 55 (by kernel_rfl))
                        go_simp
                        exact hK _ _ (Grw.refl _) (Gw.dst_eq rfl rfl)
                       case s6 =>
                        refine Gw.StepOk.of (Gw_guard_open 1 52 false rfl (by kernel_rfl) (by kernel_rfl) (fun v w h => h)) fun b w' hsz hW hl K hK => ?_
                        clear hsz
                        unfold Oper.wp
                        have e56 : b.tmps[56]?.getD undef = .pointer (some (p.add (i * 3))) := getD' (Gw.look hl 56 (by kernel_rfl))
                        have kcx0 := hW.cell cx0
                        have kcx1 := hW.cell cx1
                        have kcx2 := hW.cell cx2
                        have kcy0 := hW.cell cy0
                        have kcy1 := hW.cell cy1
                        have kcy2 := hW.cell cy2
                        go_simp
                        exact hK _ _ (Grw.refl _) (Gw.dst_eq rfl rfl)
                       case s7 => exact Gw.step_move 4 58 rfl rfl (Gw_guard_open 1 52 false rfl (by kernel_rfl) (by kernel_rfl) (fun v w h => h)) (by kernel_rfl) (fun v w h => h)
                       case s8 => exact Gw.step_move 9 59 rfl rfl (Gw_guard_open 1 52 false rfl (by kernel_rfl) (by kernel_rfl) (fun v w h => h)) (by kernel_rfl) (fun v w h => h)
                       case s9 =>
                        refine Gw.StepOk.of (Gw_guard_open 1 52 false rfl (by kernel_rfl) (by kernel_rfl) (fun v w h => h)) fun b w' hsz hW hl K hK => ?_
                        clear hsz
                        unfold Oper.wp
                        have e58 : b.tmps[58]?.getD undef = .slice (some ⟨g, 0, none⟩) M.length c' := getD' (Gw.look hl 58 (by kernel_rfl))
                        have e59 : b.tmps[59]?.getD undef = .int .i64 (k : Int) := getD' (Gw.look hl 59 (by kernel_rfl))
                        go_simp
                        exact hK _ _ (Grw.refl _) (Gw.dst_eq rfl rfl)
                       case s10 =>
                        refine Gw.StepOk.of (Gw_guard_open 1 52 false rfl (by kernel_rfl) (by kernel_rfl) (fun v w h => h)) fun b w' hsz hW hl K hK => ?_
                        clear hsz
                        unfold Oper.wp
                        have e60 : b.tmps[60]?.getD undef = .pointer (some ⟨g, k * 3, none⟩) := getD' (Gw.look hl 60 (by kernel_rfl))
                        have kcx0 := hW.cell cx0
                        have kcx1 := hW.cell cx1
                        have kcx2 := hW.cell cx2
                        have kcy0 := hW.cell cy0
                        have kcy1 := hW.cell cy1
                        have kcy2 := hW.cell cy2
                        go_simp
                        exact hK _ _ (Grw.refl _) (Gw.dst_eq rfl rfl)
                       case s11 => exact Gw_callv2 11 53 57 61 62 _ (by kernel_rfl) rfl rfl (Gw_guard_open 1 52 false rfl (by kernel_rfl) (by kernel_rfl) (fun v w h => h)) (by kernel_rfl) (by kernel_rfl) (by kernel_rfl) (fun v w h => h) (fun x y w' hW hx hy => by have hx : x = .agg #[.string (nth ys i).pkg, .string (nth ys i).file, .int .i64 (nth ys i).at'] := hx; have hy : y = .agg #[.string (nth M k).pkg, .string (nth M k).file, .int .i64 (nth M k).at'] := hy; subst hx; subst hy; exact (kL w').mono fun e w'' h => ⟨_, h.1, rfl, h.2⟩)
                       case s12 =>
                        refine Gw.StepOk.of (Gw_guard_open 1 52 false rfl (by kernel_rfl) (by kernel_rfl) (fun v w h => h)) fun b w' hsz hW hl K hK => ?_
                        clear hsz
                        unfold Oper.wp
                        have e62 : b.tmps[62]?.getD undef = .bool true := getD' (Gw.look hl 62 (by kernel_rfl))
                        go_simp
                        exact hK _ _ (Grw.refl _) (Gw.dst_eq rfl rfl)
                       case s13 => exact Gw.step_move 63 64 rfl rfl (Gw_guard_open 1 52 false rfl (by kernel_rfl) (by kernel_rfl) (fun v w h => h)) (by kernel_rfl) (fun v w h => h)
                       case s14 => exact Gw_shut 13 64 65 true rfl (by kernel_rfl) (by kernel_rfl) (fun v w h e => by have h : v = .bool false := h; rw [h] at e; cases e) rfl (fun w => rfl)
                       case s15 => exact Gw_shut 13 64 66 true rfl (by kernel_rfl) (by kernel_rfl) (fun v w h e => by have h : v = .bool false := h; rw [h] at e; cases e) rfl (fun w => rfl)
                       case s16 => exact Gw_shut 13 64 67 true rfl (by kernel_rfl) (by kernel_rfl) (fun v w h e => by have h : v = .bool false := h; rw [h] at e; cases e) rfl (fun w => rfl)
                       case s17 => exact Gw_shut 13 64 68 true rfl (by kernel_rfl) (by kernel_rfl) (fun v w h e => by have h : v = .bool false := h; rw [h] at e; cases e) rfl (fun w => rfl)
                       case s18 => exact Gw_shut 13 64 69 true rfl (by kernel_rfl) (by kernel_rfl) (fun v w h e => by have h : v = .bool false := h; rw [h] at e; cases e) rfl (fun w => rfl)
                       case s19 => exact Gw_shut 13 64 70 true rfl (by kernel_rfl) (by kernel_rfl) (fun v w h e => by have h : v = .bool false := h; rw [h] at e; cases e) rfl (fun w => rfl)
                       case s20 => exact Gw_shut 13 64 71 true rfl (by kernel_rfl) (by kernel_rfl) (fun v w h e => by have h : v = .bool false := h; rw [h] at e; cases e) rfl (fun w => rfl)
                       case s21 => exact Gw_shut 13 64 72 true rfl (by kernel_rfl) (by kernel_rfl) (fun v w h e => by have h : v = .bool false := h; rw [h] at e; cases e) rfl (fun w => rfl)
                       case s22 => exact Gw_shut 13 64 73 true rfl (by kernel_rfl) (by kernel_rfl) (fun v w h e => by have h : v = .bool false := h; rw [h] at e; cases e) rfl (fun w => rfl)
                       case s23 => exact Gw_shut 13 64 74 true rfl (by kernel_rfl) (by kernel_rfl) (fun v w h e => by have h : v = .bool false := h; rw [h] at e; cases e) rfl (fun w => rfl)
                       case s24 => exact Gw_shut 13 64 75 true rfl (by kernel_rfl) (by kernel_rfl) (fun v w h e => by have h : v = .bool false := h; rw [h] at e; cases e) rfl (fun w => rfl)
                       case s25 => exact Gw_pick 64 (.tmp 75) (.const (.bool false)) 76 false (.bool false) rfl rfl (Gw_guard_open 1 52 false rfl (by kernel_rfl) (by kernel_rfl) (fun v w h => h)) (by kernel_rfl) (fun v w h => h) (fun b w' hl => rfl) (fun w => rfl)
                       case s26 => exact Gw_pick 52 (.const (.bool true)) (.tmp 76) 77 false (.bool false) rfl rfl (Gw.guard_none rfl) (by kernel_rfl) (fun v w h => h) (fun b w' hl => Gw.look hl 76 (by kernel_rfl)) (fun w => rfl)
                      case hend =>
                       intro xs wz hGz _ hxl
                       have hBz := bthen hBq hGz.below
                       simp only [mixed, List.contains_cons, List.contains_nil, Nat.reduceBEq, Nat.reduceAdd, Bool.or_false, Bool.or_true, Bool.false_eq_true, if_false, if_true]
                       rw [hxl]
                       go_wp2
                       go_roundw
                       case rel =>
                        first
                         | exact ⟨k + 1, false, by omega, by go_num, rfl, hnew.out, hBz⟩
                         | ((repeat apply Exists.intro); refine ⟨⟨k + 1, false, by omega, rfl, rfl, hnew.out, hBz⟩, ?_⟩; repeat' (first | rfl | go_num | constructor))
                       case measure => simp [intOf]; omega
                    · have kL := fun W => less_no (show ¬ cmpDG (nth ys i) (nth M k) < 0 by omega) W
                      have kM := fun W => less_no (show ¬ cmpDG (nth M k) (nth ys i) < 0 by have := cmpDG_cmp.anti (nth ys i) (nth M k); omega) W
                      have heq : nth M k = nth ys i := ((cmpDG_zero _ _).1 hc).symm
                      have hnew : ∃ t, t < k + 1 ∧ nth M t = nth ys i := ⟨k, by omega, heq⟩
                      replace hnew : Hid (∃ t, t < k + 1 ∧ nth M t = nth ys i) := hnew
                      clear hc heq
                      go_wp2_with fail
                      refine wp_region_late (late18E p g n cap c' M.length i k (nth ys i) (nth M k)) (.bool true) [51, 52, 53, 54, 55, 56, 57, 58, 59, 60, 61, 62, 63, 64, 65, 66, 67, 68, 69, 70, 71, 72, 73, 74, 75, 76, 77] [0, 1, 2, 3, 4, 5, 6, 7, 8, 9, 10, 11, 12, 13, 14, 15, 16, 17, 18, 19, 20, 21, 22, 23, 24, 25, 26, 27, 28, 29, 30, 31, 32, 33, 34, 35, 36, 37, 38, 39, 40, 41, 42, 43, 44, 45, 46, 47, 48, 49, 50, 78, 79, 80, 81, 82, 83, 84, 85, 86, 87, 88, 89, 90, 91, 92, 93, 94, 95, 96, 97, 98, 99, 100, 101, 102, 103, 104, 105, 106, 107, 108, 109, 110, 111, 112, 113, 114, 115, 116, 117, 118, 119, 120, 121] 122 8 77 (by kernel_rfl) (by decide) (by kernel_rfl) (by kernel_rfl) (by decide) (by kernel_rfl) (by kernel_rfl) (by kernel_rfl) rfl ⟨_, rfl, rfl, rfl, rfl, by kernel_rfl, by decide⟩ (fun t v w w' _ h => h) (by kernel_rfl) (fun v w h => h) (by kernel_rfl) ?hstep ?hend
                      case hstep =>
                       refine Gw.steps_cons ?s0 (Gw.steps_cons ?s1 (Gw.steps_cons ?s2 (Gw.steps_cons ?s3 (Gw.steps_cons ?s4 (Gw.steps_cons ?s5 (Gw.steps_cons ?s6 (Gw.steps_cons ?s7 (Gw.steps_cons ?s8 (Gw.steps_cons ?s9 (Gw.steps_cons ?s10 (Gw.steps_cons ?s11 (Gw.steps_cons ?s12 (Gw.steps_cons ?s13 (Gw.steps_cons ?s14 (Gw.steps_cons ?s15 (Gw.steps_cons ?s16 (Gw.steps_cons ?s17 (Gw.steps_cons ?s18 (Gw.steps_cons ?s19 (Gw.steps_cons ?s20 (Gw.steps_cons ?s21 (Gw.steps_cons ?s22 (Gw.steps_cons ?s23 (Gw.steps_cons ?s24 (Gw.steps_cons ?s25 (Gw.steps_cons ?s26 (Gw.steps_nil)))))))))))))))))))))))))))
                       case s0 => exact Gw.step_move 8 51 rfl rfl (Gw.guard_none rfl) (by kernel_rfl) (fun v w h => h)
                       case s1 => exact Gw.step_move 51 52 rfl rfl (Gw.guard_none rfl) (by kernel_rfl) (fun v w h => h)
                       case s2 => exact Gw.step_move 5 53 rfl rfl (Gw_guard_open 1 52 false rfl (by kernel_rfl) (by kernel_rfl) (fun v w h => h)) (by kernel_rfl) (fun v w h => h)
                       case s3 => exact Gw.step_move 0 54 rfl rfl (Gw_guard_open 1 52 false rfl (by kernel_rfl) (by kernel_rfl) (fun v w h => h)) (by kernel_rfl) (fun v w h => h)
                       case s4 => exact Gw.step_move 7 55 rfl rfl (Gw_guard_open 1 52 false rfl (by kernel_rfl) (by kernel_rfl) (fun v w h => h)) (by kernel_rfl) (fun v w h => h)
                       case s5 =>
                        refine Gw.StepOk.of (Gw_guard_open 1 52 false rfl (by kernel_rfl) (by kernel_rfl) (fun v w h => h)) fun b w' hsz hW hl K hK => ?_
                        clear hsz
                        unfold Oper.wp
                        have e54 : b.tmps[54]?.getD undef = .slice (some p) n cap := getD' (Gw.look hl 54 (by kernel_rfl))
                        have e55 : b.tmps[55]?.getD undef = .int .i64 (i : Int) := getD' (Gw.look hl 55 (by kernel_rfl))
                        go_simp
                        exact hK _ _ (Grw.refl _) (Gw.dst_eq rfl rfl)
                       case s6 =>
                        refine Gw.StepOk.of (Gw_guard_open 1 52 false rfl (by kernel_rfl) (by kernel_rfl) (fun v w h => h)) fun b w' hsz hW hl K hK => ?_
                        clear hsz
                        unfold Oper.wp
                        have e56 : b.tmps[56]?.getD undef = .pointer (some (p.add (i * 3))) := getD' (Gw.look hl 56 (by kernel_rfl))
                        have kcx0 := hW.cell cx0
                        have kcx1 := hW.cell cx1
                        have kcx2 := hW.cell cx2
                        have kcy0 := hW.cell cy0
                        have kcy1 := hW.cell cy1
                        have kcy2 := hW.cell cy2
                        go_simp
                        exact hK _ _ (Grw.refl _) (Gw.dst_eq rfl rfl)
                       case s7 => exact Gw.step_move 4 58 rfl rfl (Gw_guard_open 1 52 false rfl (by kernel_rfl) (by kernel_rfl) (fun v w h => h)) (by kernel_rfl) (fun v w h => h)
                       case s8 => exact Gw.step_move 9 59 rfl rfl (Gw_guard_open 1 52 false rfl (by kernel_rfl) (by kernel_rfl) (fun v w h => h)) (by kernel_rfl) (fun v w h => h)
                       case s9 =>
                        refine Gw.StepOk.of (Gw_guard_open 1 52 false rfl (by kernel_rfl) (by kernel_rfl) (fun v w h => h)) fun b w' hsz hW hl K hK => ?_
                        clear hsz
                        unfold Oper.wp
                        have e58 : b.tmps[58]?.getD undef = .slice (some ⟨g, 0, none⟩) M.length c' := getD' (Gw.look hl 58 (by kernel_rfl))
                        have e59 : b.tmps[59]?.getD undef = .int .i64 (k : Int) := getD' (Gw.look hl 59 (by kernel_rfl))
                        go_simp
                        exact hK _ _ (Grw.refl _) (Gw.dst_eq rfl rfl)
                       case s10 =>
                        refine Gw.StepOk.of (Gw_guard_open 1 52 false rfl (by kernel_rfl) (by kernel_rfl) (fun v w h => h)) fun b w' hsz hW hl K hK => ?_
                        clear hsz
                        unfold Oper.wp
                        have e60 : b.tmps[60]?.getD undef = .pointer (some ⟨g, k * 3, none⟩) := getD' (Gw.look hl 60 (by kernel_rfl))
                        have kcx0 := hW.cell cx0
                        have kcx1 := hW.cell cx1
                        have kcx2 := hW.cell cx2
                        have kcy0 := hW.cell cy0
                        have kcy1 := hW.cell cy1
                        have kcy2 := hW.cell cy2
                        go_simp
                        exact hK _ _ (Grw.refl _) (Gw.dst_eq rfl rfl)
                       case s11 => exact Gw_callv2 11 53 57 61 62 _ (by kernel_rfl) rfl rfl (Gw_guard_open 1 52 false rfl (by kernel_rfl) (by kernel_rfl) (fun v w h => h)) (by kernel_rfl) (by kernel_rfl) (by kernel_rfl) (fun v w h => h) (fun x y w' hW hx hy => by have hx : x = .agg #[.string (nth ys i).pkg, .string (nth ys i).file, .int .i64 (nth ys i).at'] := hx; have hy : y = .agg #[.string (nth M k).pkg, .string (nth M k).file, .int .i64 (nth M k).at'] := hy; subst hx; subst hy; exact (kL w').mono fun e w'' h => ⟨_, h.1, rfl, h.2⟩)
                       case s12 =>
                        refine Gw.StepOk.of (Gw_guard_open 1 52 false rfl (by kernel_rfl) (by kernel_rfl) (fun v w h => h)) fun b w' hsz hW hl K hK => ?_
                        clear hsz
                        unfold Oper.wp
                        have e62 : b.tmps[62]?.getD undef = .bool false := getD' (Gw.look hl 62 (by kernel_rfl))
                        go_simp
                        exact hK _ _ (Grw.refl _) (Gw.dst_eq rfl rfl)
                       case s13 => exact Gw.step_move 63 64 rfl rfl (Gw_guard_open 1 52 false rfl (by kernel_rfl) (by kernel_rfl) (fun v w h => h)) (by kernel_rfl) (fun v w h => h)
                       case s14 => exact Gw.step_move 5 65 rfl rfl (Gw_guard_open 13 64 true rfl (by kernel_rfl) (by kernel_rfl) (fun v w h => h)) (by kernel_rfl) (fun v w h => h)
                       case s15 => exact Gw.step_move 4 66 rfl rfl (Gw_guard_open 13 64 true rfl (by kernel_rfl) (by kernel_rfl) (fun v w h => h)) (by kernel_rfl) (fun v w h => h)
                       case s16 => exact Gw.step_move 9 67 rfl rfl (Gw_guard_open 13 64 true rfl (by kernel_rfl) (by kernel_rfl) (fun v w h => h)) (by kernel_rfl) (fun v w h => h)
                       case s17 =>
                        refine Gw.StepOk.of (Gw_guard_open 13 64 true rfl (by kernel_rfl) (by kernel_rfl) (fun v w h => h)) fun b w' hsz hW hl K hK => ?_
                        clear hsz
                        unfold Oper.wp
                        have e66 : b.tmps[66]?.getD undef = .slice (some ⟨g, 0, none⟩) M.length c' := getD' (Gw.look hl 66 (by kernel_rfl))
                        have e67 : b.tmps[67]?.getD undef = .int .i64 (k : Int) := getD' (Gw.look hl 67 (by kernel_rfl))
                        go_simp
                        exact hK _ _ (Grw.refl _) (Gw.dst_eq rfl rfl)
                       case s18 =>
                        refine Gw.StepOk.of (Gw_guard_open 13 64 true rfl (by kernel_rfl) (by kernel_rfl) (fun v w h => h)) fun b w' hsz hW hl K hK => ?_
                        clear hsz
                        unfold Oper.wp
                        have e68 : b.tmps[68]?.getD undef = .pointer (some ⟨g, k * 3, none⟩) := getD' (Gw.look hl 68 (by kernel_rfl))
                        have kcx0 := hW.cell cx0
                        have kcx1 := hW.cell cx1
                        have kcx2 := hW.cell cx2
                        have kcy0 := hW.cell cy0
                        have kcy1 := hW.cell cy1
                        have kcy2 := hW.cell cy2
                        go_simp
                        exact hK _ _ (Grw.refl _) (Gw.dst_eq rfl rfl)
                       case s19 => exact Gw.step_move 0 70 rfl rfl (Gw_guard_open 13 64 true rfl (by kernel_rfl) (by kernel_rfl) (fun v w h => h)) (by kernel_rfl) (fun v w h => h)
                       case s20 => exact Gw.step_move 7 71 rfl rfl (Gw_guard_open 13 64 true rfl (by kernel_rfl) (by kernel_rfl) (fun v w h => h)) (by kernel_rfl) (fun v w h => h)
                       case s21 =>
                        refine Gw.StepOk.of (Gw_guard_open 13 64 true rfl (by kernel_rfl) (by kernel_rfl) (fun v w h => h)) fun b w' hsz hW hl K hK => ?_
                        clear hsz
                        unfold Oper.wp
                        have e70 : b.tmps[70]?.getD undef = .slice (some p) n cap := getD' (Gw.look hl 70 (by kernel_rfl))
                        have e71 : b.tmps[71]?.getD undef = .int .i64 (i : Int) := getD' (Gw.look hl 71 (by kernel_rfl))
                        go_simp
                        exact hK _ _ (Grw.refl _) (Gw.dst_eq rfl rfl)
                       case s22 =>
                        refine Gw.StepOk.of (Gw_guard_open 13 64 true rfl (by kernel_rfl) (by kernel_rfl) (fun v w h => h)) fun b w' hsz hW hl K hK => ?_
                        clear hsz
                        unfold Oper.wp
                        have e72 : b.tmps[72]?.getD undef = .pointer (some (p.add (i * 3))) := getD' (Gw.look hl 72 (by kernel_rfl))
                        have kcx0 := hW.cell cx0
                        have kcx1 := hW.cell cx1
                        have kcx2 := hW.cell cx2
                        have kcy0 := hW.cell cy0
                        have kcy1 := hW.cell cy1
                        have kcy2 := hW.cell cy2
                        go_simp
                        exact hK _ _ (Grw.refl _) (Gw.dst_eq rfl rfl)
                       case s23 => exact Gw_callv2 11 65 69 73 74 _ (by kernel_rfl) rfl rfl (Gw_guard_open 13 64 true rfl (by kernel_rfl) (by kernel_rfl) (fun v w h => h)) (by kernel_rfl) (by kernel_rfl) (by kernel_rfl) (fun v w h => h) (fun x y w' hW hx hy => by have hx : x = .agg #[.string (nth M k).pkg, .string (nth M k).file, .int .i64 (nth M k).at'] := hx; have hy : y = .agg #[.string (nth ys i).pkg, .string (nth ys i).file, .int .i64 (nth ys i).at'] := hy; subst hx; subst hy; exact (kM w').mono fun e w'' h => ⟨_, h.1, rfl, h.2⟩)
                       case s24 =>
                        refine Gw.StepOk.of (Gw_guard_open 13 64 true rfl (by kernel_rfl) (by kernel_rfl) (fun v w h => h)) fun b w' hsz hW hl K hK => ?_
                        clear hsz
                        unfold Oper.wp
                        have e74 : b.tmps[74]?.getD undef = .bool false := getD' (Gw.look hl 74 (by kernel_rfl))
                        go_simp
                        exact hK _ _ (Grw.refl _) (Gw.dst_eq rfl rfl)
                       case s25 => exact Gw_pick 64 (.tmp 75) (.const (.bool false)) 76 true (.bool true) rfl rfl (Gw_guard_open 1 52 false rfl (by kernel_rfl) (by kernel_rfl) (fun v w h => h)) (by kernel_rfl) (fun v w h => h) (fun b w' hl => Gw.look hl 75 (by kernel_rfl)) (fun w => rfl)
                       case s26 => exact Gw_pick 52 (.const (.bool true)) (.tmp 76) 77 false (.bool true) rfl rfl (Gw.guard_none rfl) (by kernel_rfl) (fun v w h => h) (fun b w' hl => Gw.look hl 76 (by kernel_rfl)) (fun w => rfl)
                      case hend =>
                       intro xs wz hGz _ hxl
                       have hBz := bthen hBq hGz.below
                       simp only [mixed, List.contains_cons, List.contains_nil, Nat.reduceBEq, Nat.reduceAdd, Bool.or_false, Bool.or_true, Bool.false_eq_true, if_false, if_true]
                       rw [hxl]
                       go_wp2
                       go_roundw
                       case rel =>
                        first
                         | exact ⟨k + 1, true, by omega, by go_num, rfl, ⟨fun _ => hnew.out, fun _ => rfl⟩, hBz⟩
                         | ((repeat apply Exists.intro); refine ⟨⟨k + 1, true, by omega, rfl, rfl, ⟨fun _ => hnew.out, fun _ => rfl⟩, hBz⟩, ?_⟩; repeat' (first | rfl | go_num | constructor))
                       case measure => simp [intOf]; omega
                    · have kL := fun W => less_no (show ¬ cmpDG (nth ys i) (nth M k) < 0 by omega) W
                      have kM := fun W => less_yes (show cmpDG (nth M k) (nth ys i) < 0 by have := cmpDG_cmp.anti (nth ys i) (nth M k); omega) W
                      have hne : ¬ nth M k = nth ys i := fun e => by rw [e] at hc; rw [(cmpDG_zero _ _).2 rfl] at hc; omega
                      have hnew : false = true ↔ ∃ t, t < k + 1 ∧ nth M t = nth ys i := ⟨fun h => (Bool.false_ne_true h).elim, fun ⟨t, ht, he⟩ => by
                        by_cases e : t = k
                        · subst e; exact absurd he hne
                        · exact absurd (hrb.out.2 ⟨t, by omega, he⟩) Bool.false_ne_true⟩
                      replace hnew : Hid (false = true ↔ ∃ t, t < k + 1 ∧ nth M t = nth ys i) := hnew
                      clear hc hne
                      go_wp2_with fail
                      refine wp_region_late (late18G p g n cap c' M.length i k (nth ys i) (nth M k)) (.bool false) [51, 52, 53, 54, 55, 56, 57, 58, 59, 60, 61, 62, 63, 64, 65, 66, 67, 68, 69, 70, 71, 72, 73, 74, 75, 76, 77] [0, 1, 2, 3, 4, 5, 6, 7, 8, 9, 10, 11, 12, 13, 14, 15, 16, 17, 18, 19, 20, 21, 22, 23, 24, 25, 26, 27, 28, 29, 30, 31, 32, 33, 34, 35, 36, 37, 38, 39, 40, 41, 42, 43, 44, 45, 46, 47, 48, 49, 50, 78, 79, 80, 81, 82, 83, 84, 85, 86, 87, 88, 89, 90, 91, 92, 93, 94, 95, 96, 97, 98, 99, 100, 101, 102, 103, 104, 105, 106, 107, 108, 109, 110, 111, 112, 113, 114, 115, 116, 117, 118, 119, 120, 121] 122 8 77 (by kernel_rfl) (by decide) (by kernel_rfl) (by kernel_rfl) (by decide) (by kernel_rfl) (by kernel_rfl) (by kernel_rfl) rfl ⟨_, rfl, rfl, rfl, rfl, by kernel_rfl, by decide⟩ (fun t v w w' _ h => h) (by kernel_rfl) (fun v w h => h) (by kernel_rfl) ?hstep ?hend
                      case hstep =>
                       refine Gw.steps_cons ?s0 (Gw.steps_cons ?s1 (Gw.steps_cons ?s2 (Gw.steps_cons ?s3 (Gw.steps_cons ?s4 (Gw.steps_cons ?s5 (Gw.steps_cons ?s6 (Gw.steps_cons ?s7 (Gw.steps_cons ?s8 (Gw.steps_cons ?s9 (Gw.steps_cons ?s10 (Gw.steps_cons ?s11 (Gw.steps_cons ?s12 (Gw.steps_cons ?s13 (Gw.steps_cons ?s14 (Gw.steps_cons ?s15 (Gw.steps_cons ?s16 (Gw.steps_cons ?s17 (Gw.steps_cons ?s18 (Gw.steps_cons ?s19 (Gw.steps_cons ?s20 (Gw.steps_cons ?s21 (Gw.steps_cons ?s22 (Gw.steps_cons ?s23 (Gw.steps_cons ?s24 (Gw.steps_cons ?s25 (Gw.steps_cons ?s26 (Gw.steps_nil)))))))))))))))))))))))))))
                       case s0 => exact Gw.step_move 8 51 rfl rfl (Gw.guard_none rfl) (by kernel_rfl) (fun v w h => h)
                       case s1 => exact Gw.step_move 51 52 rfl rfl (Gw.guard_none rfl) (by kernel_rfl) (fun v w h => h)
                       case s2 => exact Gw.step_move 5 53 rfl rfl (Gw_guard_open 1 52 false rfl (by kernel_rfl) (by kernel_rfl) (fun v w h => h)) (by kernel_rfl) (fun v w h => h)
                       case s3 => exact Gw.step_move 0 54 rfl rfl (Gw_guard_open 1 52 false rfl (by kernel_rfl) (by kernel_rfl) (fun v w h => h)) (by kernel_rfl) (fun v w h => h)
                       case s4 => exact Gw.step_move 7 55 rfl rfl (Gw_guard_open 1 52 false rfl (by kernel_rfl) (by kernel_rfl) (fun v w h => h)) (by kernel_rfl) (fun v w h => h)
                       case s5 =>
                        refine Gw.StepOk.of (Gw_guard_open 1 52 false rfl (by kernel_rfl) (by kernel_rfl) (fun v w h => h)) fun b w' hsz hW hl K hK => ?_
                        clear hsz
                        unfold Oper.wp
                        have e54 : b.tmps[54]?.getD undef = .slice (some p) n cap := getD' (Gw.look hl 54 (by kernel_rfl))
                        have e55 : b.tmps[55]?.getD undef = .int .i64 (i : Int) := getD' (Gw.look hl 55 (by kernel_rfl))
                        go_simp
                        exact hK _ _ (Grw.refl _) (Gw.dst_eq rfl rfl)
                       case s6 =>
                        refine Gw.StepOk.of (Gw_guard_open 1 52 false rfl (by kernel_rfl) (by kernel_rfl) (fun v w h => h)) fun b w' hsz hW hl K hK => ?_
                        clear hsz
                        unfold Oper.wp
                        have e56 : b.tmps[56]?.getD undef = .pointer (some (p.add (i * 3))) := getD' (Gw.look hl 56 (by kernel_rfl))
                        have kcx0 := hW.cell cx0
                        have kcx1 := hW.cell cx1
                        have kcx2 := hW.cell cx2
                        have kcy0 := hW.cell cy0
                        have kcy1 := hW.cell cy1
                        have kcy2 := hW.cell cy2
                        go_simp
                        exact hK _ _ (Grw.refl _) (Gw.dst_eq rfl rfl)
                       case s7 => exact Gw.step_move 4 58 rfl rfl (Gw_guard_open 1 52 false rfl (by kernel_rfl) (by kernel_rfl) (fun v w h => h)) (by kernel_rfl) (fun v w h => h)
                       case s8 => exact Gw.step_move 9 59 rfl rfl (Gw_guard_open 1 52 false rfl (by kernel_rfl) (by kernel_rfl) (fun v w h => h)) (by kernel_rfl) (fun v w h => h)
                       case s9 =>
                        refine Gw.StepOk.of (Gw_guard_open 1 52 false rfl (by kernel_rfl) (by kernel_rfl) (fun v w h => h)) fun b w' hsz hW hl K hK => ?_
                        clear hsz
                        unfold Oper.wp
                        have e58 : b.tmps[58]?.getD undef = .slice (some ⟨g, 0, none⟩) M.length c' := getD' (Gw.look hl 58 (by kernel_rfl))
                        have e59 : b.tmps[59]?.getD undef = .int .i64 (k : Int) := getD' (Gw.look hl 59 (by kernel_rfl))
                        go_simp
                        exact hK _ _ (Grw.refl _) (Gw.dst_eq rfl rfl)
                       case s10 =>
                        refine Gw.StepOk.of (Gw_guard_open 1 52 false rfl (by kernel_rfl) (by kernel_rfl) (fun v w h => h)) fun b w' hsz hW hl K hK => ?_
                        clear hsz
                        unfold Oper.wp
                        have e60 : b.tmps[60]?.getD undef = .pointer (some ⟨g, k * 3, none⟩) := getD' (Gw.look hl 60 (by kernel_rfl))
                        have kcx0 := hW.cell cx0
                        have kcx1 := hW.cell cx1
                        have kcx2 := hW.cell cx2
                        have kcy0 := hW.cell cy0
                        have kcy1 := hW.cell cy1
                        have kcy2 := hW.cell cy2
                        go_simp
                        exact hK _ _ (Grw.refl _) (Gw.dst_eq rfl rfl)
                       case s11 => exact Gw_callv2 11 53 57 61 62 _ (by kernel_rfl) rfl rfl (Gw_guard_open 1 52 false rfl (by kernel_rfl) (by kernel_rfl) (fun v w h => h)) (by kernel_rfl) (by kernel_rfl) (by kernel_rfl) (fun v w h => h) (fun x y w' hW hx hy => by have hx : x = .agg #[.string (nth ys i).pkg, .string (nth ys i).file, .int .i64 (nth ys i).at'] := hx; have hy : y = .agg #[.string (nth M k).pkg, .string (nth M k).file, .int .i64 (nth M k).at'] := hy; subst hx; subst hy; exact (kL w').mono fun e w'' h => ⟨_, h.1, rfl, h.2⟩)
                       case s12 =>
                        refine Gw.StepOk.of (Gw_guard_open 1 52 false rfl (by kernel_rfl) (by kernel_rfl) (fun v w h => h)) fun b w' hsz hW hl K hK => ?_
                        clear hsz
                        unfold Oper.wp
                        have e62 : b.tmps[62]?.getD undef = .bool false := getD' (Gw.look hl 62 (by kernel_rfl))
                        go_simp
                        exact hK _ _ (Grw.refl _) (Gw.dst_eq rfl rfl)
                       case s13 => exact Gw.step_move 63 64 rfl rfl (Gw_guard_open 1 52 false rfl (by kernel_rfl) (by kernel_rfl) (fun v w h => h)) (by kernel_rfl) (fun v w h => h)
                       case s14 => exact Gw.step_move 5 65 rfl rfl (Gw_guard_open 13 64 true rfl (by kernel_rfl) (by kernel_rfl) (fun v w h => h)) (by kernel_rfl) (fun v w h => h)
                       case s15 => exact Gw.step_move 4 66 rfl rfl (Gw_guard_open 13 64 true rfl (by kernel_rfl) (by kernel_rfl) (fun v w h => h)) (by kernel_rfl) (fun v w h => h)
                       case s16 => exact Gw.step_move 9 67 rfl rfl (Gw_guard_open 13 64 true rfl (by kernel_rfl) (by kernel_rfl) (fun v w h => h)) (by kernel_rfl) (fun v w h => h)
                       case s17 =>
                        refine Gw.StepOk.of (Gw_guard_open 13 64 true rfl (by kernel_rfl) (by kernel_rfl) (fun v w h => h)) fun b w' hsz hW hl K hK => ?_
                        clear hsz
                        unfold Oper.wp
                        have e66 : b.tmps[66]?.getD undef = .slice (some ⟨g, 0, none⟩) M.length c' := getD' (Gw.look hl 66 (by kernel_rfl))
                        have e67 : b.tmps[67]?.getD undef = .int .i64 (k : Int) := getD' (Gw.look hl 67 (by kernel_rfl))
                        go_simp
                        exact hK _ _ (Grw.refl _) (Gw.dst_eq rfl rfl)
                       case s18 =>
                        refine Gw.StepOk.of (Gw_guard_open 13 64 true rfl (by kernel_rfl) (by kernel_rfl) (fun v w h => h)) fun b w' hsz hW hl K hK => ?_
                        clear hsz
                        unfold Oper.wp
                        have e68 : b.tmps[68]?.getD undef = .pointer (some ⟨g, k * 3, none⟩) := getD' (Gw.look hl 68 (by kernel_rfl))
                        have kcx0 := hW.cell cx0
                        have kcx1 := hW.cell cx1
                        have kcx2 := hW.cell cx2
                        have kcy0 := hW.cell cy0
                        have kcy1 := hW.cell cy1
                        have kcy2 := hW.cell cy2
                        go_simp
                        exact hK _ _ (Grw.refl _) (Gw.dst_eq rfl rfl)
                       case s19 => exact Gw.step_move 0 70 rfl rfl (Gw_guard_open 13 64 true rfl (by kernel_rfl) (by kernel_rfl) (fun v w h => h)) (by kernel_rfl) (fun v w h => h)
                       case s20 => exact Gw.step_move 7 71 rfl rfl (Gw_guard_open 13 64 true rfl (by kernel_rfl) (by kernel_rfl) (fun v w h => h)) (by kernel_rfl) (fun v w h => h)
                       case s21 =>
                        refine Gw.StepOk.of (Gw_guard_open 13 64 true rfl (by kernel_rfl) (by kernel_rfl) (fun v w h => h)) fun b w' hsz hW hl K hK => ?_
                        clear hsz
                        unfold Oper.wp
                        have e70 : b.tmps[70]?.getD undef = .slice (some p) n cap := getD' (Gw.look hl 70 (by kernel_rfl))
                        have e71 : b.tmps[71]?.getD undef = .int .i64 (i : Int) := getD' (Gw.look hl 71 (by kernel_rfl))
                        go_simp
                        exact hK _ _ (Grw.refl _) (Gw.dst_eq rfl rfl)
                       case s22 =>
                        refine Gw.StepOk.of (Gw_guard_open 13 64 true rfl (by kernel_rfl) (by kernel_rfl) (fun v w h => h)) fun b w' hsz hW hl K hK => ?_
                        clear hsz
                        unfold Oper.wp
                        have e72 : b.tmps[72]?.getD undef = .pointer (some (p.add (i * 3))) := getD' (Gw.look hl 72 (by kernel_rfl))
                        have kcx0 := hW.cell cx0
                        have kcx1 := hW.cell cx1
                        have kcx2 := hW.cell cx2
                        have kcy0 := hW.cell cy0
                        have kcy1 := hW.cell cy1
                        have kcy2 := hW.cell cy2
                        go_simp
                        exact hK _ _ (Grw.refl _) (Gw.dst_eq rfl rfl)
                       case s23 => exact Gw_callv2 11 65 69 73 74 _ (by kernel_rfl) rfl rfl (Gw_guard_open 13 64 true rfl (by kernel_rfl) (by kernel_rfl) (fun v w h => h)) (by kernel_rfl) (by kernel_rfl) (by kernel_rfl) (fun v w h => h) (fun x y w' hW hx hy => by have hx : x = .agg #[.string (nth M k).pkg, .string (nth M k).file, .int .i64 (nth M k).at'] := hx; have hy : y = .agg #[.string (nth ys i).pkg, .string (nth ys i).file, .int .i64 (nth ys i).at'] := hy; subst hx; subst hy; exact (kM w').mono fun e w'' h => ⟨_, h.1, rfl, h.2⟩)
                       case s24 =>
                        refine Gw.StepOk.of (Gw_guard_open 13 64 true rfl (by kernel_rfl) (by kernel_rfl) (fun v w h => h)) fun b w' hsz hW hl K hK => ?_
                        clear hsz
                        unfold Oper.wp
                        have e74 : b.tmps[74]?.getD undef = .bool true := getD' (Gw.look hl 74 (by kernel_rfl))
                        go_simp
                        exact hK _ _ (Grw.refl _) (Gw.dst_eq rfl rfl)
                       case s25 => exact Gw_pick 64 (.tmp 75) (.const (.bool false)) 76 true (.bool false) rfl rfl (Gw_guard_open 1 52 false rfl (by kernel_rfl) (by kernel_rfl) (fun v w h => h)) (by kernel_rfl) (fun v w h => h) (fun b w' hl => Gw.look hl 75 (by kernel_rfl)) (fun w => rfl)
                       case s26 => exact Gw_pick 52 (.const (.bool true)) (.tmp 76) 77 false (.bool false) rfl rfl (Gw.guard_none rfl) (by kernel_rfl) (fun v w h => h) (fun b w' hl => Gw.look hl 76 (by kernel_rfl)) (fun w => rfl)
                      case hend =>
                       intro xs wz hGz _ hxl
                       have hBz := bthen hBq hGz.below
                       simp only [mixed, List.contains_cons, List.contains_nil, Nat.reduceBEq, Nat.reduceAdd, Bool.or_false, Bool.or_true, Bool.false_eq_true, if_false, if_true]
                       rw [hxl]
                       go_wp2
                       go_roundw
                       case rel =>
                        first
                         | exact ⟨k + 1, false, by omega, by go_num, rfl, hnew.out, hBz⟩
                         | ((repeat apply Exists.intro); refine ⟨⟨k + 1, false, by omega, rfl, rfl, hnew.out, hBz⟩, ?_⟩; repeat' (first | rfl | go_num | constructor))
                       case measure => simp [intOf]; omega
                · obtain rfl : k = M.length := by omega
                  have hbt : b = true := by
                    refine hrb.out.2 ?_
                    obtain ⟨t, ht, he⟩ := List.getElem_of_mem ((hmem.out (nth ys i)).2 (nth_mem ys i (by omega)))
                    exact ⟨t, ht, by simp [nth, List.getElem?_eq_getElem ht]; exact he⟩
                  subst hbt
                  clear hrb
                  go_wp2
                  go_roundw
                  case rel => exact ⟨i + 1, by omega, by go_num, hBq⟩
                  case measure => simp [intOf]; omega
            · go_wp2
              go_loopw [10, 11, 12] (fun v _ _ wr => ∃ i : Nat, i ≤ M.length ∧ v = .int .i64 (i : Int) ∧ Below w2.heap.size w2 wr) (fun v _ _ _ => M.length - (intOf v).toNat)
              case atStart => exact ⟨0, Nat.zero_le _, rfl, hBr⟩
              case round =>
                obtain ⟨i, hi, rfl, hBr⟩ := hrel
                by_cases hlt : i < M.length
                · go_wp2
                  go_loopw [11, 12] (fun vb vk wq => ∃ (k : Nat) (b : Bool), k ≤ n ∧ vk = .int .i64 (k : Int) ∧ vb = .bool b ∧ Hid (b = true ↔ ∃ t, t < k ∧ nth ys t = nth M i) ∧ Below w2.heap.size w2 wq) (fun _ vk _ => n - (intOf vk).toNat)
                  case atStart => exact ⟨0, false, Nat.zero_le _, rfl, rfl, ⟨fun h => (Bool.false_ne_true h).elim, fun ⟨t, ht, _⟩ => (by omega)⟩, hBr⟩
                  case round =>
                    obtain ⟨k, b, hk, rfl, rfl, hrb, hBq⟩ := hrel
                    by_cases hkl : k < n
                    · have hHq : HD wr g M := hHD.out.next (by omega) hBq
                      obtain ⟨⟨cy0, cy1, cy2⟩, _, _, _⟩ := hHq i (by omega)
                      obtain ⟨p, rfl⟩ : ∃ p, a = some p := by
                        cases a with
                        | none => have h1 := hyw.nil rfl; have h2 := hyw.le; omega
                        | some p => exact ⟨p, rfl⟩
                      obtain ⟨cx0, cx1, cx2⟩ := (hyw.next hBq).cells3 k (by omega)
                      clear hHq
                      have i0 : 0 ≤ (k : Int) ∧ (k : Int) < (n : Int) := by omega
                      have i1 : 0 ≤ (i : Int) ∧ (i : Int) < (M.length : Int) := by omega
                      cases b with
                      | true =>
                        have hnew : ∃ t, t < k + 1 ∧ nth ys t = nth M i := by obtain ⟨t, ht, he⟩ := hrb.out.1 rfl; exact ⟨t, by omega, he⟩
                        replace hnew : Hid (∃ t, t < k + 1 ∧ nth ys t = nth M i) := hnew
                        go_wp2_with fail
                        refine wp_region_late (late28A p g n cap c' M.length i k (nth ys k) (nth M i)) (.bool true) [92, 93, 94, 95, 96, 97, 98, 99, 100, 101, 102, 103, 104, 105, 106, 107, 108, 109, 110, 111, 112, 113, 114, 115, 116, 117, 118] [0, 1, 2, 3, 4, 5, 6, 7, 8, 9, 10, 11, 12, 13, 14, 15, 16, 17, 18, 19, 20, 21, 22, 23, 24, 25, 26, 27, 28, 29, 30, 31, 32, 33, 34, 35, 36, 37, 38, 39, 40, 41, 42, 43, 44, 45, 46, 47, 48, 49, 50, 51, 52, 53, 54, 55, 56, 57, 58, 59, 60, 61, 62, 63, 64, 65, 66, 67, 68, 69, 70, 71, 72, 73, 74, 75, 76, 77, 78, 79, 80, 81, 82, 83, 84, 85, 86, 87, 88, 89, 90, 91, 119, 120, 121] 122 11 118 (by kernel_rfl) (by decide) (by kernel_rfl) (by kernel_rfl) (by decide) (by kernel_rfl) (by kernel_rfl) (by kernel_rfl) rfl ⟨_, rfl, rfl, rfl, rfl, by kernel_rfl, by decide⟩ (fun t v w w' _ h => h) (by kernel_rfl) (fun v w h => h) (by kernel_rfl) ?hstep ?hend
                        case hstep =>
                         refine Gw.steps_cons ?s0 (Gw.steps_cons ?s1 (Gw.steps_cons ?s2 (Gw.steps_cons ?s3 (Gw.steps_cons ?s4 (Gw.steps_cons ?s5 (Gw.steps_cons ?s6 (Gw.steps_cons ?s7 (Gw.steps_cons ?s8 (Gw.steps_cons ?s9 (Gw.steps_cons ?s10 (Gw.steps_cons ?s11 (Gw.steps_cons ?s12 (Gw.steps_cons ?s13 (Gw.steps_cons ?s14 (Gw.steps_cons ?s15 (Gw.steps_cons ?s16 (Gw.steps_cons ?s17 (Gw.steps_cons ?s18 (Gw.steps_cons ?s19 (Gw.steps_cons ?s20 (Gw.steps_cons ?s21 (Gw.steps_cons ?s22 (Gw.steps_cons ?s23 (Gw.steps_cons ?s24 (Gw.steps_cons ?s25 (Gw.steps_cons ?s26 (Gw.steps_nil)))))))))))))))))))))))))))
                         case s0 => exact Gw.step_move 11 92 rfl rfl (Gw.guard_none rfl) (by kernel_rfl) (fun v w h => h)
                         case s1 => exact Gw.step_move 92 93 rfl rfl (Gw.guard_none rfl) (by kernel_rfl) (fun v w h => h)
                         case s2 => exact Gw_shut 1 93 94 false rfl (by kernel_rfl) (by kernel_rfl) (fun v w h e => by have h : v = .bool true := h; rw [h] at e; cases e) rfl (fun w => rfl)
                         case s3 => exact Gw_shut 1 93 95 false rfl (by kernel_rfl) (by kernel_rfl) (fun v w h e => by have h : v = .bool true := h; rw [h] at e; cases e) rfl (fun w => rfl)
                         case s4 => exact Gw_shut 1 93 96 false rfl (by kernel_rfl) (by kernel_rfl) (fun v w h e => by have h : v = .bool true := h; rw [h] at e; cases e) rfl (fun w => rfl)
                         case s5 => exact Gw_shut 1 93 97 false rfl (by kernel_rfl) (by kernel_rfl) (fun v w h e => by have h : v = .bool true := h; rw [h] at e; cases e) rfl (fun w => rfl)
                         case s6 => exact Gw_shut 1 93 98 false rfl (by kernel_rfl) (by kernel_rfl) (fun v w h e => by have h : v = .bool true := h; rw [h] at e; cases e) rfl (fun w => rfl)
                         case s7 => exact Gw_shut 1 93 99 false rfl (by kernel_rfl) (by kernel_rfl) (fun v w h e => by have h : v = .bool true := h; rw [h] at e; cases e) rfl (fun w => rfl)
                         case s8 => exact Gw_shut 1 93 100 false rfl (by kernel_rfl) (by kernel_rfl) (fun v w h e => by have h : v = .bool true := h; rw [h] at e; cases e) rfl (fun w => rfl)
                         case s9 => exact Gw_shut 1 93 101 false rfl (by kernel_rfl) (by kernel_rfl) (fun v w h e => by have h : v = .bool true := h; rw [h] at e; cases e) rfl (fun w => rfl)
                         case s10 => exact Gw_shut 1 93 102 false rfl (by kernel_rfl) (by kernel_rfl) (fun v w h e => by have h : v = .bool true := h; rw [h] at e; cases e) rfl (fun w => rfl)
                         case s11 => exact Gw_shut 1 93 103 false rfl (by kernel_rfl) (by kernel_rfl) (fun v w h e => by have h : v = .bool true := h; rw [h] at e; cases e) rfl (fun w => rfl)
                         case s12 => exact Gw_shut 1 93 104 false rfl (by kernel_rfl) (by kernel_rfl) (fun v w h e => by have h : v = .bool true := h; rw [h] at e; cases e) rfl (fun w => rfl)
                         case s13 => exact Gw_shut 1 93 105 false rfl (by kernel_rfl) (by kernel_rfl) (fun v w h e => by have h : v = .bool true := h; rw [h] at e; cases e) rfl (fun w => rfl)
                         case s14 => exact Gw_shut 13 105 106 true rfl (by kernel_rfl) (by kernel_rfl) (fun v w h e => by have h : v = undef := h; rw [h] at e; cases e) rfl (fun w => rfl)
                         case s15 => exact Gw_shut 13 105 107 true rfl (by kernel_rfl) (by kernel_rfl) (fun v w h e => by have h : v = undef := h; rw [h] at e; cases e) rfl (fun w => rfl)
                         case s16 => exact Gw_shut 13 105 108 true rfl (by kernel_rfl) (by kernel_rfl) (fun v w h e => by have h : v = undef := h; rw [h] at e; cases e) rfl (fun w => rfl)
                         case s17 => exact Gw_shut 13 105 109 true rfl (by kernel_rfl) (by kernel_rfl) (fun v w h e => by have h : v = undef := h; rw [h] at e; cases e) rfl (fun w => rfl)
                         case s18 => exact Gw_shut 13 105 110 true rfl (by kernel_rfl) (by kernel_rfl) (fun v w h e => by have h : v = undef := h; rw [h] at e; cases e) rfl (fun w => rfl)
                         case s19 => exact Gw_shut 13 105 111 true rfl (by kernel_rfl) (by kernel_rfl) (fun v w h e => by have h : v = undef := h; rw [h] at e; cases e) rfl (fun w => rfl)
                         case s20 => exact Gw_shut 13 105 112 true rfl (by kernel_rfl) (by kernel_rfl) (fun v w h e => by have h : v = undef := h; rw [h] at e; cases e) rfl (fun w => rfl)
                         case s21 => exact Gw_shut 13 105 113 true rfl (by kernel_rfl) (by kernel_rfl) (fun v w h e => by have h : v = undef := h; rw [h] at e; cases e) rfl (fun w => rfl)
                         case s22 => exact Gw_shut 13 105 114 true rfl (by kernel_rfl) (by kernel_rfl) (fun v w h e => by have h : v = undef := h; rw [h] at e; cases e) rfl (fun w => rfl)
                         case s23 => exact Gw_shut 13 105 115 true rfl (by kernel_rfl) (by kernel_rfl) (fun v w h e => by have h : v = undef := h; rw [h] at e; cases e) rfl (fun w => rfl)
                         case s24 => exact Gw_shut 13 105 116 true rfl (by kernel_rfl) (by kernel_rfl) (fun v w h e => by have h : v = undef := h; rw [h] at e; cases e) rfl (fun w => rfl)
                         case s25 => exact Gw_shut 1 93 117 false rfl (by kernel_rfl) (by kernel_rfl) (fun v w h e => by have h : v = .bool true := h; rw [h] at e; cases e) rfl (fun w => rfl)
                         case s26 => exact Gw_pick 93 (.const (.bool true)) (.tmp 117) 118 true (.bool true) rfl rfl (Gw.guard_none rfl) (by kernel_rfl) (fun v w h => h) (fun b w' hl => rfl) (fun w => rfl)
                        case hend =>
                         intro xs wz hGz _ hxl
                         have hBz := bthen hBq hGz.below
                         simp only [mixed, List.contains_cons, List.contains_nil, Nat.reduceBEq, Nat.reduceAdd, Bool.or_false, Bool.or_true, Bool.false_eq_true, if_false, if_true]
                         rw [hxl]
                         go_wp2
                         go_roundw
                         case rel =>
                          first
                           | exact ⟨k + 1, true, by omega, by go_num, rfl, ⟨fun _ => hnew.out, fun _ => rfl⟩, hBz⟩
                           | ((repeat apply Exists.intro); refine ⟨⟨k + 1, true, by omega, rfl, rfl, ⟨fun _ => hnew.out, fun _ => rfl⟩, hBz⟩, ?_⟩; repeat' (first | rfl | go_num | constructor))
                         case measure => simp [intOf]; omega
                      | false =>
                        rcases Int.lt_trichotomy (cmpDG (nth ys k) (nth M i)) 0 with hc | hc | hc
                        · have kL := fun W => less_yes hc W
                          have hne : ¬ nth ys k = nth M i := fun e => by rw [e] at hc; rw [(cmpDG_zero _ _).2 rfl] at hc; omega
                          have hnew : false = true ↔ ∃ t, t < k + 1 ∧ nth ys t = nth M i := ⟨fun h => (Bool.false_ne_true h).elim, fun ⟨t, ht, he⟩ => by
                            by_cases e : t = k
                            · subst e; exact absurd he hne
                            · exact absurd (hrb.out.2 ⟨t, by omega, he⟩) Bool.false_ne_true⟩
                          replace hnew : Hid (false = true ↔ ∃ t, t < k + 1 ∧ nth ys t = nth M i) := hnew
                          clear hc hne
                          go_wp2_with fail
                          refine wp_region_late (late28L p g n cap c' M.length i k (nth ys k) (nth M i)) (.bool false) [92, 93, 94, 95, 96, 97, 98, 99, 100, 101, 102, 103, 104, 105, 106, 107, 108, 109, 110, 111, 112, 113, 114, 115, 116, 117, 118] [0, 1, 2, 3, 4, 5, 6, 7, 8, 9, 10, 11, 12, 13, 14, 15, 16, 17, 18, 19, 20, 21, 22, 23, 24, 25, 26, 27, 28, 29, 30, 31, 32, 33, 34, 35, 36, 37, 38, 39, 40, 41, 42, 43, 44, 45, 46, 47, 48, 49, 50, 51, 52, 53, 54, 55, 56, 57, 58, 59, 60, 61, 62, 63, 64, 65, 66, 67, 68, 69, 70, 71, 72, 73, 74, 75, 76, 77, 78, 79, 80, 81, 82, 83, 84, 85, 86, 87, 88, 89, 90, 91, 119, 120, 121] 122 11 118 (by kernel_rfl) (by decide) (by kernel_rfl) (by kernel_rfl) (by decide) (by kernel_rfl) (by kernel_rfl) (by kernel_rfl) rfl ⟨_, rfl, rfl, rfl, rfl, by kernel_rfl, by decide⟩ (fun t v w w' _ h => h) (by kernel_rfl) (fun v w h => h) (by kernel_rfl) ?hstep ?hend
                          case hstep =>
                           refine Gw.steps_cons ?s0 (Gw.steps_cons ?s1 (Gw.steps_cons ?s2 (Gw.steps_cons ?s3 (Gw.steps_cons ?s4 (Gw.steps_cons ?s5 (Gw.steps_cons ?s6 (Gw.steps_cons ?s7 (Gw.steps_cons ?s8 (Gw.steps_cons ?s9 (Gw.steps_cons ?s10 (Gw.steps_cons ?s11 (Gw.steps_cons ?s12 (Gw.steps_cons ?s13 (Gw.steps_cons ?s14 (Gw.steps_cons ?s15 (Gw.steps_cons ?s16 (Gw.steps_cons ?s17 (Gw.steps_cons ?s18 (Gw.steps_cons ?s19 (Gw.steps_cons ?s20 (Gw.steps_cons ?s21 (Gw.steps_cons ?s22 (Gw.steps_cons ?s23 (Gw.steps_cons ?s24 (Gw.steps_cons ?s25 (Gw.steps_cons ?s26 (Gw.steps_nil)))))))))))))))))))))))))))
                           case s0 => exact Gw.step_move 11 92 rfl rfl (Gw.guard_none rfl) (by kernel_rfl) (fun v w h => h)
                           case s1 => exact Gw.step_move 92 93 rfl rfl (Gw.guard_none rfl) (by kernel_rfl) (fun v w h => h)
                           case s2 => exact Gw.step_move 5 94 rfl rfl (Gw_guard_open 1 93 false rfl (by kernel_rfl) (by kernel_rfl) (fun v w h => h)) (by kernel_rfl) (fun v w h => h)
                           case s3 => exact Gw.step_move 0 95 rfl rfl (Gw_guard_open 1 93 false rfl (by kernel_rfl) (by kernel_rfl) (fun v w h => h)) (by kernel_rfl) (fun v w h => h)
                           case s4 => exact Gw.step_move 12 96 rfl rfl (Gw_guard_open 1 93 false rfl (by kernel_rfl) (by kernel_rfl) (fun v w h => h)) (by kernel_rfl) (fun v w h => h)
                           case s5 =>
                            refine Gw.StepOk.of (Gw_guard_open 1 93 false rfl (by kernel_rfl) (by kernel_rfl) (fun v w h => h)) fun b w' hsz hW hl K hK => ?_
                            clear hsz
                            unfold Oper.wp
                            have e95 : b.tmps[95]?.getD undef = .slice (some p) n cap := getD' (Gw.look hl 95 (by kernel_rfl))
                            have e96 : b.tmps[96]?.getD undef = .int .i64 (k : Int) := getD' (Gw.look hl 96 (by kernel_rfl))
                            go_simp
                            exact hK _ _ (Grw.refl _) (Gw.dst_eq rfl rfl)
                           case s6 =>
                            refine Gw.StepOk.of (Gw_guard_open 1 93 false rfl (by kernel_rfl) (by kernel_rfl) (fun v w h => h)) fun b w' hsz hW hl K hK => ?_
                            clear hsz
                            unfold Oper.wp
                            have e97 : b.tmps[97]?.getD undef = .pointer (some (p.add (k * 3))) := getD' (Gw.look hl 97 (by kernel_rfl))
                            have kcx0 := hW.cell cx0
                            have kcx1 := hW.cell cx1
                            have kcx2 := hW.cell cx2
                            have kcy0 := hW.cell cy0
                            have kcy1 := hW.cell cy1
                            have kcy2 := hW.cell cy2
                            go_simp
                            exact hK _ _ (Grw.refl _) (Gw.dst_eq rfl rfl)
                           case s7 => exact Gw.step_move 4 99 rfl rfl (Gw_guard_open 1 93 false rfl (by kernel_rfl) (by kernel_rfl) (fun v w h => h)) (by kernel_rfl) (fun v w h => h)
                           case s8 => exact Gw.step_move 10 100 rfl rfl (Gw_guard_open 1 93 false rfl (by kernel_rfl) (by kernel_rfl) (fun v w h => h)) (by kernel_rfl) (fun v w h => h)
                           case s9 =>
                            refine Gw.StepOk.of (Gw_guard_open 1 93 false rfl (by kernel_rfl) (by kernel_rfl) (fun v w h => h)) fun b w' hsz hW hl K hK => ?_
                            clear hsz
                            unfold Oper.wp
                            have e99 : b.tmps[99]?.getD undef = .slice (some ⟨g, 0, none⟩) M.length c' := getD' (Gw.look hl 99 (by kernel_rfl))
                            have e100 : b.tmps[100]?.getD undef = .int .i64 (i : Int) := getD' (Gw.look hl 100 (by kernel_rfl))
                            go_simp
                            exact hK _ _ (Grw.refl _) (Gw.dst_eq rfl rfl)
                           case s10 =>
                            refine Gw.StepOk.of (Gw_guard_open 1 93 false rfl (by kernel_rfl) (by kernel_rfl) (fun v w h => h)) fun b w' hsz hW hl K hK => ?_
                            clear hsz
                            unfold Oper.wp
                            have e101 : b.tmps[101]?.getD undef = .pointer (some ⟨g, i * 3, none⟩) := getD' (Gw.look hl 101 (by kernel_rfl))
                            have kcx0 := hW.cell cx0
                            have kcx1 := hW.cell cx1
                            have kcx2 := hW.cell cx2
                            have kcy0 := hW.cell cy0
                            have kcy1 := hW.cell cy1
                            have kcy2 := hW.cell cy2
                            go_simp
                            exact hK _ _ (Grw.refl _) (Gw.dst_eq rfl rfl)
                           case s11 => exact Gw_callv2 11 94 98 102 103 _ (by kernel_rfl) rfl rfl (Gw_guard_open 1 93 false rfl (by kernel_rfl) (by kernel_rfl) (fun v w h => h)) (by kernel_rfl) (by kernel_rfl) (by kernel_rfl) (fun v w h => h) (fun x y w' hW hx hy => by have hx : x = .agg #[.string (nth ys k).pkg, .string (nth ys k).file, .int .i64 (nth ys k).at'] := hx; have hy : y = .agg #[.string (nth M i).pkg, .string (nth M i).file, .int .i64 (nth M i).at'] := hy; subst hx; subst hy; exact (kL w').mono fun e w'' h => ⟨_, h.1, rfl, h.2⟩)
                           case s12 =>
                            refine Gw.StepOk.of (Gw_guard_open 1 93 false rfl (by kernel_rfl) (by kernel_rfl) (fun v w h => h)) fun b w' hsz hW hl K hK => ?_
                            clear hsz
                            unfold Oper.wp
                            have e103 : b.tmps[103]?.getD undef = .bool true := getD' (Gw.look hl 103 (by kernel_rfl))
                            go_simp
                            exact hK _ _ (Grw.refl _) (Gw.dst_eq rfl rfl)
                           case s13 => exact Gw.step_move 104 105 rfl rfl (Gw_guard_open 1 93 false rfl (by kernel_rfl) (by kernel_rfl) (fun v w h => h)) (by kernel_rfl) (fun v w h => h)
                           case s14 => exact Gw_shut 13 105 106 true rfl (by kernel_rfl) (by kernel_rfl) (fun v w h e => by have h : v = .bool false := h; rw [h] at e; cases e) rfl (fun w => rfl)
                           case s15 => exact Gw_shut 13 105 107 true rfl (by kernel_rfl) (by kernel_rfl) (fun v w h e => by have h : v = .bool false := h; rw [h] at e; cases e) rfl (fun w => rfl)
                           case s16 => exact Gw_shut 13 105 108 true rfl (by kernel_rfl) (by kernel_rfl) (fun v w h e => by have h : v = .bool false := h; rw [h] at e; cases e) rfl (fun w => rfl)
                           case s17 => exact Gw_shut 13 105 109 true rfl (by kernel_rfl) (by kernel_rfl) (fun v w h e => by have h : v = .bool false := h; rw [h] at e; cases e) rfl (fun w => rfl)
                           case s18 => exact Gw_shut 13 105 110 true rfl (by kernel_rfl) (by kernel_rfl) (fun v w h e => by have h : v = .bool false := h; rw [h] at e; cases e) rfl (fun w => rfl)
                           case s19 => exact Gw_shut 13 105 111 true rfl (by kernel_rfl) (by kernel_rfl) (fun v w h e => by have h : v = .bool false := h; rw [h] at e; cases e) rfl (fun w => rfl)
                           case s20 => exact Gw_shut 13 105 112 true rfl (by kernel_rfl) (by kernel_rfl) (fun v w h e => by have h : v = .bool false := h; rw [h] at e; cases e) rfl (fun w => rfl)
                           case s21 => exact Gw_shut 13 105 113 true rfl (by kernel_rfl) (by kernel_rfl) (fun v w h e => by have h : v = .bool false := h; rw [h] at e; cases e) rfl (fun w => rfl)
                           case s22 => exact Gw_shut 13 105 114 true rfl (by kernel_rfl) (by kernel_rfl) (fun v w h e => by have h : v = .bool false := h; rw [h] at e; cases e) rfl (fun w => rfl)
                           case s23 => exact Gw_shut 13 105 115 true rfl (by kernel_rfl) (by kernel_rfl) (fun v w h e => by have h : v = .bool false := h; rw [h] at e; cases e) rfl (fun w => rfl)
                           case s24 => exact Gw_shut 13 105 116 true rfl (by kernel_rfl) (by kernel_rfl) (fun v w h e => by have h : v = .bool false := h; rw [h] at e; cases e) rfl (fun w => rfl)
                           case s25 => exact Gw_pick 105 (.tmp 116) (.const (.bool false)) 117 false (.bool false) rfl rfl (Gw_guard_open 1 93 false rfl (by kernel_rfl) (by kernel_rfl) (fun v w h => h)) (by kernel_rfl) (fun v w h => h) (fun b w' hl => rfl) (fun w => rfl)
                           case s26 => exact Gw_pick 93 (.const (.bool true)) (.tmp 117) 118 false (.bool false) rfl rfl (Gw.guard_none rfl) (by kernel_rfl) (fun v w h => h) (fun b w' hl => Gw.look hl 117 (by kernel_rfl)) (fun w => rfl)
                          case hend =>
                           intro xs wz hGz _ hxl
                           have hBz := bthen hBq hGz.below
                           simp only [mixed, List.contains_cons, List.contains_nil, Nat.reduceBEq, Nat.reduceAdd, Bool.or_false, Bool.or_true, Bool.false_eq_true, if_false, if_true]
                           rw [hxl]
                           go_wp2
                           go_roundw
                           case rel =>
                            first
                             | exact ⟨k + 1, false, by omega, by go_num, rfl, hnew.out, hBz⟩
                             | ((repeat apply Exists.intro); refine ⟨⟨k + 1, false, by omega, rfl, rfl, hnew.out, hBz⟩, ?_⟩; repeat' (first | rfl | go_num | constructor))
                           case measure => simp [intOf]; omega
                        · have kL := fun W => less_no (show ¬ cmpDG (nth ys k) (nth M i) < 0 by omega) W
                          have kM := fun W => less_no (show ¬ cmpDG (nth M i) (nth ys k) < 0 by have := cmpDG_cmp.anti (nth ys k) (nth M i); omega) W
                          have heq : nth ys k = nth M i := (cmpDG_zero _ _).1 hc
                          have hnew : ∃ t, t < k + 1 ∧ nth ys t = nth M i := ⟨k, by omega, heq⟩
                          replace hnew : Hid (∃ t, t < k + 1 ∧ nth ys t = nth M i) := hnew
                          clear hc heq
                          go_wp2_with fail
                          refine wp_region_late (late28E p g n cap c' M.length i k (nth ys k) (nth M i)) (.bool true) [92, 93, 94, 95, 96, 97, 98, 99, 100, 101, 102, 103, 104, 105, 106, 107, 108, 109, 110, 111, 112, 113, 114, 115, 116, 117, 118] [0, 1, 2, 3, 4, 5, 6, 7, 8, 9, 10, 11, 12, 13, 14, 15, 16, 17, 18, 19, 20, 21, 22, 23, 24, 25, 26, 27, 28, 29, 30, 31, 32, 33, 34, 35, 36, 37, 38, 39, 40, 41, 42, 43, 44, 45, 46, 47, 48, 49, 50, 51, 52, 53, 54, 55, 56, 57, 58, 59, 60, 61, 62, 63, 64, 65, 66, 67, 68, 69, 70, 71, 72, 73, 74, 75, 76, 77, 78, 79, 80, 81, 82, 83, 84, 85, 86, 87, 88, 89, 90, 91, 119, 120, 121] 122 11 118 (by kernel_rfl) (by decide) (by kernel_rfl) (by kernel_rfl) (by decide) (by kernel_rfl) (by kernel_rfl) (by kernel_rfl) rfl ⟨_, rfl, rfl, rfl, rfl, by kernel_rfl, by decide⟩ (fun t v w w' _ h => h) (by kernel_rfl) (fun v w h => h) (by kernel_rfl) ?hstep ?hend
                          case hstep =>
                           refine Gw.steps_cons ?s0 (Gw.steps_cons ?s1 (Gw.steps_cons ?s2 (Gw.steps_cons ?s3 (Gw.steps_cons ?s4 (Gw.steps_cons ?s5 (Gw.steps_cons ?s6 (Gw.steps_cons ?s7 (Gw.steps_cons ?s8 (Gw.steps_cons ?s9 (Gw.steps_cons ?s10 (Gw.steps_cons ?s11 (Gw.steps_cons ?s12 (Gw.steps_cons ?s13 (Gw.steps_cons ?s14 (Gw.steps_cons ?s15 (Gw.steps_cons ?s16 (Gw.steps_cons ?s17 (Gw.steps_cons ?s18 (Gw.steps_cons ?s19 (Gw.steps_cons ?s20 (Gw.steps_cons ?s21 (Gw.steps_cons ?s22 (Gw.steps_cons ?s23 (Gw.steps_cons ?s24 (Gw.steps_cons ?s25 (Gw.steps_cons ?s26 (Gw.steps_nil)))))))))))))))))))))))))))
                           case s0 => exact Gw.step_move 11 92 rfl rfl (Gw.guard_none rfl) (by kernel_rfl) (fun v w h => h)
                           case s1 => exact Gw.step_move 92 93 rfl rfl (Gw.guard_none rfl) (by kernel_rfl) (fun v w h => h)
                           case s2 => exact Gw.step_move 5 94 rfl rfl (Gw_guard_open 1 93 false rfl (by kernel_rfl) (by kernel_rfl) (fun v w h => h)) (by kernel_rfl) (fun v w h => h)
                           case s3 => exact Gw.step_move 0 95 rfl rfl (Gw_guard_open 1 93 false rfl (by kernel_rfl) (by kernel_rfl) (fun v w h => h)) (by kernel_rfl) (fun v w h => h)
                           case s4 => exact Gw.step_move 12 96 rfl rfl (Gw_guard_open 1 93 false rfl (by kernel_rfl) (by kernel_rfl) (fun v w h => h)) (by kernel_rfl) (fun v w h => h)
                           case s5 =>
                            refine Gw.StepOk.of (Gw_guard_open 1 93 false rfl (by kernel_rfl) (by kernel_rfl) (fun v w h => h)) fun b w' hsz hW hl K hK => ?_
                            clear hsz
                            unfold Oper.wp
                            have e95 : b.tmps[95]?.getD undef = .slice (some p) n cap := getD' (Gw.look hl 95 (by kernel_rfl))
                            have e96 : b.tmps[96]?.getD undef = .int .i64 (k : Int) := getD' (Gw.look hl 96 (by kernel_rfl))
                            go_simp
                            exact hK _ _ (Grw.refl _) (Gw.dst_eq rfl rfl)
                           case s6 =>
                            refine Gw.StepOk.of (Gw_guard_open 1 93 false rfl (by kernel_rfl) (by kernel_rfl) (fun v w h => h)) fun b w' hsz hW hl K hK => ?_
                            clear hsz
                            unfold Oper.wp
                            have e97 : b.tmps[97]?.getD undef = .pointer (some (p.add (k * 3))) := getD' (Gw.look hl 97 (by kernel_rfl))
                            have kcx0 := hW.cell cx0
                            have kcx1 := hW.cell cx1
                            have kcx2 := hW.cell cx2
                            have kcy0 := hW.cell cy0
                            have kcy1 := hW.cell cy1
                            have kcy2 := hW.cell cy2
                            go_simp
                            exact hK _ _ (Grw.refl _) (Gw.dst_eq rfl rfl)
                           case s7 => exact Gw.step_move 4 99 rfl rfl (Gw_guard_open 1 93 false rfl (by kernel_rfl) (by kernel_rfl) (fun v w h => h)) (by kernel_rfl) (fun v w h => h)
                           case s8 => exact Gw.step_move 10 100 rfl rfl (Gw_guard_open 1 93 false rfl (by kernel_rfl) (by kernel_rfl) (fun v w h => h)) (by kernel_rfl) (fun v w h => h)
                           case s9 =>
                            refine Gw.StepOk.of (Gw_guard_open 1 93 false rfl (by kernel_rfl) (by kernel_rfl) (fun v w h => h)) fun b w' hsz hW hl K hK => ?_
                            clear hsz
                            unfold Oper.wp
                            have e99 : b.tmps[99]?.getD undef = .slice (some ⟨g, 0, none⟩) M.length c' := getD' (Gw.look hl 99 (by kernel_rfl))
                            have e100 : b.tmps[100]?.getD undef = .int .i64 (i : Int) := getD' (Gw.look hl 100 (by kernel_rfl))
                            go_simp
                            exact hK _ _ (Grw.refl _) (Gw.dst_eq rfl rfl)
                           case s10 =>
                            refine Gw.StepOk.of (Gw_guard_open 1 93 false rfl (by kernel_rfl) (by kernel_rfl) (fun v w h => h)) fun b w' hsz hW hl K hK => ?_
                            clear hsz
                            unfold Oper.wp
                            have e101 : b.tmps[101]?.getD undef = .pointer (some ⟨g, i * 3, none⟩) := getD' (Gw.look hl 101 (by kernel_rfl))
                            have kcx0 := hW.cell cx0
                            have kcx1 := hW.cell cx1
                            have kcx2 := hW.cell cx2
                            have kcy0 := hW.cell cy0
                            have kcy1 := hW.cell cy1
                            have kcy2 := hW.cell cy2
                            go_simp
                            exact hK _ _ (Grw.refl _) (Gw.dst_eq rfl rfl)
                           case s11 => exact Gw_callv2 11 94 98 102 103 _ (by kernel_rfl) rfl rfl (Gw_guard_open 1 93 false rfl (by kernel_rfl) (by kernel_rfl) (fun v w h => h)) (by kernel_rfl) (by kernel_rfl) (by kernel_rfl) (fun v w h => h) (fun x y w' hW hx hy => by have hx : x = .agg #[.string (nth ys k).pkg, .string (nth ys k).file, .int .i64 (nth ys k).at'] := hx; have hy : y = .agg #[.string (nth M i).pkg, .string (nth M i).file, .int .i64 (nth M i).at'] := hy; subst hx; subst hy; exact (kL w').mono fun e w'' h => ⟨_, h.1, rfl, h.2⟩)
                           case s12 =>
                            refine Gw.StepOk.of (Gw_guard_open 1 93 false rfl (by kernel_rfl) (by kernel_rfl) (fun v w h => h)) fun b w' hsz hW hl K hK => ?_
                            clear hsz
                            unfold Oper.wp
                            have e103 : b.tmps[103]?.getD undef = .bool false := getD' (Gw.look hl 103 (by kernel_rfl))
                            go_simp
                            exact hK _ _ (Grw.refl _) (Gw.dst_eq rfl rfl)
                           case s13 => exact Gw.step_move 104 105 rfl rfl (Gw_guard_open 1 93 false rfl (by kernel_rfl) (by kernel_rfl) (fun v w h => h)) (by kernel_rfl) (fun v w h => h)
                           case s14 => exact Gw.step_move 5 106 rfl rfl (Gw_guard_open 13 105 true rfl (by kernel_rfl) (by kernel_rfl) (fun v w h => h)) (by kernel_rfl) (fun v w h => h)
                           case s15 => exact Gw.step_move 4 107 rfl rfl (Gw_guard_open 13 105 true rfl (by kernel_rfl) (by kernel_rfl) (fun v w h => h)) (by kernel_rfl) (fun v w h => h)
                           case s16 => exact Gw.step_move 10 108 rfl rfl (Gw_guard_open 13 105 true rfl (by kernel_rfl) (by kernel_rfl) (fun v w h => h)) (by kernel_rfl) (fun v w h => h)
                           case s17 =>
                            refine Gw.StepOk.of (Gw_guard_open 13 105 true rfl (by kernel_rfl) (by kernel_rfl) (fun v w h => h)) fun b w' hsz hW hl K hK => ?_
                            clear hsz
                            unfold Oper.wp
                            have e107 : b.tmps[107]?.getD undef = .slice (some ⟨g, 0, none⟩) M.length c' := getD' (Gw.look hl 107 (by kernel_rfl))
                            have e108 : b.tmps[108]?.getD undef = .int .i64 (i : Int) := getD' (Gw.look hl 108 (by kernel_rfl))
                            go_simp
                            exact hK _ _ (Grw.refl _) (Gw.dst_eq rfl rfl)
                           case s18 =>
                            refine Gw.StepOk.of (Gw_guard_open 13 105 true rfl (by kernel_rfl) (by kernel_rfl) (fun v w h => h)) fun b w' hsz hW hl K hK => ?_
                            clear hsz
                            unfold Oper.wp
                            have e109 : b.tmps[109]?.getD undef = .pointer (some ⟨g, i * 3, none⟩) := getD' (Gw.look hl 109 (by kernel_rfl))
                            have kcx0 := hW.cell cx0
                            have kcx1 := hW.cell cx1
                            have kcx2 := hW.cell cx2
                            have kcy0 := hW.cell cy0
                            have kcy1 := hW.cell cy1
                            have kcy2 := hW.cell cy2
                            go_simp
                            exact hK _ _ (Grw.refl _) (Gw.dst_eq rfl rfl)
                           case s19 => exact Gw.step_move 0 111 rfl rfl (Gw_guard_open 13 105 true rfl (by kernel_rfl) (by kernel_rfl) (fun v w h => h)) (by kernel_rfl) (fun v w h => h)
                           case s20 => exact Gw.step_move 12 112 rfl rfl (Gw_guard_open 13 105 true rfl (by kernel_rfl) (by kernel_rfl) (fun v w h => h)) (by kernel_rfl) (fun v w h => h)
                           case s21 =>
                            refine Gw.StepOk.of (Gw_guard_open 13 105 true rfl (by kernel_rfl) (by kernel_rfl) (fun v w h => h)) fun b w' hsz hW hl K hK => ?_
                            clear hsz
                            unfold Oper.wp
                            have e111 : b.tmps[111]?.getD undef = .slice (some p) n cap := getD' (Gw.look hl 111 (by kernel_rfl))
                            have e112 : b.tmps[112]?.getD undef = .int .i64 (k : Int) := getD' (Gw.look hl 112 (by kernel_rfl))
                            go_simp
                            exact hK _ _ (Grw.refl _) (Gw.dst_eq rfl rfl)
                           case s22 =>
                            refine Gw.StepOk.of (Gw_guard_open 13 105 true rfl (by kernel_rfl) (by kernel_rfl) (fun v w h => h)) fun b w' hsz hW hl K hK => ?_
                            clear hsz
                            unfold Oper.wp
                            have e113 : b.tmps[113]?.getD undef = .pointer (some (p.add (k * 3))) := getD' (Gw.look hl 113 (by kernel_rfl))
                            have kcx0 := hW.cell cx0
                            have kcx1 := hW.cell cx1
                            have kcx2 := hW.cell cx2
                            have kcy0 := hW.cell cy0
                            have kcy1 := hW.cell cy1
                            have kcy2 := hW.cell cy2
                            go_simp
                            exact hK _ _ (Grw.refl _) (Gw.dst_eq rfl rfl)
                           case s23 => exact Gw_callv2 11 106 110 114 115 _ (by kernel_rfl) rfl rfl (Gw_guard_open 13 105 true rfl (by kernel_rfl) (by kernel_rfl) (fun v w h => h)) (by kernel_rfl) (by kernel_rfl) (by kernel_rfl) (fun v w h => h) (fun x y w' hW hx hy => by have hx : x = .agg #[.string (nth M i).pkg, .string (nth M i).file, .int .i64 (nth M i).at'] := hx; have hy : y = .agg #[.string (nth ys k).pkg, .string (nth ys k).file, .int .i64 (nth ys k).at'] := hy; subst hx; subst hy; exact (kM w').mono fun e w'' h => ⟨_, h.1, rfl, h.2⟩)
                           case s24 =>
                            refine Gw.StepOk.of (Gw_guard_open 13 105 true rfl (by kernel_rfl) (by kernel_rfl) (fun v w h => h)) fun b w' hsz hW hl K hK => ?_
                            clear hsz
                            unfold Oper.wp
                            have e115 : b.tmps[115]?.getD undef = .bool false := getD' (Gw.look hl 115 (by kernel_rfl))
                            go_simp
                            exact hK _ _ (Grw.refl _) (Gw.dst_eq rfl rfl)
                           case s25 => exact Gw_pick 105 (.tmp 116) (.const (.bool false)) 117 true (.bool true) rfl rfl (Gw_guard_open 1 93 false rfl (by kernel_rfl) (by kernel_rfl) (fun v w h => h)) (by kernel_rfl) (fun v w h => h) (fun b w' hl => Gw.look hl 116 (by kernel_rfl)) (fun w => rfl)
                           case s26 => exact Gw_pick 93 (.const (.bool true)) (.tmp 117) 118 false (.bool true) rfl rfl (Gw.guard_none rfl) (by kernel_rfl) (fun v w h => h) (fun b w' hl => Gw.look hl 117 (by kernel_rfl)) (fun w => rfl)
                          case hend =>
                           intro xs wz hGz _ hxl
                           have hBz := bthen hBq hGz.below
                           simp only [mixed, List.contains_cons, List.contains_nil, Nat.reduceBEq, Nat.reduceAdd, Bool.or_false, Bool.or_true, Bool.false_eq_true, if_false, if_true]
                           rw [hxl]
                           go_wp2
                           go_roundw
                           case rel =>
                            first
                             | exact ⟨k + 1, true, by omega, by go_num, rfl, ⟨fun _ => hnew.out, fun _ => rfl⟩, hBz⟩
                             | ((repeat apply Exists.intro); refine ⟨⟨k + 1, true, by omega, rfl, rfl, ⟨fun _ => hnew.out, fun _ => rfl⟩, hBz⟩, ?_⟩; repeat' (first | rfl | go_num | constructor))
                           case measure => simp [intOf]; omega
                        · have kL := fun W => less_no (show ¬ cmpDG (nth ys k) (nth M i) < 0 by omega) W
                          have kM := fun W => less_yes (show cmpDG (nth M i) (nth ys k) < 0 by have := cmpDG_cmp.anti (nth ys k) (nth M i); omega) W
                          have hne : ¬ nth ys k = nth M i := fun e => by rw [e] at hc; rw [(cmpDG_zero _ _).2 rfl] at hc; omega
                          have hnew : false = true ↔ ∃ t, t < k + 1 ∧ nth ys t = nth M i := ⟨fun h => (Bool.false_ne_true h).elim, fun ⟨t, ht, he⟩ => by
                            by_cases e : t = k
                            · subst e; exact absurd he hne
                            · exact absurd (hrb.out.2 ⟨t, by omega, he⟩) Bool.false_ne_true⟩
                          replace hnew : Hid (false = true ↔ ∃ t, t < k + 1 ∧ nth ys t = nth M i) := hnew
                          clear hc hne
                          go_wp2_with fail
                          refine wp_region_late (late28G p g n cap c' M.length i k (nth ys k) (nth M i)) (.bool false) [92, 93, 94, 95, 96, 97, 98, 99, 100, 101, 102, 103, 104, 105, 106, 107, 108, 109, 110, 111, 112, 113, 114, 115, 116, 117, 118] [0, 1, 2, 3, 4, 5, 6, 7, 8, 9, 10, 11, 12, 13, 14, 15, 16, 17, 18, 19, 20, 21, 22, 23, 24, 25, 26, 27, 28, 29, 30, 31, 32, 33, 34, 35, 36, 37, 38, 39, 40, 41, 42, 43, 44, 45, 46, 47, 48, 49, 50, 51, 52, 53, 54, 55, 56, 57, 58, 59, 60, 61, 62, 63, 64, 65, 66, 67, 68, 69, 70, 71, 72, 73, 74, 75, 76, 77, 78, 79, 80, 81, 82, 83, 84, 85, 86, 87, 88, 89, 90, 91, 119, 120, 121] 122 11 118 (by kernel_rfl) (by decide) (by kernel_rfl) (by kernel_rfl) (by decide) (by kernel_rfl) (by kernel_rfl) (by kernel_rfl) rfl ⟨_, rfl, rfl, rfl, rfl, by kernel_rfl, by decide⟩ (fun t v w w' _ h => h) (by kernel_rfl) (fun v w h => h) (by kernel_rfl) ?hstep ?hend
                          case hstep =>
                           refine Gw.steps_cons ?s0 (Gw.steps_cons ?s1 (Gw.steps_cons ?s2 (Gw.steps_cons ?s3 (Gw.steps_cons ?s4 (Gw.steps_cons ?s5 (Gw.steps_cons ?s6 (Gw.steps_cons ?s7 (Gw.steps_cons ?s8 (Gw.steps_cons ?s9 (Gw.steps_cons ?s10 (Gw.steps_cons ?s11 (Gw.steps_cons ?s12 (Gw.steps_cons ?s13 (Gw.steps_cons ?s14 (Gw.steps_cons ?s15 (Gw.steps_cons ?s16 (Gw.steps_cons ?s17 (Gw.steps_cons ?s18 (Gw.steps_cons ?s19 (Gw.steps_cons ?s20 (Gw.steps_cons ?s21 (Gw.steps_cons ?s22 (Gw.steps_cons ?s23 (Gw.steps_cons ?s24 (Gw.steps_cons ?s25 (Gw.steps_cons ?s26 (Gw.steps_nil)))))))))))))))))))))))))))
                           case s0 => exact Gw.step_move 11 92 rfl rfl (Gw.guard_none rfl) (by kernel_rfl) (fun v w h => h)
                           case s1 => exact Gw.step_move 92 93 rfl rfl (Gw.guard_none rfl) (by kernel_rfl) (fun v w h => h)
                           case s2 => exact Gw.step_move 5 94 rfl rfl (Gw_guard_open 1 93 false rfl (by kernel_rfl) (by kernel_rfl) (fun v w h => h)) (by kernel_rfl) (fun v w h => h)
                           case s3 => exact Gw.step_move 0 95 rfl rfl (Gw_guard_open 1 93 false rfl (by kernel_rfl) (by kernel_rfl) (fun v w h => h)) (by kernel_rfl) (fun v w h => h)
                           case s4 => exact Gw.step_move 12 96 rfl rfl (Gw_guard_open 1 93 false rfl (by kernel_rfl) (by kernel_rfl) (fun v w h => h)) (by kernel_rfl) (fun v w h => h)
                           case s5 =>
                            refine Gw.StepOk.of (Gw_guard_open 1 93 false rfl (by kernel_rfl) (by kernel_rfl) (fun v w h => h)) fun b w' hsz hW hl K hK => ?_
                            clear hsz
                            unfold Oper.wp
                            have e95 : b.tmps[95]?.getD undef = .slice (some p) n cap := getD' (Gw.look hl 95 (by kernel_rfl))
                            have e96 : b.tmps[96]?.getD undef = .int .i64 (k : Int) := getD' (Gw.look hl 96 (by kernel_rfl))
                            go_simp
                            exact hK _ _ (Grw.refl _) (Gw.dst_eq rfl rfl)
                           case s6 =>
                            refine Gw.StepOk.of (Gw_guard_open 1 93 false rfl (by kernel_rfl) (by kernel_rfl) (fun v w h => h)) fun b w' hsz hW hl K hK => ?_
                            clear hsz
                            unfold Oper.wp
                            have e97 : b.tmps[97]?.getD undef = .pointer (some (p.add (k * 3))) := getD' (Gw.look hl 97 (by kernel_rfl))
                            have kcx0 := hW.cell cx0
                            have kcx1 := hW.cell cx1
                            have kcx2 := hW.cell cx2
                            have kcy0 := hW.cell cy0
                            have kcy1 := hW.cell cy1
                            have kcy2 := hW.cell cy2
                            go_simp
                            exact hK _ _ (Grw.refl _) (Gw.dst_eq rfl rfl)
                           case s7 => exact Gw.step_move 4 99 rfl rfl (Gw_guard_open 1 93 false rfl (by kernel_rfl) (by kernel_rfl) (fun v w h => h)) (by kernel_rfl) (fun v w h => h)
                           case s8 => exact Gw.step_move 10 100 rfl rfl (Gw_guard_open 1 93 false rfl (by kernel_rfl) (by kernel_rfl) (fun v w h => h)) (by kernel_rfl) (fun v w h => h)
                           case s9 =>
                            refine Gw.StepOk.of (Gw_guard_open 1 93 false rfl (by kernel_rfl) (by kernel_rfl) (fun v w h => h)) fun b w' hsz hW hl K hK => ?_
                            clear hsz
                            unfold Oper.wp
                            have e99 : b.tmps[99]?.getD undef = .slice (some ⟨g, 0, none⟩) M.length c' := getD' (Gw.look hl 99 (by kernel_rfl))
                            have e100 : b.tmps[100]?.getD undef = .int .i64 (i : Int) := getD' (Gw.look hl 100 (by kernel_rfl))
                            go_simp
                            exact hK _ _ (Grw.refl _) (Gw.dst_eq rfl rfl)
                           case s10 =>
                            refine Gw.StepOk.of (Gw_guard_open 1 93 false rfl (by kernel_rfl) (by kernel_rfl) (fun v w h => h)) fun b w' hsz hW hl K hK => ?_
                            clear hsz
                            unfold Oper.wp
                            have e101 : b.tmps[101]?.getD undef = .pointer (some ⟨g, i * 3, none⟩) := getD' (Gw.look hl 101 (by kernel_rfl))
                            have kcx0 := hW.cell cx0
                            have kcx1 := hW.cell cx1
                            have kcx2 := hW.cell cx2
                            have kcy0 := hW.cell cy0
                            have kcy1 := hW.cell cy1
                            have kcy2 := hW.cell cy2
                            go_simp
                            exact hK _ _ (Grw.refl _) (Gw.dst_eq rfl rfl)
                           case s11 => exact Gw_callv2 11 94 98 102 103 _ (by kernel_rfl) rfl rfl (Gw_guard_open 1 93 false rfl (by kernel_rfl) (by kernel_rfl) (fun v w h => h)) (by kernel_rfl) (by kernel_rfl) (by kernel_rfl) (fun v w h => h) (fun x y w' hW hx hy => by have hx : x = .agg #[.string (nth ys k).pkg, .string (nth ys k).file, .int .i64 (nth ys k).at'] := hx; have hy : y = .agg #[.string (nth M i).pkg, .string (nth M i).file, .int .i64 (nth M i).at'] := hy; subst hx; subst hy; exact (kL w').mono fun e w'' h => ⟨_, h.1, rfl, h.2⟩)
                           case s12 =>
                            refine Gw.StepOk.of (Gw_guard_open 1 93 false rfl (by kernel_rfl) (by kernel_rfl) (fun v w h => h)) fun b w' hsz hW hl K hK => ?_
                            clear hsz
                            unfold Oper.wp
                            have e103 : b.tmps[103]?.getD undef = .bool false := getD' (Gw.look hl 103 (by kernel_rfl))
                            go_simp
                            exact hK _ _ (Grw.refl _) (Gw.dst_eq rfl rfl)
                           case s13 => exact Gw.step_move 104 105 rfl rfl (Gw_guard_open 1 93 false rfl (by kernel_rfl) (by kernel_rfl) (fun v w h => h)) (by kernel_rfl) (fun v w h => h)
                           case s14 => exact Gw.step_move 5 106 rfl rfl (Gw_guard_open 13 105 true rfl (by kernel_rfl) (by kernel_rfl) (fun v w h => h)) (by kernel_rfl) (fun v w h => h)
                           case s15 => exact Gw.step_move 4 107 rfl rfl (Gw_guard_open 13 105 true rfl (by kernel_rfl) (by kernel_rfl) (fun v w h => h)) (by kernel_rfl) (fun v w h => h)
                           case s16 => exact Gw.step_move 10 108 rfl rfl (Gw_guard_open 13 105 true rfl (by kernel_rfl) (by kernel_rfl) (fun v w h => h)) (by kernel_rfl) (fun v w h => h)
                           case s17 =>
                            refine Gw.StepOk.of (Gw_guard_open 13 105 true rfl (by kernel_rfl) (by kernel_rfl) (fun v w h => h)) fun b w' hsz hW hl K hK => ?_
                            clear hsz
                            unfold Oper.wp
                            have e107 : b.tmps[107]?.getD undef = .slice (some ⟨g, 0, none⟩) M.length c' := getD' (Gw.look hl 107 (by kernel_rfl))
                            have e108 : b.tmps[108]?.getD undef = .int .i64 (i : Int) := getD' (Gw.look hl 108 (by kernel_rfl))
                            go_simp
                            exact hK _ _ (Grw.refl _) (Gw.dst_eq rfl rfl)
                           case s18 =>
                            refine Gw.StepOk.of (Gw_guard_open 13 105 true rfl (by kernel_rfl) (by kernel_rfl) (fun v w h => h)) fun b w' hsz hW hl K hK => ?_
                            clear hsz
                            unfold Oper.wp
                            have e109 : b.tmps[109]?.getD undef = .pointer (some ⟨g, i * 3, none⟩) := getD' (Gw.look hl 109 (by kernel_rfl))
                            have kcx0 := hW.cell cx0
                            have kcx1 := hW.cell cx1
                            have kcx2 := hW.cell cx2
                            have kcy0 := hW.cell cy0
                            have kcy1 := hW.cell cy1
                            have kcy2 := hW.cell cy2
                            go_simp
                            exact hK _ _ (Grw.refl _) (Gw.dst_eq rfl rfl)
                           case s19 => exact Gw.step_move 0 111 rfl rfl (Gw_guard_open 13 105 true rfl (by kernel_rfl) (by kernel_rfl) (fun v w h => h)) (by kernel_rfl) (fun v w h => h)
                           case s20 => exact Gw.step_move 12 112 rfl rfl (Gw_guard_open 13 105 true rfl (by kernel_rfl) (by kernel_rfl) (fun v w h => h)) (by kernel_rfl) (fun v w h => h)
                           case s21 =>
                            refine Gw.StepOk.of (Gw_guard_open 13 105 true rfl (by kernel_rfl) (by kernel_rfl) (fun v w h => h)) fun b w' hsz hW hl K hK => ?_
                            clear hsz
                            unfold Oper.wp
                            have e111 : b.tmps[111]?.getD undef = .slice (some p) n cap := getD' (Gw.look hl 111 (by kernel_rfl))
                            have e112 : b.tmps[112]?.getD undef = .int .i64 (k : Int) := getD' (Gw.look hl 112 (by kernel_rfl))
                            go_simp
                            exact hK _ _ (Grw.refl _) (Gw.dst_eq rfl rfl)
                           case s22 =>
                            refine Gw.StepOk.of (Gw_guard_open 13 105 true rfl (by kernel_rfl) (by kernel_rfl) (fun v w h => h)) fun b w' hsz hW hl K hK => ?_
                            clear hsz
                            unfold Oper.wp
                            have e113 : b.tmps[113]?.getD undef = .pointer (some (p.add (k * 3))) := getD' (Gw.look hl 113 (by kernel_rfl))
                            have kcx0 := hW.cell cx0
                            have kcx1 := hW.cell cx1
                            have kcx2 := hW.cell cx2
                            have kcy0 := hW.cell cy0
                            have kcy1 := hW.cell cy1
                            have kcy2 := hW.cell cy2
                            go_simp
                            exact hK _ _ (Grw.refl _) (Gw.dst_eq rfl rfl)
                           case s23 => exact Gw_callv2 11 106 110 114 115 _ (by kernel_rfl) rfl rfl (Gw_guard_open 13 105 true rfl (by kernel_rfl) (by kernel_rfl) (fun v w h => h)) (by kernel_rfl) (by kernel_rfl) (by kernel_rfl) (fun v w h => h) (fun x y w' hW hx hy => by have hx : x = .agg #[.string (nth M i).pkg, .string (nth M i).file, .int .i64 (nth M i).at'] := hx; have hy : y = .agg #[.string (nth ys k).pkg, .string (nth ys k).file, .int .i64 (nth ys k).at'] := hy; subst hx; subst hy; exact (kM w').mono fun e w'' h => ⟨_, h.1, rfl, h.2⟩)
                           case s24 =>
                            refine Gw.StepOk.of (Gw_guard_open 13 105 true rfl (by kernel_rfl) (by kernel_rfl) (fun v w h => h)) fun b w' hsz hW hl K hK => ?_
                            clear hsz
                            unfold Oper.wp
                            have e115 : b.tmps[115]?.getD undef = .bool true := getD' (Gw.look hl 115 (by kernel_rfl))
                            go_simp
                            exact hK _ _ (Grw.refl _) (Gw.dst_eq rfl rfl)
                           case s25 => exact Gw_pick 105 (.tmp 116) (.const (.bool false)) 117 true (.bool false) rfl rfl (Gw_guard_open 1 93 false rfl (by kernel_rfl) (by kernel_rfl) (fun v w h => h)) (by kernel_rfl) (fun v w h => h) (fun b w' hl => Gw.look hl 116 (by kernel_rfl)) (fun w => rfl)
                           case s26 => exact Gw_pick 93 (.const (.bool true)) (.tmp 117) 118 false (.bool false) rfl rfl (Gw.guard_none rfl) (by kernel_rfl) (fun v w h => h) (fun b w' hl => Gw.look hl 117 (by kernel_rfl)) (fun w => rfl)
                          case hend =>
                           intro xs wz hGz _ hxl
                           have hBz := bthen hBq hGz.below
                           simp only [mixed, List.contains_cons, List.contains_nil, Nat.reduceBEq, Nat.reduceAdd, Bool.or_false, Bool.or_true, Bool.false_eq_true, if_false, if_true]
                           rw [hxl]
                           go_wp2
                           go_roundw
                           case rel =>
                            first
                             | exact ⟨k + 1, false, by omega, by go_num, rfl, hnew.out, hBz⟩
                             | ((repeat apply Exists.intro); refine ⟨⟨k + 1, false, by omega, rfl, rfl, hnew.out, hBz⟩, ?_⟩; repeat' (first | rfl | go_num | constructor))
                           case measure => simp [intOf]; omega
                    · obtain rfl : k = n := by omega
                      have hbt : b = true := by
                        refine hrb.out.2 ?_
                        obtain ⟨t, ht, he⟩ := List.getElem_of_mem ((hmem.out (nth M i)).1 (nth_mem M i (by omega)))
                        exact ⟨t, by omega, by simp [nth, List.getElem?_eq_getElem ht]; exact he⟩
                      subst hbt
                      clear hrb
                      go_wp2
                      go_roundw
                      case rel => exact ⟨i + 1, by omega, by go_num, hBq⟩
                      case measure => simp [intOf]; omega
                · go_wp2
                  go_ret
                  exact ⟨rfl, bthen hB hBr⟩
end Go.Proofs.Ytkngjljcjgagbaa
