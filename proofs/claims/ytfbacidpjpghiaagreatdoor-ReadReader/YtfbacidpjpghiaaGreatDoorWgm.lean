/- The reader: which brackets go together. -/
import Derived.Test.YtfbacidpjpghiaaGreatDoorWc
import Derived.Test.YtfbacidpjpghiaaGreatDoorVh
import Derived.Deep.AppendLies
namespace Go.Proofs.YtfbacidpjpghiaaGreatDoor
open Go.RowKit
attribute [local go_sem ↓] Go.wp_at_zero Go.wp_at_succ
theorem Tryz.info3 : (Tryz.prog.info? 3).map (fun i => (i.zero, i.size, i.bytes)) = some (some (.int .i64 0), 1, 8) := by kernel_rfl
theorem mkInts (n : Nat) (h : n ≤ 1000000) (w : World) : (Instr.makeSlice 42 (.int .i64 n) (.int .i64 n)).run Tryz.prog w = .ok (.slice (some ⟨w.heap.size, 0, none⟩) n n) (w.alloc (.cells (cellsOf .i64 (zeros n)) 3)) := by
  have := run_zeros 42 3 .i64 8 Tryz.underlying42 Tryz.info3 (n : Int) (by omega) (by simp; omega) (by omega) w
  simpa using this
/-- places as values -/
def vints (os : List Nat) : List Value := os.map fun (x : Nat) => Value.int .i64 (x : Int)
theorem vints_len (os : List Nat) : (vints os).length = os.length := List.length_map _
theorem vints_app (os : List Nat) (x : Nat) : vints (os ++ [x]) = vints os ++ [.int .i64 (x : Int)] := List.map_append
/-- what the loop holds: the row of brackets that stand open, the row of their ends -/
structure Cl (w : World) (n : Nat) (v : Value) (os : List Nat) (wr : World) : Prop where
  row : wr.ownsRow (w.heap.size + 1) 3 1 v os.length (vints os)
  lt : ∀ x ∈ os, x < n
  cl : ∃ cs, wr.heap[w.heap.size]? = some (.cells cs 3 (0, 0)) ∧ cs.size = n
  bel : Below w.heap.size w wr
  sz : w.heap.size + 1 ≤ wr.heap.size
theorem Cl.next {w : World} {n : Nat} {v : Value} {os : List Nat} {wr w' : World} (h : Cl w n v os wr) (hb : Below wr.heap.size wr w') : Cl w n v os w' := by
  obtain ⟨cs, h1, h2⟩ := h.cl
  have hsz := h.sz
  have hk : ∀ b, v.ownBlock = some b → w'.heap[b]? = wr.heap[b]? := fun b hb' => hb.block b (h.row.lt b hb').2
  refine ⟨?_, h.lt, ⟨cs, (hb.block _ (by omega)).trans h1, h2⟩, h.bel.trans (hb.mono h.bel.size), by have := hb.size; omega⟩
  obtain ⟨r1, r2⟩ := h.row
  refine ⟨r1, ?_⟩
  rcases r2 with r2 | ⟨g, cap, cur, rfl, r3, r4, r5⟩
  · exact .inl r2
  · exact .inr ⟨g, cap, cur, rfl, r3, (hk g rfl).trans r4, r5⟩
theorem Cl.form {w : World} {n : Nat} {v : Value} {os : List Nat} {wr : World} (h : Cl w n v os wr) : ∃ a c, v = .slice a os.length c := by
  obtain ⟨_, r2⟩ := h.row
  rcases r2 with ⟨rfl, r2⟩ | ⟨g, cap, cur, rfl, _⟩
  · rw [r2]; exact ⟨none, 0, rfl⟩
  · exact ⟨_, _, rfl⟩
theorem Cl.last {w : World} {n : Nat} {v : Value} {os : List Nat} {x : Nat} {wr : World} (h : Cl w n v (os ++ [x]) wr) : ∃ g c, v = .slice (some ⟨g, 0, none⟩) (os.length + 1) c ∧ os.length + 1 ≤ c ∧ wr.cell? ⟨g, os.length, none⟩ = some (.int .i64 (x : Int)) ∧ x < n ∧ g ≠ w.heap.size ∧
    ∀ wr' : World, wr'.heap[g]? = wr.heap[g]? → wr'.ownsRow (w.heap.size + 1) 3 1 (.slice (some ⟨g, 0, none⟩) os.length c) os.length (vints os) := by
  obtain ⟨r1, r2⟩ := h.row
  rcases r2 with ⟨rfl, r2⟩ | ⟨g, cap, cur, rfl, r3, r4, r5, r6, r7, r8⟩
  · simp at r2
  · have hr : wr.ownsRow (w.heap.size + 1) 3 1 (.slice (some ⟨g, 0, none⟩) (os ++ [x]).length cap) (os ++ [x]).length (vints (os ++ [x])) := h.row
    have hc := hr.cellAt os.length (by simp)
    refine ⟨g, cap, by simp, by simpa using r5, ?_, h.lt x (by simp), by omega, fun wr' he => ⟨by rw [vints_len, Nat.mul_one], .inr ⟨g, cap, cur, rfl, by omega, he.trans r4, by simp at r5; omega, r6, r7, ?_⟩⟩⟩
    · rw [hc, vints_app, List.getElem?_append_right (by rw [vints_len]; exact Nat.le_refl _), vints_len]
      simp
    · have h9 := congrArg (List.take os.length) r8
      rw [List.take_take, vints_app, List.take_append_of_le_length (by rw [vints_len]; exact Nat.le_refl _)] at h9
      have h10 : List.take os.length (vints os) = vints os := List.take_of_length_le (by rw [vints_len]; exact Nat.le_refl _)
      rw [h10, Nat.min_eq_left (by simp)] at h9
      rw [Nat.mul_one]; exact h9
/-- the end of a bracket is put down -/
theorem Cl.put {w : World} {n : Nat} {v : Value} {os : List Nat} {wr : World} (h : Cl w n v os wr) (j : Nat) (u : Value) {v' : Value} {os' : List Nat} (hlt : ∀ x ∈ os', x < n) (hrow : ∀ wr' : World, (∀ b, b ≠ w.heap.size → wr'.heap[b]? = wr.heap[b]?) → wr'.ownsRow (w.heap.size + 1) 3 1 v' os'.length (vints os')) :
    Cl w n v' os' (wr.setCell ⟨w.heap.size, j, none⟩ u) := by
  obtain ⟨cs, h1, h2⟩ := h.cl
  refine ⟨hrow _ fun b hb => Below.heap_setCell _ _ _ _ hb, hlt, ⟨cs.setIfInBounds j u, ?_, by simpa using h2⟩, h.bel.setCell (Nat.le_refl _) u, by simpa using h.sz⟩
  simp [World.setCell, Array.getElem?_modify, h1]
theorem new_at (w : World) (o : Obj) : (w.alloc o).heap[w.heap.size]? = some o := by
  show (w.heap.push o)[w.heap.size]? = some o
  simp
/-- one more bracket stands open -/
theorem Cl.more {w w2 w4 : World} {n k : Nat} {v : Value} {os : List Nat} {g c : Nat} (h : Cl w n v os w2) (hk : k < n) (hO : w4.ownsRow (w.heap.size + 1) 3 1 (.slice (some ⟨g, 0, none⟩) (os.length + 1) c) (os.length + 1) (vints os ++ [.int .i64 (k : Int)])) (hg : w2.grownBy w4 v.ownBlock) :
    Cl w n (.slice (some ⟨g, 0, none⟩) (os.length + 1) c) (os ++ [k]) w4 := by
  obtain ⟨cs, h1, h2⟩ := h.cl
  have hsz := h.sz
  have hrow : ∀ b, v.ownBlock = some b → w.heap.size + 1 ≤ b := fun b hb => (h.row.lt b hb).1
  refine ⟨?_, ?_, ⟨cs, (hg.block _ (by omega) (fun e => ?_)).trans h1, h2⟩, h.bel.grown hg (by omega) (fun b hb => by have := hrow b hb; omega), Nat.le_trans hsz hg.size⟩
  · rw [vints_app, List.length_append]; exact hO
  · intro x hx
    rcases List.mem_append.1 hx with hx | hx
    · exact h.lt x hx
    · simp at hx; subst hx; exact hk
  · have := hrow _ e.symm; omega
theorem TokAt.next {w w' : World} {g : Nat} {ts : List Tok} (h : TokAt w g ts) (hb : w'.heap[g]? = w.heap[g]?) : TokAt w' g ts := fun k hk =>
  ⟨(World.cell?_of_block (w := w) (a := ⟨g, _, none⟩) hb).trans (h k hk).1, (World.cell?_of_block (w := w) (a := ⟨g, _, none⟩) hb).trans (h k hk).2.1, (World.cell?_of_block (w := w) (a := ⟨g, _, none⟩) hb).trans (h k hk).2.2⟩
theorem one_cells (w : World) (k : Int) : ∀ j u, ([.int .i64 k] : List Value)[j]? = some u → (w.alloc (.cells #[.int .i64 k] 3)).cell? ((⟨w.heap.size, 0, none⟩ : Addr).add j) = some u := by
  intro j u h
  cases j with
  | zero => simp at h; subst h; simp [go_sem]
  | succ j => simp at h
theorem one_each (k : Int) : ∀ u ∈ ([.int .i64 k] : List Value), u.oneCell' = true := by
  intro u hu; simp at hu; subst hu; rfl
set_option maxRecDepth 100000 in
set_option maxHeartbeats 8000000 in
theorem closings_any (w : World) (g c : Nat) (ts : List Tok) (hT : TokAt w g ts) (hg : g < w.heap.size) (hl : ts.length < 100000) : Calls Tryz.prog 13 #[.slice (some ⟨g, 0, none⟩) ts.length c] w fun e w' => (∃ a l c, e = .returned (.slice a l c)) ∧ Below w.heap.size w w' := by
  obtain ⟨i0, hi0, hz0, hz1, hz2⟩ := info_parts Tryz.info3
  have km := mkInts ts.length (by omega) w
  have h0 : Hid (Cl w ts.length (.slice none 0 0) [] (w.alloc (.cells (cellsOf .i64 (zeros ts.length)) 3))) := ⟨World.ownsRow_nil _ _ _ _, fun x hx => (by cases hx), ⟨cellsOf .i64 (zeros ts.length), new_at w _, by simp [cellsOf, zeros]⟩, (Below.refl _ _).alloc (Nat.le_refl _) _, by simp⟩
  have hTh : Hid (TokAt w g ts) := hT
  clear hT
  go_enter Tryz.func13, Tryz.ntmps13
  go_wp2_with fail
  generalize w.alloc (.cells (cellsOf .i64 (zeros ts.length)) 3) = w1 at *
  clear km
  go_loopw [4, 13] (fun v4 v13 wr => ∃ (k : Nat) (os : List Nat), v13 = .int .i64 k ∧ k ≤ ts.length ∧ os.length ≤ k ∧ Hid (Cl w ts.length v4 os wr)) (fun _ v13 _ => ts.length - (intOf v13).toNat)
  case atStart => exact ⟨0, [], rfl, Nat.zero_le _, Nat.le_refl _, h0⟩
  case round =>
    obtain ⟨k, os, rfl, hk, hok, hC⟩ := hrel
    obtain ⟨oa, oc, rfl⟩ := hC.out.form
    by_cases hlt : k < ts.length
    · have d3 : decide ((k : Int) < ts.length) = true := decide_eq_true (by omega)
      have hTr := hTh.out.next (hC.out.bel.block g hg)
      obtain ⟨b0, b1, b2⟩ := hTr k hlt
      generalize ts[k].kind = kd at *
      generalize ts[k].text = tx at *
      generalize ts[k].at' = ta at *
      clear hTr
      have hw1 : IntKind.i64.wrap ((k : Int) + 1) = ((k + 1 : Nat) : Int) := by rw [IntKind.wrap_i64]; omega
      have hol : (os.length : Int) < 100000 := by omega
      have hw2 : IntKind.i64.wrap ((os.length : Int) - 1) = (os.length : Int) - 1 := by rw [IntKind.wrap_i64]; omega
      obtain ⟨W, hW⟩ : ∃ W, W = wr.alloc (.cells #[.int .i64 kd, .string tx, .int .i64 ta] 32) := ⟨_, rfl⟩
      have hC2 : Hid (Cl w ts.length (.slice oa os.length oc) os W) := by rw [hW]; exact hC.out.next ((Below.refl _ _).alloc (Nat.le_refl _) _)
      have c0 : W.cell? ⟨wr.heap.size, 0, none⟩ = some (.int .i64 kd) := by rw [hW]; simp [go_sem]
      have c1 : W.cell? ⟨wr.heap.size, 1, none⟩ = some (.string tx) := by rw [hW]; simp [go_sem]
      have c2 : W.cell? ⟨wr.heap.size, 2, none⟩ = some (.int .i64 ta) := by rw [hW]; simp [go_sem]
      have hWs : wr.heap.size < W.heap.size := by rw [hW]; simp
      go_upto_region 7 with fail
      rw [← hW]
      clear hW b0 b1 b2
      have kI : Hid _ := is_any kd ta tx ⟨#[91]⟩ W
      go_wp2_with fail
      refine Calls.mono kI.out ?_
      rintro e w2 ⟨⟨bb, rfl⟩, hb2⟩
      clear kI
      have hC3 : Hid (Cl w ts.length (.slice oa os.length oc) os w2) := hC2.out.next hb2
      have e0 := (hb2.cell (p := ⟨wr.heap.size, 0, none⟩) hWs).trans c0
      have e1 := (hb2.cell (p := ⟨wr.heap.size, 1, none⟩) hWs).trans c1
      have e2 := (hb2.cell (p := ⟨wr.heap.size, 2, none⟩) hWs).trans c2
      clear c0 c1 c2 hC2 hC
      cases bb with
      | true =>
        have hC4 : Hid (Cl w ts.length (.slice oa os.length oc) os (w2.alloc (.cells #[.int .i64 k] 3))) := hC3.out.next ((Below.refl _ _).alloc (Nat.le_refl _) _)
        have hsz := hC4.out.sz
        have hsz3 := hC3.out.sz
        go_wp2_with (at_builtin; refine wpList_append_lies _ (by rfl) (.tmp 24) (.tmp 26) 42 (by rfl) (w.heap.size + 1) 3 i0 _ 1 8 Tryz.underlying42 hi0 hz0 hz1 hz2 (by rfl) (by decide) (.slice oa os.length oc) os.length (vints os) (by rfl) hC4.out.row ⟨w2.heap.size, 0, none⟩ 1 1 [.int .i64 k] (by rfl) (by rfl) (one_cells w2 k) (one_each k) (by decide) (by unfold maxLen; omega) (by omega) (by simp; omega) (w2.heap.size + 1) (by simp) ?_)
        intro g' cap' w4 hO4 hg4 hat hlt4
        have hC5 : Hid (Cl w ts.length (.slice (some ⟨g', 0, none⟩) (os.length + 1) cap') (os ++ [k]) w4) := hC4.out.more hlt hO4 hg4
        clear hC4 hC3 hO4 hg4 hat hlt4
        go_wp2_with fail
        go_roundw
        case rel => exact ⟨k + 1, os ++ [k], by go_num, by omega, by simp; omega, hC5⟩
        case measure => simp [intOf]; omega
      | false =>
        have kI2 : Hid _ := is_any kd ta tx ⟨#[93]⟩ w2
        rcases List.eq_nil_or_concat os with rfl | ⟨os', x, hos⟩
        · go_wp2_with fail
          refine Calls.mono kI2.out ?_
          rintro e w3 ⟨⟨bb, rfl⟩, hb3⟩
          clear kI2
          have hC4 : Hid (Cl w ts.length (.slice oa 0 oc) [] w3) := hC3.out.next hb3
          cases bb
          all_goals
            go_wp2_with fail
            go_roundw
            case rel => exact ⟨k + 1, [], by go_num, by omega, by simp, hC4⟩
            case measure => simp [intOf]; omega
        · rw [List.concat_eq_append] at hos
          subst hos
          have hl1 : (os' ++ [x]).length = os'.length + 1 := by simp
          have h9 : ((os'.length + 1 : Nat) : Int) - 1 = os'.length := by omega
          have hd9 : decide ((0 : Int) ≤ (os'.length : Int)) = true := decide_eq_true (by omega)
          clear hw2
          rw [hl1] at hok hol hC3 ⊢
          rw [h9]
          go_wp2_with fail
          refine Calls.mono kI2.out ?_
          rintro e w3 ⟨⟨bb, rfl⟩, hb3⟩
          clear kI2
          have hC4 : Hid (Cl w ts.length (.slice oa (os'.length + 1) oc) (os' ++ [x]) w3) := hC3.out.next hb3
          cases bb with
          | false =>
            go_wp2_with fail
            go_roundw
            case rel => exact ⟨k + 1, os' ++ [x], by go_num, by omega, by simp; omega, hC4⟩
            case measure => simp [intOf]; omega
          | true =>
            obtain ⟨go, co, hv, hco, hcx, hx, hne, hrow⟩ := hC4.out.last
            obtain ⟨rfl, _, rfl⟩ := Value.slice.inj hv
            obtain ⟨cs, hcs, hcsz⟩ := hC4.out.cl
            have hput := fun (j : Nat) (u : Value) => Cl.put (v' := .slice (some ⟨go, 0, none⟩) os'.length oc) (os' := os') hC4.out j u (fun y hy => hC4.out.lt y (by simp [hy])) (fun wr' he => hrow wr' (he go hne))
            have hputh : Hid _ := hput x (.int .i64 (k : Int))
            have hcc : ∃ u, w3.cell? ⟨w.heap.size, x, none⟩ = some u := ⟨cs[x]'(by omega), by simp [World.cell?, hcs]⟩
            obtain ⟨u0, hu0⟩ := hcc
            have hfz : w3.frozen? ⟨w.heap.size, x, none⟩ = false := by simp [World.frozen?, hcs]
            have hxn : (x : Int) < ts.length := by omega
            clear hput hrow hcs hcsz cs
            go_wp2_with fail
            go_roundw
            case rel => exact ⟨k + 1, os', by go_num, by omega, by omega, hputh⟩
            case measure => simp [intOf]; omega
    · obtain rfl : k = ts.length := by omega
      have d3 : decide ((ts.length : Int) < ts.length) = false := decide_eq_false (by omega)
      go_wp2
      go_ret
      exact ⟨⟨_, _, _, rfl⟩, hC.out.bel⟩
end Go.Proofs.YtfbacidpjpghiaaGreatDoor
namespace Go.Proofs.YtfbacidpjpghiaaGreatDoor
open Go.RowKit
attribute [local go_sem ↓] Go.wp_at_zero Go.wp_at_succ
/-- Block b is a reader of the row in block g, at a place. -/
def RdAt (w : World) (b g n c p : Nat) : Prop := ∃ u1 u3 u4 u5, w.heap[b]? = some (.cells #[.slice (some ⟨g, 0, none⟩) n c, u1, .int .i64 (p : Int), u3, u4, u5] 46 (0, 0))
/-- What New answers. -/
def NewOut (w w' : World) (e : Ending) : Res → Prop
  | .bad _ => e = .returned (.tuple #[.pointer none, .bool false])
  | .good ts => ∃ b g c, e = .returned (.tuple #[.pointer (some ⟨b, 0, none⟩), .bool true]) ∧ RdAt w' b g ts.length c 0 ∧ TokAt w' g ts ∧ g < w'.heap.size ∧ g ≠ b ∧ w.heap.size ≤ b
set_option maxRecDepth 100000 in
set_option maxHeartbeats 8000000 in
theorem New_any (w : World) (S : ByteArray) (v : Value) (hconv : (convert 22 9 v).run Tryz.prog w = .ok (.string S) w) (hG : Glob w) (hB2 : 3 < w.heap.size) (hsz : S.size < 90000) (res : Res) (hM : scanM S.toList = some res) (h0 : ∀ ts, res = .good ts → 0 < ts.length ∧ ts.length < 100000) :
    Calls Tryz.prog 6 #[v] w fun e w' => NewOut w w' e res ∧ Below w.heap.size w w' := by
  have kS : Hid _ := Scan_any w S v hconv hG hB2 (by omega) res hM
  clear hconv hG hM
  go_enter Tryz.func6, Tryz.ntmps6
  go_wp2_with fail
  refine Calls.mono kS.out ?_
  rintro e w1 ⟨hout, hb1⟩
  clear kS
  cases res with
  | bad p =>
    obtain rfl := hout
    go_wp2
    exact bodyPost_ret (v := .tuple #[.pointer none, .bool false]) (by simp [results, Tryz.results6, go_sem]) rfl ⟨rfl, hb1⟩
  | good ts =>
    obtain ⟨hp, hl⟩ := h0 ts rfl
    obtain ⟨g, cap, rfl, hg, hcell⟩ := hout.goodForm hp
    clear hout h0
    have kC : Hid _ := closings_any w1 g cap ts hcell hg hl
    go_wp2_with fail
    refine Calls.mono kC.out ?_
    rintro e w2 ⟨⟨ca, cl, cc, rfl⟩, hb2⟩
    clear kC
    have hT : TokAt w2 g ts := TokAt.next hcell (hb2.block g hg)
    have hg2 : g < w2.heap.size := Nat.lt_of_lt_of_le hg hb2.size
    have hB : Below w.heap.size w w2 := hb1.trans (hb2.mono hb1.size)
    go_wp2
    refine bodyPost_ret (v := .tuple #[.pointer (some ⟨w2.heap.size, 0, none⟩), .bool true]) (by simp [results, Tryz.results6, go_sem]) rfl ?_
    refine ⟨⟨_, g, cap, rfl, ⟨_, _, _, _, new_at _ _⟩, hT.next (Below.heap_alloc _ _ _ hg2), by simp; omega, by omega, hB.size⟩, hB.alloc hB.size _⟩
end Go.Proofs.YtfbacidpjpghiaaGreatDoor
namespace Go.Proofs.YtfbacidpjpghiaaGreatDoor
open Go.RowKit
attribute [local go_sem ↓] Go.wp_at_zero Go.wp_at_succ
/-- a token's value -/
def Tok.val (t : Tok) : Value := .agg #[.int .i64 t.kind, .string t.text, .int .i64 t.at']
theorem RdAt.cells {w : World} {b g n c p : Nat} (h : RdAt w b g n c p) : w.cell? ⟨b, 0, none⟩ = some (.slice (some ⟨g, 0, none⟩) n c) ∧ w.cell? ⟨b, 2, none⟩ = some (.int .i64 (p : Int)) ∧ b < w.heap.size := by
  obtain ⟨u1, u3, u4, u5, h⟩ := h
  exact ⟨by simp [World.cell?, h], by simp [World.cell?, h], (Array.getElem?_eq_some_iff.1 h).1⟩
theorem RdAt.same {w w' : World} {b g n c p : Nat} (h : RdAt w b g n c p) (hb : w'.heap[b]? = w.heap[b]?) : RdAt w' b g n c p := by
  obtain ⟨u1, u3, u4, u5, h⟩ := h
  exact ⟨u1, u3, u4, u5, hb.trans h⟩
theorem TokAt.lt {w : World} {g : Nat} {ts : List Tok} (h : TokAt w g ts) (h0 : 0 < ts.length) : g < w.heap.size := cell_lt (h 0 h0).1
set_option maxRecDepth 100000 in
set_option maxHeartbeats 8000000 in
theorem ahead_any (w : World) (b g c p : Nat) (ts : List Tok) (hR : RdAt w b g ts.length c p) (hT : TokAt w g ts) (hp : p < ts.length) (hl : ts.length < 100000) :
    Calls Tryz.prog 15 #[.pointer (some ⟨b, 0, none⟩), .int .i64 0] w fun e w' => e = .returned ts[p].val ∧ Below w.heap.size w w' := by
  obtain ⟨W, hW⟩ : ∃ W, W = w.alloc (.cells #[.int .i64 0, .string ⟨#[]⟩, .int .i64 0] 32) := ⟨_, rfl⟩
  have hbW : Below w.heap.size w W := by rw [hW]; exact (Below.refl _ _).alloc (Nat.le_refl _) _
  obtain ⟨r0, r2, hbl⟩ := hR.cells
  have hgl := hT.lt (by omega)
  have a0 := (hbW.cell (p := ⟨b, 0, none⟩) hbl).trans r0
  have a2 := (hbW.cell (p := ⟨b, 2, none⟩) hbl).trans r2
  obtain ⟨b0, b1, b2⟩ := hT.next (hbW.block g hgl) p hp
  have n0 : W.heap[w.heap.size]? = some (.cells #[.int .i64 0, .string ⟨#[]⟩, .int .i64 0] 32 (0, 0)) := by rw [hW]; exact new_at _ _
  have c0 : W.cell? ⟨w.heap.size, 0, none⟩ = some (.int .i64 0) := by simp [World.cell?, n0]
  have c1 : W.cell? ⟨w.heap.size, 1, none⟩ = some (.string ⟨#[]⟩) := by simp [World.cell?, n0]
  have c2 : W.cell? ⟨w.heap.size, 2, none⟩ = some (.int .i64 0) := by simp [World.cell?, n0]
  have cf : ∀ o, W.frozen? ⟨w.heap.size, o, none⟩ = false := fun o => by simp [World.frozen?, n0]
  clear n0 r0 r2 hR hT
  unfold Tok.val
  generalize ts[p].kind = kd at *
  generalize ts[p].text = tx at *
  generalize ts[p].at' = ta at *
  generalize hN : ts.length = N at *
  have d0 : decide ((N : Int) = 0) = false := decide_eq_false (by omega)
  have w1 : IntKind.i64.wrap ((p : Int) + 0) = (p : Int) := by rw [IntKind.wrap_i64]; omega
  have w2 : IntKind.i64.wrap ((N : Int) - 1) = (N : Int) - 1 := by rw [IntKind.wrap_i64]; omega
  have hpN : (p : Int) < N := by omega
  go_enter Tryz.func15, Tryz.ntmps15
  go_upto_region 1 with fail
  rw [← hW]
  clear hW
  go_upto_region 3 with fail
  have hm1 : min (p : Int) ((N : Int) - 1) = p := by omega
  go_region
  have q0 : (W.setCell ⟨w.heap.size, 0, none⟩ (.int .i64 kd)).heap.size = W.heap.size := by simp
  have hbel : ∀ u1 u2 u3, Below w.heap.size w ((((W.setCell ⟨w.heap.size, 0, none⟩ u1).setCell ⟨w.heap.size, 1, none⟩ u2).setCell ⟨w.heap.size, 2, none⟩ u3).drew) := fun u1 u2 u3 => (((hbW.setCell (Nat.le_refl _) _).setCell (Nat.le_refl _) _).setCell (Nat.le_refl _) _).drew
  have hbel1 := hbel (.int .i64 kd) (.string tx) (.int .i64 ta)
  go_wp2
  exact bodyPost_ret (v := .agg #[.int .i64 kd, .string tx, .int .i64 ta]) (by simp [results, Tryz.results15, go_sem, c0, c1, c2]) rfl ⟨rfl, hbel1⟩
end Go.Proofs.YtfbacidpjpghiaaGreatDoor
namespace Go.Proofs.YtfbacidpjpghiaaGreatDoor
open Go.RowKit
attribute [local go_sem ↓] Go.wp_at_zero Go.wp_at_succ
/-- New blocks and one other. -/
structure Sp (b : Nat) (w w' : World) : Prop where
  os : w'.os = w.os
  tape : w'.tape = w.tape
  output : w'.output = w.output
  size : w.heap.size ≤ w'.heap.size
  block : ∀ k, k < w.heap.size → k ≠ b → w'.heap[k]? = w.heap[k]?
theorem Sp.refl (b : Nat) (w : World) : Sp b w w := ⟨rfl, rfl, rfl, Nat.le_refl _, fun _ _ _ => rfl⟩
theorem Sp.below {b : Nat} {w w1 w2 : World} (h : Sp b w w1) (k : Below w1.heap.size w1 w2) : Sp b w w2 :=
  ⟨k.os.trans h.os, k.tape.trans h.tape, k.output.trans h.output, Nat.le_trans h.size k.size, fun j hj hn => (k.block j (Nat.lt_of_lt_of_le hj h.size)).trans (h.block j hj hn)⟩
theorem Sp.trans {b : Nat} {w w1 w2 : World} (h : Sp b w w1) (k : Sp b w1 w2) : Sp b w w2 :=
  ⟨k.os.trans h.os, k.tape.trans h.tape, k.output.trans h.output, Nat.le_trans h.size k.size, fun j hj hn => (k.block j (Nat.lt_of_lt_of_le hj h.size) hn).trans (h.block j hj hn)⟩
theorem Sp.of {b : Nat} {w w1 : World} (k : Below w.heap.size w w1) : Sp b w w1 := (Sp.refl b w).below k
theorem Sp.set {b : Nat} {w w1 : World} (h : Sp b w w1) (o : Nat) (v : Value) : Sp b w (w1.setCell ⟨b, o, none⟩ v) :=
  ⟨h.os, h.tape, h.output, by simpa using h.size, fun j hj hn => (Below.heap_setCell _ _ _ _ hn).trans (h.block j hj hn)⟩
theorem Sp.setNew {b : Nat} {w w1 : World} (h : Sp b w w1) {p : Addr} (hp : w.heap.size ≤ p.block) (v : Value) : Sp b w (w1.setCell p v) :=
  ⟨h.os, h.tape, h.output, by simpa using h.size, fun j hj hn => (Below.heap_setCell _ _ _ _ (by omega)).trans (h.block j hj hn)⟩
theorem RdAt.put {w : World} {b g n c p : Nat} (h : RdAt w b g n c p) (q : Nat) : RdAt (w.setCell ⟨b, 2, none⟩ (.int .i64 (q : Int))) b g n c q := by
  obtain ⟨u1, u3, u4, u5, h⟩ := h
  refine ⟨u1, u3, u4, u5, ?_⟩
  simp [World.setCell, Array.getElem?_modify, h]
/-- three cells of a new token -/
theorem tok3 {w W : World} (hW : W = w.alloc (.cells #[.int .i64 0, .string ⟨#[]⟩, .int .i64 0] 32)) {w2 : World} (hb : Below W.heap.size W w2) : w2.cell? ⟨w.heap.size, 0, none⟩ = some (.int .i64 0) ∧ w2.cell? ⟨w.heap.size, 1, none⟩ = some (.string ⟨#[]⟩) ∧ w2.cell? ⟨w.heap.size, 2, none⟩ = some (.int .i64 0) ∧ ∀ o, w2.frozen? ⟨w.heap.size, o, none⟩ = false := by
  have hs : w.heap.size < W.heap.size := by rw [hW]; simp
  have n0 : w2.heap[w.heap.size]? = some (.cells #[.int .i64 0, .string ⟨#[]⟩, .int .i64 0] 32 (0, 0)) := (hb.block _ hs).trans (by rw [hW]; exact new_at _ _)
  exact ⟨by simp [World.cell?, n0], by simp [World.cell?, n0], by simp [World.cell?, n0], fun o => by simp [World.frozen?, n0]⟩
set_option maxRecDepth 100000 in
set_option maxHeartbeats 8000000 in
theorem Peek_any (w : World) (b g c p : Nat) (ts : List Tok) (hR : RdAt w b g ts.length c p) (hT : TokAt w g ts) (hp : p < ts.length) (hl : ts.length < 100000) :
    Calls Tryz.prog 8 #[.pointer (some ⟨b, 0, none⟩)] w fun e w' => e = .returned ts[p].val ∧ Below w.heap.size w w' := by
  obtain ⟨W, hW⟩ : ∃ W, W = w.alloc (.cells #[.int .i64 0, .string ⟨#[]⟩, .int .i64 0] 32) := ⟨_, rfl⟩
  have hbW : Below w.heap.size w W := by rw [hW]; exact (Below.refl _ _).alloc (Nat.le_refl _) _
  obtain ⟨_, _, hbl⟩ := hR.cells
  have hgl := hT.lt (by omega)
  have kA : Hid _ := ahead_any W b g c p ts (hR.same (hbW.block b hbl)) (hT.next (hbW.block g hgl)) hp hl
  have h3 := fun w2 => tok3 hW (w2 := w2)
  clear hR hT
  unfold Tok.val at kA ⊢
  generalize ts[p].kind = kd at *
  generalize ts[p].text = tx at *
  generalize ts[p].at' = ta at *
  go_enter Tryz.func8, Tryz.ntmps8
  go_upto_region 1 with fail
  rw [← hW]
  clear hW
  go_wp2_with fail
  refine Calls.mono kA.out ?_
  rintro e w2 ⟨rfl, hb2⟩
  clear kA
  obtain ⟨c0, c1, c2, cf⟩ := h3 w2 hb2
  have hB : Below w.heap.size w w2 := hbW.trans (hb2.mono hbW.size)
  have hbel : ∀ u1 u2 u3, Below w.heap.size w (((w2.setCell ⟨w.heap.size, 0, none⟩ u1).setCell ⟨w.heap.size, 1, none⟩ u2).setCell ⟨w.heap.size, 2, none⟩ u3) := fun u1 u2 u3 => ((hB.setCell (Nat.le_refl _) _).setCell (Nat.le_refl _) _).setCell (Nat.le_refl _) _
  have hbel1 := hbel (.int .i64 kd) (.string tx) (.int .i64 ta)
  clear hbel
  go_wp2
  exact bodyPost_ret (v := .agg #[.int .i64 kd, .string tx, .int .i64 ta]) (by simp [results, Tryz.results8, go_sem, c0, c1, c2]) rfl ⟨rfl, hbel1⟩
set_option maxRecDepth 100000 in
set_option maxHeartbeats 8000000 in
theorem Next_any (w : World) (b g c p : Nat) (ts : List Tok) (hR : RdAt w b g ts.length c p) (hT : TokAt w g ts) (_hgb : g ≠ b) (hp : p < ts.length) (hl : ts.length < 100000) :
    Calls Tryz.prog 9 #[.pointer (some ⟨b, 0, none⟩)] w fun e w' => e = .returned ts[p].val ∧ RdAt w' b g ts.length c (if ts[p].kind = 0 then p else p + 1) ∧ Sp b w w' := by
  obtain ⟨W, hW⟩ : ∃ W, W = w.alloc (.cells #[.int .i64 0, .string ⟨#[]⟩, .int .i64 0] 32) := ⟨_, rfl⟩
  have hbW : Below w.heap.size w W := by rw [hW]; exact (Below.refl _ _).alloc (Nat.le_refl _) _
  obtain ⟨_, _, hbl⟩ := hR.cells
  have hgl := hT.lt (by omega)
  have hRW := hR.same (hbW.block b hbl)
  have kA : Hid _ := Peek_any W b g c p ts hRW (hT.next (hbW.block g hgl)) hp hl
  have hRh : Hid (RdAt W b g ts.length c p) := hRW
  have h3 := fun w2 => tok3 hW (w2 := w2)
  have hbW2 : b < W.heap.size := Nat.lt_of_lt_of_le hbl hbW.size
  have hWs : w.heap.size < W.heap.size := by rw [hW]; simp
  clear hR hT hRW
  unfold Tok.val at kA ⊢
  generalize ts[p].kind = kd at *
  generalize ts[p].text = tx at *
  generalize ts[p].at' = ta at *
  go_enter Tryz.func9, Tryz.ntmps9
  go_upto_region 1 with fail
  rw [← hW]
  clear hW
  go_wp2_with fail
  refine Calls.mono kA.out ?_
  rintro e w2 ⟨rfl, hb2⟩
  clear kA
  obtain ⟨c0, c1, c2, cf⟩ := h3 w2 hb2
  clear h3
  have hB : Below w.heap.size w w2 := hbW.trans (hb2.mono hbW.size)
  have hR2 : RdAt w2 b g ts.length c p := hRh.out.same (hb2.block b hbW2)
  clear hRh
  have hs2 : w.heap.size < w2.heap.size := Nat.lt_of_lt_of_le hWs hb2.size
  have hb2s : b < w2.heap.size := by omega
  obtain ⟨X, hX⟩ : ∃ X, X = w2.alloc (.cells #[.int .i64 kd, .string tx, .int .i64 ta] 32) := ⟨_, rfl⟩
  have hkX : ∀ k, k < w2.heap.size → X.heap[k]? = w2.heap[k]? := fun k hk => by rw [hX]; exact Below.heap_alloc _ _ _ hk
  have x0 : X.cell? ⟨w.heap.size, 0, none⟩ = some (.int .i64 0) := (World.cell?_of_block (a := ⟨w.heap.size, 0, none⟩) (hkX _ hs2)).trans c0
  have x1 : X.cell? ⟨w.heap.size, 1, none⟩ = some (.string ⟨#[]⟩) := (World.cell?_of_block (a := ⟨w.heap.size, 1, none⟩) (hkX _ hs2)).trans c1
  have x2 : X.cell? ⟨w.heap.size, 2, none⟩ = some (.int .i64 0) := (World.cell?_of_block (a := ⟨w.heap.size, 2, none⟩) (hkX _ hs2)).trans c2
  have xf : ∀ o, X.frozen? ⟨w.heap.size, o, none⟩ = false := fun o => (World.frozen?_of_block (a := ⟨w.heap.size, o, none⟩) (hkX _ hs2)).trans (cf o)
  have hRX : RdAt X b g ts.length c p := hR2.same (hkX _ hb2s)
  have nX : X.heap[w2.heap.size]? = some (.cells #[.int .i64 kd, .string tx, .int .i64 ta] 32 (0, 0)) := by rw [hX]; exact new_at _ _
  have y0 : X.cell? ⟨w2.heap.size, 0, none⟩ = some (.int .i64 kd) := by simp [World.cell?, nX]
  have y1 : X.cell? ⟨w2.heap.size, 1, none⟩ = some (.string tx) := by simp [World.cell?, nX]
  have y2 : X.cell? ⟨w2.heap.size, 2, none⟩ = some (.int .i64 ta) := by simp [World.cell?, nX]
  have hBX : Below w.heap.size w X := by rw [hX]; exact hB.alloc hB.size _
  clear nX hkX c0 c1 c2 cf hR2 hB
  go_upto_region 2 with fail
  rw [← hX]
  clear hX
  have hSX : Sp b w X := .of hBX
  by_cases hk : kd = 0
  · subst hk
    have hs3 : ∀ u1 u2 u3, Sp b w (((X.setCell ⟨w.heap.size, 0, none⟩ u1).setCell ⟨w.heap.size, 1, none⟩ u2).setCell ⟨w.heap.size, 2, none⟩ u3) := fun u1 u2 u3 => ((hSX.setNew (Nat.le_refl _) _).setNew (Nat.le_refl _) _).setNew (Nat.le_refl _) _
    have hr3 : ∀ u1 u2 u3, RdAt (((X.setCell ⟨w.heap.size, 0, none⟩ u1).setCell ⟨w.heap.size, 1, none⟩ u2).setCell ⟨w.heap.size, 2, none⟩ u3) b g ts.length c p := fun u1 u2 u3 => hRX.same (by
      rw [Below.heap_setCell _ _ _ _ (by simp; omega), Below.heap_setCell _ _ _ _ (by simp; omega), Below.heap_setCell _ _ _ _ (by simp; omega)])
    have hs4 := hs3 (.int .i64 0) (.string tx) (.int .i64 ta)
    have hr4 := hr3 (.int .i64 0) (.string tx) (.int .i64 ta)
    clear hs3 hr3
    go_wp2
    exact bodyPost_ret (v := .agg #[.int .i64 0, .string tx, .int .i64 ta]) (by simp [results, Tryz.results9, go_sem, x0, x1, x2]) rfl ⟨rfl, hr4, hs4⟩
  · have dk : decide (kd = 0) = false := decide_eq_false hk
    obtain ⟨_, r2, _⟩ := hRX.cells
    have rf : X.frozen? ⟨b, 2, none⟩ = false := by obtain ⟨u1, u3, u4, u5, h⟩ := hRX; simp [World.frozen?, h]
    obtain ⟨Y, hY⟩ : ∃ Y, Y = X.setCell ⟨b, 2, none⟩ (.int .i64 ((p : Int) + 1)) := ⟨_, rfl⟩
    have hw1 : IntKind.i64.wrap ((p : Int) + 1) = (p : Int) + 1 := by rw [IntKind.wrap_i64]; omega
    have hkY : ∀ k, k ≠ b → Y.heap[k]? = X.heap[k]? := fun k hk => by rw [hY]; exact Below.heap_setCell _ _ _ _ hk
    have hne1 : w.heap.size ≠ b := by omega
    have hne2 : w2.heap.size ≠ b := by omega
    have z0 : Y.cell? ⟨w.heap.size, 0, none⟩ = some (.int .i64 0) := (World.cell?_of_block (a := ⟨w.heap.size, 0, none⟩) (hkY _ hne1)).trans x0
    have z1 : Y.cell? ⟨w.heap.size, 1, none⟩ = some (.string ⟨#[]⟩) := (World.cell?_of_block (a := ⟨w.heap.size, 1, none⟩) (hkY _ hne1)).trans x1
    have z2 : Y.cell? ⟨w.heap.size, 2, none⟩ = some (.int .i64 0) := (World.cell?_of_block (a := ⟨w.heap.size, 2, none⟩) (hkY _ hne1)).trans x2
    have zf : ∀ o, Y.frozen? ⟨w.heap.size, o, none⟩ = false := fun o => (World.frozen?_of_block (a := ⟨w.heap.size, o, none⟩) (hkY _ hne1)).trans (xf o)
    have v0 : Y.cell? ⟨w2.heap.size, 0, none⟩ = some (.int .i64 kd) := (World.cell?_of_block (a := ⟨w2.heap.size, 0, none⟩) (hkY _ hne2)).trans y0
    have v1 : Y.cell? ⟨w2.heap.size, 1, none⟩ = some (.string tx) := (World.cell?_of_block (a := ⟨w2.heap.size, 1, none⟩) (hkY _ hne2)).trans y1
    have v2 : Y.cell? ⟨w2.heap.size, 2, none⟩ = some (.int .i64 ta) := (World.cell?_of_block (a := ⟨w2.heap.size, 2, none⟩) (hkY _ hne2)).trans y2
    have hRY : RdAt Y b g ts.length c (p + 1) := by rw [hY]; have h9 := hRX.put (p + 1); rw [Int.natCast_add] at h9; exact h9
    have hSY : Sp b w Y := by rw [hY]; exact hSX.set _ _
    have hs3 : ∀ u1 u2 u3, Sp b w (((Y.setCell ⟨w.heap.size, 0, none⟩ u1).setCell ⟨w.heap.size, 1, none⟩ u2).setCell ⟨w.heap.size, 2, none⟩ u3) := fun u1 u2 u3 => ((hSY.setNew (Nat.le_refl _) _).setNew (Nat.le_refl _) _).setNew (Nat.le_refl _) _
    have hr3 : ∀ u1 u2 u3, RdAt (((Y.setCell ⟨w.heap.size, 0, none⟩ u1).setCell ⟨w.heap.size, 1, none⟩ u2).setCell ⟨w.heap.size, 2, none⟩ u3) b g ts.length c (p + 1) := fun u1 u2 u3 => hRY.same (by
      rw [Below.heap_setCell _ _ _ _ (by simp; omega), Below.heap_setCell _ _ _ _ (by simp; omega), Below.heap_setCell _ _ _ _ (by simp; omega)])
    have hs4 := hs3 (.int .i64 kd) (.string tx) (.int .i64 ta)
    have hr4 := hr3 (.int .i64 kd) (.string tx) (.int .i64 ta)
    clear hs3 hr3
    go_upto_region 4 with fail
    rw [← hY]
    clear hY
    go_wp2
    exact bodyPost_ret (v := .agg #[.int .i64 kd, .string tx, .int .i64 ta]) (by simp [results, Tryz.results9, go_sem, z0, z1, z2]) rfl ⟨rfl, hr4, hs4⟩
end Go.Proofs.YtfbacidpjpghiaaGreatDoor
