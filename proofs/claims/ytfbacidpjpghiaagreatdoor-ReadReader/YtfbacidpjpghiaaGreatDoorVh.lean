/- scan: the same tokens; the second road at no bytes. -/
import Derived.Test.YtfbacidpjpghiaaGreatDoorUd
import Derived.BigQuiet
import Derived.Test.YtfbacidpjpghiaaGreatDoorVd
import Derived.Test.YtfbacidpjpghiaaGreatDoorVx
namespace Go.Proofs.YtfbacidpjpghiaaGreatDoor
open Go.RowKit
attribute [local go_sem ↓] Go.wp_at_zero Go.wp_at_succ
theorem ScanOut.goodForm {w w' : World} {e : Ending} {ts : List Tok} (h : ScanOut w w' e (.good ts)) (h0 : 0 < ts.length) : ∃ g cap, e = .returned (.tuple #[.slice (some ⟨g, 0, none⟩) ts.length cap, .int .i64 0, .bool true]) ∧ g < w'.heap.size ∧ (∀ k (hk : k < ts.length), w'.cell? ⟨g, k * 3, none⟩ = some (.int .i64 ts[k].kind) ∧ w'.cell? ⟨g, k * 3 + 1, none⟩ = some (.string ts[k].text) ∧ w'.cell? ⟨g, k * 3 + 2, none⟩ = some (.int .i64 ts[k].at')) := by
  obtain ⟨a, l, c, rfl, hO⟩ := h
  obtain ⟨g, cap, e, hg1, hg2⟩ := hO.form h0
  cases e
  refine ⟨g, _, rfl, hg2, fun k hk => ?_⟩
  obtain ⟨f0, f1, f2⟩ := flatT_get ts k hk
  have q0 := hO.cellAt (k * 3) (by omega)
  have q1 := hO.cellAt (k * 3 + 1) (by omega)
  have q2 := hO.cellAt (k * 3 + 2) (by omega)
  exact ⟨q0.trans f0, q1.trans f1, q2.trans f2⟩
/-- The tokens lie from block g on. -/
def TokAt (w : World) (g : Nat) (ts : List Tok) : Prop := ∀ k (hk : k < ts.length), w.cell? ⟨g, k * 3, none⟩ = some (.int .i64 ts[k].kind) ∧ w.cell? ⟨g, k * 3 + 1, none⟩ = some (.string ts[k].text) ∧ w.cell? ⟨g, k * 3 + 2, none⟩ = some (.int .i64 ts[k].at')
set_option maxRecDepth 100000 in
set_option maxHeartbeats 8000000 in
theorem refScan_nil (w : World) (a : Option Addr) (c : Nat) : Calls Tryz.prog 14 #[.slice a 0 c] w fun e w' => ScanOut w w' e (.good [⟨0, ba [], 0⟩]) ∧ Below w.heap.size w w' := by
  obtain ⟨i0, hi0, hz0, hz1, hz2⟩ := info_parts Tryz.info32
  have ke : Hid _ := ends_any w w.heap.size none 0 0 [] (World.ownsRow_nil _ _ _ _) (by decide)
  have hOut : Hid (∀ w' g n cap, w'.ownsRow w.heap.size 32 3 (.slice (some ⟨g, 0, none⟩) n cap) 1 (flatT [⟨0, ba [], 0⟩]) → ScanOut w w' (.returned (.tuple #[.slice (some ⟨g, 0, none⟩) n cap, .int .i64 0, .bool true])) (.good [⟨0, ba [], 0⟩])) := fun w' g n cap h => ⟨_, _, _, rfl, h⟩
  rw [show endsB [] = false from rfl] at ke
  go_enter Tryz.func14, Tryz.ntmps14
  go_wp2
  go_loopw [5, 6, 7, 8, 9, 10] (fun v5 v6 _ _ _ _ wr => v5 = .slice none 0 0 ∧ v6 = .int .i64 0 ∧ wr = w) (fun _ _ _ _ _ _ _ => 0)
  case atStart => exact ⟨rfl, rfl, rfl⟩
  case round =>
    obtain ⟨rfl, rfl, rfl⟩ := hrel
    go_wp2_with fail
    refine Calls.mono ke.out ?_
    rintro e w3 ⟨rfl, hb3⟩
    clear ke
    have hb3s := hb3.size
    have hO1 : Hid ((w3.alloc (.cells #[.int .i64 0, .string ⟨#[]⟩, .int .i64 0] 32)).ownsRow wr.heap.size 32 3 (.slice none 0 0) 0 (flatT [])) := World.ownsRow_nil _ _ _ _
    go_wp2_with (at_builtin; refine wpList_append_lies _ (by rfl) (.tmp 163) (.tmp 167) 28 (by rfl) wr.heap.size 32 i0 _ 3 32 Tryz.underlying28 hi0 hz0 hz1 hz2 (by rfl) (by decide) (.slice none 0 0) 0 (flatT []) (by rfl) hO1.out ⟨w3.heap.size, 0, none⟩ 1 1 [.int .i64 0, .string ⟨#[]⟩, .int .i64 0] (by rfl) (by rfl) (tok_cells w3 0 0 ⟨#[]⟩) (tok_each 0 0 ⟨#[]⟩) (by decide) (by unfold maxLen; omega) (by omega) (by simp; omega) (w3.heap.size + 1) (by simp) ?_)
    intro g' cap' w4 hO4 hg4 hat hlt4
    have hP := hOut.out w4 g' (0 + 1) cap' hO4
    have hBf : Below wr.heap.size wr w4 := (hb3.alloc hb3s _).grown hg4 (by simp; omega) (fun b hb => by simp [Value.ownBlock] at hb)
    clear hO4 hg4 hat hlt4 hO1 hOut
    go_wp2
    exact bodyPost_ret (v := .tuple #[.slice (some ⟨g', 0, none⟩) (0 + 1) cap', .int .i64 0, .bool true]) (by simp [results, Tryz.results14, go_sem]) rfl ⟨hP, hBf⟩
theorem row_bytes (w : World) (x : Addr) (cap : Nat) (zs : List Int) (h : Row w .u8 256 (some x) cap zs) : BytesAt w x (byteL zs) := by
  intro j hj
  have hl : (byteL zs).length = zs.length := by unfold byteL; simp
  have hj' : j < zs.length := by omega
  rw [h.cell x rfl j hj']
  have hz : zs[j]?.getD 0 = zs[j] := by simp [List.getElem?_eq_getElem hj']
  have hw := h.words zs[j] (List.getElem_mem hj')
  have hb : (byteL zs).getD j 0 = UInt8.ofNat zs[j].toNat := by
    rw [List.getD_eq_getElem?_getD, List.getElem?_eq_getElem hj]
    simp [byteL]
  rw [hz, hb]
  congr 2
  simp
  omega
theorem scan_bad (S : List UInt8) (f pos : Nat) (ts : List Tok) (p : Nat) (hp : pos ≤ S.length) (h : scanGo S f pos ts = some (.bad p)) : p ≤ S.length := by
  induction f generalizing pos ts with
  | zero => cases h
  | succ f ih =>
    rw [scanGo] at h
    split at h
    · rename_i hlt
      cases hst : stepM (S.drop pos) pos ts with
      | none => rw [hst] at h; cases h
      | some x =>
        obtain ⟨b, q, ts'⟩ := x
        rw [hst] at h
        cases b with
        | false =>
          cases h
          unfold stepM at hst
          split at hst
          · cases hst
          · split at hst
            · cases hst
            · split at hst
              · cases hst
              · split at hst
                · obtain ⟨e1, e2⟩ := Prod.mk.inj (Option.some.inj hst)
                  obtain ⟨e3, _⟩ := Prod.mk.inj e2
                  have : (commentM (S.drop pos)).toNat = 0 := by simpa using e1
                  omega
                · obtain ⟨⟨k, n⟩, hme, h2⟩ := Option.map_eq_some_iff.1 hst
                  obtain ⟨e1, e2⟩ := Prod.mk.inj h2
                  obtain ⟨e3, _⟩ := Prod.mk.inj e2
                  have : n = 0 := by simpa using e1
                  simp only at e3
                  omega
        | true =>
          have hs : (ba (S.drop pos)).toList = S.drop pos := ba_toList _
          have := stepM_lt (ba (S.drop pos)) (by rw [ba_size', List.length_drop]; omega) (pos := pos) (p' := q) (ts := ts) (ts' := ts') (by rw [hs]; exact hst)
          rw [ba_size', List.length_drop] at this
          exact ih q ts' (by omega) h
    · cases h
end Go.Proofs.YtfbacidpjpghiaaGreatDoor
