/- scan: sizes of what is written again; bytes that were handed in. -/
import Derived.Test.YtfbacidpjpghiaaGreatDoorUc
import Derived.Lib.BufferRead
import Derived.Laws.OwnMore
import Derived.Test.YtfbacidpjpghiaaGreatDoorSt
namespace Go.Proofs.YtfbacidpjpghiaaGreatDoor
open Go.RowKit
attribute [local go_sem ↓] Go.wp_at_zero Go.wp_at_succ
theorem endL_text (ts : List Tok) (a : Int) (M : Nat) (hM : 1 ≤ M) (h : ∀ t ∈ ts, t.text.toList.length ≤ M) : ∀ t ∈ endL ts a, t.text.toList.length ≤ M := by
  unfold endL
  split
  · exact h
  · split
    · intro t ht
      rcases List.mem_append.1 ht with h1 | h1
      · exact h t h1
      · obtain rfl := List.mem_singleton.1 h1
        show (⟨#[10]⟩ : ByteArray).toList.length ≤ M
        rw [ByteArray.toList_eq]
        exact hM
    · exact h
theorem scan_size (S : List UInt8) (f pos : Nat) (ts out : List Tok) (hp : pos ≤ S.length) (hl : ts.length ≤ pos) (ht : ∀ t ∈ ts, t.text.toList.length ≤ S.length + 1) (h : scanGo S f pos ts = some (.good out)) : out.length ≤ S.length + 2 ∧ ∀ t ∈ out, t.text.toList.length ≤ S.length + 1 := by
  induction f generalizing pos ts with
  | zero => cases h
  | succ f ih =>
    rw [scanGo] at h
    split at h
    · rename_i hlt
      cases hst : stepM (S.drop pos) pos ts with
      | none => rw [hst] at h; cases h
      | some x =>
        obtain ⟨b, p, ts'⟩ := x
        rw [hst] at h
        cases b with
        | false => cases h
        | true =>
          have hs : (ba (S.drop pos)).toList = S.drop pos := ba_toList _
          have hlt2 := stepM_lt (ba (S.drop pos)) (by rw [ba_size', List.length_drop]; omega) (pos := pos) (p' := p) (ts := ts) (ts' := ts') (by rw [hs]; exact hst)
          rw [ba_size', List.length_drop] at hlt2
          refine ih p ts' (by omega) (by omega) ?_ h
          unfold stepM at hst
          split at hst
          · obtain ⟨_, e2⟩ := Prod.mk.inj (Option.some.inj hst)
            obtain ⟨_, rfl⟩ := Prod.mk.inj e2
            exact endL_text ts _ _ (by omega) ht
          · split at hst
            · obtain ⟨_, e2⟩ := Prod.mk.inj (Option.some.inj hst)
              obtain ⟨_, rfl⟩ := Prod.mk.inj e2
              exact ht
            · split at hst
              · obtain ⟨_, e2⟩ := Prod.mk.inj (Option.some.inj hst)
                obtain ⟨_, rfl⟩ := Prod.mk.inj e2
                exact ht
              · split at hst
                · obtain ⟨_, e2⟩ := Prod.mk.inj (Option.some.inj hst)
                  obtain ⟨_, rfl⟩ := Prod.mk.inj e2
                  split
                  · exact ht
                  · unfold commentT
                    split
                    · exact endL_text ts _ _ (by omega) ht
                    · exact ht
                · obtain ⟨⟨k, n⟩, hme, h2⟩ := Option.map_eq_some_iff.1 hst
                  obtain ⟨e1, e2⟩ := Prod.mk.inj h2
                  obtain ⟨_, rfl⟩ := Prod.mk.inj e2
                  have hn : n ≠ 0 := by simpa using e1
                  simp only
                  rw [if_neg hn]
                  intro t h3
                  rcases List.mem_append.1 h3 with h1 | h1
                  · exact ht t h1
                  · obtain rfl := List.mem_singleton.1 h1
                    show (ba _).toList.length ≤ _
                    rw [ba_toList, List.length_take, List.length_drop]
                    omega
    · cases h
      have he := endL_len ts (pos : Int)
      refine ⟨by rw [List.length_append]; simp; omega, ?_⟩
      intro t h3
      rcases List.mem_append.1 h3 with h1 | h1
      · exact endL_text ts _ _ (by omega) ht t h1
      · obtain rfl := List.mem_singleton.1 h1
        show (ba []).toList.length ≤ _
        rw [ba_toList]
        exact Nat.zero_le _
theorem again_len (ts : List Tok) (M : Nat) (h : ∀ t ∈ ts, t.text.toList.length ≤ M) : (again ts).length ≤ ts.length * (M + 1) := by
  induction ts with
  | nil => exact Nat.zero_le _
  | cons t ts ih =>
    have h1 := ih (fun t ht => h t (List.mem_cons_of_mem _ ht))
    have h2 := h t List.mem_cons_self
    have h3 : (againT t).length ≤ M + 1 := by
      unfold againT
      rw [List.length_append]
      split
      · simp; omega
      · simp; omega
    have e : again (t :: ts) = againT t ++ again ts := rfl
    rw [e, List.length_append, List.length_cons, Nat.succ_mul]
    omega
/-- Numbers as bytes. -/
def byteL (zs : List Int) : List UInt8 := zs.map (fun z => UInt8.ofNat z.toNat)
theorem row_conv (w : World) (a : Option Addr) (cap : Nat) (zs : List Int) (h : Row w .u8 256 a cap zs) : (convert 22 9 (.slice a zs.length cap)).run Tryz.prog w = .ok (.string (ba (byteL zs))) w := by
  have hl : (byteL zs).length = zs.length := by unfold byteL; simp
  cases a with
  | none =>
    have hc := h.nil rfl
    have h0 : zs.length = 0 := by have := h.le; omega
    obtain rfl := List.length_eq_zero_iff.1 h0
    exact Lib.run_convert_nil_bytes w _ _ _ cap Tryz.underlying22 Tryz.underlying5 Tryz.underlying9
  | some x =>
    have := Go.run_convert_bytes_back (P := Tryz.prog) w 22 9 5 x cap (byteL zs) Tryz.underlying22 Tryz.underlying5 Tryz.underlying9 ?_
    · rw [hl] at this
      exact this
    · intro j hj
      have hj' : j < zs.length := by omega
      rw [h.cell x rfl j hj']
      have hz : zs[j]?.getD 0 = zs[j] := by simp [List.getElem?_eq_getElem hj']
      have hw := h.words zs[j] (List.getElem_mem hj')
      have hb : (byteL zs)[j] = UInt8.ofNat zs[j].toNat := by simp [byteL]
      rw [hz, hb]
      congr 2
      simp
      omega
set_option maxRecDepth 20000 in
set_option maxHeartbeats 4000000 in
theorem Short_any (a : Option Addr) (cap : Nat) (zs : List Int) (n : Nat) (w : World) (h : Row w .u8 256 a cap zs) (hn : n < 1000000000) : Calls Tryz.prog 5 #[.slice a zs.length cap, .int .i64 n] w fun e w' => e = .returned (.slice a (zs.take n).length cap) ∧ w' = w := by
  have hle := h.le
  by_cases hg : zs.length > n
  · have d1 : decide ((zs.length : Int) > n) = true := decide_eq_true (by omega)
    have hl : (zs.take n).length = n := by rw [List.length_take]; omega
    rw [hl]
    have hnc : n ≤ cap := by omega
    cases a with
    | none => have := h.nil rfl; omega
    | some x =>
      clear hl h
      go_enter Tryz.func5, Tryz.ntmps5
      go_wp2
      go_ret
      exact ⟨rfl, rfl⟩
  · have d1 : decide ((zs.length : Int) > n) = false := decide_eq_false (by omega)
    have hl : (zs.take n).length = zs.length := by rw [List.length_take]; omega
    rw [hl]
    clear hl h
    go_enter Tryz.func5, Tryz.ntmps5
    go_wp2
    go_ret
    exact ⟨rfl, rfl⟩
end Go.Proofs.YtfbacidpjpghiaaGreatDoor
