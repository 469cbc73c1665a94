/- scan: Value. -/
import Derived.Test.YtffggadmpdmbdaaGreatDoorSp
namespace Go.Proofs.YtffggadmpdmbdaaGreatDoor
open Go.RowKit
attribute [local go_sem ↓] Go.wp_at_zero Go.wp_at_succ
theorem strGo_ge (l : List UInt8) (q : Int) (f a r : Nat) (ha : 1 ≤ a) (h : strGo l q f a = some r) : r = 0 ∨ 2 ≤ r := by
  induction f generalizing a with
  | zero => cases h
  | succ f ih =>
    unfold strGo at h
    split at h
    · split at h
      · cases h
      · cases h; exact .inl rfl
      · exact ih _ (by omega) h
    · split at h
      · cases h; exact .inl rfl
      · cases h; exact .inr (by omega)
theorem strM_ge (l : List UInt8) (r : Nat) (h : strM l = some r) : r = 0 ∨ 2 ≤ r := by
  unfold strM at h
  split at h
  · cases h; exact .inl rfl
  · exact strGo_ge _ _ _ _ _ (Nat.le_refl _) h
/-- What the pieces say. -/
def valGo (q : Int) : Nat → List UInt8 → Option (List UInt8)
  | 0, _ => none
  | f + 1, l => if l = [] then some [] else match pieceM l q with
      | none => none
      | some (_, 0) => none
      | some (t, n + 1) => (valGo q f (l.drop (n + 1))).map (fun r => t ++ r)
def valM (l : List UInt8) : Option (List UInt8 × Bool) :=
  if l = [] then some ([], false) else match strM l with
    | none => none
    | some r => if r = l.length then (valGo (byteAt l 0) (l.length + 1) ((l.take (l.length - 1)).drop 1)).map (fun t => (t, true)) else some ([], false)
theorem BuilderAt_next {B b : Nat} {p : Value} {bs : List Value} {w w' : World} (h : Lib.BuilderAt 52 5 B b p bs w) (hb : Below w.heap.size w w') : Lib.BuilderAt 52 5 B b p bs w' := by
  obtain ⟨h1, v, h2, h3, h4⟩ := h
  have hlt : b < w.heap.size := by
    rcases Nat.lt_or_ge b w.heap.size with h' | h'
    · exact h'
    · simp [Array.getElem?_eq_none h'] at h2
  refine ⟨h1, v, by rw [hb.block b hlt]; exact h2, h3.kept (grownBy_of_below hb none) ?_, h4⟩
  rcases h : v.ownBlock with _ | k
  · exact .inl rfl
  · exact .inr (by simp)
theorem IsBuilder_next {B b : Nat} {bs : List Value} {w w' : World} (h : Lib.IsBuilder 52 5 B b bs w) (hb : Below w.heap.size w w') : Lib.IsBuilder 52 5 B b bs w' := h.imp (fun h => BuilderAt_next h hb) (fun h => BuilderAt_next h hb)
theorem strCells_ba (s : ByteArray) : Lib.strCells s = Lib.byteCells s.toList := by
  unfold Lib.strCells Lib.byteCells
  rw [ByteArray.toList_eq]
theorem byteCells_app (a b : List UInt8) : Lib.byteCells a ++ Lib.byteCells b = Lib.byteCells (a ++ b) := by simp [Lib.byteCells]
theorem piece_text {l : List UInt8} {q : Int} {t : List UInt8} {n : Nat} (h : pieceM l q = some (t, n)) : t.length ≤ l.length + 1 := by
  unfold pieceM at h
  split at h
  · cases h; simp
  · split at h
    · cases h; simp
    · split at h
      · unfold escM at h
        split at h
        · cases h; simp
        · split at h
          · cases h; simp; omega
          · split at h
            · cases h; simp
            · split at h
              · cases h; simp
              · split at h
                · have h2 := (byteM_le l).2
                  rw [Option.some.inj h] at h2
                  exact h2
                · split at h
                  · have h2 := (pointM_le l).2
                    rw [Option.some.inj h] at h2
                    exact h2
                  · cases h; simp
      · split at h
        · cases h; simp
        · cases h; simp; omega
set_option maxRecDepth 100000 in
set_option maxHeartbeats 4000000 in
theorem Value_any (s : ByteArray) (w : World) (hG : Glob w) (hs : s.size < 1000000) (t : List UInt8) (ok : Bool) (hM : valM s.toList = some (t, ok)) : Calls Tryz.prog 9 #[.string s] w fun e w' => e = .returned (.tuple #[.string (ba t), .bool ok]) ∧ Below w.heap.size w w' := by
  unfold valM at hM
  have hz : s.toList = [] ↔ s.size = 0 := by rw [← toList_len]; exact List.length_eq_zero_iff.symm
  by_cases h0 : s.size = 0
  · have he := hz.2 h0
    rw [if_pos he] at hM
    obtain ⟨rfl, rfl⟩ := Prod.mk.inj (Option.some.inj hM)
    have d0 : (s.toList == []) = true := by rw [he]; rfl
    clear hM hz
    go_enter Tryz.func9, Tryz.ntmps9
    go_wp2
    exact bodyPost_ret (v := .tuple #[.string ⟨#[]⟩, .bool false]) (by simp [results, Tryz.results9, go_sem]) rfl ⟨rfl, Below.refl _ _⟩
  · have he : ¬ s.toList = [] := fun h => h0 (hz.1 h)
    have hpos : 0 < s.size := by omega
    rw [if_neg he] at hM
    have d0 : (s.toList == []) = false := by simpa using he
    have d0' : s.toList.isEmpty = false := by simpa using he
    cases hst : strM s.toList with
    | none => rw [hst] at hM; cases hM
    | some r =>
      rw [hst] at hM
      have ksl : Hid _ := stringLength_any s w hG hpos r hst (by omega)
      have hge := strM_ge _ _ hst
      have hb0 := byteAt_lt s hpos
      simp only at hM
      rw [toList_len] at hM
      by_cases hr : r = s.size
      · rw [if_pos hr] at hM
        subst hr
        obtain ⟨t', hv, ht⟩ := Option.map_eq_some_iff.1 hM
        obtain ⟨rfl, rfl⟩ := Prod.mk.inj ht
        rw [← toList_extract, hb0] at hv
        clear hM ht hst hz he hb0
        have hin : (s.extract 1 (s.size - 1)).size = s.size - 1 - 1 := by rw [ByteArray.size_extract]; omega
        have hw9 : IntKind.i64.wrap ((s.size : Int) - 1) = ((s.size - 1 : Nat) : Int) := by rw [IntKind.wrap_i64]; omega
        replace hv : Hid _ := hv
        generalize hC : ((s[0]'hpos).toNat : Int) = C at *
        go_enter Tryz.func9, Tryz.ntmps9
        go_wp2_with fail
        refine Calls.mono ksl.out ?_
        rintro e w1 ⟨rfl, hb1⟩
        clear ksl
        obtain ⟨W, hW⟩ : ∃ W, W = w1.alloc (.cells #[.pointer none, .slice none 0 0] 52) := ⟨_, rfl⟩
        have hbW : Below w.heap.size w W := by rw [hW]; exact hb1.alloc hb1.size _
        have hI0 : Lib.IsBuilder 52 5 w.heap.size w1.heap.size (Lib.byteCells []) W := by
          rw [hW]
          exact .inl ⟨hb1.size, .slice none 0 0, by show (w1.heap.push _)[w1.heap.size]? = _; simp, World.ownsRow_nil _ _ _ _, by simp [Value.ownBlock]⟩
        replace hI0 : Hid _ := hI0
        go_upto_region 5 with fail
        rw [← hW]
        clear hW hb1
        generalize w1.heap.size = g at *
        go_loopw [5, 6, 7] (fun i _ _ wr => ∃ (I : ByteArray) (f : Nat) (acc rest : List UInt8), i = .string I ∧ I.size ≤ s.size ∧ Hid (valGo C f I.toList = some rest) ∧ Hid (t' = acc ++ rest) ∧ acc.length ≤ 1000001 * (s.size - I.size) ∧ Hid (Lib.IsBuilder 52 5 w.heap.size g (Lib.byteCells acc) wr) ∧ Hid (Below w.heap.size w wr)) (fun i _ _ _ => match i with | .string I => I.size | _ => 0)
        case atStart => exact ⟨s.extract 1 (s.size - 1), s.size + 1, [], t', rfl, by omega, hv, rfl, by simp, hI0, hbW⟩
        case round =>
          obtain ⟨I, f, acc, rest, rfl, hIs, hV, hT, hA, hBd, hb⟩ := hrel
          cases f with
          | zero => exact absurd hV.out (by unfold valGo; simp)
          | succ f =>
            have hV' := hV.out
            unfold valGo at hV'
            have hzi : I.toList = [] ↔ I.size = 0 := by rw [← toList_len]; exact List.length_eq_zero_iff.symm
            by_cases hi0 : I.size = 0
            · have hie := hzi.2 hi0
              rw [if_pos hie] at hV'
              obtain rfl := Option.some.inj hV'
              have hTe : t' = acc := by rw [hT.out, List.append_nil]
              subst hTe
              have d1 : (I.toList == []) = true := by rw [hie]; rfl
              have d2 : (I.toList != []) = false := by rw [hie]; rfl
              have ks : Hid _ := Tryz.Builder_String_any w.heap.size g t' wr hBd.out hb.out.size
              clear hie hzi hV hT hBd hv hI0 hV'
              go_wp2_with fail
              refine Calls.mono ks.out ?_
              rintro e w3 ⟨rfl, hb3⟩
              have hBB := hb.out.trans hb3
              go_wp2
              exact bodyPost_ret (v := .tuple #[.string (ba t'), .bool true]) (by simp [results, Tryz.results9, go_sem, ba]) rfl ⟨rfl, hBB⟩
            · have hie : ¬ I.toList = [] := fun h => hi0 (hzi.1 h)
              rw [if_neg hie] at hV'
              have d1 : (I.toList == []) = false := by simpa using hie
              have d2 : (I.toList != []) = true := by simpa using hie
              have d3 : I.toList.isEmpty = false := by simpa using hie
              have kp : Hid (∀ t n, pieceM I.toList C = some (t, n) → Calls Tryz.prog 24 #[.string I, .int .u8 C] wr fun e w' => ∃ b : ByteArray, e = .returned (.tuple #[.string b, .int .i64 n]) ∧ b.toList = t ∧ Below wr.heap.size wr w') := fun t n h => readPiece_any I C wr (hG.next hb.out) (by omega) t n h (by omega)
              have kle : Hid (∀ t n, pieceM I.toList C = some (t, n) → n ≤ I.size ∧ t.length ≤ I.size + 1) := fun t n h => ⟨pieceM_le I (by omega) h, by have := piece_text h; rw [toList_len] at this; exact this⟩
              cases hp : pieceM I.toList C with
              | none => rw [hp] at hV'; cases hV'
              | some tn =>
                obtain ⟨t1, n⟩ := tn
                rw [hp] at hV'
                replace kp : Hid _ := kp.out t1 n hp
                obtain ⟨kl1, kl2⟩ := kle.out t1 n hp
                cases n with
                | zero => cases hV'
                | succ n =>
                  simp only at hV'
                  obtain ⟨r', hr1, hr2⟩ := Option.map_eq_some_iff.1 hV'
                  have hT2 : t' = (acc ++ t1) ++ r' := by rw [hT.out, ← hr2, List.append_assoc]
                  rw [← toList_drop] at hr1
                  have hsz2 : (I.extract (n + 1) I.size).size = I.size - (n + 1) := by rw [ByteArray.size_extract]; omega
                  replace hr1 : Hid _ := hr1
                  replace hT2 : Hid _ := hT2
                  clear hp hie hzi hV hT hv hI0 hV' hr2 kle
                  go_wp2_with fail
                  refine Calls.mono kp.out ?_
                  rintro e w3 ⟨b, rfl, hbt, hb3⟩
                  clear kp
                  have hbs : b.size = t1.length := by rw [← toList_len, hbt]
                  have hacc : (Lib.byteCells acc).length = acc.length := Lib.byteCells_length _
                  have kw : Hid _ := WriteString_any w.heap.size g (Lib.byteCells acc) b w3 (IsBuilder_next hBd.out hb3) (by omega) (hb.out.trans (hb3.mono hb.out.size)).size
                  have hB3 : Hid (Below w.heap.size w w3) := hb.out.trans (hb3.mono hb.out.size)
                  replace hbt : Hid _ := hbt
                  clear hBd
                  go_wp2_with fail
                  refine Calls.mono kw.out ?_
                  rintro e w4 ⟨rfl, hbd4, hb4⟩
                  clear kw
                  have hB4 : Hid (Below w.heap.size w w4) := hB3.out.trans hb4
                  have hbd5 : Hid (Lib.IsBuilder 52 5 w.heap.size g (Lib.byteCells (acc ++ t1)) w4) := by
                    rw [strCells_ba, hbt.out, byteCells_app] at hbd4
                    exact .inr hbd4
                  clear hbd4
                  go_wp2
                  go_roundw
                  case rel => exact ⟨I.extract (n + 1) I.size, f, acc ++ t1, r', rfl, by omega, hr1, hT2, by rw [List.length_append, hsz2]; omega, hbd5, hB4⟩
                  case measure => simp only [hsz2]; omega
      · rw [if_neg hr] at hM
        obtain ⟨rfl, rfl⟩ := Prod.mk.inj (Option.some.inj hM)
        have dr : ((r : Int) != s.size) = true := by simp; omega
        clear hM hst hz he hb0
        go_enter Tryz.func9, Tryz.ntmps9
        go_wp2_with fail
        refine Calls.mono ksl.out ?_
        rintro e w1 ⟨rfl, hb1⟩
        go_wp2
        exact bodyPost_ret (v := .tuple #[.string ⟨#[]⟩, .bool false]) (by simp [results, Tryz.results9, go_sem]) rfl ⟨rfl, hb1⟩
end Go.Proofs.YtffggadmpdmbdaaGreatDoor
