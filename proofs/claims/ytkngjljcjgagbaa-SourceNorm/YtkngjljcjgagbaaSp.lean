/- SourceNorm: the law's walk. -/
import Derived.Test.YtkngjljcjgagbaaSo
import Derived.Test.YtkngjljcjgagbaaRy
import Derived.BigQuiet
import Derived.Deep.Cut
import Derived.Deep.CutRange
namespace Go.Proofs.Ytkngjljcjgagbaa
set_option linter.unusedVariables false
open Go.Shelf Go.RowKit Go.Lib Go.Sort
attribute [local go_sem ↓] Go.wp_at_zero Go.wp_at_succ
theorem inT_take {w : World} {a : Option Addr} {n m cap : Nat} {X : Nat → NS} {Y : Nat → Nat → NS} {Bd : Nat → Nat → List Int} (h : InT w a n cap X Y Bd) (hm : m ≤ n) : InT w a m cap X Y Bd :=
  ⟨by have := h.le; omega, h.max, fun i hi => h.pk i (by omega), fun i hi => h.fle i (by omega), fun i hi => h.fl i (by omega), fun i hi => h.bd i (by omega)⟩
theorem ap_step {X : Nat → NS} {Y : Nat → Nat → NS} {i : Nat} (b : Bool) (h : b = true ↔ (AP X Y i ∧ ∀ k, k < i → (X i).name ≠ (X k).name) ∧ ∀ s, s < (X i).n → ∀ t, t < s → (Y i s).name ≠ (Y i t).name) : b = true ↔ AP X Y (i + 1) := by
  rw [h]
  constructor
  · rintro ⟨⟨h1, h2⟩, h3⟩ j hj
    by_cases e : j = i
    · subst e; exact ⟨h2, h3⟩
    · exact h1 j (by omega)
  · intro h
    exact ⟨⟨fun j hj => h j (by omega), (h i (by omega)).1⟩, (h i (by omega)).2⟩
theorem and_step {b : Bool} {A : Prop} {P : Nat → Prop} {k : Nat} (h : b = true ↔ A ∧ ∀ j, j < k → P j) (c : Bool) (hc : c = true ↔ P k) : (b && c) = true ↔ A ∧ ∀ j, j < k + 1 → P j := by
  rw [Bool.and_eq_true, h, hc]
  constructor
  · rintro ⟨⟨h1, h2⟩, h3⟩
    refine ⟨h1, fun j hj => ?_⟩
    by_cases e : j = k
    · subst e; exact h3
    · exact h2 j (by omega)
  · rintro ⟨h1, h2⟩
    exact ⟨⟨h1, fun j hj => h2 j (by omega)⟩, h2 k (by omega)⟩
theorem neq_iff (x y : ByteArray) : (!(x.toList == y.toList)) = true ↔ x ≠ y := by rw [toList_eq_iff]; simp
theorem bdrew (w : World) (n : Nat) : Below w.heap.size w (w.drewN n) := Grw.below ⟨n, #[], by rw [grow_empty]⟩
def u8l (l : List Int) : ByteArray := ⟨(l.map (fun z => UInt8.ofNat z.toNat)).toArray⟩
theorem conv_row {W : World} {a : Option Addr} {cap : Nat} {zs : List Int} (h : Row W .u8 256 a cap zs) : (convert 29 9 (.slice a zs.length cap)).run Try.prog W = .ok (.string (u8l zs)) W := by
  cases a with
  | none =>
    have h1 := h.nil rfl
    have h2 := h.le
    have e : zs = [] := List.eq_nil_of_length_eq_zero (by omega)
    subst e
    subst h1
    rw [run_convert_bytes_string W 29 9 5 none _ _ Try.underlying29 Try.underlying5 Try.underlying9]
    rfl
  | some p =>
    have hh := run_convert_bytes_back (P := Try.prog) W 29 9 5 p cap (zs.map (fun z => UInt8.ofNat z.toNat)) Try.underlying29 Try.underlying5 Try.underlying9 (by
      intro j hj
      simp at hj
      rw [h.cell p rfl j hj, List.getElem?_eq_getElem hj]
      have := h.words _ (List.getElem_mem hj)
      simp
      omega)
    simp only [List.length_map] at hh
    exact hh
theorem Row.drewN {w : World} {k : IntKind} {B : Int} {a : Option Addr} {cap : Nat} {zs : List Int} (h : Row w k B a cap zs) (n : Nat) : Row (w.drewN n) k B a cap zs := h.next (bdrew w n)
theorem less_flip {x y : ByteArray} (h : Op.bytesLess x.toList y.toList = true) : Op.bytesLess y.toList x.toList = false ∧ (y.toList == x.toList) = false := by
  have h1 := cb_less x.data.toList y.data.toList
  have h2 := cb_less y.data.toList x.data.toList
  have h3 := cmpNS_cmp.anti ⟨x, none, 0, 0⟩ ⟨y, none, 0, 0⟩
  have h4 := cb_zero y.data.toList x.data.toList
  simp only [cmpNS] at h3
  simp only [ByteArray.toList_eq] at h ⊢
  rw [h1] at h
  have h5 := of_decide_eq_true h
  refine ⟨by rw [h2]; simp; omega, ?_⟩
  rw [beq_eq_false_iff_ne]
  intro e
  have := h4.2 e
  omega
def lateNT (pf : Addr) (qb pb g nX cX nZ cZ s t : Nat) (y v S : ByteArray) (ya va : Option Addr) (yn yc vn vc : Nat) (u : Nat) (x : Value) (_ : World) : Prop := match u with
  | 205 => x = .bool true
  | 206 => x = .bool true
  | 207 => x = undef
  | 208 => x = undef
  | 209 => x = undef
  | 210 => x = undef
  | 211 => x = undef
  | 212 => x = undef
  | 213 => x = undef
  | 214 => x = undef
  | 215 => x = undef
  | 216 => x = undef
  | 217 => x = undef
  | 218 => x = undef
  | 219 => x = undef
  | 220 => x = undef
  | 221 => x = undef
  | 222 => x = undef
  | 223 => x = undef
  | 224 => x = undef
  | 225 => x = undef
  | 226 => x = undef
  | 227 => x = undef
  | 228 => x = undef
  | 229 => x = undef
  | 230 => x = undef
  | 231 => x = undef
  | 232 => x = undef
  | 233 => x = undef
  | 234 => x = undef
  | 235 => x = undef
  | 236 => x = undef
  | 237 => x = .bool true
  | _ => True
def lateNE (pf : Addr) (qb pb g nX cX nZ cZ s t : Nat) (y v S : ByteArray) (ya va : Option Addr) (yn yc vn vc : Nat) (u : Nat) (x : Value) (_ : World) : Prop := match u with
  | 205 => x = .bool false
  | 206 => x = .bool false
  | 207 => x = .pointer (some ⟨qb, 1, none⟩)
  | 208 => x = .slice (some pf) nX cX
  | 209 => x = .int .i64 (t : Int)
  | 210 => x = .pointer (some (pf.add (t * 2)))
  | 211 => x = .pointer (some (pf.add (t * 2)))
  | 212 => x = .string y
  | 213 => x = .pointer (some ⟨pb, 1, none⟩)
  | 214 => x = .slice (some ⟨g, 0, none⟩) nZ cZ
  | 215 => x = .int .i64 (s : Int)
  | 216 => x = .pointer (some ⟨g, s * 2, none⟩)
  | 217 => x = .pointer (some ⟨g, s * 2, none⟩)
  | 218 => x = .string v
  | 219 => x = .bool true
  | 220 => x = .bool true
  | 221 => x = .pointer (some ⟨qb, 1, none⟩)
  | 222 => x = .slice (some pf) nX cX
  | 223 => x = .int .i64 (t : Int)
  | 224 => x = .pointer (some (pf.add (t * 2)))
  | 225 => x = .pointer (some ⟨(pf.add (t * 2)).block, (pf.add (t * 2)).off + 1, none⟩)
  | 226 => x = .slice ya yn yc
  | 227 => x = .string S
  | 228 => x = .pointer (some ⟨pb, 1, none⟩)
  | 229 => x = .slice (some ⟨g, 0, none⟩) nZ cZ
  | 230 => x = .int .i64 (s : Int)
  | 231 => x = .pointer (some ⟨g, s * 2, none⟩)
  | 232 => x = .pointer (some ⟨g, s * 2 + 1, none⟩)
  | 233 => x = .slice va vn vc
  | 234 => x = .string S
  | 235 => x = .bool true
  | 236 => x = .bool true
  | 237 => x = .bool true
  | _ => True
def lateNN (pf : Addr) (qb pb g nX cX nZ cZ s t : Nat) (y v S : ByteArray) (ya va : Option Addr) (yn yc vn vc : Nat) (u : Nat) (x : Value) (_ : World) : Prop := match u with
  | 205 => x = .bool false
  | 206 => x = .bool false
  | 207 => x = .pointer (some ⟨qb, 1, none⟩)
  | 208 => x = .slice (some pf) nX cX
  | 209 => x = .int .i64 (t : Int)
  | 210 => x = .pointer (some (pf.add (t * 2)))
  | 211 => x = .pointer (some (pf.add (t * 2)))
  | 212 => x = .string y
  | 213 => x = .pointer (some ⟨pb, 1, none⟩)
  | 214 => x = .slice (some ⟨g, 0, none⟩) nZ cZ
  | 215 => x = .int .i64 (s : Int)
  | 216 => x = .pointer (some ⟨g, s * 2, none⟩)
  | 217 => x = .pointer (some ⟨g, s * 2, none⟩)
  | 218 => x = .string v
  | 219 => x = .bool false
  | 220 => x = .bool false
  | 221 => x = undef
  | 222 => x = undef
  | 223 => x = undef
  | 224 => x = undef
  | 225 => x = undef
  | 226 => x = undef
  | 227 => x = undef
  | 228 => x = undef
  | 229 => x = undef
  | 230 => x = undef
  | 231 => x = undef
  | 232 => x = undef
  | 233 => x = undef
  | 234 => x = undef
  | 235 => x = undef
  | 236 => x = .bool false
  | 237 => x = .bool false
  | _ => True
set_option maxRecDepth 20000 in
set_option maxHeartbeats 4000000 in
theorem law_norm (kB : ∀ w, Calls Try.prog 7 #[] w fun e w' => e = .returned (.bool true) ∧ Below w.heap.size w w') (a : Option Addr) (cap n0 : Nat) (X : Nat → NS) (Y : Nat → Nat → NS) (Bd : Nat → Nat → List Int) (w : World) (h : InT w a n0 cap X Y Bd)
    (kN : ∀ N w1, Below w.heap.size w w1 → N ≤ 8 → N ≤ n0 → (∀ j, j < N → (X j).n ≤ 30) → Calls Try.prog 8 #[.agg #[.slice a N cap]] w1 fun e w' => Below w1.heap.size w1 w' ∧ ((¬ AP X Y N ∧ e = .returned (.tuple #[.agg #[.slice none 0 0], .bool false])) ∨ (AP X Y N ∧ ∃ G capQ Z V Vb, e = .returned (.tuple #[.agg #[.slice (some ⟨G, 0, none⟩) N capQ], .bool true]) ∧ N ≤ capQ ∧ capQ ≤ maxLen ∧ OutT w' G N X Y Bd Z V Vb))) :
    Calls Try.prog 3 #[.agg #[.slice a n0 cap]] w fun e w' => e = .returned (.bool true) ∧ Below w.heap.size w w' := by
  have kB' := kB (w.alloc (.cells #[.slice a n0 cap] 24))
  have hle := h.le
  have hmax := h.max
  have hM : maxLen = 9223372036854775807 := by decide
  replace kN := (show Hid _ from kN)
  go_enter Try.func3, Try.ntmps3
  go_upto_region 2 with (go_at_call 7; refine kB'.mono ?_; rintro e w1 ⟨rfl, hB1⟩)
  have cw : (w.alloc (.cells #[.slice a n0 cap] 24)).cell? ⟨w.heap.size, 0, none⟩ = some (.slice a n0 cap) := by simp [go_sem]
  have fw : (w.alloc (.cells #[.slice a n0 cap] 24)).frozen? ⟨w.heap.size, 0, none⟩ = false := by simp [go_sem]
  have hbw : Below w.heap.size w (w.alloc (.cells #[.slice a n0 cap] 24)) := (Below.refl _ _).alloc (Nat.le_refl _) _
  have c1 := keep_cell hB1 cw
  have f1 := keep_frozen hB1 cw fw
  have hb1 := bthen hbw hB1
  have hlt1 := cell_lt c1
  clear cw fw hbw hB1 kB' kB
  go_upto_if 24 with fail
  go_cut [] from 20 (fun wc => ∃ N, N ≤ 8 ∧ N ≤ n0 ∧ wc.cell? ⟨w.heap.size, 0, none⟩ = some (.slice a N cap) ∧ Below w.heap.size w wc)
  case first =>
    by_cases hn : 8 < n0
    · obtain ⟨p, rfl, _⟩ := h.pk 0 (by omega)
      have h8 : (8 : Int) < n0 := by omega
      have h9 : (8 : Int) ≤ cap := by omega
      go_wp2
      go_meet
      case rel => exact ⟨8, by omega, by omega, by simp [go_sem, c1], hb1.setCell (Nat.le_refl _) _⟩
    · go_wp2
      go_meet
      case rel => exact ⟨n0, by omega, Nat.le_refl _, c1, hb1⟩
  case rest =>
    obtain ⟨N, hN8, hN0, c2, hb2⟩ := hcut
    have hT := (inT_take h hN0).next hb2
    have kN' := fun w1 hb => kN.out N w1 hb hN8 hN0
    have hlt2 := cell_lt c2
    clear h kN c1 f1 hb1 hlt1 w1
    go_wp2
    go_loopw [4, 5, 6, 7, 8, 9] (fun vb vi _ _ _ _ wq => ∃ (i : Nat) (b : Bool), i ≤ N ∧ vi = .int .i64 (i : Int) ∧ vb = .bool b ∧ Hid (b = true ↔ AP X Y i) ∧ Hid (∀ j, j < i → (X j).n ≤ 30) ∧ Below wc.heap.size wc wq) (fun _ vi _ _ _ _ _ => N - (intOf vi).toNat)
    case atStart => exact ⟨0, true, Nat.zero_le _, rfl, rfl, ⟨fun _ j hj => (by omega), fun _ => rfl⟩, fun j hj => (by omega), Below.refl _ _⟩
    case round =>
      obtain ⟨i, b, hi, rfl, rfl, hrb, h30, hBr⟩ := hrel
      have c3 := keep_cell hBr c2
      by_cases hin : i < N
      · as_aux_lemma =>
        have hin' : (i : Int) < (N : Int) := by omega
        go_wp2
        go_loopw [4, 6] (fun vb vk wq => ∃ (k : Nat) (b : Bool), k ≤ i ∧ vk = .int .i64 (k : Int) ∧ vb = .bool b ∧ Hid (b = true ↔ AP X Y i ∧ ∀ j, j < k → (X i).name ≠ (X j).name) ∧ Below wc.heap.size wc wq) (fun _ vk _ => i - (intOf vk).toNat)
        case atStart => exact ⟨0, b, Nat.zero_le _, rfl, rfl, ⟨fun h => ⟨hrb.out.1 h, fun j hj => (by omega)⟩, fun h => hrb.out.2 h.1⟩, hBr⟩
        case round =>
          obtain ⟨k, b, hk, rfl, rfl, hrb, hBr⟩ := hrel
          have c3 := keep_cell hBr c2
          by_cases hkl : k < i
          · obtain ⟨p, hp, d0, d1⟩ := (hT.next hBr).pk k (by omega)
            obtain ⟨p', hp', d2, d3⟩ := (hT.next hBr).pk i hin
            subst hp
            cases hp'
            have i0 : 0 ≤ (k : Int) ∧ (k : Int) < (N : Int) := by omega
            have i1 : 0 ≤ (i : Int) ∧ (i : Int) < (N : Int) := by omega
            have hnew := and_step hrb.out (!((X i).name.toList == (X k).name.toList)) (neq_iff _ _)
            clear hrb
            replace hnew : Hid _ := hnew
            cases b with
            | false =>
              go_wp2_with fail
              go_quiet (fail)
              go_wp2
              go_roundw
              case rel => exact ⟨k + 1, false, by omega, by go_num, rfl, hnew.out, bthen hBr (bdrew _ _)⟩
              case measure => simp [intOf]; omega
            | true =>
              go_wp2_with fail
              go_quiet (fail)
              go_wp2
              go_roundw
              case rel => exact ⟨k + 1, _, by omega, by go_num, rfl, by have := hnew.out; simp only [Bool.true_and] at this; exact this, bthen hBr (bdrew _ _)⟩
              case measure => simp [intOf]; omega
          · obtain rfl : i = k := by omega
            obtain ⟨p', hp', d2, d3⟩ := (hT.next hBr).pk i hin
            subst hp'
            have hfle := hT.fle i hin
            have i1 : 0 ≤ (i : Int) ∧ (i : Int) < (N : Int) := by omega
            go_wp2
            go_loopw [4, 8, 9] (fun vb vs _ wq => ∃ (s : Nat) (b : Bool), s ≤ (X i).n ∧ s ≤ 30 ∧ vs = .int .i64 (s : Int) ∧ vb = .bool b ∧ Hid (b = true ↔ (AP X Y i ∧ ∀ k, k < i → (X i).name ≠ (X k).name) ∧ ∀ u, u < s → ∀ t, t < u → (Y i u).name ≠ (Y i t).name) ∧ Below wc.heap.size wc wq) (fun _ vs _ _ => (X i).n - (intOf vs).toNat)
            case atStart => exact ⟨0, b, Nat.zero_le _, Nat.zero_le _, rfl, rfl, ⟨fun h => ⟨hrb.out.1 h, fun j hj => (by omega)⟩, fun h => hrb.out.2 h.1⟩, hBr⟩
            case round =>
              obtain ⟨s, b, hs, hs30, rfl, rfl, hrb, hBr⟩ := hrel
              by_cases hsl : s < (X i).n ∧ s < 30
              · have hs1 : (s : Int) < ((X i).n : Int) := by omega
                have hs2 : (s : Int) < 30 := by omega
                go_wp2
                go_loopw [4, 9] (fun vb vt wq => ∃ (t : Nat) (b : Bool), t ≤ s ∧ vt = .int .i64 (t : Int) ∧ vb = .bool b ∧ Hid (b = true ↔ ((AP X Y i ∧ ∀ k, k < i → (X i).name ≠ (X k).name) ∧ ∀ u, u < s → ∀ t, t < u → (Y i u).name ≠ (Y i t).name) ∧ ∀ j, j < t → (Y i s).name ≠ (Y i j).name) ∧ Below wc.heap.size wc wq) (fun _ vt _ => s - (intOf vt).toNat)
                case atStart => exact ⟨0, b, Nat.zero_le _, rfl, rfl, ⟨fun h => ⟨hrb.out.1 h, fun j hj => (by omega)⟩, fun h => hrb.out.2 h.1⟩, hBr⟩
                case round =>
                  obtain ⟨t, b, ht, rfl, rfl, hrb, hBr⟩ := hrel
                  by_cases htl : t < s
                  · obtain ⟨pf, hpf, d0, d1⟩ := (hT.next hBr).fl i hin t (by omega)
                    obtain ⟨pf', hpf', d2, d3⟩ := (hT.next hBr).fl i hin s (by omega)
                    rw [hpf] at hpf'
                    cases hpf'
                    have e1 : (X i).a = some pf := hpf
                    have i0 : 0 ≤ (t : Int) ∧ (t : Int) < ((X i).n : Int) := by omega
                    have i1 : 0 ≤ (s : Int) ∧ (s : Int) < ((X i).n : Int) := by omega
                    have hnew := and_step hrb.out (!((Y i s).name.toList == (Y i t).name.toList)) (neq_iff _ _)
                    clear hrb
                    replace hnew : Hid _ := hnew
                    clear hpf
                    simp only [e1]
                    cases b with
                    | false =>
                      go_wp2_with fail
                      go_quiet (fail)
                      go_wp2
                      go_roundw
                      case rel => exact ⟨t + 1, false, by omega, by go_num, rfl, hnew.out, bthen hBr (bdrew _ _)⟩
                      case measure => simp [intOf]; omega
                    | true =>
                      go_wp2_with fail
                      go_quiet (fail)
                      go_wp2
                      go_roundw
                      case rel => exact ⟨t + 1, _, by omega, by go_num, rfl, by have := hnew.out; simp only [Bool.true_and] at this; exact this, bthen hBr (bdrew _ _)⟩
                      case measure => simp [intOf]; omega
                  · obtain rfl : s = t := by omega
                    have hnew : b = true ↔ (AP X Y i ∧ ∀ k, k < i → (X i).name ≠ (X k).name) ∧ ∀ u, u < s + 1 → ∀ t, t < u → (Y i u).name ≠ (Y i t).name := by
                      rw [hrb.out]
                      constructor
                      · rintro ⟨⟨h1, h2⟩, h3⟩
                        refine ⟨h1, fun u hu => ?_⟩
                        by_cases e : u = s
                        · subst e; exact h3
                        · exact h2 u (by omega)
                      · rintro ⟨h1, h2⟩
                        exact ⟨⟨h1, fun u hu => h2 u (by omega)⟩, h2 s (by omega)⟩
                    clear hrb
                    replace hnew : Hid _ := hnew
                    go_wp2
                    go_roundw
                    case rel => exact ⟨s + 1, b, by omega, by omega, by go_num, rfl, hnew.out, hBr⟩
                    case measure => simp [intOf]; omega
              · by_cases h31 : 30 < (X i).n
                · have h1 : (30 : Int) < ((X i).n : Int) := by omega
                  have hs3 : s = 30 := by omega
                  subst hs3
                  clear hrb
                  go_wp2
                  go_ret
                  exact ⟨rfl, bthen hb2 hBr⟩
                · obtain rfl : s = (X i).n := by omega
                  have hnew := ap_step b hrb.out
                  have h1 : ¬ (30 : Int) < ((X i).n : Int) := by omega
                  have h30' : ∀ j, j < i + 1 → (X j).n ≤ 30 := fun j hj => by
                    by_cases e : j = i
                    · subst e; omega
                    · exact h30.out j (by omega)
                  clear hrb h30
                  replace hnew : Hid _ := hnew
                  replace h30' : Hid _ := h30'
                  go_wp2
                  go_roundw
                  case rel => exact ⟨i + 1, b, by omega, by go_num, rfl, hnew.out, h30'.out, hBr⟩
                  case measure => simp [intOf]; omega
      · obtain rfl : N = i := by omega
        clear hin
        have kN1 := kN' wr (bthen hb2 hBr) h30.out
        have hTr := hT.next hBr
        have hlt3 := cell_lt c3
        replace hTr : Hid _ := hTr
        go_wp2_with fail
        go_at_call 8
        refine Calls.mono kN1 ?_
        rintro e w3 ⟨hB3, ⟨hna, rfl⟩ | ⟨hAP, G, capQ, Z, V, Vb, rfl, hQ1, hQ2, hO⟩⟩
        · have hbf : b = false := by
            cases b with
            | false => rfl
            | true => exact absurd (hrb.out.1 rfl) hna
          subst hbf
          clear hrb hna
          have hbx : Below w.heap.size w (w3.alloc (.cells #[.slice none 0 0] 24)) := (bthen (bthen hb2 hBr) hB3).alloc (by have := hB3.size; omega) _
          go_wp2
          go_ret
          exact ⟨rfl, hbx⟩
        · as_aux_lemma =>
          have hbt : b = true := hrb.out.2 hAP
          subst hbt
          clear hrb hAP
          have hTd := hTr.out.next hB3
          have c4 := keep_cell hB3 c3
          obtain ⟨w4, hw4⟩ : ∃ w4, w4 = w3.alloc (.cells #[.slice (some ⟨G, 0, none⟩) N capQ] 24) := ⟨_, rfl⟩
          have hB4 : Below w3.heap.size w3 w4 := by rw [hw4]; exact (Below.refl _ _).alloc (Nat.le_refl _) _
          have cN : w4.cell? ⟨w3.heap.size, 0, none⟩ = some (.slice (some ⟨G, 0, none⟩) N capQ) := by rw [hw4]; simp [go_sem]
          have cT := keep_cell hB4 c4
          have hT4 := hTd.next hB4
          have hO4 := hO.next hB4
          have hbl : Below w.heap.size w w4 := bthen (bthen (bthen hb2 hBr) hB3) hB4
          go_upto_region 23 with fail
          rw [← hw4]
          clear kN1 kN' hTr hTd c4 hw4 hB4 hO hB3 h30 hBr c3 c2 hT hb2 hlt2 hlt3
          generalize w3.heap.size = nb at *
          replace hT4 : Hid _ := hT4
          replace hO4 : Hid _ := hO4
          go_wp2
          go_loopw [12, 13, 14, 15, 16, 17, 18, 19] (fun vi _ _ _ _ _ _ _ wq => ∃ i : Nat, i ≤ N ∧ vi = .int .i64 (i : Int) ∧ Below w4.heap.size w4 wq) (fun vi _ _ _ _ _ _ _ _ => N - (intOf vi).toNat)
          case atStart => exact ⟨0, Nat.zero_le _, rfl, Below.refl _ _⟩
          case round =>
            obtain ⟨i, hi, rfl, hB5⟩ := hrel
            have cT5 := keep_cell hB5 cT
            have cN5 := keep_cell hB5 cN
            by_cases hin : i < N
            · obtain ⟨z0, z1⟩ := (hO4.out.next hB5).pk i hin
              have i0 : 0 ≤ (i : Int) ∧ (i : Int) < (N : Int) := by omega
              go_upto_region 33 with fail
              obtain ⟨w5, hw5⟩ : ∃ w5, w5 = wr.alloc (.cells #[.string (Z i).name, .slice (Z i).a (Z i).n (Z i).c] 28) := ⟨_, rfl⟩
              rw [← hw5]
              have hB5a : Below wr.heap.size wr w5 := by rw [hw5]; exact (Below.refl _ _).alloc (Nat.le_refl _) _
              have cP0 : w5.cell? ⟨wr.heap.size, 0, none⟩ = some (.string (Z i).name) := by rw [hw5]; simp [go_sem]
              have cP1 : w5.cell? ⟨wr.heap.size, 1, none⟩ = some (.slice (Z i).a (Z i).n (Z i).c) := by rw [hw5]; simp [go_sem]
              have cT6 := keep_cell hB5a cT5
              have cN6 := keep_cell hB5a cN5
              have hB6 := bthen hB5 hB5a
              clear hw5 hB5a cT5 cN5 z0 z1
              generalize wr.heap.size = pb at *
              have hO5 := hO4.out.next hB6
              replace hO5 : Hid _ := hO5
              go_cut [145] from 120 to 243 (fun v wx => v = .bool false ∧ Below w5.heap.size w5 wx)
              case first =>
                cases i with
                | zero =>
                  go_quiet (fail)
                  go_wp2
                  go_meet
                  case rel => exact ⟨rfl, bdrew _ _⟩
                | succ j =>
                  obtain ⟨z0, z1⟩ := hO5.out.pk j (by omega)
                  obtain ⟨hls, hls'⟩ := less_flip (hO5.out.less j hin)
                  have hwj := wrap_i64 (j : Int) (by omega) (by omega)
                  have i1 : 0 ≤ (j : Int) ∧ (j : Int) < (N : Int) := by omega
                  have i2 : (0 : Int) < (j : Int) + 1 := by omega
                  have i3 : ((j + 1 : Nat) : Int) - 1 = (j : Int) := by omega
                  go_quiet (fail)
                  go_wp2
                  go_meet
                  case rel => exact ⟨rfl, bdrew _ _⟩
              case rest =>
                obtain ⟨rfl, hBc⟩ := hcut
                have hB7 := bthen hB6 hBc
                have cP0' := keep_cell hBc cP0
                have cP1' := keep_cell hBc cP1
                have cT7 := keep_cell hBc cT6
                clear cP0 cP1 cT6 cN6 hBc hO5 hB6 i0
                go_wp2
                go_loopw [14, 15, 16, 17, 18, 19] (fun vf vk _ _ _ _ wq => ∃ (k : Nat) (f : Bool), k ≤ N ∧ vk = .int .i64 (k : Int) ∧ vf = .bool f ∧ Hid (f = true ↔ ∃ j, j < k ∧ (X j).name = (Z i).name) ∧ Below wc.heap.size wc wq) (fun _ vk _ _ _ _ _ => N - (intOf vk).toNat)
                case atStart => exact ⟨0, false, Nat.zero_le _, rfl, rfl, ⟨fun h => (by cases h), fun ⟨j, hj, _⟩ => (by omega)⟩, Below.refl _ _⟩
                case round =>
                  obtain ⟨k, f, hk, rfl, rfl, hrf, hBk⟩ := hrel
                  have cT8 := keep_cell hBk cT7
                  by_cases hkn : k < N
                  · obtain ⟨p, hp, d0, d1⟩ := (hT4.out.next (bthen hB7 hBk)).pk k hkn
                    subst hp
                    have i1 : 0 ≤ (k : Int) ∧ (k : Int) < (N : Int) := by omega
                    go_upto_region 40 with fail
                    obtain ⟨w6, hw6⟩ : ∃ w6, w6 = wr.alloc (.cells #[.string (X k).name, .slice (X k).a (X k).n (X k).c] 28) := ⟨_, rfl⟩
                    rw [← hw6]
                    have hB8a : Below wr.heap.size wr w6 := by rw [hw6]; exact (Below.refl _ _).alloc (Nat.le_refl _) _
                    have cQ0 : w6.cell? ⟨wr.heap.size, 0, none⟩ = some (.string (X k).name) := by rw [hw6]; simp [go_sem]
                    have cQ1 : w6.cell? ⟨wr.heap.size, 1, none⟩ = some (.slice (X k).a (X k).n (X k).c) := by rw [hw6]; simp [go_sem]
                    have hB8 := bthen hBk hB8a
                    have cP2 := keep_cell hB8 cP0'
                    have cP3 := keep_cell hB8 cP1'
                    have hB9 := bthen hB7 hB8
                    clear hw6 hB8a d0 d1 cT8
                    generalize wr.heap.size = qb at *
                    by_cases he : (X k).name = (Z i).name
                    · as_aux_lemma =>
                      have hbe : ((X k).name.toList == (Z i).name.toList) = true := by rw [toList_eq_iff]; simpa using he
                      obtain ⟨hnn, hmm⟩ := hO4.out.same i hin k hkn he
                      have hnew : ∃ j, j < k + 1 ∧ (X j).name = (Z i).name := ⟨k, by omega, he⟩
                      replace hnew : Hid _ := hnew
                      replace hmm : Hid _ := hmm
                      obtain ⟨g, hg, hz1, hz2, hzc⟩ := (hO4.out.next hB9).fl i hin
                      have hfx := hT4.out.fle k hkn
                      have hn' : ((X k).n : Int) = ((Z i).n : Int) := by rw [hnn]
                      clear hrf he hzc hnn
                      rw [hg] at cP3
                      go_wp2
                      go_loopw [14, 17, 18, 19] (fun vf vs _ _ wq => ∃ s : Nat, s ≤ (Z i).n ∧ vs = .int .i64 (s : Int) ∧ vf = .bool true ∧ Below w6.heap.size w6 wq) (fun _ vs _ _ _ => (Z i).n - (intOf vs).toNat)
                      case atStart => exact ⟨0, Nat.zero_le _, rfl, by first | rfl | simp [hn'], Below.refl _ _⟩
                      case round =>
                        obtain ⟨s, hs, rfl, rfl, hBs⟩ := hrel
                        clear hn'
                        have cP4 := keep_cell hBs cP3
                        have cQ2 := keep_cell hBs cQ1
                        have hB10 := bthen hB9 hBs
                        by_cases hsn : s < (Z i).n
                        · as_aux_lemma =>
                          have hs1 : (s : Int) < ((Z i).n : Int) := by omega
                          obtain ⟨g', hg', hz1', hz2', hzc⟩ := (hO4.out.next hB10).fl i hin
                          rw [hg] at hg'
                          cases hg'
                          obtain ⟨v0, v1⟩ := hzc s hsn
                          have i1 : 0 ≤ (s : Int) ∧ (s : Int) < ((Z i).n : Int) := by omega
                          go_upto_region 45 with fail
                          go_cut [14] from 170 to 241 (fun v wx => v = .bool true ∧ Below wr.heap.size wr wx)
                          case first =>
                            cases s with
                            | zero =>
                              go_quiet (fail)
                              go_wp2
                              go_meet
                              case rel => exact ⟨rfl, bdrew _ _⟩
                            | succ j =>
                              obtain ⟨y0, y1⟩ := hzc j (by omega)
                              have hls := hO4.out.fless i hin j hsn
                              have hwj := wrap_i64 (j : Int) (by omega) (by omega)
                              have i2 : 0 ≤ (j : Int) ∧ (j : Int) < ((Z i).n : Int) := by omega
                              have i3 : ((j + 1 : Nat) : Int) - 1 = (j : Int) := by omega
                              have i4 : (((j : Int) + 1) == 0) = false := by rw [beq_eq_false_iff_ne]; omega
                              have i5 : decide ((j : Int) + 1 = 0) = false := decide_eq_false (by omega)
                              clear hzc
                              go_quiet (fail)
                              go_wp2
                              go_meet
                              case rel => exact ⟨rfl, bdrew _ _⟩
                          case rest =>
                            obtain ⟨rfl, hBc2⟩ := hcut
                            have hB11 := bthen hB10 hBc2
                            have hB12 := bthen hBs hBc2
                            have cP6 := keep_cell hBc2 cP4
                            have cQ3 := keep_cell hBc2 cQ2
                            obtain ⟨hex, hsm⟩ := hmm.out s hsn
                            replace hex : Hid _ := hex
                            replace hsm : Hid _ := hsm
                            clear hzc v0 v1 cP4 cQ2 hBs hB10 hBc2
                            go_wp2
                            go_loopw [18, 19] (fun vf vt wq => ∃ (t : Nat) (f : Bool), t ≤ (X k).n ∧ vt = .int .i64 (t : Int) ∧ vf = .bool f ∧ Hid (f = true ↔ ∃ j, j < t ∧ (Y k j).name = (V i s).name) ∧ Below wc.heap.size wc wq) (fun _ vt _ => (X k).n - (intOf vt).toNat)
                            case atStart => exact ⟨0, false, Nat.zero_le _, rfl, rfl, ⟨fun h => (by cases h), fun ⟨j, hj, _⟩ => (by omega)⟩, Below.refl _ _⟩
                            case round =>
                              obtain ⟨t, f, ht, rfl, rfl, hrt, hBt⟩ := hrel
                              have cP7 := keep_cell hBt cP6
                              have cQ4 := keep_cell hBt cQ3
                              by_cases htn : t < (X k).n
                              · as_aux_lemma =>
                                have ht1 : (t : Int) < ((X k).n : Int) := by omega
                                have hB13 := bthen hB11 hBt
                                obtain ⟨pf, hpf, y0, y1⟩ := (hT4.out.next hB13).fl k hkn t htn
                                rw [hpf] at cQ4
                                obtain ⟨g', hg', hz1', hz2', hzc⟩ := (hO4.out.next hB13).fl i hin
                                rw [hg] at hg'
                                cases hg'
                                obtain ⟨v0, v1⟩ := hzc s hsn
                                have i2 : 0 ≤ (t : Int) ∧ (t : Int) < ((X k).n : Int) := by omega
                                clear hzc hz1' hz2'
                                cases f with
                                | true =>
                                  have hnew2 : ∃ j, j < t + 1 ∧ (Y k j).name = (V i s).name := by obtain ⟨j, hj, e⟩ := hrt.out.1 rfl; exact ⟨j, by omega, e⟩
                                  replace hnew2 : Hid _ := hnew2
                                  clear hrt
                                  go_wp2_with fail
                                  refine wp_region_late (lateNT pf qb pb g (X k).n (X k).c (Z i).n (Z i).c s t (Y k t).name (V i s).name (u8l (Vb i s)) (Y k t).a (V i s).a (Y k t).n (Y k t).c (V i s).n (V i s).c) (.bool true) [205, 206, 207, 208, 209, 210, 211, 212, 213, 214, 215, 216, 217, 218, 219, 220, 221, 222, 223, 224, 225, 226, 227, 228, 229, 230, 231, 232, 233, 234, 235, 236, 237] [0, 1, 2, 3, 4, 5, 6, 7, 8, 9, 10, 11, 12, 13, 14, 15, 16, 17, 18, 19, 20, 21, 22, 23, 24, 25, 26, 27, 28, 29, 30, 31, 32, 33, 34, 35, 36, 37, 38, 39, 40, 41, 42, 43, 44, 45, 46, 47, 48, 49, 50, 51, 52, 53, 54, 55, 56, 57, 58, 59, 60, 61, 62, 63, 64, 65, 66, 67, 68, 69, 70, 71, 72, 73, 74, 75, 76, 77, 78, 79, 80, 81, 82, 83, 84, 85, 86, 87, 88, 89, 90, 91, 92, 93, 94, 95, 96, 97, 98, 99, 100, 101, 102, 103, 104, 105, 106, 107, 108, 109, 110, 111, 112, 113, 114, 115, 116, 117, 118, 119, 120, 121, 122, 123, 124, 125, 126, 127, 128, 129, 130, 131, 132, 133, 134, 135, 136, 137, 138, 139, 140, 141, 142, 143, 144, 145, 146, 147, 148, 149, 150, 151, 152, 153, 154, 155, 156, 157, 158, 159, 160, 161, 162, 163, 164, 165, 166, 167, 168, 169, 170, 171, 172, 173, 174, 175, 176, 177, 178, 179, 180, 181, 182, 183, 184, 185, 186, 187, 188, 189, 190, 191, 192, 193, 194, 195, 196, 197, 198, 199, 200, 201, 202, 203, 204, 238, 239, 240, 241, 242, 243, 244] 245 18 237 (by kernel_rfl) (by decide) (by kernel_rfl) (by kernel_rfl) (by decide) (by kernel_rfl) (by kernel_rfl) (by kernel_rfl) rfl ⟨_, rfl, rfl, rfl, rfl, by kernel_rfl, by decide⟩ (fun t v w w' _ h => h) (by kernel_rfl) (fun v w h => h) (by kernel_rfl) ?hstep ?hend
                                  case hstep =>
                                   refine Gw.steps_cons ?s0 (Gw.steps_cons ?s1 (Gw.steps_cons ?s2 (Gw.steps_cons ?s3 (Gw.steps_cons ?s4 (Gw.steps_cons ?s5 (Gw.steps_cons ?s6 (Gw.steps_cons ?s7 (Gw.steps_cons ?s8 (Gw.steps_cons ?s9 (Gw.steps_cons ?s10 (Gw.steps_cons ?s11 (Gw.steps_cons ?s12 (Gw.steps_cons ?s13 (Gw.steps_cons ?s14 (Gw.steps_cons ?s15 (Gw.steps_cons ?s16 (Gw.steps_cons ?s17 (Gw.steps_cons ?s18 (Gw.steps_cons ?s19 (Gw.steps_cons ?s20 (Gw.steps_cons ?s21 (Gw.steps_cons ?s22 (Gw.steps_cons ?s23 (Gw.steps_cons ?s24 (Gw.steps_cons ?s25 (Gw.steps_cons ?s26 (Gw.steps_cons ?s27 (Gw.steps_cons ?s28 (Gw.steps_cons ?s29 (Gw.steps_cons ?s30 (Gw.steps_cons ?s31 (Gw.steps_cons ?s32 (Gw.steps_nil)))))))))))))))))))))))))))))))))
                                   case s0 => exact Gw.step_move 18 205 rfl rfl (Gw.guard_none rfl) (by kernel_rfl) (fun v w h => h)
                                   case s1 => exact Gw.step_move 205 206 rfl rfl (Gw.guard_none rfl) (by kernel_rfl) (fun v w h => h)
                                   case s2 => exact Gw_shut 1 206 207 false rfl (by kernel_rfl) (by kernel_rfl) (fun v w h e => by have h : v = .bool true := h; rw [h] at e; cases e) rfl (fun w => rfl)
                                   case s3 => exact Gw_shut 1 206 208 false rfl (by kernel_rfl) (by kernel_rfl) (fun v w h e => by have h : v = .bool true := h; rw [h] at e; cases e) rfl (fun w => rfl)
                                   case s4 => exact Gw_shut 1 206 209 false rfl (by kernel_rfl) (by kernel_rfl) (fun v w h e => by have h : v = .bool true := h; rw [h] at e; cases e) rfl (fun w => rfl)
                                   case s5 => exact Gw_shut 1 206 210 false rfl (by kernel_rfl) (by kernel_rfl) (fun v w h e => by have h : v = .bool true := h; rw [h] at e; cases e) rfl (fun w => rfl)
                                   case s6 => exact Gw_shut 1 206 211 false rfl (by kernel_rfl) (by kernel_rfl) (fun v w h e => by have h : v = .bool true := h; rw [h] at e; cases e) rfl (fun w => rfl)
                                   case s7 => exact Gw_shut 1 206 212 false rfl (by kernel_rfl) (by kernel_rfl) (fun v w h e => by have h : v = .bool true := h; rw [h] at e; cases e) rfl (fun w => rfl)
                                   case s8 => exact Gw_shut 1 206 213 false rfl (by kernel_rfl) (by kernel_rfl) (fun v w h e => by have h : v = .bool true := h; rw [h] at e; cases e) rfl (fun w => rfl)
                                   case s9 => exact Gw_shut 1 206 214 false rfl (by kernel_rfl) (by kernel_rfl) (fun v w h e => by have h : v = .bool true := h; rw [h] at e; cases e) rfl (fun w => rfl)
                                   case s10 => exact Gw_shut 1 206 215 false rfl (by kernel_rfl) (by kernel_rfl) (fun v w h e => by have h : v = .bool true := h; rw [h] at e; cases e) rfl (fun w => rfl)
                                   case s11 => exact Gw_shut 1 206 216 false rfl (by kernel_rfl) (by kernel_rfl) (fun v w h e => by have h : v = .bool true := h; rw [h] at e; cases e) rfl (fun w => rfl)
                                   case s12 => exact Gw_shut 1 206 217 false rfl (by kernel_rfl) (by kernel_rfl) (fun v w h e => by have h : v = .bool true := h; rw [h] at e; cases e) rfl (fun w => rfl)
                                   case s13 => exact Gw_shut 1 206 218 false rfl (by kernel_rfl) (by kernel_rfl) (fun v w h e => by have h : v = .bool true := h; rw [h] at e; cases e) rfl (fun w => rfl)
                                   case s14 => exact Gw_shut 1 206 219 false rfl (by kernel_rfl) (by kernel_rfl) (fun v w h e => by have h : v = .bool true := h; rw [h] at e; cases e) rfl (fun w => rfl)
                                   case s15 => exact Gw_shut 1 206 220 false rfl (by kernel_rfl) (by kernel_rfl) (fun v w h e => by have h : v = .bool true := h; rw [h] at e; cases e) rfl (fun w => rfl)
                                   case s16 => exact Gw_shut 15 220 221 true rfl (by kernel_rfl) (by kernel_rfl) (fun v w h e => by have h : v = undef := h; rw [h] at e; cases e) rfl (fun w => rfl)
                                   case s17 => exact Gw_shut 15 220 222 true rfl (by kernel_rfl) (by kernel_rfl) (fun v w h e => by have h : v = undef := h; rw [h] at e; cases e) rfl (fun w => rfl)
                                   case s18 => exact Gw_shut 15 220 223 true rfl (by kernel_rfl) (by kernel_rfl) (fun v w h e => by have h : v = undef := h; rw [h] at e; cases e) rfl (fun w => rfl)
                                   case s19 => exact Gw_shut 15 220 224 true rfl (by kernel_rfl) (by kernel_rfl) (fun v w h e => by have h : v = undef := h; rw [h] at e; cases e) rfl (fun w => rfl)
                                   case s20 => exact Gw_shut 15 220 225 true rfl (by kernel_rfl) (by kernel_rfl) (fun v w h e => by have h : v = undef := h; rw [h] at e; cases e) rfl (fun w => rfl)
                                   case s21 => exact Gw_shut 15 220 226 true rfl (by kernel_rfl) (by kernel_rfl) (fun v w h e => by have h : v = undef := h; rw [h] at e; cases e) rfl (fun w => rfl)
                                   case s22 => exact Gw_shut 15 220 227 true rfl (by kernel_rfl) (by kernel_rfl) (fun v w h e => by have h : v = undef := h; rw [h] at e; cases e) rfl (fun w => rfl)
                                   case s23 => exact Gw_shut 15 220 228 true rfl (by kernel_rfl) (by kernel_rfl) (fun v w h e => by have h : v = undef := h; rw [h] at e; cases e) rfl (fun w => rfl)
                                   case s24 => exact Gw_shut 15 220 229 true rfl (by kernel_rfl) (by kernel_rfl) (fun v w h e => by have h : v = undef := h; rw [h] at e; cases e) rfl (fun w => rfl)
                                   case s25 => exact Gw_shut 15 220 230 true rfl (by kernel_rfl) (by kernel_rfl) (fun v w h e => by have h : v = undef := h; rw [h] at e; cases e) rfl (fun w => rfl)
                                   case s26 => exact Gw_shut 15 220 231 true rfl (by kernel_rfl) (by kernel_rfl) (fun v w h e => by have h : v = undef := h; rw [h] at e; cases e) rfl (fun w => rfl)
                                   case s27 => exact Gw_shut 15 220 232 true rfl (by kernel_rfl) (by kernel_rfl) (fun v w h e => by have h : v = undef := h; rw [h] at e; cases e) rfl (fun w => rfl)
                                   case s28 => exact Gw_shut 15 220 233 true rfl (by kernel_rfl) (by kernel_rfl) (fun v w h e => by have h : v = undef := h; rw [h] at e; cases e) rfl (fun w => rfl)
                                   case s29 => exact Gw_shut 15 220 234 true rfl (by kernel_rfl) (by kernel_rfl) (fun v w h e => by have h : v = undef := h; rw [h] at e; cases e) rfl (fun w => rfl)
                                   case s30 => exact Gw_shut 15 220 235 true rfl (by kernel_rfl) (by kernel_rfl) (fun v w h e => by have h : v = undef := h; rw [h] at e; cases e) rfl (fun w => rfl)
                                   case s31 => exact Gw_shut 1 206 236 false rfl (by kernel_rfl) (by kernel_rfl) (fun v w h e => by have h : v = .bool true := h; rw [h] at e; cases e) rfl (fun w => rfl)
                                   case s32 => exact Gw_pick 206 (.const (.bool true)) (.tmp 236) 237 true (.bool true) rfl rfl (Gw.guard_none rfl) (by kernel_rfl) (fun v w h => h) (fun b w' hl => rfl) (fun w => rfl)
                                  case hend =>
                                   intro xs wz hGz _ hxl
                                   have hBz := bthen hBt hGz.below
                                   simp only [mixed, List.contains_cons, List.contains_nil, Nat.reduceBEq, Nat.reduceAdd, Bool.or_false, Bool.or_true, Bool.false_eq_true, if_false, if_true]
                                   rw [hxl]
                                   go_wp2
                                   go_roundw
                                   case rel => exact ⟨t + 1, true, by omega, by go_num, rfl, ⟨fun _ => hnew2.out, fun _ => rfl⟩, hBz⟩
                                   case measure => simp [intOf]; omega
                                | false =>
                                  by_cases he : (Y k t).name = (V i s).name
                                  · have hbe2 : ((Y k t).name.toList == (V i s).name.toList) = true := by rw [toList_eq_iff]; simpa using he
                                    have hnew2 : ∃ j, j < t + 1 ∧ (Y k j).name = (V i s).name := ⟨t, by omega, he⟩
                                    have hbd := hsm.out t htn he
                                    have q1 : ∀ w', Grw wr w' → (convert 29 9 (.slice (Y k t).a (Y k t).n (Y k t).c)).run Try.prog w' = .ok (.string (u8l (Vb i s))) w' := fun w' hG => by
                                      have hr := (hT4.out.next hB13).bd k hkn t htn
                                      rw [hr.1, ← hbd]
                                      exact conv_row (hr.2.next hG.below)
                                    have q2 : ∀ w', Grw wr w' → (convert 29 9 (.slice (V i s).a (V i s).n (V i s).c)).run Try.prog w' = .ok (.string (u8l (Vb i s))) w' := fun w' hG => by
                                      have hr := (hO4.out.next hB13).bd i hin s hsn
                                      rw [hr.1]
                                      exact conv_row (hr.2.next hG.below)
                                    replace hnew2 : Hid _ := hnew2
                                    clear hrt he hbd
                                    go_wp2_with fail
                                    refine wp_region_late (lateNE pf qb pb g (X k).n (X k).c (Z i).n (Z i).c s t (Y k t).name (V i s).name (u8l (Vb i s)) (Y k t).a (V i s).a (Y k t).n (Y k t).c (V i s).n (V i s).c) (.bool true) [205, 206, 207, 208, 209, 210, 211, 212, 213, 214, 215, 216, 217, 218, 219, 220, 221, 222, 223, 224, 225, 226, 227, 228, 229, 230, 231, 232, 233, 234, 235, 236, 237] [0, 1, 2, 3, 4, 5, 6, 7, 8, 9, 10, 11, 12, 13, 14, 15, 16, 17, 18, 19, 20, 21, 22, 23, 24, 25, 26, 27, 28, 29, 30, 31, 32, 33, 34, 35, 36, 37, 38, 39, 40, 41, 42, 43, 44, 45, 46, 47, 48, 49, 50, 51, 52, 53, 54, 55, 56, 57, 58, 59, 60, 61, 62, 63, 64, 65, 66, 67, 68, 69, 70, 71, 72, 73, 74, 75, 76, 77, 78, 79, 80, 81, 82, 83, 84, 85, 86, 87, 88, 89, 90, 91, 92, 93, 94, 95, 96, 97, 98, 99, 100, 101, 102, 103, 104, 105, 106, 107, 108, 109, 110, 111, 112, 113, 114, 115, 116, 117, 118, 119, 120, 121, 122, 123, 124, 125, 126, 127, 128, 129, 130, 131, 132, 133, 134, 135, 136, 137, 138, 139, 140, 141, 142, 143, 144, 145, 146, 147, 148, 149, 150, 151, 152, 153, 154, 155, 156, 157, 158, 159, 160, 161, 162, 163, 164, 165, 166, 167, 168, 169, 170, 171, 172, 173, 174, 175, 176, 177, 178, 179, 180, 181, 182, 183, 184, 185, 186, 187, 188, 189, 190, 191, 192, 193, 194, 195, 196, 197, 198, 199, 200, 201, 202, 203, 204, 238, 239, 240, 241, 242, 243, 244] 245 18 237 (by kernel_rfl) (by decide) (by kernel_rfl) (by kernel_rfl) (by decide) (by kernel_rfl) (by kernel_rfl) (by kernel_rfl) rfl ⟨_, rfl, rfl, rfl, rfl, by kernel_rfl, by decide⟩ (fun t v w w' _ h => h) (by kernel_rfl) (fun v w h => h) (by kernel_rfl) ?hstep ?hend
                                    case hstep =>
                                     refine Gw.steps_cons ?s0 (Gw.steps_cons ?s1 (Gw.steps_cons ?s2 (Gw.steps_cons ?s3 (Gw.steps_cons ?s4 (Gw.steps_cons ?s5 (Gw.steps_cons ?s6 (Gw.steps_cons ?s7 (Gw.steps_cons ?s8 (Gw.steps_cons ?s9 (Gw.steps_cons ?s10 (Gw.steps_cons ?s11 (Gw.steps_cons ?s12 (Gw.steps_cons ?s13 (Gw.steps_cons ?s14 (Gw.steps_cons ?s15 (Gw.steps_cons ?s16 (Gw.steps_cons ?s17 (Gw.steps_cons ?s18 (Gw.steps_cons ?s19 (Gw.steps_cons ?s20 (Gw.steps_cons ?s21 (Gw.steps_cons ?s22 (Gw.steps_cons ?s23 (Gw.steps_cons ?s24 (Gw.steps_cons ?s25 (Gw.steps_cons ?s26 (Gw.steps_cons ?s27 (Gw.steps_cons ?s28 (Gw.steps_cons ?s29 (Gw.steps_cons ?s30 (Gw.steps_cons ?s31 (Gw.steps_cons ?s32 (Gw.steps_nil)))))))))))))))))))))))))))))))))
                                     case s0 => exact Gw.step_move 18 205 rfl rfl (Gw.guard_none rfl) (by kernel_rfl) (fun v w h => h)
                                     case s1 => exact Gw.step_move 205 206 rfl rfl (Gw.guard_none rfl) (by kernel_rfl) (fun v w h => h)
                                     case s2 =>
                                      refine Gw.StepOk.of (Gw_guard_open 1 206 false rfl (by kernel_rfl) (by kernel_rfl) (fun v w h => h)) fun b w' hsz hW hl K hK => ?_
                                      clear hsz
                                      unfold Oper.wp
                                      have e16 : b.tmps[16]?.getD undef = .pointer (some ⟨qb, 0, none⟩) := getD' (Gw.look hl 16 (by kernel_rfl))
                                      go_simp
                                      exact hK _ _ (Grw.refl _) (Gw.dst_eq rfl rfl)
                                     case s3 =>
                                      refine Gw.StepOk.of (Gw_guard_open 1 206 false rfl (by kernel_rfl) (by kernel_rfl) (fun v w h => h)) fun b w' hsz hW hl K hK => ?_
                                      clear hsz
                                      unfold Oper.wp
                                      have e207 : b.tmps[207]?.getD undef = .pointer (some ⟨qb, 1, none⟩) := getD' (Gw.look hl 207 (by kernel_rfl))
                                      have ky0 := hW.cell y0
                                      have ky1 := hW.cell y1
                                      have kv0 := hW.cell v0
                                      have kv1 := hW.cell v1
                                      have kcP7 := hW.cell cP7
                                      have kcQ4 := hW.cell cQ4
                                      go_simp
                                      exact hK _ _ (Grw.refl _) (Gw.dst_eq rfl rfl)
                                     case s4 => exact Gw.step_move 19 209 rfl rfl (Gw_guard_open 1 206 false rfl (by kernel_rfl) (by kernel_rfl) (fun v w h => h)) (by kernel_rfl) (fun v w h => h)
                                     case s5 =>
                                      refine Gw.StepOk.of (Gw_guard_open 1 206 false rfl (by kernel_rfl) (by kernel_rfl) (fun v w h => h)) fun b w' hsz hW hl K hK => ?_
                                      clear hsz
                                      unfold Oper.wp
                                      have e208 : b.tmps[208]?.getD undef = .slice (some pf) (X k).n (X k).c := getD' (Gw.look hl 208 (by kernel_rfl))
                                      have e209 : b.tmps[209]?.getD undef = .int .i64 (t : Int) := getD' (Gw.look hl 209 (by kernel_rfl))
                                      go_simp
                                      exact hK _ _ (Grw.refl _) (Gw.dst_eq rfl rfl)
                                     case s6 =>
                                      refine Gw.StepOk.of (Gw_guard_open 1 206 false rfl (by kernel_rfl) (by kernel_rfl) (fun v w h => h)) fun b w' hsz hW hl K hK => ?_
                                      clear hsz
                                      unfold Oper.wp
                                      have e210 : b.tmps[210]?.getD undef = .pointer (some (pf.add (t * 2))) := getD' (Gw.look hl 210 (by kernel_rfl))
                                      go_simp
                                      exact hK _ _ (Grw.refl _) (Gw.dst_eq rfl rfl)
                                     case s7 =>
                                      refine Gw.StepOk.of (Gw_guard_open 1 206 false rfl (by kernel_rfl) (by kernel_rfl) (fun v w h => h)) fun b w' hsz hW hl K hK => ?_
                                      clear hsz
                                      unfold Oper.wp
                                      have e211 : b.tmps[211]?.getD undef = .pointer (some (pf.add (t * 2))) := getD' (Gw.look hl 211 (by kernel_rfl))
                                      have ky0 := hW.cell y0
                                      have ky1 := hW.cell y1
                                      have kv0 := hW.cell v0
                                      have kv1 := hW.cell v1
                                      have kcP7 := hW.cell cP7
                                      have kcQ4 := hW.cell cQ4
                                      go_simp
                                      exact hK _ _ (Grw.refl _) (Gw.dst_eq rfl rfl)
                                     case s8 =>
                                      refine Gw.StepOk.of (Gw_guard_open 1 206 false rfl (by kernel_rfl) (by kernel_rfl) (fun v w h => h)) fun b w' hsz hW hl K hK => ?_
                                      clear hsz
                                      unfold Oper.wp
                                      have e13 : b.tmps[13]?.getD undef = .pointer (some ⟨pb, 0, none⟩) := getD' (Gw.look hl 13 (by kernel_rfl))
                                      go_simp
                                      exact hK _ _ (Grw.refl _) (Gw.dst_eq rfl rfl)
                                     case s9 =>
                                      refine Gw.StepOk.of (Gw_guard_open 1 206 false rfl (by kernel_rfl) (by kernel_rfl) (fun v w h => h)) fun b w' hsz hW hl K hK => ?_
                                      clear hsz
                                      unfold Oper.wp
                                      have e213 : b.tmps[213]?.getD undef = .pointer (some ⟨pb, 1, none⟩) := getD' (Gw.look hl 213 (by kernel_rfl))
                                      have ky0 := hW.cell y0
                                      have ky1 := hW.cell y1
                                      have kv0 := hW.cell v0
                                      have kv1 := hW.cell v1
                                      have kcP7 := hW.cell cP7
                                      have kcQ4 := hW.cell cQ4
                                      go_simp
                                      exact hK _ _ (Grw.refl _) (Gw.dst_eq rfl rfl)
                                     case s10 => exact Gw.step_move 17 215 rfl rfl (Gw_guard_open 1 206 false rfl (by kernel_rfl) (by kernel_rfl) (fun v w h => h)) (by kernel_rfl) (fun v w h => h)
                                     case s11 =>
                                      refine Gw.StepOk.of (Gw_guard_open 1 206 false rfl (by kernel_rfl) (by kernel_rfl) (fun v w h => h)) fun b w' hsz hW hl K hK => ?_
                                      clear hsz
                                      unfold Oper.wp
                                      have e214 : b.tmps[214]?.getD undef = .slice (some ⟨g, 0, none⟩) (Z i).n (Z i).c := getD' (Gw.look hl 214 (by kernel_rfl))
                                      have e215 : b.tmps[215]?.getD undef = .int .i64 (s : Int) := getD' (Gw.look hl 215 (by kernel_rfl))
                                      go_simp
                                      exact hK _ _ (Grw.refl _) (Gw.dst_eq rfl rfl)
                                     case s12 =>
                                      refine Gw.StepOk.of (Gw_guard_open 1 206 false rfl (by kernel_rfl) (by kernel_rfl) (fun v w h => h)) fun b w' hsz hW hl K hK => ?_
                                      clear hsz
                                      unfold Oper.wp
                                      have e216 : b.tmps[216]?.getD undef = .pointer (some ⟨g, s * 2, none⟩) := getD' (Gw.look hl 216 (by kernel_rfl))
                                      go_simp
                                      exact hK _ _ (Grw.refl _) (Gw.dst_eq rfl rfl)
                                     case s13 =>
                                      refine Gw.StepOk.of (Gw_guard_open 1 206 false rfl (by kernel_rfl) (by kernel_rfl) (fun v w h => h)) fun b w' hsz hW hl K hK => ?_
                                      clear hsz
                                      unfold Oper.wp
                                      have e217 : b.tmps[217]?.getD undef = .pointer (some ⟨g, s * 2, none⟩) := getD' (Gw.look hl 217 (by kernel_rfl))
                                      have ky0 := hW.cell y0
                                      have ky1 := hW.cell y1
                                      have kv0 := hW.cell v0
                                      have kv1 := hW.cell v1
                                      have kcP7 := hW.cell cP7
                                      have kcQ4 := hW.cell cQ4
                                      go_simp
                                      exact hK _ _ (Grw.refl _) (Gw.dst_eq rfl rfl)
                                     case s14 =>
                                      refine Gw.StepOk.of (Gw_guard_open 1 206 false rfl (by kernel_rfl) (by kernel_rfl) (fun v w h => h)) fun b w' hsz hW hl K hK => ?_
                                      clear hsz
                                      unfold Oper.wp
                                      have e212 : b.tmps[212]?.getD undef = .string (Y k t).name := getD' (Gw.look hl 212 (by kernel_rfl))
                                      have e218 : b.tmps[218]?.getD undef = .string (V i s).name := getD' (Gw.look hl 218 (by kernel_rfl))
                                      go_simp
                                      exact hK _ _ (Grw.refl _) (Gw.dst_eq rfl rfl)
                                     case s15 => exact Gw.step_move 219 220 rfl rfl (Gw_guard_open 1 206 false rfl (by kernel_rfl) (by kernel_rfl) (fun v w h => h)) (by kernel_rfl) (fun v w h => h)
                                     case s16 =>
                                      refine Gw.StepOk.of (Gw_guard_open 15 220 true rfl (by kernel_rfl) (by kernel_rfl) (fun v w h => h)) fun b w' hsz hW hl K hK => ?_
                                      clear hsz
                                      unfold Oper.wp
                                      have e16 : b.tmps[16]?.getD undef = .pointer (some ⟨qb, 0, none⟩) := getD' (Gw.look hl 16 (by kernel_rfl))
                                      go_simp
                                      exact hK _ _ (Grw.refl _) (Gw.dst_eq rfl rfl)
                                     case s17 =>
                                      refine Gw.StepOk.of (Gw_guard_open 15 220 true rfl (by kernel_rfl) (by kernel_rfl) (fun v w h => h)) fun b w' hsz hW hl K hK => ?_
                                      clear hsz
                                      unfold Oper.wp
                                      have e221 : b.tmps[221]?.getD undef = .pointer (some ⟨qb, 1, none⟩) := getD' (Gw.look hl 221 (by kernel_rfl))
                                      have ky0 := hW.cell y0
                                      have ky1 := hW.cell y1
                                      have kv0 := hW.cell v0
                                      have kv1 := hW.cell v1
                                      have kcP7 := hW.cell cP7
                                      have kcQ4 := hW.cell cQ4
                                      go_simp
                                      exact hK _ _ (Grw.refl _) (Gw.dst_eq rfl rfl)
                                     case s18 => exact Gw.step_move 19 223 rfl rfl (Gw_guard_open 15 220 true rfl (by kernel_rfl) (by kernel_rfl) (fun v w h => h)) (by kernel_rfl) (fun v w h => h)
                                     case s19 =>
                                      refine Gw.StepOk.of (Gw_guard_open 15 220 true rfl (by kernel_rfl) (by kernel_rfl) (fun v w h => h)) fun b w' hsz hW hl K hK => ?_
                                      clear hsz
                                      unfold Oper.wp
                                      have e222 : b.tmps[222]?.getD undef = .slice (some pf) (X k).n (X k).c := getD' (Gw.look hl 222 (by kernel_rfl))
                                      have e223 : b.tmps[223]?.getD undef = .int .i64 (t : Int) := getD' (Gw.look hl 223 (by kernel_rfl))
                                      go_simp
                                      exact hK _ _ (Grw.refl _) (Gw.dst_eq rfl rfl)
                                     case s20 =>
                                      refine Gw.StepOk.of (Gw_guard_open 15 220 true rfl (by kernel_rfl) (by kernel_rfl) (fun v w h => h)) fun b w' hsz hW hl K hK => ?_
                                      clear hsz
                                      unfold Oper.wp
                                      have e224 : b.tmps[224]?.getD undef = .pointer (some (pf.add (t * 2))) := getD' (Gw.look hl 224 (by kernel_rfl))
                                      go_simp
                                      exact hK _ _ (Grw.refl _) (Gw.dst_eq rfl rfl)
                                     case s21 =>
                                      refine Gw.StepOk.of (Gw_guard_open 15 220 true rfl (by kernel_rfl) (by kernel_rfl) (fun v w h => h)) fun b w' hsz hW hl K hK => ?_
                                      clear hsz
                                      unfold Oper.wp
                                      have e225 : b.tmps[225]?.getD undef = .pointer (some ⟨(pf.add (t * 2)).block, (pf.add (t * 2)).off + 1, none⟩) := getD' (Gw.look hl 225 (by kernel_rfl))
                                      have ky0 := hW.cell y0
                                      have ky1 := hW.cell y1
                                      have kv0 := hW.cell v0
                                      have kv1 := hW.cell v1
                                      have kcP7 := hW.cell cP7
                                      have kcQ4 := hW.cell cQ4
                                      go_simp
                                      exact hK _ _ (Grw.refl _) (Gw.dst_eq rfl rfl)
                                     case s22 =>
                                      refine Gw.StepOk.of (Gw_guard_open 15 220 true rfl (by kernel_rfl) (by kernel_rfl) (fun v w h => h)) fun b w' hsz hW hl K hK => ?_
                                      clear hsz
                                      unfold Oper.wp
                                      have e226 : b.tmps[226]?.getD undef = .slice (Y k t).a (Y k t).n (Y k t).c := getD' (Gw.look hl 226 (by kernel_rfl))
                                      have kq1 := q1 w' hW
                                      have kq2 := q2 w' hW
                                      go_simp
                                      exact hK _ _ (Grw.refl _) (Gw.dst_eq rfl rfl)
                                     case s23 =>
                                      refine Gw.StepOk.of (Gw_guard_open 15 220 true rfl (by kernel_rfl) (by kernel_rfl) (fun v w h => h)) fun b w' hsz hW hl K hK => ?_
                                      clear hsz
                                      unfold Oper.wp
                                      have e13 : b.tmps[13]?.getD undef = .pointer (some ⟨pb, 0, none⟩) := getD' (Gw.look hl 13 (by kernel_rfl))
                                      go_simp
                                      exact hK _ _ (Grw.refl _) (Gw.dst_eq rfl rfl)
                                     case s24 =>
                                      refine Gw.StepOk.of (Gw_guard_open 15 220 true rfl (by kernel_rfl) (by kernel_rfl) (fun v w h => h)) fun b w' hsz hW hl K hK => ?_
                                      clear hsz
                                      unfold Oper.wp
                                      have e228 : b.tmps[228]?.getD undef = .pointer (some ⟨pb, 1, none⟩) := getD' (Gw.look hl 228 (by kernel_rfl))
                                      have ky0 := hW.cell y0
                                      have ky1 := hW.cell y1
                                      have kv0 := hW.cell v0
                                      have kv1 := hW.cell v1
                                      have kcP7 := hW.cell cP7
                                      have kcQ4 := hW.cell cQ4
                                      go_simp
                                      exact hK _ _ (Grw.refl _) (Gw.dst_eq rfl rfl)
                                     case s25 => exact Gw.step_move 17 230 rfl rfl (Gw_guard_open 15 220 true rfl (by kernel_rfl) (by kernel_rfl) (fun v w h => h)) (by kernel_rfl) (fun v w h => h)
                                     case s26 =>
                                      refine Gw.StepOk.of (Gw_guard_open 15 220 true rfl (by kernel_rfl) (by kernel_rfl) (fun v w h => h)) fun b w' hsz hW hl K hK => ?_
                                      clear hsz
                                      unfold Oper.wp
                                      have e229 : b.tmps[229]?.getD undef = .slice (some ⟨g, 0, none⟩) (Z i).n (Z i).c := getD' (Gw.look hl 229 (by kernel_rfl))
                                      have e230 : b.tmps[230]?.getD undef = .int .i64 (s : Int) := getD' (Gw.look hl 230 (by kernel_rfl))
                                      go_simp
                                      exact hK _ _ (Grw.refl _) (Gw.dst_eq rfl rfl)
                                     case s27 =>
                                      refine Gw.StepOk.of (Gw_guard_open 15 220 true rfl (by kernel_rfl) (by kernel_rfl) (fun v w h => h)) fun b w' hsz hW hl K hK => ?_
                                      clear hsz
                                      unfold Oper.wp
                                      have e231 : b.tmps[231]?.getD undef = .pointer (some ⟨g, s * 2, none⟩) := getD' (Gw.look hl 231 (by kernel_rfl))
                                      go_simp
                                      exact hK _ _ (Grw.refl _) (Gw.dst_eq rfl rfl)
                                     case s28 =>
                                      refine Gw.StepOk.of (Gw_guard_open 15 220 true rfl (by kernel_rfl) (by kernel_rfl) (fun v w h => h)) fun b w' hsz hW hl K hK => ?_
                                      clear hsz
                                      unfold Oper.wp
                                      have e232 : b.tmps[232]?.getD undef = .pointer (some ⟨g, s * 2 + 1, none⟩) := getD' (Gw.look hl 232 (by kernel_rfl))
                                      have ky0 := hW.cell y0
                                      have ky1 := hW.cell y1
                                      have kv0 := hW.cell v0
                                      have kv1 := hW.cell v1
                                      have kcP7 := hW.cell cP7
                                      have kcQ4 := hW.cell cQ4
                                      go_simp
                                      exact hK _ _ (Grw.refl _) (Gw.dst_eq rfl rfl)
                                     case s29 =>
                                      refine Gw.StepOk.of (Gw_guard_open 15 220 true rfl (by kernel_rfl) (by kernel_rfl) (fun v w h => h)) fun b w' hsz hW hl K hK => ?_
                                      clear hsz
                                      unfold Oper.wp
                                      have e233 : b.tmps[233]?.getD undef = .slice (V i s).a (V i s).n (V i s).c := getD' (Gw.look hl 233 (by kernel_rfl))
                                      have kq1 := q1 w' hW
                                      have kq2 := q2 w' hW
                                      go_simp
                                      exact hK _ _ (Grw.refl _) (Gw.dst_eq rfl rfl)
                                     case s30 =>
                                      refine Gw.StepOk.of (Gw_guard_open 15 220 true rfl (by kernel_rfl) (by kernel_rfl) (fun v w h => h)) fun b w' hsz hW hl K hK => ?_
                                      clear hsz
                                      unfold Oper.wp
                                      have e227 : b.tmps[227]?.getD undef = .string (u8l (Vb i s)) := getD' (Gw.look hl 227 (by kernel_rfl))
                                      have e234 : b.tmps[234]?.getD undef = .string (u8l (Vb i s)) := getD' (Gw.look hl 234 (by kernel_rfl))
                                      go_simp
                                      exact hK _ _ (Grw.refl _) (Gw.dst_eq rfl rfl)
                                     case s31 => exact Gw_pick 220 (.tmp 235) (.const (.bool false)) 236 true (.bool true) rfl rfl (Gw_guard_open 1 206 false rfl (by kernel_rfl) (by kernel_rfl) (fun v w h => h)) (by kernel_rfl) (fun v w h => h) (fun b w' hl => Gw.look hl 235 (by kernel_rfl)) (fun w => rfl)
                                     case s32 => exact Gw_pick 206 (.const (.bool true)) (.tmp 236) 237 false (.bool true) rfl rfl (Gw.guard_none rfl) (by kernel_rfl) (fun v w h => h) (fun b w' hl => Gw.look hl 236 (by kernel_rfl)) (fun w => rfl)
                                    case hend =>
                                     intro xs wz hGz _ hxl
                                     have hBz := bthen hBt hGz.below
                                     simp only [mixed, List.contains_cons, List.contains_nil, Nat.reduceBEq, Nat.reduceAdd, Bool.or_false, Bool.or_true, Bool.false_eq_true, if_false, if_true]
                                     rw [hxl]
                                     go_wp2
                                     go_roundw
                                     case rel => exact ⟨t + 1, true, by omega, by go_num, rfl, ⟨fun _ => hnew2.out, fun _ => rfl⟩, hBz⟩
                                     case measure => simp [intOf]; omega
                                  · have hbe2 : ((Y k t).name.toList == (V i s).name.toList) = false := by rw [toList_eq_iff]; simpa using he
                                    have hnew2 : ¬ ∃ j, j < t + 1 ∧ (Y k j).name = (V i s).name := by
                                      rintro ⟨j, hj, e⟩
                                      by_cases h : j = t
                                      · subst h; exact he e
                                      · exact absurd (hrt.out.2 ⟨j, by omega, e⟩) Bool.false_ne_true
                                    replace hnew2 : Hid _ := hnew2
                                    clear hrt he
                                    go_wp2_with fail
                                    refine wp_region_late (lateNN pf qb pb g (X k).n (X k).c (Z i).n (Z i).c s t (Y k t).name (V i s).name (u8l (Vb i s)) (Y k t).a (V i s).a (Y k t).n (Y k t).c (V i s).n (V i s).c) (.bool false) [205, 206, 207, 208, 209, 210, 211, 212, 213, 214, 215, 216, 217, 218, 219, 220, 221, 222, 223, 224, 225, 226, 227, 228, 229, 230, 231, 232, 233, 234, 235, 236, 237] [0, 1, 2, 3, 4, 5, 6, 7, 8, 9, 10, 11, 12, 13, 14, 15, 16, 17, 18, 19, 20, 21, 22, 23, 24, 25, 26, 27, 28, 29, 30, 31, 32, 33, 34, 35, 36, 37, 38, 39, 40, 41, 42, 43, 44, 45, 46, 47, 48, 49, 50, 51, 52, 53, 54, 55, 56, 57, 58, 59, 60, 61, 62, 63, 64, 65, 66, 67, 68, 69, 70, 71, 72, 73, 74, 75, 76, 77, 78, 79, 80, 81, 82, 83, 84, 85, 86, 87, 88, 89, 90, 91, 92, 93, 94, 95, 96, 97, 98, 99, 100, 101, 102, 103, 104, 105, 106, 107, 108, 109, 110, 111, 112, 113, 114, 115, 116, 117, 118, 119, 120, 121, 122, 123, 124, 125, 126, 127, 128, 129, 130, 131, 132, 133, 134, 135, 136, 137, 138, 139, 140, 141, 142, 143, 144, 145, 146, 147, 148, 149, 150, 151, 152, 153, 154, 155, 156, 157, 158, 159, 160, 161, 162, 163, 164, 165, 166, 167, 168, 169, 170, 171, 172, 173, 174, 175, 176, 177, 178, 179, 180, 181, 182, 183, 184, 185, 186, 187, 188, 189, 190, 191, 192, 193, 194, 195, 196, 197, 198, 199, 200, 201, 202, 203, 204, 238, 239, 240, 241, 242, 243, 244] 245 18 237 (by kernel_rfl) (by decide) (by kernel_rfl) (by kernel_rfl) (by decide) (by kernel_rfl) (by kernel_rfl) (by kernel_rfl) rfl ⟨_, rfl, rfl, rfl, rfl, by kernel_rfl, by decide⟩ (fun t v w w' _ h => h) (by kernel_rfl) (fun v w h => h) (by kernel_rfl) ?hstep ?hend
                                    case hstep =>
                                     refine Gw.steps_cons ?s0 (Gw.steps_cons ?s1 (Gw.steps_cons ?s2 (Gw.steps_cons ?s3 (Gw.steps_cons ?s4 (Gw.steps_cons ?s5 (Gw.steps_cons ?s6 (Gw.steps_cons ?s7 (Gw.steps_cons ?s8 (Gw.steps_cons ?s9 (Gw.steps_cons ?s10 (Gw.steps_cons ?s11 (Gw.steps_cons ?s12 (Gw.steps_cons ?s13 (Gw.steps_cons ?s14 (Gw.steps_cons ?s15 (Gw.steps_cons ?s16 (Gw.steps_cons ?s17 (Gw.steps_cons ?s18 (Gw.steps_cons ?s19 (Gw.steps_cons ?s20 (Gw.steps_cons ?s21 (Gw.steps_cons ?s22 (Gw.steps_cons ?s23 (Gw.steps_cons ?s24 (Gw.steps_cons ?s25 (Gw.steps_cons ?s26 (Gw.steps_cons ?s27 (Gw.steps_cons ?s28 (Gw.steps_cons ?s29 (Gw.steps_cons ?s30 (Gw.steps_cons ?s31 (Gw.steps_cons ?s32 (Gw.steps_nil)))))))))))))))))))))))))))))))))
                                     case s0 => exact Gw.step_move 18 205 rfl rfl (Gw.guard_none rfl) (by kernel_rfl) (fun v w h => h)
                                     case s1 => exact Gw.step_move 205 206 rfl rfl (Gw.guard_none rfl) (by kernel_rfl) (fun v w h => h)
                                     case s2 =>
                                      refine Gw.StepOk.of (Gw_guard_open 1 206 false rfl (by kernel_rfl) (by kernel_rfl) (fun v w h => h)) fun b w' hsz hW hl K hK => ?_
                                      clear hsz
                                      unfold Oper.wp
                                      have e16 : b.tmps[16]?.getD undef = .pointer (some ⟨qb, 0, none⟩) := getD' (Gw.look hl 16 (by kernel_rfl))
                                      go_simp
                                      exact hK _ _ (Grw.refl _) (Gw.dst_eq rfl rfl)
                                     case s3 =>
                                      refine Gw.StepOk.of (Gw_guard_open 1 206 false rfl (by kernel_rfl) (by kernel_rfl) (fun v w h => h)) fun b w' hsz hW hl K hK => ?_
                                      clear hsz
                                      unfold Oper.wp
                                      have e207 : b.tmps[207]?.getD undef = .pointer (some ⟨qb, 1, none⟩) := getD' (Gw.look hl 207 (by kernel_rfl))
                                      have ky0 := hW.cell y0
                                      have ky1 := hW.cell y1
                                      have kv0 := hW.cell v0
                                      have kv1 := hW.cell v1
                                      have kcP7 := hW.cell cP7
                                      have kcQ4 := hW.cell cQ4
                                      go_simp
                                      exact hK _ _ (Grw.refl _) (Gw.dst_eq rfl rfl)
                                     case s4 => exact Gw.step_move 19 209 rfl rfl (Gw_guard_open 1 206 false rfl (by kernel_rfl) (by kernel_rfl) (fun v w h => h)) (by kernel_rfl) (fun v w h => h)
                                     case s5 =>
                                      refine Gw.StepOk.of (Gw_guard_open 1 206 false rfl (by kernel_rfl) (by kernel_rfl) (fun v w h => h)) fun b w' hsz hW hl K hK => ?_
                                      clear hsz
                                      unfold Oper.wp
                                      have e208 : b.tmps[208]?.getD undef = .slice (some pf) (X k).n (X k).c := getD' (Gw.look hl 208 (by kernel_rfl))
                                      have e209 : b.tmps[209]?.getD undef = .int .i64 (t : Int) := getD' (Gw.look hl 209 (by kernel_rfl))
                                      go_simp
                                      exact hK _ _ (Grw.refl _) (Gw.dst_eq rfl rfl)
                                     case s6 =>
                                      refine Gw.StepOk.of (Gw_guard_open 1 206 false rfl (by kernel_rfl) (by kernel_rfl) (fun v w h => h)) fun b w' hsz hW hl K hK => ?_
                                      clear hsz
                                      unfold Oper.wp
                                      have e210 : b.tmps[210]?.getD undef = .pointer (some (pf.add (t * 2))) := getD' (Gw.look hl 210 (by kernel_rfl))
                                      go_simp
                                      exact hK _ _ (Grw.refl _) (Gw.dst_eq rfl rfl)
                                     case s7 =>
                                      refine Gw.StepOk.of (Gw_guard_open 1 206 false rfl (by kernel_rfl) (by kernel_rfl) (fun v w h => h)) fun b w' hsz hW hl K hK => ?_
                                      clear hsz
                                      unfold Oper.wp
                                      have e211 : b.tmps[211]?.getD undef = .pointer (some (pf.add (t * 2))) := getD' (Gw.look hl 211 (by kernel_rfl))
                                      have ky0 := hW.cell y0
                                      have ky1 := hW.cell y1
                                      have kv0 := hW.cell v0
                                      have kv1 := hW.cell v1
                                      have kcP7 := hW.cell cP7
                                      have kcQ4 := hW.cell cQ4
                                      go_simp
                                      exact hK _ _ (Grw.refl _) (Gw.dst_eq rfl rfl)
                                     case s8 =>
                                      refine Gw.StepOk.of (Gw_guard_open 1 206 false rfl (by kernel_rfl) (by kernel_rfl) (fun v w h => h)) fun b w' hsz hW hl K hK => ?_
                                      clear hsz
                                      unfold Oper.wp
                                      have e13 : b.tmps[13]?.getD undef = .pointer (some ⟨pb, 0, none⟩) := getD' (Gw.look hl 13 (by kernel_rfl))
                                      go_simp
                                      exact hK _ _ (Grw.refl _) (Gw.dst_eq rfl rfl)
                                     case s9 =>
                                      refine Gw.StepOk.of (Gw_guard_open 1 206 false rfl (by kernel_rfl) (by kernel_rfl) (fun v w h => h)) fun b w' hsz hW hl K hK => ?_
                                      clear hsz
                                      unfold Oper.wp
                                      have e213 : b.tmps[213]?.getD undef = .pointer (some ⟨pb, 1, none⟩) := getD' (Gw.look hl 213 (by kernel_rfl))
                                      have ky0 := hW.cell y0
                                      have ky1 := hW.cell y1
                                      have kv0 := hW.cell v0
                                      have kv1 := hW.cell v1
                                      have kcP7 := hW.cell cP7
                                      have kcQ4 := hW.cell cQ4
                                      go_simp
                                      exact hK _ _ (Grw.refl _) (Gw.dst_eq rfl rfl)
                                     case s10 => exact Gw.step_move 17 215 rfl rfl (Gw_guard_open 1 206 false rfl (by kernel_rfl) (by kernel_rfl) (fun v w h => h)) (by kernel_rfl) (fun v w h => h)
                                     case s11 =>
                                      refine Gw.StepOk.of (Gw_guard_open 1 206 false rfl (by kernel_rfl) (by kernel_rfl) (fun v w h => h)) fun b w' hsz hW hl K hK => ?_
                                      clear hsz
                                      unfold Oper.wp
                                      have e214 : b.tmps[214]?.getD undef = .slice (some ⟨g, 0, none⟩) (Z i).n (Z i).c := getD' (Gw.look hl 214 (by kernel_rfl))
                                      have e215 : b.tmps[215]?.getD undef = .int .i64 (s : Int) := getD' (Gw.look hl 215 (by kernel_rfl))
                                      go_simp
                                      exact hK _ _ (Grw.refl _) (Gw.dst_eq rfl rfl)
                                     case s12 =>
                                      refine Gw.StepOk.of (Gw_guard_open 1 206 false rfl (by kernel_rfl) (by kernel_rfl) (fun v w h => h)) fun b w' hsz hW hl K hK => ?_
                                      clear hsz
                                      unfold Oper.wp
                                      have e216 : b.tmps[216]?.getD undef = .pointer (some ⟨g, s * 2, none⟩) := getD' (Gw.look hl 216 (by kernel_rfl))
                                      go_simp
                                      exact hK _ _ (Grw.refl _) (Gw.dst_eq rfl rfl)
                                     case s13 =>
                                      refine Gw.StepOk.of (Gw_guard_open 1 206 false rfl (by kernel_rfl) (by kernel_rfl) (fun v w h => h)) fun b w' hsz hW hl K hK => ?_
                                      clear hsz
                                      unfold Oper.wp
                                      have e217 : b.tmps[217]?.getD undef = .pointer (some ⟨g, s * 2, none⟩) := getD' (Gw.look hl 217 (by kernel_rfl))
                                      have ky0 := hW.cell y0
                                      have ky1 := hW.cell y1
                                      have kv0 := hW.cell v0
                                      have kv1 := hW.cell v1
                                      have kcP7 := hW.cell cP7
                                      have kcQ4 := hW.cell cQ4
                                      go_simp
                                      exact hK _ _ (Grw.refl _) (Gw.dst_eq rfl rfl)
                                     case s14 =>
                                      refine Gw.StepOk.of (Gw_guard_open 1 206 false rfl (by kernel_rfl) (by kernel_rfl) (fun v w h => h)) fun b w' hsz hW hl K hK => ?_
                                      clear hsz
                                      unfold Oper.wp
                                      have e212 : b.tmps[212]?.getD undef = .string (Y k t).name := getD' (Gw.look hl 212 (by kernel_rfl))
                                      have e218 : b.tmps[218]?.getD undef = .string (V i s).name := getD' (Gw.look hl 218 (by kernel_rfl))
                                      go_simp
                                      exact hK _ _ (Grw.refl _) (Gw.dst_eq rfl rfl)
                                     case s15 => exact Gw.step_move 219 220 rfl rfl (Gw_guard_open 1 206 false rfl (by kernel_rfl) (by kernel_rfl) (fun v w h => h)) (by kernel_rfl) (fun v w h => h)
                                     case s16 => exact Gw_shut 15 220 221 true rfl (by kernel_rfl) (by kernel_rfl) (fun v w h e => by have h : v = .bool false := h; rw [h] at e; cases e) rfl (fun w => rfl)
                                     case s17 => exact Gw_shut 15 220 222 true rfl (by kernel_rfl) (by kernel_rfl) (fun v w h e => by have h : v = .bool false := h; rw [h] at e; cases e) rfl (fun w => rfl)
                                     case s18 => exact Gw_shut 15 220 223 true rfl (by kernel_rfl) (by kernel_rfl) (fun v w h e => by have h : v = .bool false := h; rw [h] at e; cases e) rfl (fun w => rfl)
                                     case s19 => exact Gw_shut 15 220 224 true rfl (by kernel_rfl) (by kernel_rfl) (fun v w h e => by have h : v = .bool false := h; rw [h] at e; cases e) rfl (fun w => rfl)
                                     case s20 => exact Gw_shut 15 220 225 true rfl (by kernel_rfl) (by kernel_rfl) (fun v w h e => by have h : v = .bool false := h; rw [h] at e; cases e) rfl (fun w => rfl)
                                     case s21 => exact Gw_shut 15 220 226 true rfl (by kernel_rfl) (by kernel_rfl) (fun v w h e => by have h : v = .bool false := h; rw [h] at e; cases e) rfl (fun w => rfl)
                                     case s22 => exact Gw_shut 15 220 227 true rfl (by kernel_rfl) (by kernel_rfl) (fun v w h e => by have h : v = .bool false := h; rw [h] at e; cases e) rfl (fun w => rfl)
                                     case s23 => exact Gw_shut 15 220 228 true rfl (by kernel_rfl) (by kernel_rfl) (fun v w h e => by have h : v = .bool false := h; rw [h] at e; cases e) rfl (fun w => rfl)
                                     case s24 => exact Gw_shut 15 220 229 true rfl (by kernel_rfl) (by kernel_rfl) (fun v w h e => by have h : v = .bool false := h; rw [h] at e; cases e) rfl (fun w => rfl)
                                     case s25 => exact Gw_shut 15 220 230 true rfl (by kernel_rfl) (by kernel_rfl) (fun v w h e => by have h : v = .bool false := h; rw [h] at e; cases e) rfl (fun w => rfl)
                                     case s26 => exact Gw_shut 15 220 231 true rfl (by kernel_rfl) (by kernel_rfl) (fun v w h e => by have h : v = .bool false := h; rw [h] at e; cases e) rfl (fun w => rfl)
                                     case s27 => exact Gw_shut 15 220 232 true rfl (by kernel_rfl) (by kernel_rfl) (fun v w h e => by have h : v = .bool false := h; rw [h] at e; cases e) rfl (fun w => rfl)
                                     case s28 => exact Gw_shut 15 220 233 true rfl (by kernel_rfl) (by kernel_rfl) (fun v w h e => by have h : v = .bool false := h; rw [h] at e; cases e) rfl (fun w => rfl)
                                     case s29 => exact Gw_shut 15 220 234 true rfl (by kernel_rfl) (by kernel_rfl) (fun v w h e => by have h : v = .bool false := h; rw [h] at e; cases e) rfl (fun w => rfl)
                                     case s30 => exact Gw_shut 15 220 235 true rfl (by kernel_rfl) (by kernel_rfl) (fun v w h e => by have h : v = .bool false := h; rw [h] at e; cases e) rfl (fun w => rfl)
                                     case s31 => exact Gw_pick 220 (.tmp 235) (.const (.bool false)) 236 false (.bool false) rfl rfl (Gw_guard_open 1 206 false rfl (by kernel_rfl) (by kernel_rfl) (fun v w h => h)) (by kernel_rfl) (fun v w h => h) (fun b w' hl => rfl) (fun w => rfl)
                                     case s32 => exact Gw_pick 206 (.const (.bool true)) (.tmp 236) 237 false (.bool false) rfl rfl (Gw.guard_none rfl) (by kernel_rfl) (fun v w h => h) (fun b w' hl => Gw.look hl 236 (by kernel_rfl)) (fun w => rfl)
                                    case hend =>
                                     intro xs wz hGz _ hxl
                                     have hBz := bthen hBt hGz.below
                                     simp only [mixed, List.contains_cons, List.contains_nil, Nat.reduceBEq, Nat.reduceAdd, Bool.or_false, Bool.or_true, Bool.false_eq_true, if_false, if_true]
                                     rw [hxl]
                                     go_wp2
                                     go_roundw
                                     case rel => exact ⟨t + 1, false, by omega, by go_num, rfl, ⟨fun h => (Bool.false_ne_true h).elim, fun h => absurd h hnew2.out⟩, hBz⟩
                                     case measure => simp [intOf]; omega
                              · obtain rfl : t = (X k).n := by omega
                                have hft : f = true := hrt.out.2 hex.out
                                subst hft
                                clear hrt
                                go_wp2
                                go_roundw
                                case rel => exact ⟨s + 1, by omega, by go_num, rfl, bthen hB12 hBt⟩
                                case measure => simp [intOf]; omega
                        · obtain rfl : s = (Z i).n := by omega
                          go_wp2
                          go_roundw
                          case rel => exact ⟨k + 1, true, by omega, by go_num, rfl, ⟨fun _ => hnew.out, fun _ => rfl⟩, bthen hB8 hBs⟩
                          case measure => simp [intOf]; omega
                    · as_aux_lemma =>
                      have hbe : ((X k).name.toList == (Z i).name.toList) = false := by rw [toList_eq_iff]; simpa using he
                      have hnew : f = true ↔ ∃ j, j < k + 1 ∧ (X j).name = (Z i).name := by
                        rw [hrf.out]
                        constructor
                        · rintro ⟨j, hj, e⟩; exact ⟨j, by omega, e⟩
                        · rintro ⟨j, hj, e⟩
                          by_cases h : j = k
                          · subst h; exact absurd e he
                          · exact ⟨j, by omega, e⟩
                      clear hrf he
                      replace hnew : Hid _ := hnew
                      go_wp2
                      go_roundw
                      case rel => exact ⟨k + 1, f, by omega, by go_num, rfl, hnew.out, hB8⟩
                      case measure => simp [intOf]; omega
                  · obtain rfl : N = k := by omega
                    have hft : f = true := hrf.out.2 (hO4.out.found i hin)
                    subst hft
                    clear hrf
                    go_wp2
                    go_roundw
                    case rel => exact ⟨i + 1, by omega, by go_num, bthen hB7 hBk⟩
                    case measure => simp [intOf]; omega
            · go_wp2
              go_ret
              exact ⟨rfl, bthen hbl hB5⟩
end Go.Proofs.Ytkngjljcjgagbaa
