/- Contracts of complement and Bitwise. -/
import Derived.Test.YtclokcoimdjaeaaGreatDoorQuom
import Derived.Laws.CopyOwn
namespace Go.Proofs.YtclokcoimdjaeaaGreatDoor
open Go.RowKit
attribute [local go_sem ↓] Go.wp_at_zero Go.wp_at_succ
theorem bits_not (x : Int) (h0 : 0 ≤ x) (h1 : x < 4294967296) : bits .xor .u32 IntKind.u32.max x = 4294967295 - x := by
  rw [show IntKind.u32.max = 4294967295 from by decide]
  obtain ⟨n, rfl⟩ := Int.eq_ofNat_of_zero_le h0
  have h2 : (BitVec.ofInt 32 (n : Int)).toNat = n := by rw [BitVec.ofInt_natCast, BitVec.toNat_ofNat]; exact Nat.mod_eq_of_lt (by omega)
  have h3 : BitVec.ofInt 32 4294967295 = BitVec.allOnes 32 := by decide
  show IntKind.u32.wrap ((BitVec.ofInt 32 4294967295 ^^^ BitVec.ofInt 32 (n : Int)).toNat : Int) = _
  rw [h3, BitVec.allOnes_xor, BitVec.toNat_not, h2]
  simp only [IntKind.wrap, IntKind.bits, IntKind.signed]
  simp
  omega
theorem comp_step {B : Int} {xs ss : List Int} {k : Nat} {c x s c' : Int} (hs : k < ss.length) (hx : xs[k]?.getD 0 = x) (hd : s + B * c' = B - 1 - x + c)
    (h : val B (ss.take k) + c * B ^ k = B ^ k - val B (xs.take k)) :
    val B ((ss.set k s).take (k + 1)) + c' * B ^ (k + 1) = B ^ (k + 1) - val B (xs.take (k + 1)) := by
  rw [val_set_take B ss k _ hs, val_take_succ B xs, hx, Int.pow_succ]
  have h3 : c' * (B ^ k * B) = B * c' * B ^ k := by rw [Int.mul_comm B, Int.mul_assoc, Int.mul_comm B]
  have h4 : (s + B * c') * B ^ k = (B - 1 - x + c) * B ^ k := by rw [hd]
  simp only [Int.add_mul, Int.sub_mul, Int.one_mul] at h4
  rw [h3, Int.mul_comm (B ^ k) B]
  omega
theorem comp_end {M v x c : Int} (h0 : 0 ≤ v) (h1 : v < M) (hc : c = 0 ∨ c = 1) (h : v + c * M = M - x) : v = (- x) % M := by
  rcases hc with rfl | rfl
  · have : -x = v + M * (-1) := by omega
    rw [this, Int.add_mul_emod_self_left, Int.emod_eq_of_lt h0 h1]
  · have : -x = v := by omega
    rw [this, Int.emod_eq_of_lt h0 h1]
theorem val_pad (B : Int) (xs : List Int) (n : Nat) : val B (xs ++ zeros n) = val B xs := by rw [val_append, zeros_val]; simp
theorem map_at (k : IntKind) (ps : List Int) (i : Nat) (hi : i < ps.length) : ((ps.map (Value.int k)).toArray)[i]? = some (.int k (ps[i]?.getD 0)) := by simp [hi]
/-- What complement makes of a magnitude. -/
def comp (B : Int) (n : Bool) (v : Int) (size : Nat) : Int := if n = true then (- v) % B ^ size else v
set_option maxRecDepth 20000 in
set_option maxHeartbeats 1000000 in
theorem complement_any (n : Bool) (x : Option Addr) (ca size : Nat) (xs : List Int) (w : World) (ha : Row w .u32 4294967296 x ca xs) (hs : size ≤ 1000000) (hl : xs.length ≤ size) :
    Calls Tryz.prog 226 #[.bool n, .slice x xs.length ca, .int .i64 size] w fun e w' => ∃ ss, e = .returned (.slice (some ⟨w.heap.size, 0, none⟩) size size) ∧ Blk w' w.heap.size .u32 139 size ss ∧ ss.length = size ∧ Words 4294967296 ss ∧ val 4294967296 ss = comp 4294967296 n (val 4294967296 xs) size ∧ Below w.heap.size w w' := by
  have hmk := mk22 (size : Int) (by omega) (by omega) w
  rw [show ((size : Int)).toNat = size from by omega] at hmk
  have hsz : (Tryz.prog.info? 139).map (·.size) = some 1 := by kernel_rfl
  have hbA : Below w.heap.size w (w.alloc (.cells (cellsOf .u32 (zeros size)) 139)) := (Below.refl _ _).alloc (Nat.le_refl _) _
  have haA := ha.next hbA
  have q1 : (w.alloc (.cells (cellsOf .u32 (zeros size)) 139)).heap[w.heap.size]? = some (.cells ((zeros size).map (Value.int .u32)).toArray 139 (0, 0)) := by
    show (w.heap.push _)[w.heap.size]? = _
    simp [cellsOf]
  have q2 : (xs.map (Value.int .u32)).length = Nat.min xs.length size := by rw [List.length_map]; exact (Nat.min_eq_left hl).symm
  have q3 : 0 < (xs.map (Value.int .u32)).length → some (⟨w.heap.size, 0, none⟩ : Addr) = some ⟨w.heap.size, 0, none⟩ ∧ ∃ ad, x = some ad ∧ ∀ j v, (xs.map (Value.int .u32))[j]? = some v → (w.alloc (.cells (cellsOf .u32 (zeros size)) 139)).cell? (ad.add j) = some v := by
    intro hp
    rw [List.length_map] at hp
    obtain ⟨a, rfl⟩ := ha.some_of hp
    exact ⟨rfl, a, rfl, news_of_row haA⟩
  have q4 : 0 + (xs.map (Value.int .u32)).length ≤ ((zeros size).map (Value.int .u32)).length := by rw [List.length_map, List.length_map, zeros_len]; omega
  replace q1 : Hid _ := q1
  replace q2 : Hid _ := q2
  replace q3 : Hid _ := q3
  replace q4 : Hid _ := q4
  have hkey : ∀ w1 : World, Hid (w1.heap[w.heap.size]? = some (.cells (splice ((zeros size).map (Value.int .u32)) 0 (xs.map (Value.int .u32))).toArray 139 (0, 0))) → Blk w1 w.heap.size .u32 139 size (xs ++ zeros (size - xs.length)) := by
    intro w1 hh
    refine ⟨_, hh.out, ?_, ?_, by unfold maxLen; omega, ?_⟩
    · rw [List.size_toArray, length_splice _ _ _ q4.out, List.length_map, zeros_len]
    · rw [List.length_append, zeros_len]; omega
    · intro i hi
      have e : splice ((zeros size).map (Value.int .u32)) 0 (xs.map (Value.int .u32)) = (xs ++ zeros (size - xs.length)).map (Value.int .u32) := by
        simp [splice, zeros]
      rw [e]
      exact map_at _ _ i hi
  have hcl := val_pad 4294967296 xs (size - xs.length)
  have hwp : Words 4294967296 (xs ++ zeros (size - xs.length)) := ha.words.append (zeros_words (by decide) _)
  have hlp : (xs ++ zeros (size - xs.length)).length = size := by rw [List.length_append, zeros_len]; omega
  generalize xs ++ zeros (size - xs.length) = ps at *
  rw [← hcl]
  replace hcl : Hid _ := hcl
  replace hkey : Hid _ := hkey
  replace hlp : Hid _ := hlp
  cases n
  · go_enter Tryz.func226, Tryz.ntmps226
    go_wp2_with (refine wpList_copy_splice (by rfl) (.tmp 13) (.tmp 14) 26 26 (by rfl) 139 Tryz.underlying26 hsz (some ⟨w.heap.size, 0, none⟩) x size size xs.length ca (by rfl) (by rfl) w.heap.size 0 ((zeros size).map (Value.int .u32)) 139 q1.out (xs.map (Value.int .u32)) q2.out q3.out q4.out (one_ints _ _) w.heap.size w hbA (Nat.le_refl _) ?_)
    intro w1 hh hb1
    have hblk := hkey.out w1 hh
    clear hh
    go_wp2
    go_ret
    exact ⟨ps, rfl, hblk, hlp.out, hwp, rfl, hb1⟩
  · go_enter Tryz.func226, Tryz.ntmps226
    go_wp2_with (refine wpList_copy_splice (by rfl) (.tmp 13) (.tmp 14) 26 26 (by rfl) 139 Tryz.underlying26 hsz (some ⟨w.heap.size, 0, none⟩) x size size xs.length ca (by rfl) (by rfl) w.heap.size 0 ((zeros size).map (Value.int .u32)) 139 q1.out (xs.map (Value.int .u32)) q2.out q3.out q4.out (one_ints _ _) w.heap.size w hbA (Nat.le_refl _) ?_)
    intro w1 hh hb1
    have hblk := hkey.out w1 hh
    clear hh
    go_wp2
    go_loopw [8, 9, 10, 21] (fun c u9 u10 i wr => ∃ (k : Nat) (cc : Int) (ss : List Int), k ≤ size ∧ i = .int .i64 k ∧ c = .int .u32 cc ∧ 0 ≤ cc ∧ cc ≤ 1 ∧ Blk wr w.heap.size .u32 139 size ss ∧ Hid (ss.length = size) ∧ Words 4294967296 ss ∧ Hid (∀ j, k ≤ j → ss[j]?.getD 0 = ps[j]?.getD 0) ∧ Hid (val 4294967296 (ss.take k) + cc * 4294967296 ^ k = 4294967296 ^ k - val 4294967296 (ps.take k)) ∧ Below w.heap.size w wr) (fun _ _ _ i _ => size - (intOf i).toNat)
    case atStart => exact ⟨0, 1, ps, Nat.zero_le _, rfl, rfl, by omega, by omega, hblk, hlp, hwp, fun _ _ => rfl, by simp [val, Hid], hb1⟩
    case round =>
      obtain ⟨k, cc, ss, hk, rfl, rfl, hc0, hc1, hblk, hsl, hsw, HE, HV, hbel⟩ := hrel
      by_cases hlt : k < size
      · obtain ⟨p, hp, hp0, hp1⟩ := hsw.get (by decide) k
        have hcs := hblk.cell k (by have := hsl.out; omega)
        rw [hp] at hcs
        have hfr := hblk.frozen k
        have hpp : ps[k]?.getD 0 = p := by rw [← HE.out k (Nat.le_refl _)]; exact hp
        obtain ⟨nt, hnt, hnv⟩ : ∃ nt, bits .xor .u32 IntKind.u32.max p = nt ∧ nt = 4294967295 - p := ⟨_, rfl, bits_not p hp0 hp1⟩
        have HS : Hid (Hid (val 4294967296 ((ss.set k ((nt + cc) % 4294967296)).take (k + 1)) + ((nt + cc) / 4294967296) * 4294967296 ^ (k + 1) = 4294967296 ^ (k + 1) - val 4294967296 (ps.take (k + 1)))) := comp_step (by have := hsl.out; omega) hpp (by omega) HV.out
        have hn0 : 0 ≤ nt := by omega
        have hn1 : nt < 4294967296 := by omega
        clear hp hpp HV hnv
        go_wp2_with (go_at_call 264; refine (add32 _ _ _ _ (by omega) (by omega) (by omega) (by omega) (by omega) (by omega)).mono ?_; rintro e w' ⟨rfl, rfl⟩)
        go_roundw
        case rel => exact ⟨k + 1, _, _, by omega, by go_num, rfl, by omega, by omega, hblk.set k _, by show _ = _; rw [List.length_set]; exact hsl.out, hsw.set k (by omega), fun j hj => by rw [List.getElem?_set_ne (by omega)]; exact HE.out j (by omega), HS, hbel.setCell (Nat.le_refl _) _⟩
        case measure => simp [intOf]; omega
      · obtain rfl : k = size := by omega
        go_wp2
        go_ret
        have HV' := HV.out
        have h2 := val_nonneg (by decide) hsw
        have h3 := val_lt (by decide) hsw
        rw [take_all (by have := hsl.out; omega), take_all (by have := hlp.out; omega)] at HV'
        rw [hsl.out] at h3
        exact ⟨ss, rfl, hblk, hsl.out, hsw, comp_end h2 h3 (by omega) HV', hbel⟩
end Go.Proofs.YtclokcoimdjaeaaGreatDoor
namespace Go.Proofs.YtclokcoimdjaeaaGreatDoor
open Go.RowKit
attribute [local go_sem ↓] Go.wp_at_zero Go.wp_at_succ
/-- What the bits of two rows, word by word, are. -/
def zipB (o : BinOp) (ls rs : List Int) : List Int := List.zipWith (fun a b => bits o .u32 a b) ls rs
/-- A row as a two's complement. -/
def signed (ws : List Int) : Int := if 2147483648 ≤ ws[ws.length - 1]?.getD 0 then - ((- val 4294967296 ws) % 4294967296 ^ ws.length) else val 4294967296 ws
theorem zipB_len (o : BinOp) (ls rs : List Int) (h : ls.length = rs.length) : (zipB o ls rs).length = ls.length := by simp [zipB, h]
theorem zipB_words (o : BinOp) (ls rs : List Int) : Words 4294967296 (zipB o ls rs) := by
  induction ls generalizing rs with
  | nil => exact Words.nil _
  | cons a ls ih =>
    cases rs with
    | nil => exact Words.nil _
    | cons b rs => exact Words.cons (bits_rng _ _ _) (ih rs)
/-- After k words. -/
theorem zip_end (o : BinOp) (ls rs ss : List Int) (n : Nat) (h1 : ls.length = n) (h2 : rs.length = n) (h3 : ss.length = n) (h : ∀ j, j < n → ss[j]?.getD 0 = bits o .u32 (ls[j]?.getD 0) (rs[j]?.getD 0)) : ss = zipB o ls rs := by
  apply List.ext_getElem?
  intro i
  by_cases hi : i < n
  · have := h i hi
    rw [List.getElem?_eq_getElem (by omega), List.getElem?_eq_getElem (by omega), List.getElem?_eq_getElem (by omega)] at this
    simp only [Option.getD_some] at this
    rw [List.getElem?_eq_getElem (by omega), this]
    simp [zipB, h1, h2, hi]
  · rw [List.getElem?_eq_none (by omega), List.getElem?_eq_none (by rw [zipB_len _ _ _ (by omega)]; omega)]
/-- What Bitwise answers. -/
def BitOut (o : BinOp) (w w' : World) (e : Ending) (na nb : Bool) (xs ys : List Int) (size n : Nat) : Prop :=
  ∃ v ls rs, e = .returned (.tuple #[v, .bool true]) ∧ Words 4294967296 ls ∧ Words 4294967296 rs ∧ ls.length = size ∧ rs.length = size ∧ val 4294967296 ls = comp 4294967296 na (val 4294967296 xs) size ∧ val 4294967296 rs = comp 4294967296 nb (val 4294967296 ys) size ∧ Out w' w.heap.size v (signed (zipB o ls rs)) n ∧ Below w.heap.size w w'
set_option maxRecDepth 20000 in
set_option maxHeartbeats 4000000 in
theorem Bitwise_and_lt (na nb : Bool) (x y : Option Addr) (ca cb : Nat) (xs ys : List Int) (w : World) (ha : Row w .u32 4294967296 x ca xs) (hb : Row w .u32 4294967296 y cb ys) (_hl : xs.length ≤ 400000) (hlb : ys.length ≤ 400000) (hxy : (trimmed xs).length < (trimmed ys).length) :
    Calls Tryz.prog 162 #[.string ⟨#[38]⟩, .agg #[.bool na, .slice x xs.length ca], .agg #[.bool nb, .slice y ys.length cb]] w fun e w' => BitOut .and w w' e na nb xs ys ((trimmed ys).length + 1) (max xs.length ys.length + 1) := by
  have tx := trimmed_le xs
  have ty := trimmed_le ys
  have hZ : (trimmed ys).length + 1 ≤ max xs.length ys.length + 1 := by omega
  have hxy' : ((trimmed xs).length : Int) < ((trimmed ys).length : Int) := by omega
  go_enter Tryz.func162, Tryz.ntmps162
  go_wp2
  obtain ⟨W, hW, hbW, hlt, c0, c1, c2, c3, c4, c5, f4, f5⟩ := boxes3 w (.bool na) (.slice x xs.length ca) (.bool nb) (.slice y ys.length cb) (.bool false) (.slice none 0 0) 28
  rw [← hW]
  clear hW
  have haW := ha.next hbW
  have hbW' := hb.next hbW
  have haD : Row W.drew .u32 4294967296 x ca xs := haW.next ((Below.refl _ _).drew)
  have hbD : Row W.drew .u32 4294967296 y cb ys := hbW'.next ((Below.refl _ _).drew)
  go_region_held3 (fun w' => w'.cell? ⟨w.heap.size, 1, none⟩ = some (.slice x xs.length ca) ∧ w'.cell? ⟨w.heap.size + 1, 1, none⟩ = some (.slice y ys.length cb)) (refine ⟨?_, ?_⟩ <;> first | assumption | exact c1 | exact c3)
    (first
      | (go_at_call_of 163 (Value.slice x xs.length ca); refine (trim_any x ca xs _ haD).mono ?_; rintro e w1 ⟨rfl, rfl⟩)
      | (go_at_call_of 163 (Value.slice y ys.length cb); refine (trim_any y cb ys _ hbD).mono ?_; rintro e w1 ⟨rfl, rfl⟩))
  go_wp2
  have hD2 : Below W.heap.size W W.drew.drew := ((Below.refl _ _).drew).drew
  have haE := (haW.next hD2).trim
  have hbE := (hbW'.next hD2).trim
  have d0 := keep_cell hD2 c0
  have d2 := keep_cell hD2 c2
  go_region_held3 (fun w' => w'.cell? ⟨w.heap.size, 0, none⟩ = some (.bool na) ∧ w'.cell? ⟨w.heap.size + 1, 0, none⟩ = some (.bool nb)) (first | exact ⟨d0, d2⟩ | exact ⟨keep_cell hB1 c0, keep_cell hB1 c2⟩ | exact ⟨keep_cell hB2 c0, keep_cell hB2 c2⟩)
    (first
      | (go_at_call_of 226 (Value.slice x (trimmed xs).length ca); refine (complement_any na x ca ((trimmed ys).length + 1) (trimmed xs) _ haE (by omega) (by omega)).mono ?_; rintro e w1 ⟨ls, rfl, hblk1, hsl1, hsw1, hsv1, hb1⟩; replace hsl1 : Hid _ := hsl1; replace hsv1 : Hid _ := hsv1; have hB1 : Below W.heap.size W w1 := bthen hD2 hb1)
      | (go_at_call_of 226 (Value.slice y (trimmed ys).length cb); refine (complement_any nb y cb ((trimmed ys).length + 1) (trimmed ys) _ (hbE.next hb1) (by omega) (by omega)).mono ?_; rintro e w2 ⟨rs, rfl, hblk2, hsl2, hsw2, hsv2, hb2⟩; replace hsl2 : Hid _ := hsl2; replace hsv2 : Hid _ := hsv2; have hB2 : Below W.heap.size W w2 := bthen hB1 hb2))
  go_wp2
  have hblkL : Blk w2 W.heap.size .u32 139 ((trimmed ys).length + 1) ls := hblk1.next hb2
  have hgl : W.heap.size < w1.heap.size := hblk1.lt
  go_loopw [40] (fun i wr => ∃ (k : Nat) (ss : List Int), k ≤ (trimmed ys).length + 1 ∧ i = .int .i64 k ∧ Blk wr W.heap.size .u32 139 ((trimmed ys).length + 1) ss ∧ Blk wr w1.heap.size .u32 139 ((trimmed ys).length + 1) rs ∧ Hid (ss.length = (trimmed ys).length + 1) ∧ Words 4294967296 ss ∧ Hid (∀ j, j < k → ss[j]?.getD 0 = bits .and .u32 (ls[j]?.getD 0) (rs[j]?.getD 0)) ∧ Hid (∀ j, k ≤ j → ss[j]?.getD 0 = ls[j]?.getD 0) ∧ Below W.heap.size W wr) (fun i _ => (trimmed ys).length + 1 - (intOf i).toNat)
  case atStart => exact ⟨0, ls, Nat.zero_le _, rfl, hblkL, hblk2, hsl1, hsw1, (fun j hj => by omega), (fun _ _ => rfl), hB2⟩
  case round =>
    obtain ⟨k, ss, hk, rfl, hblk, hblkR, hsl, hsw, HE, HF, hbel⟩ := hrel
    clear haE hbE hblkL hblk1 hblk2 hD2
    by_cases hlt2 : k < (trimmed ys).length + 1
    · obtain ⟨p, hp, hp0, hp1⟩ := hsw.get (by decide) k
      obtain ⟨q, hq, hq0, hq1⟩ := hsw2.get (by decide) k
      have hcl := hblk.cell k (by have := hsl.out; omega)
      have hcr := hblkR.cell k (by have := hsl2.out; omega)
      rw [hp] at hcl
      rw [hq] at hcr
      have hfr := hblk.frozen k
      have hrng := bits_rng .and p q
      have HB : Hid (bits .and .u32 (ls[k]?.getD 0) (rs[k]?.getD 0) = bits .and .u32 p q) := by show _ = _; rw [← HF.out k (Nat.le_refl _), hp, hq]
      have hkl : k < ss.length := by have := hsl.out; omega
      replace hkl : Hid _ := hkl
      clear hp hq
      go_wp2
      go_roundw
      case rel => exact ⟨k + 1, _, by omega, by go_num, hblk.set k _, hblkR.other _ _ (by simp; omega), (by show _ = _; rw [List.length_set]; exact hsl.out), hsw.set k hrng, (fun j hj => by by_cases e : j = k; (subst e; rw [HB.out]; simp [hkl.out]); (rw [List.getElem?_set_ne (fun h => e h.symm)]; exact HE.out j (by omega))), (fun j hj => by rw [List.getElem?_set_ne (by omega)]; exact HF.out j (by omega)), hbel.setCell (Nat.le_refl _) _⟩
      case measure => simp [intOf]; omega
    · obtain rfl : k = (trimmed ys).length + 1 := by omega
      obtain ⟨t, ht', ht0, ht1⟩ := hsw.get (by decide) (trimmed ys).length
      have hct := hblk.cell (trimmed ys).length (by have := hsl.out; omega)
      rw [ht'] at hct
      have HT : Hid (ss[(trimmed ys).length]?.getD 0 = t) := ht'
      clear ht'
      by_cases ht : 2147483648 ≤ t
      · replace ht : Hid _ := ht
        have hneg : (t / 2147483648 == 1) = true := by have := ht.out; rw [beq_iff_eq]; omega
        have key := complement_any true (some ⟨W.heap.size, 0, none⟩) ((trimmed ys).length + 1) ((trimmed ys).length + 1) ss wr (hblk.row hsw) (by omega) (by have := hsl.out; omega)
        rw [hsl.out] at key
        replace key : Hid _ := key
        go_wp2_with fail
        refine Calls.mono key.out ?_
        rintro e w4 ⟨cs, rfl, hblk4, hsl4, hsw4, hsv4, hb4⟩
        have key2 := number_any true (some ⟨wr.heap.size, 0, none⟩) ((trimmed ys).length + 1) cs W.heap.size w4 (hblk4.own hsw4 hbel.size) (by omega)
        rw [hsl4] at key2
        replace hsl4 : Hid _ := hsl4
        replace hsv4 : Hid _ := hsv4
        replace key2 : Hid _ := key2
        have hB4 : Below W.heap.size W w4 := bthen hbel hb4
        go_wp2_with fail
        refine Calls.mono key2.out ?_
        rintro e w5 ⟨v, rfl, ⟨neg, a, cap, ds, rfl, hr, hn, hz, hle⟩, hb5⟩
        replace hz : Hid _ := hz
        replace hn : Hid _ := hn
        have hB5 : Below W.heap.size W w5 := bthen hB4 hb5
        have k4 := keep_cell hB5 c4
        have k5 := keep_cell hB5 c5
        have g4 := keep_frozen hB5 c4 f4
        have g5 := keep_frozen hB5 c5 f5
        clear key key2
        go_wp2
        refine bodyPost_ret (v := .tuple #[.agg #[.bool neg, .slice a ds.length cap], .bool true]) (by simp [results, Tryz.results162, go_sem, k4, k5]) rfl ⟨_, ls, rs, rfl, hsw1, hsw2, hsl1.out, hsl2.out, by rw [hsv1.out, trimmed_val], by rw [hsv2.out, trimmed_val], ⟨neg, a, cap, ds, rfl, ((hr.set (by exact hlt) _).set (by exact hlt) _).mono hbW.size, hn.out, ?_, ?_⟩, ?_⟩
        · have hss := zip_end .and ls rs ss _ hsl1.out hsl2.out hsl.out (fun j hj => HE.out j hj)
          rw [hz.out, ← hss]
          have hl' : ss.length - 1 = (trimmed ys).length := by have := hsl.out; omega
          unfold signed
          rw [hl', HT.out, if_pos ht.out, hsl.out]
          simp [num, hsv4.out, comp]
        · omega
        · exact ((bthen hbW hB5).setCell (by simp; omega) _).setCell (by simp; omega) _
      · replace ht : Hid _ := ht
        have hneg : (t / 2147483648 == 1) = false := by have := ht.out; rw [beq_eq_false_iff_ne]; intro h; apply this; omega
        have key := complement_any false (some ⟨W.heap.size, 0, none⟩) ((trimmed ys).length + 1) ((trimmed ys).length + 1) ss wr (hblk.row hsw) (by omega) (by have := hsl.out; omega)
        rw [hsl.out] at key
        replace key : Hid _ := key
        go_wp2_with fail
        refine Calls.mono key.out ?_
        rintro e w4 ⟨cs, rfl, hblk4, hsl4, hsw4, hsv4, hb4⟩
        have key2 := number_any false (some ⟨wr.heap.size, 0, none⟩) ((trimmed ys).length + 1) cs W.heap.size w4 (hblk4.own hsw4 hbel.size) (by omega)
        rw [hsl4] at key2
        replace hsl4 : Hid _ := hsl4
        replace hsv4 : Hid _ := hsv4
        replace key2 : Hid _ := key2
        have hB4 : Below W.heap.size W w4 := bthen hbel hb4
        go_wp2_with fail
        refine Calls.mono key2.out ?_
        rintro e w5 ⟨v, rfl, ⟨neg, a, cap, ds, rfl, hr, hn, hz, hle⟩, hb5⟩
        replace hz : Hid _ := hz
        replace hn : Hid _ := hn
        have hB5 : Below W.heap.size W w5 := bthen hB4 hb5
        have k4 := keep_cell hB5 c4
        have k5 := keep_cell hB5 c5
        have g4 := keep_frozen hB5 c4 f4
        have g5 := keep_frozen hB5 c5 f5
        clear key key2
        go_wp2
        refine bodyPost_ret (v := .tuple #[.agg #[.bool neg, .slice a ds.length cap], .bool true]) (by simp [results, Tryz.results162, go_sem, k4, k5]) rfl ⟨_, ls, rs, rfl, hsw1, hsw2, hsl1.out, hsl2.out, by rw [hsv1.out, trimmed_val], by rw [hsv2.out, trimmed_val], ⟨neg, a, cap, ds, rfl, ((hr.set (by exact hlt) _).set (by exact hlt) _).mono hbW.size, hn.out, ?_, ?_⟩, ?_⟩
        · have hss := zip_end .and ls rs ss _ hsl1.out hsl2.out hsl.out (fun j hj => HE.out j hj)
          rw [hz.out, ← hss]
          have hl' : ss.length - 1 = (trimmed ys).length := by have := hsl.out; omega
          unfold signed
          rw [hl', HT.out, if_neg ht.out]
          simp [num, hsv4.out, comp]
        · omega
        · exact ((bthen hbW hB5).setCell (by simp; omega) _).setCell (by simp; omega) _
set_option maxRecDepth 20000 in
set_option maxHeartbeats 4000000 in
theorem Bitwise_and_ge (na nb : Bool) (x y : Option Addr) (ca cb : Nat) (xs ys : List Int) (w : World) (ha : Row w .u32 4294967296 x ca xs) (hb : Row w .u32 4294967296 y cb ys) (hl : xs.length ≤ 400000) (_hlb : ys.length ≤ 400000) (hxy : (trimmed ys).length ≤ (trimmed xs).length) :
    Calls Tryz.prog 162 #[.string ⟨#[38]⟩, .agg #[.bool na, .slice x xs.length ca], .agg #[.bool nb, .slice y ys.length cb]] w fun e w' => BitOut .and w w' e na nb xs ys ((trimmed xs).length + 1) (max xs.length ys.length + 1) := by
  have tx := trimmed_le xs
  have ty := trimmed_le ys
  have hZ : (trimmed xs).length + 1 ≤ max xs.length ys.length + 1 := by omega
  have hxy' : ((trimmed ys).length : Int) ≤ ((trimmed xs).length : Int) := by omega
  go_enter Tryz.func162, Tryz.ntmps162
  go_wp2
  obtain ⟨W, hW, hbW, hlt, c0, c1, c2, c3, c4, c5, f4, f5⟩ := boxes3 w (.bool na) (.slice x xs.length ca) (.bool nb) (.slice y ys.length cb) (.bool false) (.slice none 0 0) 28
  rw [← hW]
  clear hW
  have haW := ha.next hbW
  have hbW' := hb.next hbW
  have haD : Row W.drew .u32 4294967296 x ca xs := haW.next ((Below.refl _ _).drew)
  have hbD : Row W.drew .u32 4294967296 y cb ys := hbW'.next ((Below.refl _ _).drew)
  go_region_held3 (fun w' => w'.cell? ⟨w.heap.size, 1, none⟩ = some (.slice x xs.length ca) ∧ w'.cell? ⟨w.heap.size + 1, 1, none⟩ = some (.slice y ys.length cb)) (refine ⟨?_, ?_⟩ <;> first | assumption | exact c1 | exact c3)
    (first
      | (go_at_call_of 163 (Value.slice x xs.length ca); refine (trim_any x ca xs _ haD).mono ?_; rintro e w1 ⟨rfl, rfl⟩)
      | (go_at_call_of 163 (Value.slice y ys.length cb); refine (trim_any y cb ys _ hbD).mono ?_; rintro e w1 ⟨rfl, rfl⟩))
  go_wp2
  have hD2 : Below W.heap.size W W.drew.drew := ((Below.refl _ _).drew).drew
  have haE := (haW.next hD2).trim
  have hbE := (hbW'.next hD2).trim
  have d0 := keep_cell hD2 c0
  have d2 := keep_cell hD2 c2
  go_region_held3 (fun w' => w'.cell? ⟨w.heap.size, 0, none⟩ = some (.bool na) ∧ w'.cell? ⟨w.heap.size + 1, 0, none⟩ = some (.bool nb)) (first | exact ⟨d0, d2⟩ | exact ⟨keep_cell hB1 c0, keep_cell hB1 c2⟩ | exact ⟨keep_cell hB2 c0, keep_cell hB2 c2⟩)
    (first
      | (go_at_call_of 226 (Value.slice x (trimmed xs).length ca); refine (complement_any na x ca ((trimmed xs).length + 1) (trimmed xs) _ haE (by omega) (by omega)).mono ?_; rintro e w1 ⟨ls, rfl, hblk1, hsl1, hsw1, hsv1, hb1⟩; replace hsl1 : Hid _ := hsl1; replace hsv1 : Hid _ := hsv1; have hB1 : Below W.heap.size W w1 := bthen hD2 hb1)
      | (go_at_call_of 226 (Value.slice y (trimmed ys).length cb); refine (complement_any nb y cb ((trimmed xs).length + 1) (trimmed ys) _ (hbE.next hb1) (by omega) (by omega)).mono ?_; rintro e w2 ⟨rs, rfl, hblk2, hsl2, hsw2, hsv2, hb2⟩; replace hsl2 : Hid _ := hsl2; replace hsv2 : Hid _ := hsv2; have hB2 : Below W.heap.size W w2 := bthen hB1 hb2))
  go_wp2
  have hblkL : Blk w2 W.heap.size .u32 139 ((trimmed xs).length + 1) ls := hblk1.next hb2
  have hgl : W.heap.size < w1.heap.size := hblk1.lt
  go_loopw [40] (fun i wr => ∃ (k : Nat) (ss : List Int), k ≤ (trimmed xs).length + 1 ∧ i = .int .i64 k ∧ Blk wr W.heap.size .u32 139 ((trimmed xs).length + 1) ss ∧ Blk wr w1.heap.size .u32 139 ((trimmed xs).length + 1) rs ∧ Hid (ss.length = (trimmed xs).length + 1) ∧ Words 4294967296 ss ∧ Hid (∀ j, j < k → ss[j]?.getD 0 = bits .and .u32 (ls[j]?.getD 0) (rs[j]?.getD 0)) ∧ Hid (∀ j, k ≤ j → ss[j]?.getD 0 = ls[j]?.getD 0) ∧ Below W.heap.size W wr) (fun i _ => (trimmed xs).length + 1 - (intOf i).toNat)
  case atStart => exact ⟨0, ls, Nat.zero_le _, rfl, hblkL, hblk2, hsl1, hsw1, (fun j hj => by omega), (fun _ _ => rfl), hB2⟩
  case round =>
    obtain ⟨k, ss, hk, rfl, hblk, hblkR, hsl, hsw, HE, HF, hbel⟩ := hrel
    clear haE hbE hblkL hblk1 hblk2 hD2
    by_cases hlt2 : k < (trimmed xs).length + 1
    · obtain ⟨p, hp, hp0, hp1⟩ := hsw.get (by decide) k
      obtain ⟨q, hq, hq0, hq1⟩ := hsw2.get (by decide) k
      have hcl := hblk.cell k (by have := hsl.out; omega)
      have hcr := hblkR.cell k (by have := hsl2.out; omega)
      rw [hp] at hcl
      rw [hq] at hcr
      have hfr := hblk.frozen k
      have hrng := bits_rng .and p q
      have HB : Hid (bits .and .u32 (ls[k]?.getD 0) (rs[k]?.getD 0) = bits .and .u32 p q) := by show _ = _; rw [← HF.out k (Nat.le_refl _), hp, hq]
      have hkl : k < ss.length := by have := hsl.out; omega
      replace hkl : Hid _ := hkl
      clear hp hq
      go_wp2
      go_roundw
      case rel => exact ⟨k + 1, _, by omega, by go_num, hblk.set k _, hblkR.other _ _ (by simp; omega), (by show _ = _; rw [List.length_set]; exact hsl.out), hsw.set k hrng, (fun j hj => by by_cases e : j = k; (subst e; rw [HB.out]; simp [hkl.out]); (rw [List.getElem?_set_ne (fun h => e h.symm)]; exact HE.out j (by omega))), (fun j hj => by rw [List.getElem?_set_ne (by omega)]; exact HF.out j (by omega)), hbel.setCell (Nat.le_refl _) _⟩
      case measure => simp [intOf]; omega
    · obtain rfl : k = (trimmed xs).length + 1 := by omega
      obtain ⟨t, ht', ht0, ht1⟩ := hsw.get (by decide) (trimmed xs).length
      have hct := hblk.cell (trimmed xs).length (by have := hsl.out; omega)
      rw [ht'] at hct
      have HT : Hid (ss[(trimmed xs).length]?.getD 0 = t) := ht'
      clear ht'
      by_cases ht : 2147483648 ≤ t
      · replace ht : Hid _ := ht
        have hneg : (t / 2147483648 == 1) = true := by have := ht.out; rw [beq_iff_eq]; omega
        have key := complement_any true (some ⟨W.heap.size, 0, none⟩) ((trimmed xs).length + 1) ((trimmed xs).length + 1) ss wr (hblk.row hsw) (by omega) (by have := hsl.out; omega)
        rw [hsl.out] at key
        replace key : Hid _ := key
        go_wp2_with fail
        refine Calls.mono key.out ?_
        rintro e w4 ⟨cs, rfl, hblk4, hsl4, hsw4, hsv4, hb4⟩
        have key2 := number_any true (some ⟨wr.heap.size, 0, none⟩) ((trimmed xs).length + 1) cs W.heap.size w4 (hblk4.own hsw4 hbel.size) (by omega)
        rw [hsl4] at key2
        replace hsl4 : Hid _ := hsl4
        replace hsv4 : Hid _ := hsv4
        replace key2 : Hid _ := key2
        have hB4 : Below W.heap.size W w4 := bthen hbel hb4
        go_wp2_with fail
        refine Calls.mono key2.out ?_
        rintro e w5 ⟨v, rfl, ⟨neg, a, cap, ds, rfl, hr, hn, hz, hle⟩, hb5⟩
        replace hz : Hid _ := hz
        replace hn : Hid _ := hn
        have hB5 : Below W.heap.size W w5 := bthen hB4 hb5
        have k4 := keep_cell hB5 c4
        have k5 := keep_cell hB5 c5
        have g4 := keep_frozen hB5 c4 f4
        have g5 := keep_frozen hB5 c5 f5
        clear key key2
        go_wp2
        refine bodyPost_ret (v := .tuple #[.agg #[.bool neg, .slice a ds.length cap], .bool true]) (by simp [results, Tryz.results162, go_sem, k4, k5]) rfl ⟨_, ls, rs, rfl, hsw1, hsw2, hsl1.out, hsl2.out, by rw [hsv1.out, trimmed_val], by rw [hsv2.out, trimmed_val], ⟨neg, a, cap, ds, rfl, ((hr.set (by exact hlt) _).set (by exact hlt) _).mono hbW.size, hn.out, ?_, ?_⟩, ?_⟩
        · have hss := zip_end .and ls rs ss _ hsl1.out hsl2.out hsl.out (fun j hj => HE.out j hj)
          rw [hz.out, ← hss]
          have hl' : ss.length - 1 = (trimmed xs).length := by have := hsl.out; omega
          unfold signed
          rw [hl', HT.out, if_pos ht.out, hsl.out]
          simp [num, hsv4.out, comp]
        · omega
        · exact ((bthen hbW hB5).setCell (by simp; omega) _).setCell (by simp; omega) _
      · replace ht : Hid _ := ht
        have hneg : (t / 2147483648 == 1) = false := by have := ht.out; rw [beq_eq_false_iff_ne]; intro h; apply this; omega
        have key := complement_any false (some ⟨W.heap.size, 0, none⟩) ((trimmed xs).length + 1) ((trimmed xs).length + 1) ss wr (hblk.row hsw) (by omega) (by have := hsl.out; omega)
        rw [hsl.out] at key
        replace key : Hid _ := key
        go_wp2_with fail
        refine Calls.mono key.out ?_
        rintro e w4 ⟨cs, rfl, hblk4, hsl4, hsw4, hsv4, hb4⟩
        have key2 := number_any false (some ⟨wr.heap.size, 0, none⟩) ((trimmed xs).length + 1) cs W.heap.size w4 (hblk4.own hsw4 hbel.size) (by omega)
        rw [hsl4] at key2
        replace hsl4 : Hid _ := hsl4
        replace hsv4 : Hid _ := hsv4
        replace key2 : Hid _ := key2
        have hB4 : Below W.heap.size W w4 := bthen hbel hb4
        go_wp2_with fail
        refine Calls.mono key2.out ?_
        rintro e w5 ⟨v, rfl, ⟨neg, a, cap, ds, rfl, hr, hn, hz, hle⟩, hb5⟩
        replace hz : Hid _ := hz
        replace hn : Hid _ := hn
        have hB5 : Below W.heap.size W w5 := bthen hB4 hb5
        have k4 := keep_cell hB5 c4
        have k5 := keep_cell hB5 c5
        have g4 := keep_frozen hB5 c4 f4
        have g5 := keep_frozen hB5 c5 f5
        clear key key2
        go_wp2
        refine bodyPost_ret (v := .tuple #[.agg #[.bool neg, .slice a ds.length cap], .bool true]) (by simp [results, Tryz.results162, go_sem, k4, k5]) rfl ⟨_, ls, rs, rfl, hsw1, hsw2, hsl1.out, hsl2.out, by rw [hsv1.out, trimmed_val], by rw [hsv2.out, trimmed_val], ⟨neg, a, cap, ds, rfl, ((hr.set (by exact hlt) _).set (by exact hlt) _).mono hbW.size, hn.out, ?_, ?_⟩, ?_⟩
        · have hss := zip_end .and ls rs ss _ hsl1.out hsl2.out hsl.out (fun j hj => HE.out j hj)
          rw [hz.out, ← hss]
          have hl' : ss.length - 1 = (trimmed xs).length := by have := hsl.out; omega
          unfold signed
          rw [hl', HT.out, if_neg ht.out]
          simp [num, hsv4.out, comp]
        · omega
        · exact ((bthen hbW hB5).setCell (by simp; omega) _).setCell (by simp; omega) _
set_option maxRecDepth 20000 in
set_option maxHeartbeats 4000000 in
theorem Bitwise_or_lt (na nb : Bool) (x y : Option Addr) (ca cb : Nat) (xs ys : List Int) (w : World) (ha : Row w .u32 4294967296 x ca xs) (hb : Row w .u32 4294967296 y cb ys) (_hl : xs.length ≤ 400000) (hlb : ys.length ≤ 400000) (hxy : (trimmed xs).length < (trimmed ys).length) :
    Calls Tryz.prog 162 #[.string ⟨#[124]⟩, .agg #[.bool na, .slice x xs.length ca], .agg #[.bool nb, .slice y ys.length cb]] w fun e w' => BitOut .or w w' e na nb xs ys ((trimmed ys).length + 1) (max xs.length ys.length + 1) := by
  have tx := trimmed_le xs
  have ty := trimmed_le ys
  have hZ : (trimmed ys).length + 1 ≤ max xs.length ys.length + 1 := by omega
  have hxy' : ((trimmed xs).length : Int) < ((trimmed ys).length : Int) := by omega
  go_enter Tryz.func162, Tryz.ntmps162
  go_wp2
  obtain ⟨W, hW, hbW, hlt, c0, c1, c2, c3, c4, c5, f4, f5⟩ := boxes3 w (.bool na) (.slice x xs.length ca) (.bool nb) (.slice y ys.length cb) (.bool false) (.slice none 0 0) 28
  rw [← hW]
  clear hW
  have haW := ha.next hbW
  have hbW' := hb.next hbW
  have haD : Row W.drew .u32 4294967296 x ca xs := haW.next ((Below.refl _ _).drew)
  have hbD : Row W.drew .u32 4294967296 y cb ys := hbW'.next ((Below.refl _ _).drew)
  go_region_held3 (fun w' => w'.cell? ⟨w.heap.size, 1, none⟩ = some (.slice x xs.length ca) ∧ w'.cell? ⟨w.heap.size + 1, 1, none⟩ = some (.slice y ys.length cb)) (refine ⟨?_, ?_⟩ <;> first | assumption | exact c1 | exact c3)
    (first
      | (go_at_call_of 163 (Value.slice x xs.length ca); refine (trim_any x ca xs _ haD).mono ?_; rintro e w1 ⟨rfl, rfl⟩)
      | (go_at_call_of 163 (Value.slice y ys.length cb); refine (trim_any y cb ys _ hbD).mono ?_; rintro e w1 ⟨rfl, rfl⟩))
  go_wp2
  have hD2 : Below W.heap.size W W.drew.drew := ((Below.refl _ _).drew).drew
  have haE := (haW.next hD2).trim
  have hbE := (hbW'.next hD2).trim
  have d0 := keep_cell hD2 c0
  have d2 := keep_cell hD2 c2
  go_region_held3 (fun w' => w'.cell? ⟨w.heap.size, 0, none⟩ = some (.bool na) ∧ w'.cell? ⟨w.heap.size + 1, 0, none⟩ = some (.bool nb)) (first | exact ⟨d0, d2⟩ | exact ⟨keep_cell hB1 c0, keep_cell hB1 c2⟩ | exact ⟨keep_cell hB2 c0, keep_cell hB2 c2⟩)
    (first
      | (go_at_call_of 226 (Value.slice x (trimmed xs).length ca); refine (complement_any na x ca ((trimmed ys).length + 1) (trimmed xs) _ haE (by omega) (by omega)).mono ?_; rintro e w1 ⟨ls, rfl, hblk1, hsl1, hsw1, hsv1, hb1⟩; replace hsl1 : Hid _ := hsl1; replace hsv1 : Hid _ := hsv1; have hB1 : Below W.heap.size W w1 := bthen hD2 hb1)
      | (go_at_call_of 226 (Value.slice y (trimmed ys).length cb); refine (complement_any nb y cb ((trimmed ys).length + 1) (trimmed ys) _ (hbE.next hb1) (by omega) (by omega)).mono ?_; rintro e w2 ⟨rs, rfl, hblk2, hsl2, hsw2, hsv2, hb2⟩; replace hsl2 : Hid _ := hsl2; replace hsv2 : Hid _ := hsv2; have hB2 : Below W.heap.size W w2 := bthen hB1 hb2))
  go_wp2
  have hblkL : Blk w2 W.heap.size .u32 139 ((trimmed ys).length + 1) ls := hblk1.next hb2
  have hgl : W.heap.size < w1.heap.size := hblk1.lt
  go_loopw [40] (fun i wr => ∃ (k : Nat) (ss : List Int), k ≤ (trimmed ys).length + 1 ∧ i = .int .i64 k ∧ Blk wr W.heap.size .u32 139 ((trimmed ys).length + 1) ss ∧ Blk wr w1.heap.size .u32 139 ((trimmed ys).length + 1) rs ∧ Hid (ss.length = (trimmed ys).length + 1) ∧ Words 4294967296 ss ∧ Hid (∀ j, j < k → ss[j]?.getD 0 = bits .or .u32 (ls[j]?.getD 0) (rs[j]?.getD 0)) ∧ Hid (∀ j, k ≤ j → ss[j]?.getD 0 = ls[j]?.getD 0) ∧ Below W.heap.size W wr) (fun i _ => (trimmed ys).length + 1 - (intOf i).toNat)
  case atStart => exact ⟨0, ls, Nat.zero_le _, rfl, hblkL, hblk2, hsl1, hsw1, (fun j hj => by omega), (fun _ _ => rfl), hB2⟩
  case round =>
    obtain ⟨k, ss, hk, rfl, hblk, hblkR, hsl, hsw, HE, HF, hbel⟩ := hrel
    clear haE hbE hblkL hblk1 hblk2 hD2
    by_cases hlt2 : k < (trimmed ys).length + 1
    · obtain ⟨p, hp, hp0, hp1⟩ := hsw.get (by decide) k
      obtain ⟨q, hq, hq0, hq1⟩ := hsw2.get (by decide) k
      have hcl := hblk.cell k (by have := hsl.out; omega)
      have hcr := hblkR.cell k (by have := hsl2.out; omega)
      rw [hp] at hcl
      rw [hq] at hcr
      have hfr := hblk.frozen k
      have hrng := bits_rng .or p q
      have HB : Hid (bits .or .u32 (ls[k]?.getD 0) (rs[k]?.getD 0) = bits .or .u32 p q) := by show _ = _; rw [← HF.out k (Nat.le_refl _), hp, hq]
      have hkl : k < ss.length := by have := hsl.out; omega
      replace hkl : Hid _ := hkl
      clear hp hq
      go_wp2
      go_roundw
      case rel => exact ⟨k + 1, _, by omega, by go_num, hblk.set k _, hblkR.other _ _ (by simp; omega), (by show _ = _; rw [List.length_set]; exact hsl.out), hsw.set k hrng, (fun j hj => by by_cases e : j = k; (subst e; rw [HB.out]; simp [hkl.out]); (rw [List.getElem?_set_ne (fun h => e h.symm)]; exact HE.out j (by omega))), (fun j hj => by rw [List.getElem?_set_ne (by omega)]; exact HF.out j (by omega)), hbel.setCell (Nat.le_refl _) _⟩
      case measure => simp [intOf]; omega
    · obtain rfl : k = (trimmed ys).length + 1 := by omega
      obtain ⟨t, ht', ht0, ht1⟩ := hsw.get (by decide) (trimmed ys).length
      have hct := hblk.cell (trimmed ys).length (by have := hsl.out; omega)
      rw [ht'] at hct
      have HT : Hid (ss[(trimmed ys).length]?.getD 0 = t) := ht'
      clear ht'
      by_cases ht : 2147483648 ≤ t
      · replace ht : Hid _ := ht
        have hneg : (t / 2147483648 == 1) = true := by have := ht.out; rw [beq_iff_eq]; omega
        have key := complement_any true (some ⟨W.heap.size, 0, none⟩) ((trimmed ys).length + 1) ((trimmed ys).length + 1) ss wr (hblk.row hsw) (by omega) (by have := hsl.out; omega)
        rw [hsl.out] at key
        replace key : Hid _ := key
        go_wp2_with fail
        refine Calls.mono key.out ?_
        rintro e w4 ⟨cs, rfl, hblk4, hsl4, hsw4, hsv4, hb4⟩
        have key2 := number_any true (some ⟨wr.heap.size, 0, none⟩) ((trimmed ys).length + 1) cs W.heap.size w4 (hblk4.own hsw4 hbel.size) (by omega)
        rw [hsl4] at key2
        replace hsl4 : Hid _ := hsl4
        replace hsv4 : Hid _ := hsv4
        replace key2 : Hid _ := key2
        have hB4 : Below W.heap.size W w4 := bthen hbel hb4
        go_wp2_with fail
        refine Calls.mono key2.out ?_
        rintro e w5 ⟨v, rfl, ⟨neg, a, cap, ds, rfl, hr, hn, hz, hle⟩, hb5⟩
        replace hz : Hid _ := hz
        replace hn : Hid _ := hn
        have hB5 : Below W.heap.size W w5 := bthen hB4 hb5
        have k4 := keep_cell hB5 c4
        have k5 := keep_cell hB5 c5
        have g4 := keep_frozen hB5 c4 f4
        have g5 := keep_frozen hB5 c5 f5
        clear key key2
        go_wp2
        refine bodyPost_ret (v := .tuple #[.agg #[.bool neg, .slice a ds.length cap], .bool true]) (by simp [results, Tryz.results162, go_sem, k4, k5]) rfl ⟨_, ls, rs, rfl, hsw1, hsw2, hsl1.out, hsl2.out, by rw [hsv1.out, trimmed_val], by rw [hsv2.out, trimmed_val], ⟨neg, a, cap, ds, rfl, ((hr.set (by exact hlt) _).set (by exact hlt) _).mono hbW.size, hn.out, ?_, ?_⟩, ?_⟩
        · have hss := zip_end .or ls rs ss _ hsl1.out hsl2.out hsl.out (fun j hj => HE.out j hj)
          rw [hz.out, ← hss]
          have hl' : ss.length - 1 = (trimmed ys).length := by have := hsl.out; omega
          unfold signed
          rw [hl', HT.out, if_pos ht.out, hsl.out]
          simp [num, hsv4.out, comp]
        · omega
        · exact ((bthen hbW hB5).setCell (by simp; omega) _).setCell (by simp; omega) _
      · replace ht : Hid _ := ht
        have hneg : (t / 2147483648 == 1) = false := by have := ht.out; rw [beq_eq_false_iff_ne]; intro h; apply this; omega
        have key := complement_any false (some ⟨W.heap.size, 0, none⟩) ((trimmed ys).length + 1) ((trimmed ys).length + 1) ss wr (hblk.row hsw) (by omega) (by have := hsl.out; omega)
        rw [hsl.out] at key
        replace key : Hid _ := key
        go_wp2_with fail
        refine Calls.mono key.out ?_
        rintro e w4 ⟨cs, rfl, hblk4, hsl4, hsw4, hsv4, hb4⟩
        have key2 := number_any false (some ⟨wr.heap.size, 0, none⟩) ((trimmed ys).length + 1) cs W.heap.size w4 (hblk4.own hsw4 hbel.size) (by omega)
        rw [hsl4] at key2
        replace hsl4 : Hid _ := hsl4
        replace hsv4 : Hid _ := hsv4
        replace key2 : Hid _ := key2
        have hB4 : Below W.heap.size W w4 := bthen hbel hb4
        go_wp2_with fail
        refine Calls.mono key2.out ?_
        rintro e w5 ⟨v, rfl, ⟨neg, a, cap, ds, rfl, hr, hn, hz, hle⟩, hb5⟩
        replace hz : Hid _ := hz
        replace hn : Hid _ := hn
        have hB5 : Below W.heap.size W w5 := bthen hB4 hb5
        have k4 := keep_cell hB5 c4
        have k5 := keep_cell hB5 c5
        have g4 := keep_frozen hB5 c4 f4
        have g5 := keep_frozen hB5 c5 f5
        clear key key2
        go_wp2
        refine bodyPost_ret (v := .tuple #[.agg #[.bool neg, .slice a ds.length cap], .bool true]) (by simp [results, Tryz.results162, go_sem, k4, k5]) rfl ⟨_, ls, rs, rfl, hsw1, hsw2, hsl1.out, hsl2.out, by rw [hsv1.out, trimmed_val], by rw [hsv2.out, trimmed_val], ⟨neg, a, cap, ds, rfl, ((hr.set (by exact hlt) _).set (by exact hlt) _).mono hbW.size, hn.out, ?_, ?_⟩, ?_⟩
        · have hss := zip_end .or ls rs ss _ hsl1.out hsl2.out hsl.out (fun j hj => HE.out j hj)
          rw [hz.out, ← hss]
          have hl' : ss.length - 1 = (trimmed ys).length := by have := hsl.out; omega
          unfold signed
          rw [hl', HT.out, if_neg ht.out]
          simp [num, hsv4.out, comp]
        · omega
        · exact ((bthen hbW hB5).setCell (by simp; omega) _).setCell (by simp; omega) _
set_option maxRecDepth 20000 in
set_option maxHeartbeats 4000000 in
theorem Bitwise_or_ge (na nb : Bool) (x y : Option Addr) (ca cb : Nat) (xs ys : List Int) (w : World) (ha : Row w .u32 4294967296 x ca xs) (hb : Row w .u32 4294967296 y cb ys) (hl : xs.length ≤ 400000) (_hlb : ys.length ≤ 400000) (hxy : (trimmed ys).length ≤ (trimmed xs).length) :
    Calls Tryz.prog 162 #[.string ⟨#[124]⟩, .agg #[.bool na, .slice x xs.length ca], .agg #[.bool nb, .slice y ys.length cb]] w fun e w' => BitOut .or w w' e na nb xs ys ((trimmed xs).length + 1) (max xs.length ys.length + 1) := by
  have tx := trimmed_le xs
  have ty := trimmed_le ys
  have hZ : (trimmed xs).length + 1 ≤ max xs.length ys.length + 1 := by omega
  have hxy' : ((trimmed ys).length : Int) ≤ ((trimmed xs).length : Int) := by omega
  go_enter Tryz.func162, Tryz.ntmps162
  go_wp2
  obtain ⟨W, hW, hbW, hlt, c0, c1, c2, c3, c4, c5, f4, f5⟩ := boxes3 w (.bool na) (.slice x xs.length ca) (.bool nb) (.slice y ys.length cb) (.bool false) (.slice none 0 0) 28
  rw [← hW]
  clear hW
  have haW := ha.next hbW
  have hbW' := hb.next hbW
  have haD : Row W.drew .u32 4294967296 x ca xs := haW.next ((Below.refl _ _).drew)
  have hbD : Row W.drew .u32 4294967296 y cb ys := hbW'.next ((Below.refl _ _).drew)
  go_region_held3 (fun w' => w'.cell? ⟨w.heap.size, 1, none⟩ = some (.slice x xs.length ca) ∧ w'.cell? ⟨w.heap.size + 1, 1, none⟩ = some (.slice y ys.length cb)) (refine ⟨?_, ?_⟩ <;> first | assumption | exact c1 | exact c3)
    (first
      | (go_at_call_of 163 (Value.slice x xs.length ca); refine (trim_any x ca xs _ haD).mono ?_; rintro e w1 ⟨rfl, rfl⟩)
      | (go_at_call_of 163 (Value.slice y ys.length cb); refine (trim_any y cb ys _ hbD).mono ?_; rintro e w1 ⟨rfl, rfl⟩))
  go_wp2
  have hD2 : Below W.heap.size W W.drew.drew := ((Below.refl _ _).drew).drew
  have haE := (haW.next hD2).trim
  have hbE := (hbW'.next hD2).trim
  have d0 := keep_cell hD2 c0
  have d2 := keep_cell hD2 c2
  go_region_held3 (fun w' => w'.cell? ⟨w.heap.size, 0, none⟩ = some (.bool na) ∧ w'.cell? ⟨w.heap.size + 1, 0, none⟩ = some (.bool nb)) (first | exact ⟨d0, d2⟩ | exact ⟨keep_cell hB1 c0, keep_cell hB1 c2⟩ | exact ⟨keep_cell hB2 c0, keep_cell hB2 c2⟩)
    (first
      | (go_at_call_of 226 (Value.slice x (trimmed xs).length ca); refine (complement_any na x ca ((trimmed xs).length + 1) (trimmed xs) _ haE (by omega) (by omega)).mono ?_; rintro e w1 ⟨ls, rfl, hblk1, hsl1, hsw1, hsv1, hb1⟩; replace hsl1 : Hid _ := hsl1; replace hsv1 : Hid _ := hsv1; have hB1 : Below W.heap.size W w1 := bthen hD2 hb1)
      | (go_at_call_of 226 (Value.slice y (trimmed ys).length cb); refine (complement_any nb y cb ((trimmed xs).length + 1) (trimmed ys) _ (hbE.next hb1) (by omega) (by omega)).mono ?_; rintro e w2 ⟨rs, rfl, hblk2, hsl2, hsw2, hsv2, hb2⟩; replace hsl2 : Hid _ := hsl2; replace hsv2 : Hid _ := hsv2; have hB2 : Below W.heap.size W w2 := bthen hB1 hb2))
  go_wp2
  have hblkL : Blk w2 W.heap.size .u32 139 ((trimmed xs).length + 1) ls := hblk1.next hb2
  have hgl : W.heap.size < w1.heap.size := hblk1.lt
  go_loopw [40] (fun i wr => ∃ (k : Nat) (ss : List Int), k ≤ (trimmed xs).length + 1 ∧ i = .int .i64 k ∧ Blk wr W.heap.size .u32 139 ((trimmed xs).length + 1) ss ∧ Blk wr w1.heap.size .u32 139 ((trimmed xs).length + 1) rs ∧ Hid (ss.length = (trimmed xs).length + 1) ∧ Words 4294967296 ss ∧ Hid (∀ j, j < k → ss[j]?.getD 0 = bits .or .u32 (ls[j]?.getD 0) (rs[j]?.getD 0)) ∧ Hid (∀ j, k ≤ j → ss[j]?.getD 0 = ls[j]?.getD 0) ∧ Below W.heap.size W wr) (fun i _ => (trimmed xs).length + 1 - (intOf i).toNat)
  case atStart => exact ⟨0, ls, Nat.zero_le _, rfl, hblkL, hblk2, hsl1, hsw1, (fun j hj => by omega), (fun _ _ => rfl), hB2⟩
  case round =>
    obtain ⟨k, ss, hk, rfl, hblk, hblkR, hsl, hsw, HE, HF, hbel⟩ := hrel
    clear haE hbE hblkL hblk1 hblk2 hD2
    by_cases hlt2 : k < (trimmed xs).length + 1
    · obtain ⟨p, hp, hp0, hp1⟩ := hsw.get (by decide) k
      obtain ⟨q, hq, hq0, hq1⟩ := hsw2.get (by decide) k
      have hcl := hblk.cell k (by have := hsl.out; omega)
      have hcr := hblkR.cell k (by have := hsl2.out; omega)
      rw [hp] at hcl
      rw [hq] at hcr
      have hfr := hblk.frozen k
      have hrng := bits_rng .or p q
      have HB : Hid (bits .or .u32 (ls[k]?.getD 0) (rs[k]?.getD 0) = bits .or .u32 p q) := by show _ = _; rw [← HF.out k (Nat.le_refl _), hp, hq]
      have hkl : k < ss.length := by have := hsl.out; omega
      replace hkl : Hid _ := hkl
      clear hp hq
      go_wp2
      go_roundw
      case rel => exact ⟨k + 1, _, by omega, by go_num, hblk.set k _, hblkR.other _ _ (by simp; omega), (by show _ = _; rw [List.length_set]; exact hsl.out), hsw.set k hrng, (fun j hj => by by_cases e : j = k; (subst e; rw [HB.out]; simp [hkl.out]); (rw [List.getElem?_set_ne (fun h => e h.symm)]; exact HE.out j (by omega))), (fun j hj => by rw [List.getElem?_set_ne (by omega)]; exact HF.out j (by omega)), hbel.setCell (Nat.le_refl _) _⟩
      case measure => simp [intOf]; omega
    · obtain rfl : k = (trimmed xs).length + 1 := by omega
      obtain ⟨t, ht', ht0, ht1⟩ := hsw.get (by decide) (trimmed xs).length
      have hct := hblk.cell (trimmed xs).length (by have := hsl.out; omega)
      rw [ht'] at hct
      have HT : Hid (ss[(trimmed xs).length]?.getD 0 = t) := ht'
      clear ht'
      by_cases ht : 2147483648 ≤ t
      · replace ht : Hid _ := ht
        have hneg : (t / 2147483648 == 1) = true := by have := ht.out; rw [beq_iff_eq]; omega
        have key := complement_any true (some ⟨W.heap.size, 0, none⟩) ((trimmed xs).length + 1) ((trimmed xs).length + 1) ss wr (hblk.row hsw) (by omega) (by have := hsl.out; omega)
        rw [hsl.out] at key
        replace key : Hid _ := key
        go_wp2_with fail
        refine Calls.mono key.out ?_
        rintro e w4 ⟨cs, rfl, hblk4, hsl4, hsw4, hsv4, hb4⟩
        have key2 := number_any true (some ⟨wr.heap.size, 0, none⟩) ((trimmed xs).length + 1) cs W.heap.size w4 (hblk4.own hsw4 hbel.size) (by omega)
        rw [hsl4] at key2
        replace hsl4 : Hid _ := hsl4
        replace hsv4 : Hid _ := hsv4
        replace key2 : Hid _ := key2
        have hB4 : Below W.heap.size W w4 := bthen hbel hb4
        go_wp2_with fail
        refine Calls.mono key2.out ?_
        rintro e w5 ⟨v, rfl, ⟨neg, a, cap, ds, rfl, hr, hn, hz, hle⟩, hb5⟩
        replace hz : Hid _ := hz
        replace hn : Hid _ := hn
        have hB5 : Below W.heap.size W w5 := bthen hB4 hb5
        have k4 := keep_cell hB5 c4
        have k5 := keep_cell hB5 c5
        have g4 := keep_frozen hB5 c4 f4
        have g5 := keep_frozen hB5 c5 f5
        clear key key2
        go_wp2
        refine bodyPost_ret (v := .tuple #[.agg #[.bool neg, .slice a ds.length cap], .bool true]) (by simp [results, Tryz.results162, go_sem, k4, k5]) rfl ⟨_, ls, rs, rfl, hsw1, hsw2, hsl1.out, hsl2.out, by rw [hsv1.out, trimmed_val], by rw [hsv2.out, trimmed_val], ⟨neg, a, cap, ds, rfl, ((hr.set (by exact hlt) _).set (by exact hlt) _).mono hbW.size, hn.out, ?_, ?_⟩, ?_⟩
        · have hss := zip_end .or ls rs ss _ hsl1.out hsl2.out hsl.out (fun j hj => HE.out j hj)
          rw [hz.out, ← hss]
          have hl' : ss.length - 1 = (trimmed xs).length := by have := hsl.out; omega
          unfold signed
          rw [hl', HT.out, if_pos ht.out, hsl.out]
          simp [num, hsv4.out, comp]
        · omega
        · exact ((bthen hbW hB5).setCell (by simp; omega) _).setCell (by simp; omega) _
      · replace ht : Hid _ := ht
        have hneg : (t / 2147483648 == 1) = false := by have := ht.out; rw [beq_eq_false_iff_ne]; intro h; apply this; omega
        have key := complement_any false (some ⟨W.heap.size, 0, none⟩) ((trimmed xs).length + 1) ((trimmed xs).length + 1) ss wr (hblk.row hsw) (by omega) (by have := hsl.out; omega)
        rw [hsl.out] at key
        replace key : Hid _ := key
        go_wp2_with fail
        refine Calls.mono key.out ?_
        rintro e w4 ⟨cs, rfl, hblk4, hsl4, hsw4, hsv4, hb4⟩
        have key2 := number_any false (some ⟨wr.heap.size, 0, none⟩) ((trimmed xs).length + 1) cs W.heap.size w4 (hblk4.own hsw4 hbel.size) (by omega)
        rw [hsl4] at key2
        replace hsl4 : Hid _ := hsl4
        replace hsv4 : Hid _ := hsv4
        replace key2 : Hid _ := key2
        have hB4 : Below W.heap.size W w4 := bthen hbel hb4
        go_wp2_with fail
        refine Calls.mono key2.out ?_
        rintro e w5 ⟨v, rfl, ⟨neg, a, cap, ds, rfl, hr, hn, hz, hle⟩, hb5⟩
        replace hz : Hid _ := hz
        replace hn : Hid _ := hn
        have hB5 : Below W.heap.size W w5 := bthen hB4 hb5
        have k4 := keep_cell hB5 c4
        have k5 := keep_cell hB5 c5
        have g4 := keep_frozen hB5 c4 f4
        have g5 := keep_frozen hB5 c5 f5
        clear key key2
        go_wp2
        refine bodyPost_ret (v := .tuple #[.agg #[.bool neg, .slice a ds.length cap], .bool true]) (by simp [results, Tryz.results162, go_sem, k4, k5]) rfl ⟨_, ls, rs, rfl, hsw1, hsw2, hsl1.out, hsl2.out, by rw [hsv1.out, trimmed_val], by rw [hsv2.out, trimmed_val], ⟨neg, a, cap, ds, rfl, ((hr.set (by exact hlt) _).set (by exact hlt) _).mono hbW.size, hn.out, ?_, ?_⟩, ?_⟩
        · have hss := zip_end .or ls rs ss _ hsl1.out hsl2.out hsl.out (fun j hj => HE.out j hj)
          rw [hz.out, ← hss]
          have hl' : ss.length - 1 = (trimmed xs).length := by have := hsl.out; omega
          unfold signed
          rw [hl', HT.out, if_neg ht.out]
          simp [num, hsv4.out, comp]
        · omega
        · exact ((bthen hbW hB5).setCell (by simp; omega) _).setCell (by simp; omega) _
set_option maxRecDepth 20000 in
set_option maxHeartbeats 4000000 in
theorem Bitwise_xor_lt (na nb : Bool) (x y : Option Addr) (ca cb : Nat) (xs ys : List Int) (w : World) (ha : Row w .u32 4294967296 x ca xs) (hb : Row w .u32 4294967296 y cb ys) (_hl : xs.length ≤ 400000) (hlb : ys.length ≤ 400000) (hxy : (trimmed xs).length < (trimmed ys).length) :
    Calls Tryz.prog 162 #[.string ⟨#[94]⟩, .agg #[.bool na, .slice x xs.length ca], .agg #[.bool nb, .slice y ys.length cb]] w fun e w' => BitOut .xor w w' e na nb xs ys ((trimmed ys).length + 1) (max xs.length ys.length + 1) := by
  have tx := trimmed_le xs
  have ty := trimmed_le ys
  have hZ : (trimmed ys).length + 1 ≤ max xs.length ys.length + 1 := by omega
  have hxy' : ((trimmed xs).length : Int) < ((trimmed ys).length : Int) := by omega
  go_enter Tryz.func162, Tryz.ntmps162
  go_wp2
  obtain ⟨W, hW, hbW, hlt, c0, c1, c2, c3, c4, c5, f4, f5⟩ := boxes3 w (.bool na) (.slice x xs.length ca) (.bool nb) (.slice y ys.length cb) (.bool false) (.slice none 0 0) 28
  rw [← hW]
  clear hW
  have haW := ha.next hbW
  have hbW' := hb.next hbW
  have haD : Row W.drew .u32 4294967296 x ca xs := haW.next ((Below.refl _ _).drew)
  have hbD : Row W.drew .u32 4294967296 y cb ys := hbW'.next ((Below.refl _ _).drew)
  go_region_held3 (fun w' => w'.cell? ⟨w.heap.size, 1, none⟩ = some (.slice x xs.length ca) ∧ w'.cell? ⟨w.heap.size + 1, 1, none⟩ = some (.slice y ys.length cb)) (refine ⟨?_, ?_⟩ <;> first | assumption | exact c1 | exact c3)
    (first
      | (go_at_call_of 163 (Value.slice x xs.length ca); refine (trim_any x ca xs _ haD).mono ?_; rintro e w1 ⟨rfl, rfl⟩)
      | (go_at_call_of 163 (Value.slice y ys.length cb); refine (trim_any y cb ys _ hbD).mono ?_; rintro e w1 ⟨rfl, rfl⟩))
  go_wp2
  have hD2 : Below W.heap.size W W.drew.drew := ((Below.refl _ _).drew).drew
  have haE := (haW.next hD2).trim
  have hbE := (hbW'.next hD2).trim
  have d0 := keep_cell hD2 c0
  have d2 := keep_cell hD2 c2
  go_region_held3 (fun w' => w'.cell? ⟨w.heap.size, 0, none⟩ = some (.bool na) ∧ w'.cell? ⟨w.heap.size + 1, 0, none⟩ = some (.bool nb)) (first | exact ⟨d0, d2⟩ | exact ⟨keep_cell hB1 c0, keep_cell hB1 c2⟩ | exact ⟨keep_cell hB2 c0, keep_cell hB2 c2⟩)
    (first
      | (go_at_call_of 226 (Value.slice x (trimmed xs).length ca); refine (complement_any na x ca ((trimmed ys).length + 1) (trimmed xs) _ haE (by omega) (by omega)).mono ?_; rintro e w1 ⟨ls, rfl, hblk1, hsl1, hsw1, hsv1, hb1⟩; replace hsl1 : Hid _ := hsl1; replace hsv1 : Hid _ := hsv1; have hB1 : Below W.heap.size W w1 := bthen hD2 hb1)
      | (go_at_call_of 226 (Value.slice y (trimmed ys).length cb); refine (complement_any nb y cb ((trimmed ys).length + 1) (trimmed ys) _ (hbE.next hb1) (by omega) (by omega)).mono ?_; rintro e w2 ⟨rs, rfl, hblk2, hsl2, hsw2, hsv2, hb2⟩; replace hsl2 : Hid _ := hsl2; replace hsv2 : Hid _ := hsv2; have hB2 : Below W.heap.size W w2 := bthen hB1 hb2))
  go_wp2
  have hblkL : Blk w2 W.heap.size .u32 139 ((trimmed ys).length + 1) ls := hblk1.next hb2
  have hgl : W.heap.size < w1.heap.size := hblk1.lt
  go_loopw [40] (fun i wr => ∃ (k : Nat) (ss : List Int), k ≤ (trimmed ys).length + 1 ∧ i = .int .i64 k ∧ Blk wr W.heap.size .u32 139 ((trimmed ys).length + 1) ss ∧ Blk wr w1.heap.size .u32 139 ((trimmed ys).length + 1) rs ∧ Hid (ss.length = (trimmed ys).length + 1) ∧ Words 4294967296 ss ∧ Hid (∀ j, j < k → ss[j]?.getD 0 = bits .xor .u32 (ls[j]?.getD 0) (rs[j]?.getD 0)) ∧ Hid (∀ j, k ≤ j → ss[j]?.getD 0 = ls[j]?.getD 0) ∧ Below W.heap.size W wr) (fun i _ => (trimmed ys).length + 1 - (intOf i).toNat)
  case atStart => exact ⟨0, ls, Nat.zero_le _, rfl, hblkL, hblk2, hsl1, hsw1, (fun j hj => by omega), (fun _ _ => rfl), hB2⟩
  case round =>
    obtain ⟨k, ss, hk, rfl, hblk, hblkR, hsl, hsw, HE, HF, hbel⟩ := hrel
    clear haE hbE hblkL hblk1 hblk2 hD2
    by_cases hlt2 : k < (trimmed ys).length + 1
    · obtain ⟨p, hp, hp0, hp1⟩ := hsw.get (by decide) k
      obtain ⟨q, hq, hq0, hq1⟩ := hsw2.get (by decide) k
      have hcl := hblk.cell k (by have := hsl.out; omega)
      have hcr := hblkR.cell k (by have := hsl2.out; omega)
      rw [hp] at hcl
      rw [hq] at hcr
      have hfr := hblk.frozen k
      have hrng := bits_rng .xor p q
      have HB : Hid (bits .xor .u32 (ls[k]?.getD 0) (rs[k]?.getD 0) = bits .xor .u32 p q) := by show _ = _; rw [← HF.out k (Nat.le_refl _), hp, hq]
      have hkl : k < ss.length := by have := hsl.out; omega
      replace hkl : Hid _ := hkl
      clear hp hq
      go_wp2
      go_roundw
      case rel => exact ⟨k + 1, _, by omega, by go_num, hblk.set k _, hblkR.other _ _ (by simp; omega), (by show _ = _; rw [List.length_set]; exact hsl.out), hsw.set k hrng, (fun j hj => by by_cases e : j = k; (subst e; rw [HB.out]; simp [hkl.out]); (rw [List.getElem?_set_ne (fun h => e h.symm)]; exact HE.out j (by omega))), (fun j hj => by rw [List.getElem?_set_ne (by omega)]; exact HF.out j (by omega)), hbel.setCell (Nat.le_refl _) _⟩
      case measure => simp [intOf]; omega
    · obtain rfl : k = (trimmed ys).length + 1 := by omega
      obtain ⟨t, ht', ht0, ht1⟩ := hsw.get (by decide) (trimmed ys).length
      have hct := hblk.cell (trimmed ys).length (by have := hsl.out; omega)
      rw [ht'] at hct
      have HT : Hid (ss[(trimmed ys).length]?.getD 0 = t) := ht'
      clear ht'
      by_cases ht : 2147483648 ≤ t
      · replace ht : Hid _ := ht
        have hneg : (t / 2147483648 == 1) = true := by have := ht.out; rw [beq_iff_eq]; omega
        have key := complement_any true (some ⟨W.heap.size, 0, none⟩) ((trimmed ys).length + 1) ((trimmed ys).length + 1) ss wr (hblk.row hsw) (by omega) (by have := hsl.out; omega)
        rw [hsl.out] at key
        replace key : Hid _ := key
        go_wp2_with fail
        refine Calls.mono key.out ?_
        rintro e w4 ⟨cs, rfl, hblk4, hsl4, hsw4, hsv4, hb4⟩
        have key2 := number_any true (some ⟨wr.heap.size, 0, none⟩) ((trimmed ys).length + 1) cs W.heap.size w4 (hblk4.own hsw4 hbel.size) (by omega)
        rw [hsl4] at key2
        replace hsl4 : Hid _ := hsl4
        replace hsv4 : Hid _ := hsv4
        replace key2 : Hid _ := key2
        have hB4 : Below W.heap.size W w4 := bthen hbel hb4
        go_wp2_with fail
        refine Calls.mono key2.out ?_
        rintro e w5 ⟨v, rfl, ⟨neg, a, cap, ds, rfl, hr, hn, hz, hle⟩, hb5⟩
        replace hz : Hid _ := hz
        replace hn : Hid _ := hn
        have hB5 : Below W.heap.size W w5 := bthen hB4 hb5
        have k4 := keep_cell hB5 c4
        have k5 := keep_cell hB5 c5
        have g4 := keep_frozen hB5 c4 f4
        have g5 := keep_frozen hB5 c5 f5
        clear key key2
        go_wp2
        refine bodyPost_ret (v := .tuple #[.agg #[.bool neg, .slice a ds.length cap], .bool true]) (by simp [results, Tryz.results162, go_sem, k4, k5]) rfl ⟨_, ls, rs, rfl, hsw1, hsw2, hsl1.out, hsl2.out, by rw [hsv1.out, trimmed_val], by rw [hsv2.out, trimmed_val], ⟨neg, a, cap, ds, rfl, ((hr.set (by exact hlt) _).set (by exact hlt) _).mono hbW.size, hn.out, ?_, ?_⟩, ?_⟩
        · have hss := zip_end .xor ls rs ss _ hsl1.out hsl2.out hsl.out (fun j hj => HE.out j hj)
          rw [hz.out, ← hss]
          have hl' : ss.length - 1 = (trimmed ys).length := by have := hsl.out; omega
          unfold signed
          rw [hl', HT.out, if_pos ht.out, hsl.out]
          simp [num, hsv4.out, comp]
        · omega
        · exact ((bthen hbW hB5).setCell (by simp; omega) _).setCell (by simp; omega) _
      · replace ht : Hid _ := ht
        have hneg : (t / 2147483648 == 1) = false := by have := ht.out; rw [beq_eq_false_iff_ne]; intro h; apply this; omega
        have key := complement_any false (some ⟨W.heap.size, 0, none⟩) ((trimmed ys).length + 1) ((trimmed ys).length + 1) ss wr (hblk.row hsw) (by omega) (by have := hsl.out; omega)
        rw [hsl.out] at key
        replace key : Hid _ := key
        go_wp2_with fail
        refine Calls.mono key.out ?_
        rintro e w4 ⟨cs, rfl, hblk4, hsl4, hsw4, hsv4, hb4⟩
        have key2 := number_any false (some ⟨wr.heap.size, 0, none⟩) ((trimmed ys).length + 1) cs W.heap.size w4 (hblk4.own hsw4 hbel.size) (by omega)
        rw [hsl4] at key2
        replace hsl4 : Hid _ := hsl4
        replace hsv4 : Hid _ := hsv4
        replace key2 : Hid _ := key2
        have hB4 : Below W.heap.size W w4 := bthen hbel hb4
        go_wp2_with fail
        refine Calls.mono key2.out ?_
        rintro e w5 ⟨v, rfl, ⟨neg, a, cap, ds, rfl, hr, hn, hz, hle⟩, hb5⟩
        replace hz : Hid _ := hz
        replace hn : Hid _ := hn
        have hB5 : Below W.heap.size W w5 := bthen hB4 hb5
        have k4 := keep_cell hB5 c4
        have k5 := keep_cell hB5 c5
        have g4 := keep_frozen hB5 c4 f4
        have g5 := keep_frozen hB5 c5 f5
        clear key key2
        go_wp2
        refine bodyPost_ret (v := .tuple #[.agg #[.bool neg, .slice a ds.length cap], .bool true]) (by simp [results, Tryz.results162, go_sem, k4, k5]) rfl ⟨_, ls, rs, rfl, hsw1, hsw2, hsl1.out, hsl2.out, by rw [hsv1.out, trimmed_val], by rw [hsv2.out, trimmed_val], ⟨neg, a, cap, ds, rfl, ((hr.set (by exact hlt) _).set (by exact hlt) _).mono hbW.size, hn.out, ?_, ?_⟩, ?_⟩
        · have hss := zip_end .xor ls rs ss _ hsl1.out hsl2.out hsl.out (fun j hj => HE.out j hj)
          rw [hz.out, ← hss]
          have hl' : ss.length - 1 = (trimmed ys).length := by have := hsl.out; omega
          unfold signed
          rw [hl', HT.out, if_neg ht.out]
          simp [num, hsv4.out, comp]
        · omega
        · exact ((bthen hbW hB5).setCell (by simp; omega) _).setCell (by simp; omega) _
set_option maxRecDepth 20000 in
set_option maxHeartbeats 4000000 in
theorem Bitwise_xor_ge (na nb : Bool) (x y : Option Addr) (ca cb : Nat) (xs ys : List Int) (w : World) (ha : Row w .u32 4294967296 x ca xs) (hb : Row w .u32 4294967296 y cb ys) (hl : xs.length ≤ 400000) (_hlb : ys.length ≤ 400000) (hxy : (trimmed ys).length ≤ (trimmed xs).length) :
    Calls Tryz.prog 162 #[.string ⟨#[94]⟩, .agg #[.bool na, .slice x xs.length ca], .agg #[.bool nb, .slice y ys.length cb]] w fun e w' => BitOut .xor w w' e na nb xs ys ((trimmed xs).length + 1) (max xs.length ys.length + 1) := by
  have tx := trimmed_le xs
  have ty := trimmed_le ys
  have hZ : (trimmed xs).length + 1 ≤ max xs.length ys.length + 1 := by omega
  have hxy' : ((trimmed ys).length : Int) ≤ ((trimmed xs).length : Int) := by omega
  go_enter Tryz.func162, Tryz.ntmps162
  go_wp2
  obtain ⟨W, hW, hbW, hlt, c0, c1, c2, c3, c4, c5, f4, f5⟩ := boxes3 w (.bool na) (.slice x xs.length ca) (.bool nb) (.slice y ys.length cb) (.bool false) (.slice none 0 0) 28
  rw [← hW]
  clear hW
  have haW := ha.next hbW
  have hbW' := hb.next hbW
  have haD : Row W.drew .u32 4294967296 x ca xs := haW.next ((Below.refl _ _).drew)
  have hbD : Row W.drew .u32 4294967296 y cb ys := hbW'.next ((Below.refl _ _).drew)
  go_region_held3 (fun w' => w'.cell? ⟨w.heap.size, 1, none⟩ = some (.slice x xs.length ca) ∧ w'.cell? ⟨w.heap.size + 1, 1, none⟩ = some (.slice y ys.length cb)) (refine ⟨?_, ?_⟩ <;> first | assumption | exact c1 | exact c3)
    (first
      | (go_at_call_of 163 (Value.slice x xs.length ca); refine (trim_any x ca xs _ haD).mono ?_; rintro e w1 ⟨rfl, rfl⟩)
      | (go_at_call_of 163 (Value.slice y ys.length cb); refine (trim_any y cb ys _ hbD).mono ?_; rintro e w1 ⟨rfl, rfl⟩))
  go_wp2
  have hD2 : Below W.heap.size W W.drew.drew := ((Below.refl _ _).drew).drew
  have haE := (haW.next hD2).trim
  have hbE := (hbW'.next hD2).trim
  have d0 := keep_cell hD2 c0
  have d2 := keep_cell hD2 c2
  go_region_held3 (fun w' => w'.cell? ⟨w.heap.size, 0, none⟩ = some (.bool na) ∧ w'.cell? ⟨w.heap.size + 1, 0, none⟩ = some (.bool nb)) (first | exact ⟨d0, d2⟩ | exact ⟨keep_cell hB1 c0, keep_cell hB1 c2⟩ | exact ⟨keep_cell hB2 c0, keep_cell hB2 c2⟩)
    (first
      | (go_at_call_of 226 (Value.slice x (trimmed xs).length ca); refine (complement_any na x ca ((trimmed xs).length + 1) (trimmed xs) _ haE (by omega) (by omega)).mono ?_; rintro e w1 ⟨ls, rfl, hblk1, hsl1, hsw1, hsv1, hb1⟩; replace hsl1 : Hid _ := hsl1; replace hsv1 : Hid _ := hsv1; have hB1 : Below W.heap.size W w1 := bthen hD2 hb1)
      | (go_at_call_of 226 (Value.slice y (trimmed ys).length cb); refine (complement_any nb y cb ((trimmed xs).length + 1) (trimmed ys) _ (hbE.next hb1) (by omega) (by omega)).mono ?_; rintro e w2 ⟨rs, rfl, hblk2, hsl2, hsw2, hsv2, hb2⟩; replace hsl2 : Hid _ := hsl2; replace hsv2 : Hid _ := hsv2; have hB2 : Below W.heap.size W w2 := bthen hB1 hb2))
  go_wp2
  have hblkL : Blk w2 W.heap.size .u32 139 ((trimmed xs).length + 1) ls := hblk1.next hb2
  have hgl : W.heap.size < w1.heap.size := hblk1.lt
  go_loopw [40] (fun i wr => ∃ (k : Nat) (ss : List Int), k ≤ (trimmed xs).length + 1 ∧ i = .int .i64 k ∧ Blk wr W.heap.size .u32 139 ((trimmed xs).length + 1) ss ∧ Blk wr w1.heap.size .u32 139 ((trimmed xs).length + 1) rs ∧ Hid (ss.length = (trimmed xs).length + 1) ∧ Words 4294967296 ss ∧ Hid (∀ j, j < k → ss[j]?.getD 0 = bits .xor .u32 (ls[j]?.getD 0) (rs[j]?.getD 0)) ∧ Hid (∀ j, k ≤ j → ss[j]?.getD 0 = ls[j]?.getD 0) ∧ Below W.heap.size W wr) (fun i _ => (trimmed xs).length + 1 - (intOf i).toNat)
  case atStart => exact ⟨0, ls, Nat.zero_le _, rfl, hblkL, hblk2, hsl1, hsw1, (fun j hj => by omega), (fun _ _ => rfl), hB2⟩
  case round =>
    obtain ⟨k, ss, hk, rfl, hblk, hblkR, hsl, hsw, HE, HF, hbel⟩ := hrel
    clear haE hbE hblkL hblk1 hblk2 hD2
    by_cases hlt2 : k < (trimmed xs).length + 1
    · obtain ⟨p, hp, hp0, hp1⟩ := hsw.get (by decide) k
      obtain ⟨q, hq, hq0, hq1⟩ := hsw2.get (by decide) k
      have hcl := hblk.cell k (by have := hsl.out; omega)
      have hcr := hblkR.cell k (by have := hsl2.out; omega)
      rw [hp] at hcl
      rw [hq] at hcr
      have hfr := hblk.frozen k
      have hrng := bits_rng .xor p q
      have HB : Hid (bits .xor .u32 (ls[k]?.getD 0) (rs[k]?.getD 0) = bits .xor .u32 p q) := by show _ = _; rw [← HF.out k (Nat.le_refl _), hp, hq]
      have hkl : k < ss.length := by have := hsl.out; omega
      replace hkl : Hid _ := hkl
      clear hp hq
      go_wp2
      go_roundw
      case rel => exact ⟨k + 1, _, by omega, by go_num, hblk.set k _, hblkR.other _ _ (by simp; omega), (by show _ = _; rw [List.length_set]; exact hsl.out), hsw.set k hrng, (fun j hj => by by_cases e : j = k; (subst e; rw [HB.out]; simp [hkl.out]); (rw [List.getElem?_set_ne (fun h => e h.symm)]; exact HE.out j (by omega))), (fun j hj => by rw [List.getElem?_set_ne (by omega)]; exact HF.out j (by omega)), hbel.setCell (Nat.le_refl _) _⟩
      case measure => simp [intOf]; omega
    · obtain rfl : k = (trimmed xs).length + 1 := by omega
      obtain ⟨t, ht', ht0, ht1⟩ := hsw.get (by decide) (trimmed xs).length
      have hct := hblk.cell (trimmed xs).length (by have := hsl.out; omega)
      rw [ht'] at hct
      have HT : Hid (ss[(trimmed xs).length]?.getD 0 = t) := ht'
      clear ht'
      by_cases ht : 2147483648 ≤ t
      · replace ht : Hid _ := ht
        have hneg : (t / 2147483648 == 1) = true := by have := ht.out; rw [beq_iff_eq]; omega
        have key := complement_any true (some ⟨W.heap.size, 0, none⟩) ((trimmed xs).length + 1) ((trimmed xs).length + 1) ss wr (hblk.row hsw) (by omega) (by have := hsl.out; omega)
        rw [hsl.out] at key
        replace key : Hid _ := key
        go_wp2_with fail
        refine Calls.mono key.out ?_
        rintro e w4 ⟨cs, rfl, hblk4, hsl4, hsw4, hsv4, hb4⟩
        have key2 := number_any true (some ⟨wr.heap.size, 0, none⟩) ((trimmed xs).length + 1) cs W.heap.size w4 (hblk4.own hsw4 hbel.size) (by omega)
        rw [hsl4] at key2
        replace hsl4 : Hid _ := hsl4
        replace hsv4 : Hid _ := hsv4
        replace key2 : Hid _ := key2
        have hB4 : Below W.heap.size W w4 := bthen hbel hb4
        go_wp2_with fail
        refine Calls.mono key2.out ?_
        rintro e w5 ⟨v, rfl, ⟨neg, a, cap, ds, rfl, hr, hn, hz, hle⟩, hb5⟩
        replace hz : Hid _ := hz
        replace hn : Hid _ := hn
        have hB5 : Below W.heap.size W w5 := bthen hB4 hb5
        have k4 := keep_cell hB5 c4
        have k5 := keep_cell hB5 c5
        have g4 := keep_frozen hB5 c4 f4
        have g5 := keep_frozen hB5 c5 f5
        clear key key2
        go_wp2
        refine bodyPost_ret (v := .tuple #[.agg #[.bool neg, .slice a ds.length cap], .bool true]) (by simp [results, Tryz.results162, go_sem, k4, k5]) rfl ⟨_, ls, rs, rfl, hsw1, hsw2, hsl1.out, hsl2.out, by rw [hsv1.out, trimmed_val], by rw [hsv2.out, trimmed_val], ⟨neg, a, cap, ds, rfl, ((hr.set (by exact hlt) _).set (by exact hlt) _).mono hbW.size, hn.out, ?_, ?_⟩, ?_⟩
        · have hss := zip_end .xor ls rs ss _ hsl1.out hsl2.out hsl.out (fun j hj => HE.out j hj)
          rw [hz.out, ← hss]
          have hl' : ss.length - 1 = (trimmed xs).length := by have := hsl.out; omega
          unfold signed
          rw [hl', HT.out, if_pos ht.out, hsl.out]
          simp [num, hsv4.out, comp]
        · omega
        · exact ((bthen hbW hB5).setCell (by simp; omega) _).setCell (by simp; omega) _
      · replace ht : Hid _ := ht
        have hneg : (t / 2147483648 == 1) = false := by have := ht.out; rw [beq_eq_false_iff_ne]; intro h; apply this; omega
        have key := complement_any false (some ⟨W.heap.size, 0, none⟩) ((trimmed xs).length + 1) ((trimmed xs).length + 1) ss wr (hblk.row hsw) (by omega) (by have := hsl.out; omega)
        rw [hsl.out] at key
        replace key : Hid _ := key
        go_wp2_with fail
        refine Calls.mono key.out ?_
        rintro e w4 ⟨cs, rfl, hblk4, hsl4, hsw4, hsv4, hb4⟩
        have key2 := number_any false (some ⟨wr.heap.size, 0, none⟩) ((trimmed xs).length + 1) cs W.heap.size w4 (hblk4.own hsw4 hbel.size) (by omega)
        rw [hsl4] at key2
        replace hsl4 : Hid _ := hsl4
        replace hsv4 : Hid _ := hsv4
        replace key2 : Hid _ := key2
        have hB4 : Below W.heap.size W w4 := bthen hbel hb4
        go_wp2_with fail
        refine Calls.mono key2.out ?_
        rintro e w5 ⟨v, rfl, ⟨neg, a, cap, ds, rfl, hr, hn, hz, hle⟩, hb5⟩
        replace hz : Hid _ := hz
        replace hn : Hid _ := hn
        have hB5 : Below W.heap.size W w5 := bthen hB4 hb5
        have k4 := keep_cell hB5 c4
        have k5 := keep_cell hB5 c5
        have g4 := keep_frozen hB5 c4 f4
        have g5 := keep_frozen hB5 c5 f5
        clear key key2
        go_wp2
        refine bodyPost_ret (v := .tuple #[.agg #[.bool neg, .slice a ds.length cap], .bool true]) (by simp [results, Tryz.results162, go_sem, k4, k5]) rfl ⟨_, ls, rs, rfl, hsw1, hsw2, hsl1.out, hsl2.out, by rw [hsv1.out, trimmed_val], by rw [hsv2.out, trimmed_val], ⟨neg, a, cap, ds, rfl, ((hr.set (by exact hlt) _).set (by exact hlt) _).mono hbW.size, hn.out, ?_, ?_⟩, ?_⟩
        · have hss := zip_end .xor ls rs ss _ hsl1.out hsl2.out hsl.out (fun j hj => HE.out j hj)
          rw [hz.out, ← hss]
          have hl' : ss.length - 1 = (trimmed xs).length := by have := hsl.out; omega
          unfold signed
          rw [hl', HT.out, if_neg ht.out]
          simp [num, hsv4.out, comp]
        · omega
        · exact ((bthen hbW hB5).setCell (by simp; omega) _).setCell (by simp; omega) _
set_option maxRecDepth 20000 in
set_option maxHeartbeats 4000000 in
theorem Bitwise_not_lt (na nb : Bool) (x y : Option Addr) (ca cb : Nat) (xs ys : List Int) (w : World) (ha : Row w .u32 4294967296 x ca xs) (hb : Row w .u32 4294967296 y cb ys) (_hl : xs.length ≤ 400000) (hlb : ys.length ≤ 400000) (hxy : (trimmed xs).length < (trimmed ys).length) :
    Calls Tryz.prog 162 #[.string ⟨#[38, 94]⟩, .agg #[.bool na, .slice x xs.length ca], .agg #[.bool nb, .slice y ys.length cb]] w fun e w' => BitOut .andNot w w' e na nb xs ys ((trimmed ys).length + 1) (max xs.length ys.length + 1) := by
  have tx := trimmed_le xs
  have ty := trimmed_le ys
  have hZ : (trimmed ys).length + 1 ≤ max xs.length ys.length + 1 := by omega
  have hxy' : ((trimmed xs).length : Int) < ((trimmed ys).length : Int) := by omega
  go_enter Tryz.func162, Tryz.ntmps162
  go_wp2
  obtain ⟨W, hW, hbW, hlt, c0, c1, c2, c3, c4, c5, f4, f5⟩ := boxes3 w (.bool na) (.slice x xs.length ca) (.bool nb) (.slice y ys.length cb) (.bool false) (.slice none 0 0) 28
  rw [← hW]
  clear hW
  have haW := ha.next hbW
  have hbW' := hb.next hbW
  have haD : Row W.drew .u32 4294967296 x ca xs := haW.next ((Below.refl _ _).drew)
  have hbD : Row W.drew .u32 4294967296 y cb ys := hbW'.next ((Below.refl _ _).drew)
  go_region_held3 (fun w' => w'.cell? ⟨w.heap.size, 1, none⟩ = some (.slice x xs.length ca) ∧ w'.cell? ⟨w.heap.size + 1, 1, none⟩ = some (.slice y ys.length cb)) (refine ⟨?_, ?_⟩ <;> first | assumption | exact c1 | exact c3)
    (first
      | (go_at_call_of 163 (Value.slice x xs.length ca); refine (trim_any x ca xs _ haD).mono ?_; rintro e w1 ⟨rfl, rfl⟩)
      | (go_at_call_of 163 (Value.slice y ys.length cb); refine (trim_any y cb ys _ hbD).mono ?_; rintro e w1 ⟨rfl, rfl⟩))
  go_wp2
  have hD2 : Below W.heap.size W W.drew.drew := ((Below.refl _ _).drew).drew
  have haE := (haW.next hD2).trim
  have hbE := (hbW'.next hD2).trim
  have d0 := keep_cell hD2 c0
  have d2 := keep_cell hD2 c2
  go_region_held3 (fun w' => w'.cell? ⟨w.heap.size, 0, none⟩ = some (.bool na) ∧ w'.cell? ⟨w.heap.size + 1, 0, none⟩ = some (.bool nb)) (first | exact ⟨d0, d2⟩ | exact ⟨keep_cell hB1 c0, keep_cell hB1 c2⟩ | exact ⟨keep_cell hB2 c0, keep_cell hB2 c2⟩)
    (first
      | (go_at_call_of 226 (Value.slice x (trimmed xs).length ca); refine (complement_any na x ca ((trimmed ys).length + 1) (trimmed xs) _ haE (by omega) (by omega)).mono ?_; rintro e w1 ⟨ls, rfl, hblk1, hsl1, hsw1, hsv1, hb1⟩; replace hsl1 : Hid _ := hsl1; replace hsv1 : Hid _ := hsv1; have hB1 : Below W.heap.size W w1 := bthen hD2 hb1)
      | (go_at_call_of 226 (Value.slice y (trimmed ys).length cb); refine (complement_any nb y cb ((trimmed ys).length + 1) (trimmed ys) _ (hbE.next hb1) (by omega) (by omega)).mono ?_; rintro e w2 ⟨rs, rfl, hblk2, hsl2, hsw2, hsv2, hb2⟩; replace hsl2 : Hid _ := hsl2; replace hsv2 : Hid _ := hsv2; have hB2 : Below W.heap.size W w2 := bthen hB1 hb2))
  go_wp2
  have hblkL : Blk w2 W.heap.size .u32 139 ((trimmed ys).length + 1) ls := hblk1.next hb2
  have hgl : W.heap.size < w1.heap.size := hblk1.lt
  go_loopw [40] (fun i wr => ∃ (k : Nat) (ss : List Int), k ≤ (trimmed ys).length + 1 ∧ i = .int .i64 k ∧ Blk wr W.heap.size .u32 139 ((trimmed ys).length + 1) ss ∧ Blk wr w1.heap.size .u32 139 ((trimmed ys).length + 1) rs ∧ Hid (ss.length = (trimmed ys).length + 1) ∧ Words 4294967296 ss ∧ Hid (∀ j, j < k → ss[j]?.getD 0 = bits .andNot .u32 (ls[j]?.getD 0) (rs[j]?.getD 0)) ∧ Hid (∀ j, k ≤ j → ss[j]?.getD 0 = ls[j]?.getD 0) ∧ Below W.heap.size W wr) (fun i _ => (trimmed ys).length + 1 - (intOf i).toNat)
  case atStart => exact ⟨0, ls, Nat.zero_le _, rfl, hblkL, hblk2, hsl1, hsw1, (fun j hj => by omega), (fun _ _ => rfl), hB2⟩
  case round =>
    obtain ⟨k, ss, hk, rfl, hblk, hblkR, hsl, hsw, HE, HF, hbel⟩ := hrel
    clear haE hbE hblkL hblk1 hblk2 hD2
    by_cases hlt2 : k < (trimmed ys).length + 1
    · obtain ⟨p, hp, hp0, hp1⟩ := hsw.get (by decide) k
      obtain ⟨q, hq, hq0, hq1⟩ := hsw2.get (by decide) k
      have hcl := hblk.cell k (by have := hsl.out; omega)
      have hcr := hblkR.cell k (by have := hsl2.out; omega)
      rw [hp] at hcl
      rw [hq] at hcr
      have hfr := hblk.frozen k
      have hrng := bits_rng .andNot p q
      have HB : Hid (bits .andNot .u32 (ls[k]?.getD 0) (rs[k]?.getD 0) = bits .andNot .u32 p q) := by show _ = _; rw [← HF.out k (Nat.le_refl _), hp, hq]
      have hkl : k < ss.length := by have := hsl.out; omega
      replace hkl : Hid _ := hkl
      clear hp hq
      go_wp2
      go_roundw
      case rel => exact ⟨k + 1, _, by omega, by go_num, hblk.set k _, hblkR.other _ _ (by simp; omega), (by show _ = _; rw [List.length_set]; exact hsl.out), hsw.set k hrng, (fun j hj => by by_cases e : j = k; (subst e; rw [HB.out]; simp [hkl.out]); (rw [List.getElem?_set_ne (fun h => e h.symm)]; exact HE.out j (by omega))), (fun j hj => by rw [List.getElem?_set_ne (by omega)]; exact HF.out j (by omega)), hbel.setCell (Nat.le_refl _) _⟩
      case measure => simp [intOf]; omega
    · obtain rfl : k = (trimmed ys).length + 1 := by omega
      obtain ⟨t, ht', ht0, ht1⟩ := hsw.get (by decide) (trimmed ys).length
      have hct := hblk.cell (trimmed ys).length (by have := hsl.out; omega)
      rw [ht'] at hct
      have HT : Hid (ss[(trimmed ys).length]?.getD 0 = t) := ht'
      clear ht'
      by_cases ht : 2147483648 ≤ t
      · replace ht : Hid _ := ht
        have hneg : (t / 2147483648 == 1) = true := by have := ht.out; rw [beq_iff_eq]; omega
        have key := complement_any true (some ⟨W.heap.size, 0, none⟩) ((trimmed ys).length + 1) ((trimmed ys).length + 1) ss wr (hblk.row hsw) (by omega) (by have := hsl.out; omega)
        rw [hsl.out] at key
        replace key : Hid _ := key
        go_wp2_with fail
        refine Calls.mono key.out ?_
        rintro e w4 ⟨cs, rfl, hblk4, hsl4, hsw4, hsv4, hb4⟩
        have key2 := number_any true (some ⟨wr.heap.size, 0, none⟩) ((trimmed ys).length + 1) cs W.heap.size w4 (hblk4.own hsw4 hbel.size) (by omega)
        rw [hsl4] at key2
        replace hsl4 : Hid _ := hsl4
        replace hsv4 : Hid _ := hsv4
        replace key2 : Hid _ := key2
        have hB4 : Below W.heap.size W w4 := bthen hbel hb4
        go_wp2_with fail
        refine Calls.mono key2.out ?_
        rintro e w5 ⟨v, rfl, ⟨neg, a, cap, ds, rfl, hr, hn, hz, hle⟩, hb5⟩
        replace hz : Hid _ := hz
        replace hn : Hid _ := hn
        have hB5 : Below W.heap.size W w5 := bthen hB4 hb5
        have k4 := keep_cell hB5 c4
        have k5 := keep_cell hB5 c5
        have g4 := keep_frozen hB5 c4 f4
        have g5 := keep_frozen hB5 c5 f5
        clear key key2
        go_wp2
        refine bodyPost_ret (v := .tuple #[.agg #[.bool neg, .slice a ds.length cap], .bool true]) (by simp [results, Tryz.results162, go_sem, k4, k5]) rfl ⟨_, ls, rs, rfl, hsw1, hsw2, hsl1.out, hsl2.out, by rw [hsv1.out, trimmed_val], by rw [hsv2.out, trimmed_val], ⟨neg, a, cap, ds, rfl, ((hr.set (by exact hlt) _).set (by exact hlt) _).mono hbW.size, hn.out, ?_, ?_⟩, ?_⟩
        · have hss := zip_end .andNot ls rs ss _ hsl1.out hsl2.out hsl.out (fun j hj => HE.out j hj)
          rw [hz.out, ← hss]
          have hl' : ss.length - 1 = (trimmed ys).length := by have := hsl.out; omega
          unfold signed
          rw [hl', HT.out, if_pos ht.out, hsl.out]
          simp [num, hsv4.out, comp]
        · omega
        · exact ((bthen hbW hB5).setCell (by simp; omega) _).setCell (by simp; omega) _
      · replace ht : Hid _ := ht
        have hneg : (t / 2147483648 == 1) = false := by have := ht.out; rw [beq_eq_false_iff_ne]; intro h; apply this; omega
        have key := complement_any false (some ⟨W.heap.size, 0, none⟩) ((trimmed ys).length + 1) ((trimmed ys).length + 1) ss wr (hblk.row hsw) (by omega) (by have := hsl.out; omega)
        rw [hsl.out] at key
        replace key : Hid _ := key
        go_wp2_with fail
        refine Calls.mono key.out ?_
        rintro e w4 ⟨cs, rfl, hblk4, hsl4, hsw4, hsv4, hb4⟩
        have key2 := number_any false (some ⟨wr.heap.size, 0, none⟩) ((trimmed ys).length + 1) cs W.heap.size w4 (hblk4.own hsw4 hbel.size) (by omega)
        rw [hsl4] at key2
        replace hsl4 : Hid _ := hsl4
        replace hsv4 : Hid _ := hsv4
        replace key2 : Hid _ := key2
        have hB4 : Below W.heap.size W w4 := bthen hbel hb4
        go_wp2_with fail
        refine Calls.mono key2.out ?_
        rintro e w5 ⟨v, rfl, ⟨neg, a, cap, ds, rfl, hr, hn, hz, hle⟩, hb5⟩
        replace hz : Hid _ := hz
        replace hn : Hid _ := hn
        have hB5 : Below W.heap.size W w5 := bthen hB4 hb5
        have k4 := keep_cell hB5 c4
        have k5 := keep_cell hB5 c5
        have g4 := keep_frozen hB5 c4 f4
        have g5 := keep_frozen hB5 c5 f5
        clear key key2
        go_wp2
        refine bodyPost_ret (v := .tuple #[.agg #[.bool neg, .slice a ds.length cap], .bool true]) (by simp [results, Tryz.results162, go_sem, k4, k5]) rfl ⟨_, ls, rs, rfl, hsw1, hsw2, hsl1.out, hsl2.out, by rw [hsv1.out, trimmed_val], by rw [hsv2.out, trimmed_val], ⟨neg, a, cap, ds, rfl, ((hr.set (by exact hlt) _).set (by exact hlt) _).mono hbW.size, hn.out, ?_, ?_⟩, ?_⟩
        · have hss := zip_end .andNot ls rs ss _ hsl1.out hsl2.out hsl.out (fun j hj => HE.out j hj)
          rw [hz.out, ← hss]
          have hl' : ss.length - 1 = (trimmed ys).length := by have := hsl.out; omega
          unfold signed
          rw [hl', HT.out, if_neg ht.out]
          simp [num, hsv4.out, comp]
        · omega
        · exact ((bthen hbW hB5).setCell (by simp; omega) _).setCell (by simp; omega) _
set_option maxRecDepth 20000 in
set_option maxHeartbeats 4000000 in
theorem Bitwise_not_ge (na nb : Bool) (x y : Option Addr) (ca cb : Nat) (xs ys : List Int) (w : World) (ha : Row w .u32 4294967296 x ca xs) (hb : Row w .u32 4294967296 y cb ys) (hl : xs.length ≤ 400000) (_hlb : ys.length ≤ 400000) (hxy : (trimmed ys).length ≤ (trimmed xs).length) :
    Calls Tryz.prog 162 #[.string ⟨#[38, 94]⟩, .agg #[.bool na, .slice x xs.length ca], .agg #[.bool nb, .slice y ys.length cb]] w fun e w' => BitOut .andNot w w' e na nb xs ys ((trimmed xs).length + 1) (max xs.length ys.length + 1) := by
  have tx := trimmed_le xs
  have ty := trimmed_le ys
  have hZ : (trimmed xs).length + 1 ≤ max xs.length ys.length + 1 := by omega
  have hxy' : ((trimmed ys).length : Int) ≤ ((trimmed xs).length : Int) := by omega
  go_enter Tryz.func162, Tryz.ntmps162
  go_wp2
  obtain ⟨W, hW, hbW, hlt, c0, c1, c2, c3, c4, c5, f4, f5⟩ := boxes3 w (.bool na) (.slice x xs.length ca) (.bool nb) (.slice y ys.length cb) (.bool false) (.slice none 0 0) 28
  rw [← hW]
  clear hW
  have haW := ha.next hbW
  have hbW' := hb.next hbW
  have haD : Row W.drew .u32 4294967296 x ca xs := haW.next ((Below.refl _ _).drew)
  have hbD : Row W.drew .u32 4294967296 y cb ys := hbW'.next ((Below.refl _ _).drew)
  go_region_held3 (fun w' => w'.cell? ⟨w.heap.size, 1, none⟩ = some (.slice x xs.length ca) ∧ w'.cell? ⟨w.heap.size + 1, 1, none⟩ = some (.slice y ys.length cb)) (refine ⟨?_, ?_⟩ <;> first | assumption | exact c1 | exact c3)
    (first
      | (go_at_call_of 163 (Value.slice x xs.length ca); refine (trim_any x ca xs _ haD).mono ?_; rintro e w1 ⟨rfl, rfl⟩)
      | (go_at_call_of 163 (Value.slice y ys.length cb); refine (trim_any y cb ys _ hbD).mono ?_; rintro e w1 ⟨rfl, rfl⟩))
  go_wp2
  have hD2 : Below W.heap.size W W.drew.drew := ((Below.refl _ _).drew).drew
  have haE := (haW.next hD2).trim
  have hbE := (hbW'.next hD2).trim
  have d0 := keep_cell hD2 c0
  have d2 := keep_cell hD2 c2
  go_region_held3 (fun w' => w'.cell? ⟨w.heap.size, 0, none⟩ = some (.bool na) ∧ w'.cell? ⟨w.heap.size + 1, 0, none⟩ = some (.bool nb)) (first | exact ⟨d0, d2⟩ | exact ⟨keep_cell hB1 c0, keep_cell hB1 c2⟩ | exact ⟨keep_cell hB2 c0, keep_cell hB2 c2⟩)
    (first
      | (go_at_call_of 226 (Value.slice x (trimmed xs).length ca); refine (complement_any na x ca ((trimmed xs).length + 1) (trimmed xs) _ haE (by omega) (by omega)).mono ?_; rintro e w1 ⟨ls, rfl, hblk1, hsl1, hsw1, hsv1, hb1⟩; replace hsl1 : Hid _ := hsl1; replace hsv1 : Hid _ := hsv1; have hB1 : Below W.heap.size W w1 := bthen hD2 hb1)
      | (go_at_call_of 226 (Value.slice y (trimmed ys).length cb); refine (complement_any nb y cb ((trimmed xs).length + 1) (trimmed ys) _ (hbE.next hb1) (by omega) (by omega)).mono ?_; rintro e w2 ⟨rs, rfl, hblk2, hsl2, hsw2, hsv2, hb2⟩; replace hsl2 : Hid _ := hsl2; replace hsv2 : Hid _ := hsv2; have hB2 : Below W.heap.size W w2 := bthen hB1 hb2))
  go_wp2
  have hblkL : Blk w2 W.heap.size .u32 139 ((trimmed xs).length + 1) ls := hblk1.next hb2
  have hgl : W.heap.size < w1.heap.size := hblk1.lt
  go_loopw [40] (fun i wr => ∃ (k : Nat) (ss : List Int), k ≤ (trimmed xs).length + 1 ∧ i = .int .i64 k ∧ Blk wr W.heap.size .u32 139 ((trimmed xs).length + 1) ss ∧ Blk wr w1.heap.size .u32 139 ((trimmed xs).length + 1) rs ∧ Hid (ss.length = (trimmed xs).length + 1) ∧ Words 4294967296 ss ∧ Hid (∀ j, j < k → ss[j]?.getD 0 = bits .andNot .u32 (ls[j]?.getD 0) (rs[j]?.getD 0)) ∧ Hid (∀ j, k ≤ j → ss[j]?.getD 0 = ls[j]?.getD 0) ∧ Below W.heap.size W wr) (fun i _ => (trimmed xs).length + 1 - (intOf i).toNat)
  case atStart => exact ⟨0, ls, Nat.zero_le _, rfl, hblkL, hblk2, hsl1, hsw1, (fun j hj => by omega), (fun _ _ => rfl), hB2⟩
  case round =>
    obtain ⟨k, ss, hk, rfl, hblk, hblkR, hsl, hsw, HE, HF, hbel⟩ := hrel
    clear haE hbE hblkL hblk1 hblk2 hD2
    by_cases hlt2 : k < (trimmed xs).length + 1
    · obtain ⟨p, hp, hp0, hp1⟩ := hsw.get (by decide) k
      obtain ⟨q, hq, hq0, hq1⟩ := hsw2.get (by decide) k
      have hcl := hblk.cell k (by have := hsl.out; omega)
      have hcr := hblkR.cell k (by have := hsl2.out; omega)
      rw [hp] at hcl
      rw [hq] at hcr
      have hfr := hblk.frozen k
      have hrng := bits_rng .andNot p q
      have HB : Hid (bits .andNot .u32 (ls[k]?.getD 0) (rs[k]?.getD 0) = bits .andNot .u32 p q) := by show _ = _; rw [← HF.out k (Nat.le_refl _), hp, hq]
      have hkl : k < ss.length := by have := hsl.out; omega
      replace hkl : Hid _ := hkl
      clear hp hq
      go_wp2
      go_roundw
      case rel => exact ⟨k + 1, _, by omega, by go_num, hblk.set k _, hblkR.other _ _ (by simp; omega), (by show _ = _; rw [List.length_set]; exact hsl.out), hsw.set k hrng, (fun j hj => by by_cases e : j = k; (subst e; rw [HB.out]; simp [hkl.out]); (rw [List.getElem?_set_ne (fun h => e h.symm)]; exact HE.out j (by omega))), (fun j hj => by rw [List.getElem?_set_ne (by omega)]; exact HF.out j (by omega)), hbel.setCell (Nat.le_refl _) _⟩
      case measure => simp [intOf]; omega
    · obtain rfl : k = (trimmed xs).length + 1 := by omega
      obtain ⟨t, ht', ht0, ht1⟩ := hsw.get (by decide) (trimmed xs).length
      have hct := hblk.cell (trimmed xs).length (by have := hsl.out; omega)
      rw [ht'] at hct
      have HT : Hid (ss[(trimmed xs).length]?.getD 0 = t) := ht'
      clear ht'
      by_cases ht : 2147483648 ≤ t
      · replace ht : Hid _ := ht
        have hneg : (t / 2147483648 == 1) = true := by have := ht.out; rw [beq_iff_eq]; omega
        have key := complement_any true (some ⟨W.heap.size, 0, none⟩) ((trimmed xs).length + 1) ((trimmed xs).length + 1) ss wr (hblk.row hsw) (by omega) (by have := hsl.out; omega)
        rw [hsl.out] at key
        replace key : Hid _ := key
        go_wp2_with fail
        refine Calls.mono key.out ?_
        rintro e w4 ⟨cs, rfl, hblk4, hsl4, hsw4, hsv4, hb4⟩
        have key2 := number_any true (some ⟨wr.heap.size, 0, none⟩) ((trimmed xs).length + 1) cs W.heap.size w4 (hblk4.own hsw4 hbel.size) (by omega)
        rw [hsl4] at key2
        replace hsl4 : Hid _ := hsl4
        replace hsv4 : Hid _ := hsv4
        replace key2 : Hid _ := key2
        have hB4 : Below W.heap.size W w4 := bthen hbel hb4
        go_wp2_with fail
        refine Calls.mono key2.out ?_
        rintro e w5 ⟨v, rfl, ⟨neg, a, cap, ds, rfl, hr, hn, hz, hle⟩, hb5⟩
        replace hz : Hid _ := hz
        replace hn : Hid _ := hn
        have hB5 : Below W.heap.size W w5 := bthen hB4 hb5
        have k4 := keep_cell hB5 c4
        have k5 := keep_cell hB5 c5
        have g4 := keep_frozen hB5 c4 f4
        have g5 := keep_frozen hB5 c5 f5
        clear key key2
        go_wp2
        refine bodyPost_ret (v := .tuple #[.agg #[.bool neg, .slice a ds.length cap], .bool true]) (by simp [results, Tryz.results162, go_sem, k4, k5]) rfl ⟨_, ls, rs, rfl, hsw1, hsw2, hsl1.out, hsl2.out, by rw [hsv1.out, trimmed_val], by rw [hsv2.out, trimmed_val], ⟨neg, a, cap, ds, rfl, ((hr.set (by exact hlt) _).set (by exact hlt) _).mono hbW.size, hn.out, ?_, ?_⟩, ?_⟩
        · have hss := zip_end .andNot ls rs ss _ hsl1.out hsl2.out hsl.out (fun j hj => HE.out j hj)
          rw [hz.out, ← hss]
          have hl' : ss.length - 1 = (trimmed xs).length := by have := hsl.out; omega
          unfold signed
          rw [hl', HT.out, if_pos ht.out, hsl.out]
          simp [num, hsv4.out, comp]
        · omega
        · exact ((bthen hbW hB5).setCell (by simp; omega) _).setCell (by simp; omega) _
      · replace ht : Hid _ := ht
        have hneg : (t / 2147483648 == 1) = false := by have := ht.out; rw [beq_eq_false_iff_ne]; intro h; apply this; omega
        have key := complement_any false (some ⟨W.heap.size, 0, none⟩) ((trimmed xs).length + 1) ((trimmed xs).length + 1) ss wr (hblk.row hsw) (by omega) (by have := hsl.out; omega)
        rw [hsl.out] at key
        replace key : Hid _ := key
        go_wp2_with fail
        refine Calls.mono key.out ?_
        rintro e w4 ⟨cs, rfl, hblk4, hsl4, hsw4, hsv4, hb4⟩
        have key2 := number_any false (some ⟨wr.heap.size, 0, none⟩) ((trimmed xs).length + 1) cs W.heap.size w4 (hblk4.own hsw4 hbel.size) (by omega)
        rw [hsl4] at key2
        replace hsl4 : Hid _ := hsl4
        replace hsv4 : Hid _ := hsv4
        replace key2 : Hid _ := key2
        have hB4 : Below W.heap.size W w4 := bthen hbel hb4
        go_wp2_with fail
        refine Calls.mono key2.out ?_
        rintro e w5 ⟨v, rfl, ⟨neg, a, cap, ds, rfl, hr, hn, hz, hle⟩, hb5⟩
        replace hz : Hid _ := hz
        replace hn : Hid _ := hn
        have hB5 : Below W.heap.size W w5 := bthen hB4 hb5
        have k4 := keep_cell hB5 c4
        have k5 := keep_cell hB5 c5
        have g4 := keep_frozen hB5 c4 f4
        have g5 := keep_frozen hB5 c5 f5
        clear key key2
        go_wp2
        refine bodyPost_ret (v := .tuple #[.agg #[.bool neg, .slice a ds.length cap], .bool true]) (by simp [results, Tryz.results162, go_sem, k4, k5]) rfl ⟨_, ls, rs, rfl, hsw1, hsw2, hsl1.out, hsl2.out, by rw [hsv1.out, trimmed_val], by rw [hsv2.out, trimmed_val], ⟨neg, a, cap, ds, rfl, ((hr.set (by exact hlt) _).set (by exact hlt) _).mono hbW.size, hn.out, ?_, ?_⟩, ?_⟩
        · have hss := zip_end .andNot ls rs ss _ hsl1.out hsl2.out hsl.out (fun j hj => HE.out j hj)
          rw [hz.out, ← hss]
          have hl' : ss.length - 1 = (trimmed xs).length := by have := hsl.out; omega
          unfold signed
          rw [hl', HT.out, if_neg ht.out]
          simp [num, hsv4.out, comp]
        · omega
        · exact ((bthen hbW hB5).setCell (by simp; omega) _).setCell (by simp; omega) _
end Go.Proofs.YtclokcoimdjaeaaGreatDoor
