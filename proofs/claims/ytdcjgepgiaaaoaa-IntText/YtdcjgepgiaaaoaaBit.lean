/- The contract of Bitwise. -/
import Derived.Test.YtdcjgepgiaaaoaaCom
namespace Go.Proofs.Ytdcjgepgiaaaoaa
open Go.RowKit
attribute [local go_sem ↓] Go.wp_at_zero Go.wp_at_succ
/-- What the bits of two rows, word by word, are. -/
def zipB (o : BinOp) (ls rs : List Int) : List Int := List.zipWith (fun a b => bits o .u32 a b) ls rs
/-- A row as a two's complement. -/
def signed (ws : List Int) : Int := if 2147483648 ≤ ws[ws.length - 1]?.getD 0 then - ((- val 4294967296 ws) % 4294967296 ^ ws.length) else val 4294967296 ws
theorem zipB_len (o : BinOp) (ls rs : List Int) (h : ls.length = rs.length) : (zipB o ls rs).length = ls.length := by simp [zipB, h]
theorem zipB_words (o : BinOp) (ls rs : List Int) : Words 4294967296 (zipB o ls rs) := by
  induction ls generalizing rs with
  | nil => exact Words.nil _
  | cons a ls ih =>
    cases rs with
    | nil => exact Words.nil _
    | cons b rs => exact Words.cons (bits_rng _ _ _) (ih rs)
/-- After k words. -/
theorem zip_end (o : BinOp) (ls rs ss : List Int) (n : Nat) (h1 : ls.length = n) (h2 : rs.length = n) (h3 : ss.length = n) (h : ∀ j, j < n → ss[j]?.getD 0 = bits o .u32 (ls[j]?.getD 0) (rs[j]?.getD 0)) : ss = zipB o ls rs := by
  apply List.ext_getElem?
  intro i
  by_cases hi : i < n
  · have := h i hi
    rw [List.getElem?_eq_getElem (by omega), List.getElem?_eq_getElem (by omega), List.getElem?_eq_getElem (by omega)] at this
    simp only [Option.getD_some] at this
    rw [List.getElem?_eq_getElem (by omega), this]
    simp [zipB, h1, h2, hi]
  · rw [List.getElem?_eq_none (by omega), List.getElem?_eq_none (by rw [zipB_len _ _ _ (by omega)]; omega)]
/-- What Bitwise answers. -/
def BitOut (o : BinOp) (w w' : World) (e : Ending) (na nb : Bool) (xs ys : List Int) (size n : Nat) : Prop :=
  ∃ v ls rs, e = .returned (.tuple #[v, .bool true]) ∧ Words 4294967296 ls ∧ Words 4294967296 rs ∧ ls.length = size ∧ rs.length = size ∧ val 4294967296 ls = comp 4294967296 na (val 4294967296 xs) size ∧ val 4294967296 rs = comp 4294967296 nb (val 4294967296 ys) size ∧ Out w' w.heap.size v (signed (zipB o ls rs)) n ∧ Below w.heap.size w w'
set_option maxRecDepth 20000 in
set_option maxHeartbeats 4000000 in
theorem Bitwise_and_lt (na nb : Bool) (x y : Option Addr) (ca cb : Nat) (xs ys : List Int) (w : World) (ha : Row w .u32 4294967296 x ca xs) (hb : Row w .u32 4294967296 y cb ys) (_hl : xs.length ≤ 400000) (hlb : ys.length ≤ 400000) (hxy : (trimmed xs).length < (trimmed ys).length) :
    Calls Try.prog 27 #[.string ⟨#[38]⟩, .agg #[.bool na, .slice x xs.length ca], .agg #[.bool nb, .slice y ys.length cb]] w fun e w' => BitOut .and w w' e na nb xs ys ((trimmed ys).length + 1) (max xs.length ys.length + 1) := by
  have tx := trimmed_le xs
  have ty := trimmed_le ys
  have hZ : (trimmed ys).length + 1 ≤ max xs.length ys.length + 1 := by omega
  have hxy' : ((trimmed xs).length : Int) < ((trimmed ys).length : Int) := by omega
  go_enter Try.func27, Try.ntmps27
  go_wp2
  obtain ⟨W, hW, hbW, hlt, c0, c1, c2, c3, c4, c5, f4, f5⟩ := boxes3 w (.bool na) (.slice x xs.length ca) (.bool nb) (.slice y ys.length cb) (.bool false) (.slice none 0 0) 24
  rw [← hW]
  clear hW
  have haW := ha.next hbW
  have hbW' := hb.next hbW
  have haD : Row W.drew .u32 4294967296 x ca xs := haW.next ((Below.refl _ _).drew)
  have hbD : Row W.drew .u32 4294967296 y cb ys := hbW'.next ((Below.refl _ _).drew)
  go_region_held3 (fun w' => w'.cell? ⟨w.heap.size, 1, none⟩ = some (.slice x xs.length ca) ∧ w'.cell? ⟨w.heap.size + 1, 1, none⟩ = some (.slice y ys.length cb)) (refine ⟨?_, ?_⟩ <;> first | assumption | exact c1 | exact c3)
    (first
      | (go_at_call_of 46 (Value.slice x xs.length ca); refine (trim_any x ca xs _ haD).mono ?_; rintro e w1 ⟨rfl, rfl⟩)
      | (go_at_call_of 46 (Value.slice y ys.length cb); refine (trim_any y cb ys _ hbD).mono ?_; rintro e w1 ⟨rfl, rfl⟩))
  go_wp2
  have hD2 : Below W.heap.size W W.drew.drew := ((Below.refl _ _).drew).drew
  have haE := (haW.next hD2).trim
  have hbE := (hbW'.next hD2).trim
  have d0 := keep_cell hD2 c0
  have d2 := keep_cell hD2 c2
  go_region_held3 (fun w' => w'.cell? ⟨w.heap.size, 0, none⟩ = some (.bool na) ∧ w'.cell? ⟨w.heap.size + 1, 0, none⟩ = some (.bool nb)) (first | exact ⟨d0, d2⟩ | exact ⟨keep_cell hB1 c0, keep_cell hB1 c2⟩ | exact ⟨keep_cell hB2 c0, keep_cell hB2 c2⟩)
    (first
      | (go_at_call_of 56 (Value.slice x (trimmed xs).length ca); refine (complement_any na x ca ((trimmed ys).length + 1) (trimmed xs) _ haE (by omega) (by omega)).mono ?_; rintro e w1 ⟨ls, rfl, hblk1, hsl1, hsw1, hsv1, hb1⟩; replace hsl1 : Hid _ := hsl1; replace hsv1 : Hid _ := hsv1; have hB1 : Below W.heap.size W w1 := bthen hD2 hb1)
      | (go_at_call_of 56 (Value.slice y (trimmed ys).length cb); refine (complement_any nb y cb ((trimmed ys).length + 1) (trimmed ys) _ (hbE.next hb1) (by omega) (by omega)).mono ?_; rintro e w2 ⟨rs, rfl, hblk2, hsl2, hsw2, hsv2, hb2⟩; replace hsl2 : Hid _ := hsl2; replace hsv2 : Hid _ := hsv2; have hB2 : Below W.heap.size W w2 := bthen hB1 hb2))
  go_wp2
  have hblkL : Blk w2 W.heap.size .u32 61 ((trimmed ys).length + 1) ls := hblk1.next hb2
  have hgl : W.heap.size < w1.heap.size := hblk1.lt
  go_loopw [40] (fun i wr => ∃ (k : Nat) (ss : List Int), k ≤ (trimmed ys).length + 1 ∧ i = .int .i64 k ∧ Blk wr W.heap.size .u32 61 ((trimmed ys).length + 1) ss ∧ Blk wr w1.heap.size .u32 61 ((trimmed ys).length + 1) rs ∧ Hid (ss.length = (trimmed ys).length + 1) ∧ Words 4294967296 ss ∧ Hid (∀ j, j < k → ss[j]?.getD 0 = bits .and .u32 (ls[j]?.getD 0) (rs[j]?.getD 0)) ∧ Hid (∀ j, k ≤ j → ss[j]?.getD 0 = ls[j]?.getD 0) ∧ Below W.heap.size W wr) (fun i _ => (trimmed ys).length + 1 - (intOf i).toNat)
  case atStart => exact ⟨0, ls, Nat.zero_le _, rfl, hblkL, hblk2, hsl1, hsw1, (fun j hj => by omega), (fun _ _ => rfl), hB2⟩
  case round =>
    obtain ⟨k, ss, hk, rfl, hblk, hblkR, hsl, hsw, HE, HF, hbel⟩ := hrel
    clear haE hbE hblkL hblk1 hblk2 hD2
    by_cases hlt2 : k < (trimmed ys).length + 1
    · obtain ⟨p, hp, hp0, hp1⟩ := hsw.get (by decide) k
      obtain ⟨q, hq, hq0, hq1⟩ := hsw2.get (by decide) k
      have hcl := hblk.cell k (by have := hsl.out; omega)
      have hcr := hblkR.cell k (by have := hsl2.out; omega)
      rw [hp] at hcl
      rw [hq] at hcr
      have hfr := hblk.frozen k
      have hrng := bits_rng .and p q
      have HB : Hid (bits .and .u32 (ls[k]?.getD 0) (rs[k]?.getD 0) = bits .and .u32 p q) := by show _ = _; rw [← HF.out k (Nat.le_refl _), hp, hq]
      have hkl : k < ss.length := by have := hsl.out; omega
      replace hkl : Hid _ := hkl
      clear hp hq
      go_wp2
      go_roundw
      case rel => exact ⟨k + 1, _, by omega, by go_num, hblk.set k _, hblkR.other _ _ (by simp; omega), (by show _ = _; rw [List.length_set]; exact hsl.out), hsw.set k hrng, (fun j hj => by by_cases e : j = k; (subst e; rw [HB.out]; simp [hkl.out]); (rw [List.getElem?_set_ne (fun h => e h.symm)]; exact HE.out j (by omega))), (fun j hj => by rw [List.getElem?_set_ne (by omega)]; exact HF.out j (by omega)), hbel.setCell (Nat.le_refl _) _⟩
      case measure => simp [intOf]; omega
    · obtain rfl : k = (trimmed ys).length + 1 := by omega
      obtain ⟨t, ht', ht0, ht1⟩ := hsw.get (by decide) (trimmed ys).length
      have hct := hblk.cell (trimmed ys).length (by have := hsl.out; omega)
      rw [ht'] at hct
      have HT : Hid (ss[(trimmed ys).length]?.getD 0 = t) := ht'
      clear ht'
      by_cases ht : 2147483648 ≤ t
      · replace ht : Hid _ := ht
        have hneg : (t / 2147483648 == 1) = true := by have := ht.out; rw [beq_iff_eq]; omega
        have key := complement_any true (some ⟨W.heap.size, 0, none⟩) ((trimmed ys).length + 1) ((trimmed ys).length + 1) ss wr (hblk.row hsw) (by omega) (by have := hsl.out; omega)
        rw [hsl.out] at key
        replace key : Hid _ := key
        go_wp2_with fail
        refine Calls.mono key.out ?_
        rintro e w4 ⟨cs, rfl, hblk4, hsl4, hsw4, hsv4, hb4⟩
        have key2 := number_any true (some ⟨wr.heap.size, 0, none⟩) ((trimmed ys).length + 1) cs W.heap.size w4 (hblk4.own hsw4 hbel.size) (by omega)
        rw [hsl4] at key2
        replace hsl4 : Hid _ := hsl4
        replace hsv4 : Hid _ := hsv4
        replace key2 : Hid _ := key2
        have hB4 : Below W.heap.size W w4 := bthen hbel hb4
        go_wp2_with fail
        refine Calls.mono key2.out ?_
        rintro e w5 ⟨v, rfl, ⟨neg, a, cap, ds, rfl, hr, hn, hz, hle⟩, hb5⟩
        replace hz : Hid _ := hz
        replace hn : Hid _ := hn
        have hB5 : Below W.heap.size W w5 := bthen hB4 hb5
        have k4 := keep_cell hB5 c4
        have k5 := keep_cell hB5 c5
        have g4 := keep_frozen hB5 c4 f4
        have g5 := keep_frozen hB5 c5 f5
        clear key key2
        go_wp2
        refine bodyPost_ret (v := .tuple #[.agg #[.bool neg, .slice a ds.length cap], .bool true]) (by simp [results, Try.results27, go_sem, k4, k5]) rfl ⟨_, ls, rs, rfl, hsw1, hsw2, hsl1.out, hsl2.out, by rw [hsv1.out, trimmed_val], by rw [hsv2.out, trimmed_val], ⟨neg, a, cap, ds, rfl, ((hr.set (by exact hlt) _).set (by exact hlt) _).mono hbW.size, hn.out, ?_, ?_⟩, ?_⟩
        · have hss := zip_end .and ls rs ss _ hsl1.out hsl2.out hsl.out (fun j hj => HE.out j hj)
          rw [hz.out, ← hss]
          have hl' : ss.length - 1 = (trimmed ys).length := by have := hsl.out; omega
          unfold signed
          rw [hl', HT.out, if_pos ht.out, hsl.out]
          simp [num, hsv4.out, comp]
        · omega
        · exact ((bthen hbW hB5).setCell (by simp; omega) _).setCell (by simp; omega) _
      · replace ht : Hid _ := ht
        have hneg : (t / 2147483648 == 1) = false := by have := ht.out; rw [beq_eq_false_iff_ne]; intro h; apply this; omega
        have key := complement_any false (some ⟨W.heap.size, 0, none⟩) ((trimmed ys).length + 1) ((trimmed ys).length + 1) ss wr (hblk.row hsw) (by omega) (by have := hsl.out; omega)
        rw [hsl.out] at key
        replace key : Hid _ := key
        go_wp2_with fail
        refine Calls.mono key.out ?_
        rintro e w4 ⟨cs, rfl, hblk4, hsl4, hsw4, hsv4, hb4⟩
        have key2 := number_any false (some ⟨wr.heap.size, 0, none⟩) ((trimmed ys).length + 1) cs W.heap.size w4 (hblk4.own hsw4 hbel.size) (by omega)
        rw [hsl4] at key2
        replace hsl4 : Hid _ := hsl4
        replace hsv4 : Hid _ := hsv4
        replace key2 : Hid _ := key2
        have hB4 : Below W.heap.size W w4 := bthen hbel hb4
        go_wp2_with fail
        refine Calls.mono key2.out ?_
        rintro e w5 ⟨v, rfl, ⟨neg, a, cap, ds, rfl, hr, hn, hz, hle⟩, hb5⟩
        replace hz : Hid _ := hz
        replace hn : Hid _ := hn
        have hB5 : Below W.heap.size W w5 := bthen hB4 hb5
        have k4 := keep_cell hB5 c4
        have k5 := keep_cell hB5 c5
        have g4 := keep_frozen hB5 c4 f4
        have g5 := keep_frozen hB5 c5 f5
        clear key key2
        go_wp2
        refine bodyPost_ret (v := .tuple #[.agg #[.bool neg, .slice a ds.length cap], .bool true]) (by simp [results, Try.results27, go_sem, k4, k5]) rfl ⟨_, ls, rs, rfl, hsw1, hsw2, hsl1.out, hsl2.out, by rw [hsv1.out, trimmed_val], by rw [hsv2.out, trimmed_val], ⟨neg, a, cap, ds, rfl, ((hr.set (by exact hlt) _).set (by exact hlt) _).mono hbW.size, hn.out, ?_, ?_⟩, ?_⟩
        · have hss := zip_end .and ls rs ss _ hsl1.out hsl2.out hsl.out (fun j hj => HE.out j hj)
          rw [hz.out, ← hss]
          have hl' : ss.length - 1 = (trimmed ys).length := by have := hsl.out; omega
          unfold signed
          rw [hl', HT.out, if_neg ht.out]
          simp [num, hsv4.out, comp]
        · omega
        · exact ((bthen hbW hB5).setCell (by simp; omega) _).setCell (by simp; omega) _
set_option maxRecDepth 20000 in
set_option maxHeartbeats 4000000 in
theorem Bitwise_and_ge (na nb : Bool) (x y : Option Addr) (ca cb : Nat) (xs ys : List Int) (w : World) (ha : Row w .u32 4294967296 x ca xs) (hb : Row w .u32 4294967296 y cb ys) (hl : xs.length ≤ 400000) (_hlb : ys.length ≤ 400000) (hxy : (trimmed ys).length ≤ (trimmed xs).length) :
    Calls Try.prog 27 #[.string ⟨#[38]⟩, .agg #[.bool na, .slice x xs.length ca], .agg #[.bool nb, .slice y ys.length cb]] w fun e w' => BitOut .and w w' e na nb xs ys ((trimmed xs).length + 1) (max xs.length ys.length + 1) := by
  have tx := trimmed_le xs
  have ty := trimmed_le ys
  have hZ : (trimmed xs).length + 1 ≤ max xs.length ys.length + 1 := by omega
  have hxy' : ((trimmed ys).length : Int) ≤ ((trimmed xs).length : Int) := by omega
  go_enter Try.func27, Try.ntmps27
  go_wp2
  obtain ⟨W, hW, hbW, hlt, c0, c1, c2, c3, c4, c5, f4, f5⟩ := boxes3 w (.bool na) (.slice x xs.length ca) (.bool nb) (.slice y ys.length cb) (.bool false) (.slice none 0 0) 24
  rw [← hW]
  clear hW
  have haW := ha.next hbW
  have hbW' := hb.next hbW
  have haD : Row W.drew .u32 4294967296 x ca xs := haW.next ((Below.refl _ _).drew)
  have hbD : Row W.drew .u32 4294967296 y cb ys := hbW'.next ((Below.refl _ _).drew)
  go_region_held3 (fun w' => w'.cell? ⟨w.heap.size, 1, none⟩ = some (.slice x xs.length ca) ∧ w'.cell? ⟨w.heap.size + 1, 1, none⟩ = some (.slice y ys.length cb)) (refine ⟨?_, ?_⟩ <;> first | assumption | exact c1 | exact c3)
    (first
      | (go_at_call_of 46 (Value.slice x xs.length ca); refine (trim_any x ca xs _ haD).mono ?_; rintro e w1 ⟨rfl, rfl⟩)
      | (go_at_call_of 46 (Value.slice y ys.length cb); refine (trim_any y cb ys _ hbD).mono ?_; rintro e w1 ⟨rfl, rfl⟩))
  go_wp2
  have hD2 : Below W.heap.size W W.drew.drew := ((Below.refl _ _).drew).drew
  have haE := (haW.next hD2).trim
  have hbE := (hbW'.next hD2).trim
  have d0 := keep_cell hD2 c0
  have d2 := keep_cell hD2 c2
  go_region_held3 (fun w' => w'.cell? ⟨w.heap.size, 0, none⟩ = some (.bool na) ∧ w'.cell? ⟨w.heap.size + 1, 0, none⟩ = some (.bool nb)) (first | exact ⟨d0, d2⟩ | exact ⟨keep_cell hB1 c0, keep_cell hB1 c2⟩ | exact ⟨keep_cell hB2 c0, keep_cell hB2 c2⟩)
    (first
      | (go_at_call_of 56 (Value.slice x (trimmed xs).length ca); refine (complement_any na x ca ((trimmed xs).length + 1) (trimmed xs) _ haE (by omega) (by omega)).mono ?_; rintro e w1 ⟨ls, rfl, hblk1, hsl1, hsw1, hsv1, hb1⟩; replace hsl1 : Hid _ := hsl1; replace hsv1 : Hid _ := hsv1; have hB1 : Below W.heap.size W w1 := bthen hD2 hb1)
      | (go_at_call_of 56 (Value.slice y (trimmed ys).length cb); refine (complement_any nb y cb ((trimmed xs).length + 1) (trimmed ys) _ (hbE.next hb1) (by omega) (by omega)).mono ?_; rintro e w2 ⟨rs, rfl, hblk2, hsl2, hsw2, hsv2, hb2⟩; replace hsl2 : Hid _ := hsl2; replace hsv2 : Hid _ := hsv2; have hB2 : Below W.heap.size W w2 := bthen hB1 hb2))
  go_wp2
  have hblkL : Blk w2 W.heap.size .u32 61 ((trimmed xs).length + 1) ls := hblk1.next hb2
  have hgl : W.heap.size < w1.heap.size := hblk1.lt
  go_loopw [40] (fun i wr => ∃ (k : Nat) (ss : List Int), k ≤ (trimmed xs).length + 1 ∧ i = .int .i64 k ∧ Blk wr W.heap.size .u32 61 ((trimmed xs).length + 1) ss ∧ Blk wr w1.heap.size .u32 61 ((trimmed xs).length + 1) rs ∧ Hid (ss.length = (trimmed xs).length + 1) ∧ Words 4294967296 ss ∧ Hid (∀ j, j < k → ss[j]?.getD 0 = bits .and .u32 (ls[j]?.getD 0) (rs[j]?.getD 0)) ∧ Hid (∀ j, k ≤ j → ss[j]?.getD 0 = ls[j]?.getD 0) ∧ Below W.heap.size W wr) (fun i _ => (trimmed xs).length + 1 - (intOf i).toNat)
  case atStart => exact ⟨0, ls, Nat.zero_le _, rfl, hblkL, hblk2, hsl1, hsw1, (fun j hj => by omega), (fun _ _ => rfl), hB2⟩
  case round =>
    obtain ⟨k, ss, hk, rfl, hblk, hblkR, hsl, hsw, HE, HF, hbel⟩ := hrel
    clear haE hbE hblkL hblk1 hblk2 hD2
    by_cases hlt2 : k < (trimmed xs).length + 1
    · obtain ⟨p, hp, hp0, hp1⟩ := hsw.get (by decide) k
      obtain ⟨q, hq, hq0, hq1⟩ := hsw2.get (by decide) k
      have hcl := hblk.cell k (by have := hsl.out; omega)
      have hcr := hblkR.cell k (by have := hsl2.out; omega)
      rw [hp] at hcl
      rw [hq] at hcr
      have hfr := hblk.frozen k
      have hrng := bits_rng .and p q
      have HB : Hid (bits .and .u32 (ls[k]?.getD 0) (rs[k]?.getD 0) = bits .and .u32 p q) := by show _ = _; rw [← HF.out k (Nat.le_refl _), hp, hq]
      have hkl : k < ss.length := by have := hsl.out; omega
      replace hkl : Hid _ := hkl
      clear hp hq
      go_wp2
      go_roundw
      case rel => exact ⟨k + 1, _, by omega, by go_num, hblk.set k _, hblkR.other _ _ (by simp; omega), (by show _ = _; rw [List.length_set]; exact hsl.out), hsw.set k hrng, (fun j hj => by by_cases e : j = k; (subst e; rw [HB.out]; simp [hkl.out]); (rw [List.getElem?_set_ne (fun h => e h.symm)]; exact HE.out j (by omega))), (fun j hj => by rw [List.getElem?_set_ne (by omega)]; exact HF.out j (by omega)), hbel.setCell (Nat.le_refl _) _⟩
      case measure => simp [intOf]; omega
    · obtain rfl : k = (trimmed xs).length + 1 := by omega
      obtain ⟨t, ht', ht0, ht1⟩ := hsw.get (by decide) (trimmed xs).length
      have hct := hblk.cell (trimmed xs).length (by have := hsl.out; omega)
      rw [ht'] at hct
      have HT : Hid (ss[(trimmed xs).length]?.getD 0 = t) := ht'
      clear ht'
      by_cases ht : 2147483648 ≤ t
      · replace ht : Hid _ := ht
        have hneg : (t / 2147483648 == 1) = true := by have := ht.out; rw [beq_iff_eq]; omega
        have key := complement_any true (some ⟨W.heap.size, 0, none⟩) ((trimmed xs).length + 1) ((trimmed xs).length + 1) ss wr (hblk.row hsw) (by omega) (by have := hsl.out; omega)
        rw [hsl.out] at key
        replace key : Hid _ := key
        go_wp2_with fail
        refine Calls.mono key.out ?_
        rintro e w4 ⟨cs, rfl, hblk4, hsl4, hsw4, hsv4, hb4⟩
        have key2 := number_any true (some ⟨wr.heap.size, 0, none⟩) ((trimmed xs).length + 1) cs W.heap.size w4 (hblk4.own hsw4 hbel.size) (by omega)
        rw [hsl4] at key2
        replace hsl4 : Hid _ := hsl4
        replace hsv4 : Hid _ := hsv4
        replace key2 : Hid _ := key2
        have hB4 : Below W.heap.size W w4 := bthen hbel hb4
        go_wp2_with fail
        refine Calls.mono key2.out ?_
        rintro e w5 ⟨v, rfl, ⟨neg, a, cap, ds, rfl, hr, hn, hz, hle⟩, hb5⟩
        replace hz : Hid _ := hz
        replace hn : Hid _ := hn
        have hB5 : Below W.heap.size W w5 := bthen hB4 hb5
        have k4 := keep_cell hB5 c4
        have k5 := keep_cell hB5 c5
        have g4 := keep_frozen hB5 c4 f4
        have g5 := keep_frozen hB5 c5 f5
        clear key key2
        go_wp2
        refine bodyPost_ret (v := .tuple #[.agg #[.bool neg, .slice a ds.length cap], .bool true]) (by simp [results, Try.results27, go_sem, k4, k5]) rfl ⟨_, ls, rs, rfl, hsw1, hsw2, hsl1.out, hsl2.out, by rw [hsv1.out, trimmed_val], by rw [hsv2.out, trimmed_val], ⟨neg, a, cap, ds, rfl, ((hr.set (by exact hlt) _).set (by exact hlt) _).mono hbW.size, hn.out, ?_, ?_⟩, ?_⟩
        · have hss := zip_end .and ls rs ss _ hsl1.out hsl2.out hsl.out (fun j hj => HE.out j hj)
          rw [hz.out, ← hss]
          have hl' : ss.length - 1 = (trimmed xs).length := by have := hsl.out; omega
          unfold signed
          rw [hl', HT.out, if_pos ht.out, hsl.out]
          simp [num, hsv4.out, comp]
        · omega
        · exact ((bthen hbW hB5).setCell (by simp; omega) _).setCell (by simp; omega) _
      · replace ht : Hid _ := ht
        have hneg : (t / 2147483648 == 1) = false := by have := ht.out; rw [beq_eq_false_iff_ne]; intro h; apply this; omega
        have key := complement_any false (some ⟨W.heap.size, 0, none⟩) ((trimmed xs).length + 1) ((trimmed xs).length + 1) ss wr (hblk.row hsw) (by omega) (by have := hsl.out; omega)
        rw [hsl.out] at key
        replace key : Hid _ := key
        go_wp2_with fail
        refine Calls.mono key.out ?_
        rintro e w4 ⟨cs, rfl, hblk4, hsl4, hsw4, hsv4, hb4⟩
        have key2 := number_any false (some ⟨wr.heap.size, 0, none⟩) ((trimmed xs).length + 1) cs W.heap.size w4 (hblk4.own hsw4 hbel.size) (by omega)
        rw [hsl4] at key2
        replace hsl4 : Hid _ := hsl4
        replace hsv4 : Hid _ := hsv4
        replace key2 : Hid _ := key2
        have hB4 : Below W.heap.size W w4 := bthen hbel hb4
        go_wp2_with fail
        refine Calls.mono key2.out ?_
        rintro e w5 ⟨v, rfl, ⟨neg, a, cap, ds, rfl, hr, hn, hz, hle⟩, hb5⟩
        replace hz : Hid _ := hz
        replace hn : Hid _ := hn
        have hB5 : Below W.heap.size W w5 := bthen hB4 hb5
        have k4 := keep_cell hB5 c4
        have k5 := keep_cell hB5 c5
        have g4 := keep_frozen hB5 c4 f4
        have g5 := keep_frozen hB5 c5 f5
        clear key key2
        go_wp2
        refine bodyPost_ret (v := .tuple #[.agg #[.bool neg, .slice a ds.length cap], .bool true]) (by simp [results, Try.results27, go_sem, k4, k5]) rfl ⟨_, ls, rs, rfl, hsw1, hsw2, hsl1.out, hsl2.out, by rw [hsv1.out, trimmed_val], by rw [hsv2.out, trimmed_val], ⟨neg, a, cap, ds, rfl, ((hr.set (by exact hlt) _).set (by exact hlt) _).mono hbW.size, hn.out, ?_, ?_⟩, ?_⟩
        · have hss := zip_end .and ls rs ss _ hsl1.out hsl2.out hsl.out (fun j hj => HE.out j hj)
          rw [hz.out, ← hss]
          have hl' : ss.length - 1 = (trimmed xs).length := by have := hsl.out; omega
          unfold signed
          rw [hl', HT.out, if_neg ht.out]
          simp [num, hsv4.out, comp]
        · omega
        · exact ((bthen hbW hB5).setCell (by simp; omega) _).setCell (by simp; omega) _
set_option maxRecDepth 20000 in
set_option maxHeartbeats 4000000 in
theorem Bitwise_or_lt (na nb : Bool) (x y : Option Addr) (ca cb : Nat) (xs ys : List Int) (w : World) (ha : Row w .u32 4294967296 x ca xs) (hb : Row w .u32 4294967296 y cb ys) (_hl : xs.length ≤ 400000) (hlb : ys.length ≤ 400000) (hxy : (trimmed xs).length < (trimmed ys).length) :
    Calls Try.prog 27 #[.string ⟨#[124]⟩, .agg #[.bool na, .slice x xs.length ca], .agg #[.bool nb, .slice y ys.length cb]] w fun e w' => BitOut .or w w' e na nb xs ys ((trimmed ys).length + 1) (max xs.length ys.length + 1) := by
  have tx := trimmed_le xs
  have ty := trimmed_le ys
  have hZ : (trimmed ys).length + 1 ≤ max xs.length ys.length + 1 := by omega
  have hxy' : ((trimmed xs).length : Int) < ((trimmed ys).length : Int) := by omega
  go_enter Try.func27, Try.ntmps27
  go_wp2
  obtain ⟨W, hW, hbW, hlt, c0, c1, c2, c3, c4, c5, f4, f5⟩ := boxes3 w (.bool na) (.slice x xs.length ca) (.bool nb) (.slice y ys.length cb) (.bool false) (.slice none 0 0) 24
  rw [← hW]
  clear hW
  have haW := ha.next hbW
  have hbW' := hb.next hbW
  have haD : Row W.drew .u32 4294967296 x ca xs := haW.next ((Below.refl _ _).drew)
  have hbD : Row W.drew .u32 4294967296 y cb ys := hbW'.next ((Below.refl _ _).drew)
  go_region_held3 (fun w' => w'.cell? ⟨w.heap.size, 1, none⟩ = some (.slice x xs.length ca) ∧ w'.cell? ⟨w.heap.size + 1, 1, none⟩ = some (.slice y ys.length cb)) (refine ⟨?_, ?_⟩ <;> first | assumption | exact c1 | exact c3)
    (first
      | (go_at_call_of 46 (Value.slice x xs.length ca); refine (trim_any x ca xs _ haD).mono ?_; rintro e w1 ⟨rfl, rfl⟩)
      | (go_at_call_of 46 (Value.slice y ys.length cb); refine (trim_any y cb ys _ hbD).mono ?_; rintro e w1 ⟨rfl, rfl⟩))
  go_wp2
  have hD2 : Below W.heap.size W W.drew.drew := ((Below.refl _ _).drew).drew
  have haE := (haW.next hD2).trim
  have hbE := (hbW'.next hD2).trim
  have d0 := keep_cell hD2 c0
  have d2 := keep_cell hD2 c2
  go_region_held3 (fun w' => w'.cell? ⟨w.heap.size, 0, none⟩ = some (.bool na) ∧ w'.cell? ⟨w.heap.size + 1, 0, none⟩ = some (.bool nb)) (first | exact ⟨d0, d2⟩ | exact ⟨keep_cell hB1 c0, keep_cell hB1 c2⟩ | exact ⟨keep_cell hB2 c0, keep_cell hB2 c2⟩)
    (first
      | (go_at_call_of 56 (Value.slice x (trimmed xs).length ca); refine (complement_any na x ca ((trimmed ys).length + 1) (trimmed xs) _ haE (by omega) (by omega)).mono ?_; rintro e w1 ⟨ls, rfl, hblk1, hsl1, hsw1, hsv1, hb1⟩; replace hsl1 : Hid _ := hsl1; replace hsv1 : Hid _ := hsv1; have hB1 : Below W.heap.size W w1 := bthen hD2 hb1)
      | (go_at_call_of 56 (Value.slice y (trimmed ys).length cb); refine (complement_any nb y cb ((trimmed ys).length + 1) (trimmed ys) _ (hbE.next hb1) (by omega) (by omega)).mono ?_; rintro e w2 ⟨rs, rfl, hblk2, hsl2, hsw2, hsv2, hb2⟩; replace hsl2 : Hid _ := hsl2; replace hsv2 : Hid _ := hsv2; have hB2 : Below W.heap.size W w2 := bthen hB1 hb2))
  go_wp2
  have hblkL : Blk w2 W.heap.size .u32 61 ((trimmed ys).length + 1) ls := hblk1.next hb2
  have hgl : W.heap.size < w1.heap.size := hblk1.lt
  go_loopw [40] (fun i wr => ∃ (k : Nat) (ss : List Int), k ≤ (trimmed ys).length + 1 ∧ i = .int .i64 k ∧ Blk wr W.heap.size .u32 61 ((trimmed ys).length + 1) ss ∧ Blk wr w1.heap.size .u32 61 ((trimmed ys).length + 1) rs ∧ Hid (ss.length = (trimmed ys).length + 1) ∧ Words 4294967296 ss ∧ Hid (∀ j, j < k → ss[j]?.getD 0 = bits .or .u32 (ls[j]?.getD 0) (rs[j]?.getD 0)) ∧ Hid (∀ j, k ≤ j → ss[j]?.getD 0 = ls[j]?.getD 0) ∧ Below W.heap.size W wr) (fun i _ => (trimmed ys).length + 1 - (intOf i).toNat)
  case atStart => exact ⟨0, ls, Nat.zero_le _, rfl, hblkL, hblk2, hsl1, hsw1, (fun j hj => by omega), (fun _ _ => rfl), hB2⟩
  case round =>
    obtain ⟨k, ss, hk, rfl, hblk, hblkR, hsl, hsw, HE, HF, hbel⟩ := hrel
    clear haE hbE hblkL hblk1 hblk2 hD2
    by_cases hlt2 : k < (trimmed ys).length + 1
    · obtain ⟨p, hp, hp0, hp1⟩ := hsw.get (by decide) k
      obtain ⟨q, hq, hq0, hq1⟩ := hsw2.get (by decide) k
      have hcl := hblk.cell k (by have := hsl.out; omega)
      have hcr := hblkR.cell k (by have := hsl2.out; omega)
      rw [hp] at hcl
      rw [hq] at hcr
      have hfr := hblk.frozen k
      have hrng := bits_rng .or p q
      have HB : Hid (bits .or .u32 (ls[k]?.getD 0) (rs[k]?.getD 0) = bits .or .u32 p q) := by show _ = _; rw [← HF.out k (Nat.le_refl _), hp, hq]
      have hkl : k < ss.length := by have := hsl.out; omega
      replace hkl : Hid _ := hkl
      clear hp hq
      go_wp2
      go_roundw
      case rel => exact ⟨k + 1, _, by omega, by go_num, hblk.set k _, hblkR.other _ _ (by simp; omega), (by show _ = _; rw [List.length_set]; exact hsl.out), hsw.set k hrng, (fun j hj => by by_cases e : j = k; (subst e; rw [HB.out]; simp [hkl.out]); (rw [List.getElem?_set_ne (fun h => e h.symm)]; exact HE.out j (by omega))), (fun j hj => by rw [List.getElem?_set_ne (by omega)]; exact HF.out j (by omega)), hbel.setCell (Nat.le_refl _) _⟩
      case measure => simp [intOf]; omega
    · obtain rfl : k = (trimmed ys).length + 1 := by omega
      obtain ⟨t, ht', ht0, ht1⟩ := hsw.get (by decide) (trimmed ys).length
      have hct := hblk.cell (trimmed ys).length (by have := hsl.out; omega)
      rw [ht'] at hct
      have HT : Hid (ss[(trimmed ys).length]?.getD 0 = t) := ht'
      clear ht'
      by_cases ht : 2147483648 ≤ t
      · replace ht : Hid _ := ht
        have hneg : (t / 2147483648 == 1) = true := by have := ht.out; rw [beq_iff_eq]; omega
        have key := complement_any true (some ⟨W.heap.size, 0, none⟩) ((trimmed ys).length + 1) ((trimmed ys).length + 1) ss wr (hblk.row hsw) (by omega) (by have := hsl.out; omega)
        rw [hsl.out] at key
        replace key : Hid _ := key
        go_wp2_with fail
        refine Calls.mono key.out ?_
        rintro e w4 ⟨cs, rfl, hblk4, hsl4, hsw4, hsv4, hb4⟩
        have key2 := number_any true (some ⟨wr.heap.size, 0, none⟩) ((trimmed ys).length + 1) cs W.heap.size w4 (hblk4.own hsw4 hbel.size) (by omega)
        rw [hsl4] at key2
        replace hsl4 : Hid _ := hsl4
        replace hsv4 : Hid _ := hsv4
        replace key2 : Hid _ := key2
        have hB4 : Below W.heap.size W w4 := bthen hbel hb4
        go_wp2_with fail
        refine Calls.mono key2.out ?_
        rintro e w5 ⟨v, rfl, ⟨neg, a, cap, ds, rfl, hr, hn, hz, hle⟩, hb5⟩
        replace hz : Hid _ := hz
        replace hn : Hid _ := hn
        have hB5 : Below W.heap.size W w5 := bthen hB4 hb5
        have k4 := keep_cell hB5 c4
        have k5 := keep_cell hB5 c5
        have g4 := keep_frozen hB5 c4 f4
        have g5 := keep_frozen hB5 c5 f5
        clear key key2
        go_wp2
        refine bodyPost_ret (v := .tuple #[.agg #[.bool neg, .slice a ds.length cap], .bool true]) (by simp [results, Try.results27, go_sem, k4, k5]) rfl ⟨_, ls, rs, rfl, hsw1, hsw2, hsl1.out, hsl2.out, by rw [hsv1.out, trimmed_val], by rw [hsv2.out, trimmed_val], ⟨neg, a, cap, ds, rfl, ((hr.set (by exact hlt) _).set (by exact hlt) _).mono hbW.size, hn.out, ?_, ?_⟩, ?_⟩
        · have hss := zip_end .or ls rs ss _ hsl1.out hsl2.out hsl.out (fun j hj => HE.out j hj)
          rw [hz.out, ← hss]
          have hl' : ss.length - 1 = (trimmed ys).length := by have := hsl.out; omega
          unfold signed
          rw [hl', HT.out, if_pos ht.out, hsl.out]
          simp [num, hsv4.out, comp]
        · omega
        · exact ((bthen hbW hB5).setCell (by simp; omega) _).setCell (by simp; omega) _
      · replace ht : Hid _ := ht
        have hneg : (t / 2147483648 == 1) = false := by have := ht.out; rw [beq_eq_false_iff_ne]; intro h; apply this; omega
        have key := complement_any false (some ⟨W.heap.size, 0, none⟩) ((trimmed ys).length + 1) ((trimmed ys).length + 1) ss wr (hblk.row hsw) (by omega) (by have := hsl.out; omega)
        rw [hsl.out] at key
        replace key : Hid _ := key
        go_wp2_with fail
        refine Calls.mono key.out ?_
        rintro e w4 ⟨cs, rfl, hblk4, hsl4, hsw4, hsv4, hb4⟩
        have key2 := number_any false (some ⟨wr.heap.size, 0, none⟩) ((trimmed ys).length + 1) cs W.heap.size w4 (hblk4.own hsw4 hbel.size) (by omega)
        rw [hsl4] at key2
        replace hsl4 : Hid _ := hsl4
        replace hsv4 : Hid _ := hsv4
        replace key2 : Hid _ := key2
        have hB4 : Below W.heap.size W w4 := bthen hbel hb4
        go_wp2_with fail
        refine Calls.mono key2.out ?_
        rintro e w5 ⟨v, rfl, ⟨neg, a, cap, ds, rfl, hr, hn, hz, hle⟩, hb5⟩
        replace hz : Hid _ := hz
        replace hn : Hid _ := hn
        have hB5 : Below W.heap.size W w5 := bthen hB4 hb5
        have k4 := keep_cell hB5 c4
        have k5 := keep_cell hB5 c5
        have g4 := keep_frozen hB5 c4 f4
        have g5 := keep_frozen hB5 c5 f5
        clear key key2
        go_wp2
        refine bodyPost_ret (v := .tuple #[.agg #[.bool neg, .slice a ds.length cap], .bool true]) (by simp [results, Try.results27, go_sem, k4, k5]) rfl ⟨_, ls, rs, rfl, hsw1, hsw2, hsl1.out, hsl2.out, by rw [hsv1.out, trimmed_val], by rw [hsv2.out, trimmed_val], ⟨neg, a, cap, ds, rfl, ((hr.set (by exact hlt) _).set (by exact hlt) _).mono hbW.size, hn.out, ?_, ?_⟩, ?_⟩
        · have hss := zip_end .or ls rs ss _ hsl1.out hsl2.out hsl.out (fun j hj => HE.out j hj)
          rw [hz.out, ← hss]
          have hl' : ss.length - 1 = (trimmed ys).length := by have := hsl.out; omega
          unfold signed
          rw [hl', HT.out, if_neg ht.out]
          simp [num, hsv4.out, comp]
        · omega
        · exact ((bthen hbW hB5).setCell (by simp; omega) _).setCell (by simp; omega) _
set_option maxRecDepth 20000 in
set_option maxHeartbeats 4000000 in
theorem Bitwise_or_ge (na nb : Bool) (x y : Option Addr) (ca cb : Nat) (xs ys : List Int) (w : World) (ha : Row w .u32 4294967296 x ca xs) (hb : Row w .u32 4294967296 y cb ys) (hl : xs.length ≤ 400000) (_hlb : ys.length ≤ 400000) (hxy : (trimmed ys).length ≤ (trimmed xs).length) :
    Calls Try.prog 27 #[.string ⟨#[124]⟩, .agg #[.bool na, .slice x xs.length ca], .agg #[.bool nb, .slice y ys.length cb]] w fun e w' => BitOut .or w w' e na nb xs ys ((trimmed xs).length + 1) (max xs.length ys.length + 1) := by
  have tx := trimmed_le xs
  have ty := trimmed_le ys
  have hZ : (trimmed xs).length + 1 ≤ max xs.length ys.length + 1 := by omega
  have hxy' : ((trimmed ys).length : Int) ≤ ((trimmed xs).length : Int) := by omega
  go_enter Try.func27, Try.ntmps27
  go_wp2
  obtain ⟨W, hW, hbW, hlt, c0, c1, c2, c3, c4, c5, f4, f5⟩ := boxes3 w (.bool na) (.slice x xs.length ca) (.bool nb) (.slice y ys.length cb) (.bool false) (.slice none 0 0) 24
  rw [← hW]
  clear hW
  have haW := ha.next hbW
  have hbW' := hb.next hbW
  have haD : Row W.drew .u32 4294967296 x ca xs := haW.next ((Below.refl _ _).drew)
  have hbD : Row W.drew .u32 4294967296 y cb ys := hbW'.next ((Below.refl _ _).drew)
  go_region_held3 (fun w' => w'.cell? ⟨w.heap.size, 1, none⟩ = some (.slice x xs.length ca) ∧ w'.cell? ⟨w.heap.size + 1, 1, none⟩ = some (.slice y ys.length cb)) (refine ⟨?_, ?_⟩ <;> first | assumption | exact c1 | exact c3)
    (first
      | (go_at_call_of 46 (Value.slice x xs.length ca); refine (trim_any x ca xs _ haD).mono ?_; rintro e w1 ⟨rfl, rfl⟩)
      | (go_at_call_of 46 (Value.slice y ys.length cb); refine (trim_any y cb ys _ hbD).mono ?_; rintro e w1 ⟨rfl, rfl⟩))
  go_wp2
  have hD2 : Below W.heap.size W W.drew.drew := ((Below.refl _ _).drew).drew
  have haE := (haW.next hD2).trim
  have hbE := (hbW'.next hD2).trim
  have d0 := keep_cell hD2 c0
  have d2 := keep_cell hD2 c2
  go_region_held3 (fun w' => w'.cell? ⟨w.heap.size, 0, none⟩ = some (.bool na) ∧ w'.cell? ⟨w.heap.size + 1, 0, none⟩ = some (.bool nb)) (first | exact ⟨d0, d2⟩ | exact ⟨keep_cell hB1 c0, keep_cell hB1 c2⟩ | exact ⟨keep_cell hB2 c0, keep_cell hB2 c2⟩)
    (first
      | (go_at_call_of 56 (Value.slice x (trimmed xs).length ca); refine (complement_any na x ca ((trimmed xs).length + 1) (trimmed xs) _ haE (by omega) (by omega)).mono ?_; rintro e w1 ⟨ls, rfl, hblk1, hsl1, hsw1, hsv1, hb1⟩; replace hsl1 : Hid _ := hsl1; replace hsv1 : Hid _ := hsv1; have hB1 : Below W.heap.size W w1 := bthen hD2 hb1)
      | (go_at_call_of 56 (Value.slice y (trimmed ys).length cb); refine (complement_any nb y cb ((trimmed xs).length + 1) (trimmed ys) _ (hbE.next hb1) (by omega) (by omega)).mono ?_; rintro e w2 ⟨rs, rfl, hblk2, hsl2, hsw2, hsv2, hb2⟩; replace hsl2 : Hid _ := hsl2; replace hsv2 : Hid _ := hsv2; have hB2 : Below W.heap.size W w2 := bthen hB1 hb2))
  go_wp2
  have hblkL : Blk w2 W.heap.size .u32 61 ((trimmed xs).length + 1) ls := hblk1.next hb2
  have hgl : W.heap.size < w1.heap.size := hblk1.lt
  go_loopw [40] (fun i wr => ∃ (k : Nat) (ss : List Int), k ≤ (trimmed xs).length + 1 ∧ i = .int .i64 k ∧ Blk wr W.heap.size .u32 61 ((trimmed xs).length + 1) ss ∧ Blk wr w1.heap.size .u32 61 ((trimmed xs).length + 1) rs ∧ Hid (ss.length = (trimmed xs).length + 1) ∧ Words 4294967296 ss ∧ Hid (∀ j, j < k → ss[j]?.getD 0 = bits .or .u32 (ls[j]?.getD 0) (rs[j]?.getD 0)) ∧ Hid (∀ j, k ≤ j → ss[j]?.getD 0 = ls[j]?.getD 0) ∧ Below W.heap.size W wr) (fun i _ => (trimmed xs).length + 1 - (intOf i).toNat)
  case atStart => exact ⟨0, ls, Nat.zero_le _, rfl, hblkL, hblk2, hsl1, hsw1, (fun j hj => by omega), (fun _ _ => rfl), hB2⟩
  case round =>
    obtain ⟨k, ss, hk, rfl, hblk, hblkR, hsl, hsw, HE, HF, hbel⟩ := hrel
    clear haE hbE hblkL hblk1 hblk2 hD2
    by_cases hlt2 : k < (trimmed xs).length + 1
    · obtain ⟨p, hp, hp0, hp1⟩ := hsw.get (by decide) k
      obtain ⟨q, hq, hq0, hq1⟩ := hsw2.get (by decide) k
      have hcl := hblk.cell k (by have := hsl.out; omega)
      have hcr := hblkR.cell k (by have := hsl2.out; omega)
      rw [hp] at hcl
      rw [hq] at hcr
      have hfr := hblk.frozen k
      have hrng := bits_rng .or p q
      have HB : Hid (bits .or .u32 (ls[k]?.getD 0) (rs[k]?.getD 0) = bits .or .u32 p q) := by show _ = _; rw [← HF.out k (Nat.le_refl _), hp, hq]
      have hkl : k < ss.length := by have := hsl.out; omega
      replace hkl : Hid _ := hkl
      clear hp hq
      go_wp2
      go_roundw
      case rel => exact ⟨k + 1, _, by omega, by go_num, hblk.set k _, hblkR.other _ _ (by simp; omega), (by show _ = _; rw [List.length_set]; exact hsl.out), hsw.set k hrng, (fun j hj => by by_cases e : j = k; (subst e; rw [HB.out]; simp [hkl.out]); (rw [List.getElem?_set_ne (fun h => e h.symm)]; exact HE.out j (by omega))), (fun j hj => by rw [List.getElem?_set_ne (by omega)]; exact HF.out j (by omega)), hbel.setCell (Nat.le_refl _) _⟩
      case measure => simp [intOf]; omega
    · obtain rfl : k = (trimmed xs).length + 1 := by omega
      obtain ⟨t, ht', ht0, ht1⟩ := hsw.get (by decide) (trimmed xs).length
      have hct := hblk.cell (trimmed xs).length (by have := hsl.out; omega)
      rw [ht'] at hct
      have HT : Hid (ss[(trimmed xs).length]?.getD 0 = t) := ht'
      clear ht'
      by_cases ht : 2147483648 ≤ t
      · replace ht : Hid _ := ht
        have hneg : (t / 2147483648 == 1) = true := by have := ht.out; rw [beq_iff_eq]; omega
        have key := complement_any true (some ⟨W.heap.size, 0, none⟩) ((trimmed xs).length + 1) ((trimmed xs).length + 1) ss wr (hblk.row hsw) (by omega) (by have := hsl.out; omega)
        rw [hsl.out] at key
        replace key : Hid _ := key
        go_wp2_with fail
        refine Calls.mono key.out ?_
        rintro e w4 ⟨cs, rfl, hblk4, hsl4, hsw4, hsv4, hb4⟩
        have key2 := number_any true (some ⟨wr.heap.size, 0, none⟩) ((trimmed xs).length + 1) cs W.heap.size w4 (hblk4.own hsw4 hbel.size) (by omega)
        rw [hsl4] at key2
        replace hsl4 : Hid _ := hsl4
        replace hsv4 : Hid _ := hsv4
        replace key2 : Hid _ := key2
        have hB4 : Below W.heap.size W w4 := bthen hbel hb4
        go_wp2_with fail
        refine Calls.mono key2.out ?_
        rintro e w5 ⟨v, rfl, ⟨neg, a, cap, ds, rfl, hr, hn, hz, hle⟩, hb5⟩
        replace hz : Hid _ := hz
        replace hn : Hid _ := hn
        have hB5 : Below W.heap.size W w5 := bthen hB4 hb5
        have k4 := keep_cell hB5 c4
        have k5 := keep_cell hB5 c5
        have g4 := keep_frozen hB5 c4 f4
        have g5 := keep_frozen hB5 c5 f5
        clear key key2
        go_wp2
        refine bodyPost_ret (v := .tuple #[.agg #[.bool neg, .slice a ds.length cap], .bool true]) (by simp [results, Try.results27, go_sem, k4, k5]) rfl ⟨_, ls, rs, rfl, hsw1, hsw2, hsl1.out, hsl2.out, by rw [hsv1.out, trimmed_val], by rw [hsv2.out, trimmed_val], ⟨neg, a, cap, ds, rfl, ((hr.set (by exact hlt) _).set (by exact hlt) _).mono hbW.size, hn.out, ?_, ?_⟩, ?_⟩
        · have hss := zip_end .or ls rs ss _ hsl1.out hsl2.out hsl.out (fun j hj => HE.out j hj)
          rw [hz.out, ← hss]
          have hl' : ss.length - 1 = (trimmed xs).length := by have := hsl.out; omega
          unfold signed
          rw [hl', HT.out, if_pos ht.out, hsl.out]
          simp [num, hsv4.out, comp]
        · omega
        · exact ((bthen hbW hB5).setCell (by simp; omega) _).setCell (by simp; omega) _
      · replace ht : Hid _ := ht
        have hneg : (t / 2147483648 == 1) = false := by have := ht.out; rw [beq_eq_false_iff_ne]; intro h; apply this; omega
        have key := complement_any false (some ⟨W.heap.size, 0, none⟩) ((trimmed xs).length + 1) ((trimmed xs).length + 1) ss wr (hblk.row hsw) (by omega) (by have := hsl.out; omega)
        rw [hsl.out] at key
        replace key : Hid _ := key
        go_wp2_with fail
        refine Calls.mono key.out ?_
        rintro e w4 ⟨cs, rfl, hblk4, hsl4, hsw4, hsv4, hb4⟩
        have key2 := number_any false (some ⟨wr.heap.size, 0, none⟩) ((trimmed xs).length + 1) cs W.heap.size w4 (hblk4.own hsw4 hbel.size) (by omega)
        rw [hsl4] at key2
        replace hsl4 : Hid _ := hsl4
        replace hsv4 : Hid _ := hsv4
        replace key2 : Hid _ := key2
        have hB4 : Below W.heap.size W w4 := bthen hbel hb4
        go_wp2_with fail
        refine Calls.mono key2.out ?_
        rintro e w5 ⟨v, rfl, ⟨neg, a, cap, ds, rfl, hr, hn, hz, hle⟩, hb5⟩
        replace hz : Hid _ := hz
        replace hn : Hid _ := hn
        have hB5 : Below W.heap.size W w5 := bthen hB4 hb5
        have k4 := keep_cell hB5 c4
        have k5 := keep_cell hB5 c5
        have g4 := keep_frozen hB5 c4 f4
        have g5 := keep_frozen hB5 c5 f5
        clear key key2
        go_wp2
        refine bodyPost_ret (v := .tuple #[.agg #[.bool neg, .slice a ds.length cap], .bool true]) (by simp [results, Try.results27, go_sem, k4, k5]) rfl ⟨_, ls, rs, rfl, hsw1, hsw2, hsl1.out, hsl2.out, by rw [hsv1.out, trimmed_val], by rw [hsv2.out, trimmed_val], ⟨neg, a, cap, ds, rfl, ((hr.set (by exact hlt) _).set (by exact hlt) _).mono hbW.size, hn.out, ?_, ?_⟩, ?_⟩
        · have hss := zip_end .or ls rs ss _ hsl1.out hsl2.out hsl.out (fun j hj => HE.out j hj)
          rw [hz.out, ← hss]
          have hl' : ss.length - 1 = (trimmed xs).length := by have := hsl.out; omega
          unfold signed
          rw [hl', HT.out, if_neg ht.out]
          simp [num, hsv4.out, comp]
        · omega
        · exact ((bthen hbW hB5).setCell (by simp; omega) _).setCell (by simp; omega) _
set_option maxRecDepth 20000 in
set_option maxHeartbeats 4000000 in
theorem Bitwise_xor_lt (na nb : Bool) (x y : Option Addr) (ca cb : Nat) (xs ys : List Int) (w : World) (ha : Row w .u32 4294967296 x ca xs) (hb : Row w .u32 4294967296 y cb ys) (_hl : xs.length ≤ 400000) (hlb : ys.length ≤ 400000) (hxy : (trimmed xs).length < (trimmed ys).length) :
    Calls Try.prog 27 #[.string ⟨#[94]⟩, .agg #[.bool na, .slice x xs.length ca], .agg #[.bool nb, .slice y ys.length cb]] w fun e w' => BitOut .xor w w' e na nb xs ys ((trimmed ys).length + 1) (max xs.length ys.length + 1) := by
  have tx := trimmed_le xs
  have ty := trimmed_le ys
  have hZ : (trimmed ys).length + 1 ≤ max xs.length ys.length + 1 := by omega
  have hxy' : ((trimmed xs).length : Int) < ((trimmed ys).length : Int) := by omega
  go_enter Try.func27, Try.ntmps27
  go_wp2
  obtain ⟨W, hW, hbW, hlt, c0, c1, c2, c3, c4, c5, f4, f5⟩ := boxes3 w (.bool na) (.slice x xs.length ca) (.bool nb) (.slice y ys.length cb) (.bool false) (.slice none 0 0) 24
  rw [← hW]
  clear hW
  have haW := ha.next hbW
  have hbW' := hb.next hbW
  have haD : Row W.drew .u32 4294967296 x ca xs := haW.next ((Below.refl _ _).drew)
  have hbD : Row W.drew .u32 4294967296 y cb ys := hbW'.next ((Below.refl _ _).drew)
  go_region_held3 (fun w' => w'.cell? ⟨w.heap.size, 1, none⟩ = some (.slice x xs.length ca) ∧ w'.cell? ⟨w.heap.size + 1, 1, none⟩ = some (.slice y ys.length cb)) (refine ⟨?_, ?_⟩ <;> first | assumption | exact c1 | exact c3)
    (first
      | (go_at_call_of 46 (Value.slice x xs.length ca); refine (trim_any x ca xs _ haD).mono ?_; rintro e w1 ⟨rfl, rfl⟩)
      | (go_at_call_of 46 (Value.slice y ys.length cb); refine (trim_any y cb ys _ hbD).mono ?_; rintro e w1 ⟨rfl, rfl⟩))
  go_wp2
  have hD2 : Below W.heap.size W W.drew.drew := ((Below.refl _ _).drew).drew
  have haE := (haW.next hD2).trim
  have hbE := (hbW'.next hD2).trim
  have d0 := keep_cell hD2 c0
  have d2 := keep_cell hD2 c2
  go_region_held3 (fun w' => w'.cell? ⟨w.heap.size, 0, none⟩ = some (.bool na) ∧ w'.cell? ⟨w.heap.size + 1, 0, none⟩ = some (.bool nb)) (first | exact ⟨d0, d2⟩ | exact ⟨keep_cell hB1 c0, keep_cell hB1 c2⟩ | exact ⟨keep_cell hB2 c0, keep_cell hB2 c2⟩)
    (first
      | (go_at_call_of 56 (Value.slice x (trimmed xs).length ca); refine (complement_any na x ca ((trimmed ys).length + 1) (trimmed xs) _ haE (by omega) (by omega)).mono ?_; rintro e w1 ⟨ls, rfl, hblk1, hsl1, hsw1, hsv1, hb1⟩; replace hsl1 : Hid _ := hsl1; replace hsv1 : Hid _ := hsv1; have hB1 : Below W.heap.size W w1 := bthen hD2 hb1)
      | (go_at_call_of 56 (Value.slice y (trimmed ys).length cb); refine (complement_any nb y cb ((trimmed ys).length + 1) (trimmed ys) _ (hbE.next hb1) (by omega) (by omega)).mono ?_; rintro e w2 ⟨rs, rfl, hblk2, hsl2, hsw2, hsv2, hb2⟩; replace hsl2 : Hid _ := hsl2; replace hsv2 : Hid _ := hsv2; have hB2 : Below W.heap.size W w2 := bthen hB1 hb2))
  go_wp2
  have hblkL : Blk w2 W.heap.size .u32 61 ((trimmed ys).length + 1) ls := hblk1.next hb2
  have hgl : W.heap.size < w1.heap.size := hblk1.lt
  go_loopw [40] (fun i wr => ∃ (k : Nat) (ss : List Int), k ≤ (trimmed ys).length + 1 ∧ i = .int .i64 k ∧ Blk wr W.heap.size .u32 61 ((trimmed ys).length + 1) ss ∧ Blk wr w1.heap.size .u32 61 ((trimmed ys).length + 1) rs ∧ Hid (ss.length = (trimmed ys).length + 1) ∧ Words 4294967296 ss ∧ Hid (∀ j, j < k → ss[j]?.getD 0 = bits .xor .u32 (ls[j]?.getD 0) (rs[j]?.getD 0)) ∧ Hid (∀ j, k ≤ j → ss[j]?.getD 0 = ls[j]?.getD 0) ∧ Below W.heap.size W wr) (fun i _ => (trimmed ys).length + 1 - (intOf i).toNat)
  case atStart => exact ⟨0, ls, Nat.zero_le _, rfl, hblkL, hblk2, hsl1, hsw1, (fun j hj => by omega), (fun _ _ => rfl), hB2⟩
  case round =>
    obtain ⟨k, ss, hk, rfl, hblk, hblkR, hsl, hsw, HE, HF, hbel⟩ := hrel
    clear haE hbE hblkL hblk1 hblk2 hD2
    by_cases hlt2 : k < (trimmed ys).length + 1
    · obtain ⟨p, hp, hp0, hp1⟩ := hsw.get (by decide) k
      obtain ⟨q, hq, hq0, hq1⟩ := hsw2.get (by decide) k
      have hcl := hblk.cell k (by have := hsl.out; omega)
      have hcr := hblkR.cell k (by have := hsl2.out; omega)
      rw [hp] at hcl
      rw [hq] at hcr
      have hfr := hblk.frozen k
      have hrng := bits_rng .xor p q
      have HB : Hid (bits .xor .u32 (ls[k]?.getD 0) (rs[k]?.getD 0) = bits .xor .u32 p q) := by show _ = _; rw [← HF.out k (Nat.le_refl _), hp, hq]
      have hkl : k < ss.length := by have := hsl.out; omega
      replace hkl : Hid _ := hkl
      clear hp hq
      go_wp2
      go_roundw
      case rel => exact ⟨k + 1, _, by omega, by go_num, hblk.set k _, hblkR.other _ _ (by simp; omega), (by show _ = _; rw [List.length_set]; exact hsl.out), hsw.set k hrng, (fun j hj => by by_cases e : j = k; (subst e; rw [HB.out]; simp [hkl.out]); (rw [List.getElem?_set_ne (fun h => e h.symm)]; exact HE.out j (by omega))), (fun j hj => by rw [List.getElem?_set_ne (by omega)]; exact HF.out j (by omega)), hbel.setCell (Nat.le_refl _) _⟩
      case measure => simp [intOf]; omega
    · obtain rfl : k = (trimmed ys).length + 1 := by omega
      obtain ⟨t, ht', ht0, ht1⟩ := hsw.get (by decide) (trimmed ys).length
      have hct := hblk.cell (trimmed ys).length (by have := hsl.out; omega)
      rw [ht'] at hct
      have HT : Hid (ss[(trimmed ys).length]?.getD 0 = t) := ht'
      clear ht'
      by_cases ht : 2147483648 ≤ t
      · replace ht : Hid _ := ht
        have hneg : (t / 2147483648 == 1) = true := by have := ht.out; rw [beq_iff_eq]; omega
        have key := complement_any true (some ⟨W.heap.size, 0, none⟩) ((trimmed ys).length + 1) ((trimmed ys).length + 1) ss wr (hblk.row hsw) (by omega) (by have := hsl.out; omega)
        rw [hsl.out] at key
        replace key : Hid _ := key
        go_wp2_with fail
        refine Calls.mono key.out ?_
        rintro e w4 ⟨cs, rfl, hblk4, hsl4, hsw4, hsv4, hb4⟩
        have key2 := number_any true (some ⟨wr.heap.size, 0, none⟩) ((trimmed ys).length + 1) cs W.heap.size w4 (hblk4.own hsw4 hbel.size) (by omega)
        rw [hsl4] at key2
        replace hsl4 : Hid _ := hsl4
        replace hsv4 : Hid _ := hsv4
        replace key2 : Hid _ := key2
        have hB4 : Below W.heap.size W w4 := bthen hbel hb4
        go_wp2_with fail
        refine Calls.mono key2.out ?_
        rintro e w5 ⟨v, rfl, ⟨neg, a, cap, ds, rfl, hr, hn, hz, hle⟩, hb5⟩
        replace hz : Hid _ := hz
        replace hn : Hid _ := hn
        have hB5 : Below W.heap.size W w5 := bthen hB4 hb5
        have k4 := keep_cell hB5 c4
        have k5 := keep_cell hB5 c5
        have g4 := keep_frozen hB5 c4 f4
        have g5 := keep_frozen hB5 c5 f5
        clear key key2
        go_wp2
        refine bodyPost_ret (v := .tuple #[.agg #[.bool neg, .slice a ds.length cap], .bool true]) (by simp [results, Try.results27, go_sem, k4, k5]) rfl ⟨_, ls, rs, rfl, hsw1, hsw2, hsl1.out, hsl2.out, by rw [hsv1.out, trimmed_val], by rw [hsv2.out, trimmed_val], ⟨neg, a, cap, ds, rfl, ((hr.set (by exact hlt) _).set (by exact hlt) _).mono hbW.size, hn.out, ?_, ?_⟩, ?_⟩
        · have hss := zip_end .xor ls rs ss _ hsl1.out hsl2.out hsl.out (fun j hj => HE.out j hj)
          rw [hz.out, ← hss]
          have hl' : ss.length - 1 = (trimmed ys).length := by have := hsl.out; omega
          unfold signed
          rw [hl', HT.out, if_pos ht.out, hsl.out]
          simp [num, hsv4.out, comp]
        · omega
        · exact ((bthen hbW hB5).setCell (by simp; omega) _).setCell (by simp; omega) _
      · replace ht : Hid _ := ht
        have hneg : (t / 2147483648 == 1) = false := by have := ht.out; rw [beq_eq_false_iff_ne]; intro h; apply this; omega
        have key := complement_any false (some ⟨W.heap.size, 0, none⟩) ((trimmed ys).length + 1) ((trimmed ys).length + 1) ss wr (hblk.row hsw) (by omega) (by have := hsl.out; omega)
        rw [hsl.out] at key
        replace key : Hid _ := key
        go_wp2_with fail
        refine Calls.mono key.out ?_
        rintro e w4 ⟨cs, rfl, hblk4, hsl4, hsw4, hsv4, hb4⟩
        have key2 := number_any false (some ⟨wr.heap.size, 0, none⟩) ((trimmed ys).length + 1) cs W.heap.size w4 (hblk4.own hsw4 hbel.size) (by omega)
        rw [hsl4] at key2
        replace hsl4 : Hid _ := hsl4
        replace hsv4 : Hid _ := hsv4
        replace key2 : Hid _ := key2
        have hB4 : Below W.heap.size W w4 := bthen hbel hb4
        go_wp2_with fail
        refine Calls.mono key2.out ?_
        rintro e w5 ⟨v, rfl, ⟨neg, a, cap, ds, rfl, hr, hn, hz, hle⟩, hb5⟩
        replace hz : Hid _ := hz
        replace hn : Hid _ := hn
        have hB5 : Below W.heap.size W w5 := bthen hB4 hb5
        have k4 := keep_cell hB5 c4
        have k5 := keep_cell hB5 c5
        have g4 := keep_frozen hB5 c4 f4
        have g5 := keep_frozen hB5 c5 f5
        clear key key2
        go_wp2
        refine bodyPost_ret (v := .tuple #[.agg #[.bool neg, .slice a ds.length cap], .bool true]) (by simp [results, Try.results27, go_sem, k4, k5]) rfl ⟨_, ls, rs, rfl, hsw1, hsw2, hsl1.out, hsl2.out, by rw [hsv1.out, trimmed_val], by rw [hsv2.out, trimmed_val], ⟨neg, a, cap, ds, rfl, ((hr.set (by exact hlt) _).set (by exact hlt) _).mono hbW.size, hn.out, ?_, ?_⟩, ?_⟩
        · have hss := zip_end .xor ls rs ss _ hsl1.out hsl2.out hsl.out (fun j hj => HE.out j hj)
          rw [hz.out, ← hss]
          have hl' : ss.length - 1 = (trimmed ys).length := by have := hsl.out; omega
          unfold signed
          rw [hl', HT.out, if_neg ht.out]
          simp [num, hsv4.out, comp]
        · omega
        · exact ((bthen hbW hB5).setCell (by simp; omega) _).setCell (by simp; omega) _
set_option maxRecDepth 20000 in
set_option maxHeartbeats 4000000 in
theorem Bitwise_xor_ge (na nb : Bool) (x y : Option Addr) (ca cb : Nat) (xs ys : List Int) (w : World) (ha : Row w .u32 4294967296 x ca xs) (hb : Row w .u32 4294967296 y cb ys) (hl : xs.length ≤ 400000) (_hlb : ys.length ≤ 400000) (hxy : (trimmed ys).length ≤ (trimmed xs).length) :
    Calls Try.prog 27 #[.string ⟨#[94]⟩, .agg #[.bool na, .slice x xs.length ca], .agg #[.bool nb, .slice y ys.length cb]] w fun e w' => BitOut .xor w w' e na nb xs ys ((trimmed xs).length + 1) (max xs.length ys.length + 1) := by
  have tx := trimmed_le xs
  have ty := trimmed_le ys
  have hZ : (trimmed xs).length + 1 ≤ max xs.length ys.length + 1 := by omega
  have hxy' : ((trimmed ys).length : Int) ≤ ((trimmed xs).length : Int) := by omega
  go_enter Try.func27, Try.ntmps27
  go_wp2
  obtain ⟨W, hW, hbW, hlt, c0, c1, c2, c3, c4, c5, f4, f5⟩ := boxes3 w (.bool na) (.slice x xs.length ca) (.bool nb) (.slice y ys.length cb) (.bool false) (.slice none 0 0) 24
  rw [← hW]
  clear hW
  have haW := ha.next hbW
  have hbW' := hb.next hbW
  have haD : Row W.drew .u32 4294967296 x ca xs := haW.next ((Below.refl _ _).drew)
  have hbD : Row W.drew .u32 4294967296 y cb ys := hbW'.next ((Below.refl _ _).drew)
  go_region_held3 (fun w' => w'.cell? ⟨w.heap.size, 1, none⟩ = some (.slice x xs.length ca) ∧ w'.cell? ⟨w.heap.size + 1, 1, none⟩ = some (.slice y ys.length cb)) (refine ⟨?_, ?_⟩ <;> first | assumption | exact c1 | exact c3)
    (first
      | (go_at_call_of 46 (Value.slice x xs.length ca); refine (trim_any x ca xs _ haD).mono ?_; rintro e w1 ⟨rfl, rfl⟩)
      | (go_at_call_of 46 (Value.slice y ys.length cb); refine (trim_any y cb ys _ hbD).mono ?_; rintro e w1 ⟨rfl, rfl⟩))
  go_wp2
  have hD2 : Below W.heap.size W W.drew.drew := ((Below.refl _ _).drew).drew
  have haE := (haW.next hD2).trim
  have hbE := (hbW'.next hD2).trim
  have d0 := keep_cell hD2 c0
  have d2 := keep_cell hD2 c2
  go_region_held3 (fun w' => w'.cell? ⟨w.heap.size, 0, none⟩ = some (.bool na) ∧ w'.cell? ⟨w.heap.size + 1, 0, none⟩ = some (.bool nb)) (first | exact ⟨d0, d2⟩ | exact ⟨keep_cell hB1 c0, keep_cell hB1 c2⟩ | exact ⟨keep_cell hB2 c0, keep_cell hB2 c2⟩)
    (first
      | (go_at_call_of 56 (Value.slice x (trimmed xs).length ca); refine (complement_any na x ca ((trimmed xs).length + 1) (trimmed xs) _ haE (by omega) (by omega)).mono ?_; rintro e w1 ⟨ls, rfl, hblk1, hsl1, hsw1, hsv1, hb1⟩; replace hsl1 : Hid _ := hsl1; replace hsv1 : Hid _ := hsv1; have hB1 : Below W.heap.size W w1 := bthen hD2 hb1)
      | (go_at_call_of 56 (Value.slice y (trimmed ys).length cb); refine (complement_any nb y cb ((trimmed xs).length + 1) (trimmed ys) _ (hbE.next hb1) (by omega) (by omega)).mono ?_; rintro e w2 ⟨rs, rfl, hblk2, hsl2, hsw2, hsv2, hb2⟩; replace hsl2 : Hid _ := hsl2; replace hsv2 : Hid _ := hsv2; have hB2 : Below W.heap.size W w2 := bthen hB1 hb2))
  go_wp2
  have hblkL : Blk w2 W.heap.size .u32 61 ((trimmed xs).length + 1) ls := hblk1.next hb2
  have hgl : W.heap.size < w1.heap.size := hblk1.lt
  go_loopw [40] (fun i wr => ∃ (k : Nat) (ss : List Int), k ≤ (trimmed xs).length + 1 ∧ i = .int .i64 k ∧ Blk wr W.heap.size .u32 61 ((trimmed xs).length + 1) ss ∧ Blk wr w1.heap.size .u32 61 ((trimmed xs).length + 1) rs ∧ Hid (ss.length = (trimmed xs).length + 1) ∧ Words 4294967296 ss ∧ Hid (∀ j, j < k → ss[j]?.getD 0 = bits .xor .u32 (ls[j]?.getD 0) (rs[j]?.getD 0)) ∧ Hid (∀ j, k ≤ j → ss[j]?.getD 0 = ls[j]?.getD 0) ∧ Below W.heap.size W wr) (fun i _ => (trimmed xs).length + 1 - (intOf i).toNat)
  case atStart => exact ⟨0, ls, Nat.zero_le _, rfl, hblkL, hblk2, hsl1, hsw1, (fun j hj => by omega), (fun _ _ => rfl), hB2⟩
  case round =>
    obtain ⟨k, ss, hk, rfl, hblk, hblkR, hsl, hsw, HE, HF, hbel⟩ := hrel
    clear haE hbE hblkL hblk1 hblk2 hD2
    by_cases hlt2 : k < (trimmed xs).length + 1
    · obtain ⟨p, hp, hp0, hp1⟩ := hsw.get (by decide) k
      obtain ⟨q, hq, hq0, hq1⟩ := hsw2.get (by decide) k
      have hcl := hblk.cell k (by have := hsl.out; omega)
      have hcr := hblkR.cell k (by have := hsl2.out; omega)
      rw [hp] at hcl
      rw [hq] at hcr
      have hfr := hblk.frozen k
      have hrng := bits_rng .xor p q
      have HB : Hid (bits .xor .u32 (ls[k]?.getD 0) (rs[k]?.getD 0) = bits .xor .u32 p q) := by show _ = _; rw [← HF.out k (Nat.le_refl _), hp, hq]
      have hkl : k < ss.length := by have := hsl.out; omega
      replace hkl : Hid _ := hkl
      clear hp hq
      go_wp2
      go_roundw
      case rel => exact ⟨k + 1, _, by omega, by go_num, hblk.set k _, hblkR.other _ _ (by simp; omega), (by show _ = _; rw [List.length_set]; exact hsl.out), hsw.set k hrng, (fun j hj => by by_cases e : j = k; (subst e; rw [HB.out]; simp [hkl.out]); (rw [List.getElem?_set_ne (fun h => e h.symm)]; exact HE.out j (by omega))), (fun j hj => by rw [List.getElem?_set_ne (by omega)]; exact HF.out j (by omega)), hbel.setCell (Nat.le_refl _) _⟩
      case measure => simp [intOf]; omega
    · obtain rfl : k = (trimmed xs).length + 1 := by omega
      obtain ⟨t, ht', ht0, ht1⟩ := hsw.get (by decide) (trimmed xs).length
      have hct := hblk.cell (trimmed xs).length (by have := hsl.out; omega)
      rw [ht'] at hct
      have HT : Hid (ss[(trimmed xs).length]?.getD 0 = t) := ht'
      clear ht'
      by_cases ht : 2147483648 ≤ t
      · replace ht : Hid _ := ht
        have hneg : (t / 2147483648 == 1) = true := by have := ht.out; rw [beq_iff_eq]; omega
        have key := complement_any true (some ⟨W.heap.size, 0, none⟩) ((trimmed xs).length + 1) ((trimmed xs).length + 1) ss wr (hblk.row hsw) (by omega) (by have := hsl.out; omega)
        rw [hsl.out] at key
        replace key : Hid _ := key
        go_wp2_with fail
        refine Calls.mono key.out ?_
        rintro e w4 ⟨cs, rfl, hblk4, hsl4, hsw4, hsv4, hb4⟩
        have key2 := number_any true (some ⟨wr.heap.size, 0, none⟩) ((trimmed xs).length + 1) cs W.heap.size w4 (hblk4.own hsw4 hbel.size) (by omega)
        rw [hsl4] at key2
        replace hsl4 : Hid _ := hsl4
        replace hsv4 : Hid _ := hsv4
        replace key2 : Hid _ := key2
        have hB4 : Below W.heap.size W w4 := bthen hbel hb4
        go_wp2_with fail
        refine Calls.mono key2.out ?_
        rintro e w5 ⟨v, rfl, ⟨neg, a, cap, ds, rfl, hr, hn, hz, hle⟩, hb5⟩
        replace hz : Hid _ := hz
        replace hn : Hid _ := hn
        have hB5 : Below W.heap.size W w5 := bthen hB4 hb5
        have k4 := keep_cell hB5 c4
        have k5 := keep_cell hB5 c5
        have g4 := keep_frozen hB5 c4 f4
        have g5 := keep_frozen hB5 c5 f5
        clear key key2
        go_wp2
        refine bodyPost_ret (v := .tuple #[.agg #[.bool neg, .slice a ds.length cap], .bool true]) (by simp [results, Try.results27, go_sem, k4, k5]) rfl ⟨_, ls, rs, rfl, hsw1, hsw2, hsl1.out, hsl2.out, by rw [hsv1.out, trimmed_val], by rw [hsv2.out, trimmed_val], ⟨neg, a, cap, ds, rfl, ((hr.set (by exact hlt) _).set (by exact hlt) _).mono hbW.size, hn.out, ?_, ?_⟩, ?_⟩
        · have hss := zip_end .xor ls rs ss _ hsl1.out hsl2.out hsl.out (fun j hj => HE.out j hj)
          rw [hz.out, ← hss]
          have hl' : ss.length - 1 = (trimmed xs).length := by have := hsl.out; omega
          unfold signed
          rw [hl', HT.out, if_pos ht.out, hsl.out]
          simp [num, hsv4.out, comp]
        · omega
        · exact ((bthen hbW hB5).setCell (by simp; omega) _).setCell (by simp; omega) _
      · replace ht : Hid _ := ht
        have hneg : (t / 2147483648 == 1) = false := by have := ht.out; rw [beq_eq_false_iff_ne]; intro h; apply this; omega
        have key := complement_any false (some ⟨W.heap.size, 0, none⟩) ((trimmed xs).length + 1) ((trimmed xs).length + 1) ss wr (hblk.row hsw) (by omega) (by have := hsl.out; omega)
        rw [hsl.out] at key
        replace key : Hid _ := key
        go_wp2_with fail
        refine Calls.mono key.out ?_
        rintro e w4 ⟨cs, rfl, hblk4, hsl4, hsw4, hsv4, hb4⟩
        have key2 := number_any false (some ⟨wr.heap.size, 0, none⟩) ((trimmed xs).length + 1) cs W.heap.size w4 (hblk4.own hsw4 hbel.size) (by omega)
        rw [hsl4] at key2
        replace hsl4 : Hid _ := hsl4
        replace hsv4 : Hid _ := hsv4
        replace key2 : Hid _ := key2
        have hB4 : Below W.heap.size W w4 := bthen hbel hb4
        go_wp2_with fail
        refine Calls.mono key2.out ?_
        rintro e w5 ⟨v, rfl, ⟨neg, a, cap, ds, rfl, hr, hn, hz, hle⟩, hb5⟩
        replace hz : Hid _ := hz
        replace hn : Hid _ := hn
        have hB5 : Below W.heap.size W w5 := bthen hB4 hb5
        have k4 := keep_cell hB5 c4
        have k5 := keep_cell hB5 c5
        have g4 := keep_frozen hB5 c4 f4
        have g5 := keep_frozen hB5 c5 f5
        clear key key2
        go_wp2
        refine bodyPost_ret (v := .tuple #[.agg #[.bool neg, .slice a ds.length cap], .bool true]) (by simp [results, Try.results27, go_sem, k4, k5]) rfl ⟨_, ls, rs, rfl, hsw1, hsw2, hsl1.out, hsl2.out, by rw [hsv1.out, trimmed_val], by rw [hsv2.out, trimmed_val], ⟨neg, a, cap, ds, rfl, ((hr.set (by exact hlt) _).set (by exact hlt) _).mono hbW.size, hn.out, ?_, ?_⟩, ?_⟩
        · have hss := zip_end .xor ls rs ss _ hsl1.out hsl2.out hsl.out (fun j hj => HE.out j hj)
          rw [hz.out, ← hss]
          have hl' : ss.length - 1 = (trimmed xs).length := by have := hsl.out; omega
          unfold signed
          rw [hl', HT.out, if_neg ht.out]
          simp [num, hsv4.out, comp]
        · omega
        · exact ((bthen hbW hB5).setCell (by simp; omega) _).setCell (by simp; omega) _
set_option maxRecDepth 20000 in
set_option maxHeartbeats 4000000 in
theorem Bitwise_not_lt (na nb : Bool) (x y : Option Addr) (ca cb : Nat) (xs ys : List Int) (w : World) (ha : Row w .u32 4294967296 x ca xs) (hb : Row w .u32 4294967296 y cb ys) (_hl : xs.length ≤ 400000) (hlb : ys.length ≤ 400000) (hxy : (trimmed xs).length < (trimmed ys).length) :
    Calls Try.prog 27 #[.string ⟨#[38, 94]⟩, .agg #[.bool na, .slice x xs.length ca], .agg #[.bool nb, .slice y ys.length cb]] w fun e w' => BitOut .andNot w w' e na nb xs ys ((trimmed ys).length + 1) (max xs.length ys.length + 1) := by
  have tx := trimmed_le xs
  have ty := trimmed_le ys
  have hZ : (trimmed ys).length + 1 ≤ max xs.length ys.length + 1 := by omega
  have hxy' : ((trimmed xs).length : Int) < ((trimmed ys).length : Int) := by omega
  go_enter Try.func27, Try.ntmps27
  go_wp2
  obtain ⟨W, hW, hbW, hlt, c0, c1, c2, c3, c4, c5, f4, f5⟩ := boxes3 w (.bool na) (.slice x xs.length ca) (.bool nb) (.slice y ys.length cb) (.bool false) (.slice none 0 0) 24
  rw [← hW]
  clear hW
  have haW := ha.next hbW
  have hbW' := hb.next hbW
  have haD : Row W.drew .u32 4294967296 x ca xs := haW.next ((Below.refl _ _).drew)
  have hbD : Row W.drew .u32 4294967296 y cb ys := hbW'.next ((Below.refl _ _).drew)
  go_region_held3 (fun w' => w'.cell? ⟨w.heap.size, 1, none⟩ = some (.slice x xs.length ca) ∧ w'.cell? ⟨w.heap.size + 1, 1, none⟩ = some (.slice y ys.length cb)) (refine ⟨?_, ?_⟩ <;> first | assumption | exact c1 | exact c3)
    (first
      | (go_at_call_of 46 (Value.slice x xs.length ca); refine (trim_any x ca xs _ haD).mono ?_; rintro e w1 ⟨rfl, rfl⟩)
      | (go_at_call_of 46 (Value.slice y ys.length cb); refine (trim_any y cb ys _ hbD).mono ?_; rintro e w1 ⟨rfl, rfl⟩))
  go_wp2
  have hD2 : Below W.heap.size W W.drew.drew := ((Below.refl _ _).drew).drew
  have haE := (haW.next hD2).trim
  have hbE := (hbW'.next hD2).trim
  have d0 := keep_cell hD2 c0
  have d2 := keep_cell hD2 c2
  go_region_held3 (fun w' => w'.cell? ⟨w.heap.size, 0, none⟩ = some (.bool na) ∧ w'.cell? ⟨w.heap.size + 1, 0, none⟩ = some (.bool nb)) (first | exact ⟨d0, d2⟩ | exact ⟨keep_cell hB1 c0, keep_cell hB1 c2⟩ | exact ⟨keep_cell hB2 c0, keep_cell hB2 c2⟩)
    (first
      | (go_at_call_of 56 (Value.slice x (trimmed xs).length ca); refine (complement_any na x ca ((trimmed ys).length + 1) (trimmed xs) _ haE (by omega) (by omega)).mono ?_; rintro e w1 ⟨ls, rfl, hblk1, hsl1, hsw1, hsv1, hb1⟩; replace hsl1 : Hid _ := hsl1; replace hsv1 : Hid _ := hsv1; have hB1 : Below W.heap.size W w1 := bthen hD2 hb1)
      | (go_at_call_of 56 (Value.slice y (trimmed ys).length cb); refine (complement_any nb y cb ((trimmed ys).length + 1) (trimmed ys) _ (hbE.next hb1) (by omega) (by omega)).mono ?_; rintro e w2 ⟨rs, rfl, hblk2, hsl2, hsw2, hsv2, hb2⟩; replace hsl2 : Hid _ := hsl2; replace hsv2 : Hid _ := hsv2; have hB2 : Below W.heap.size W w2 := bthen hB1 hb2))
  go_wp2
  have hblkL : Blk w2 W.heap.size .u32 61 ((trimmed ys).length + 1) ls := hblk1.next hb2
  have hgl : W.heap.size < w1.heap.size := hblk1.lt
  go_loopw [40] (fun i wr => ∃ (k : Nat) (ss : List Int), k ≤ (trimmed ys).length + 1 ∧ i = .int .i64 k ∧ Blk wr W.heap.size .u32 61 ((trimmed ys).length + 1) ss ∧ Blk wr w1.heap.size .u32 61 ((trimmed ys).length + 1) rs ∧ Hid (ss.length = (trimmed ys).length + 1) ∧ Words 4294967296 ss ∧ Hid (∀ j, j < k → ss[j]?.getD 0 = bits .andNot .u32 (ls[j]?.getD 0) (rs[j]?.getD 0)) ∧ Hid (∀ j, k ≤ j → ss[j]?.getD 0 = ls[j]?.getD 0) ∧ Below W.heap.size W wr) (fun i _ => (trimmed ys).length + 1 - (intOf i).toNat)
  case atStart => exact ⟨0, ls, Nat.zero_le _, rfl, hblkL, hblk2, hsl1, hsw1, (fun j hj => by omega), (fun _ _ => rfl), hB2⟩
  case round =>
    obtain ⟨k, ss, hk, rfl, hblk, hblkR, hsl, hsw, HE, HF, hbel⟩ := hrel
    clear haE hbE hblkL hblk1 hblk2 hD2
    by_cases hlt2 : k < (trimmed ys).length + 1
    · obtain ⟨p, hp, hp0, hp1⟩ := hsw.get (by decide) k
      obtain ⟨q, hq, hq0, hq1⟩ := hsw2.get (by decide) k
      have hcl := hblk.cell k (by have := hsl.out; omega)
      have hcr := hblkR.cell k (by have := hsl2.out; omega)
      rw [hp] at hcl
      rw [hq] at hcr
      have hfr := hblk.frozen k
      have hrng := bits_rng .andNot p q
      have HB : Hid (bits .andNot .u32 (ls[k]?.getD 0) (rs[k]?.getD 0) = bits .andNot .u32 p q) := by show _ = _; rw [← HF.out k (Nat.le_refl _), hp, hq]
      have hkl : k < ss.length := by have := hsl.out; omega
      replace hkl : Hid _ := hkl
      clear hp hq
      go_wp2
      go_roundw
      case rel => exact ⟨k + 1, _, by omega, by go_num, hblk.set k _, hblkR.other _ _ (by simp; omega), (by show _ = _; rw [List.length_set]; exact hsl.out), hsw.set k hrng, (fun j hj => by by_cases e : j = k; (subst e; rw [HB.out]; simp [hkl.out]); (rw [List.getElem?_set_ne (fun h => e h.symm)]; exact HE.out j (by omega))), (fun j hj => by rw [List.getElem?_set_ne (by omega)]; exact HF.out j (by omega)), hbel.setCell (Nat.le_refl _) _⟩
      case measure => simp [intOf]; omega
    · obtain rfl : k = (trimmed ys).length + 1 := by omega
      obtain ⟨t, ht', ht0, ht1⟩ := hsw.get (by decide) (trimmed ys).length
      have hct := hblk.cell (trimmed ys).length (by have := hsl.out; omega)
      rw [ht'] at hct
      have HT : Hid (ss[(trimmed ys).length]?.getD 0 = t) := ht'
      clear ht'
      by_cases ht : 2147483648 ≤ t
      · replace ht : Hid _ := ht
        have hneg : (t / 2147483648 == 1) = true := by have := ht.out; rw [beq_iff_eq]; omega
        have key := complement_any true (some ⟨W.heap.size, 0, none⟩) ((trimmed ys).length + 1) ((trimmed ys).length + 1) ss wr (hblk.row hsw) (by omega) (by have := hsl.out; omega)
        rw [hsl.out] at key
        replace key : Hid _ := key
        go_wp2_with fail
        refine Calls.mono key.out ?_
        rintro e w4 ⟨cs, rfl, hblk4, hsl4, hsw4, hsv4, hb4⟩
        have key2 := number_any true (some ⟨wr.heap.size, 0, none⟩) ((trimmed ys).length + 1) cs W.heap.size w4 (hblk4.own hsw4 hbel.size) (by omega)
        rw [hsl4] at key2
        replace hsl4 : Hid _ := hsl4
        replace hsv4 : Hid _ := hsv4
        replace key2 : Hid _ := key2
        have hB4 : Below W.heap.size W w4 := bthen hbel hb4
        go_wp2_with fail
        refine Calls.mono key2.out ?_
        rintro e w5 ⟨v, rfl, ⟨neg, a, cap, ds, rfl, hr, hn, hz, hle⟩, hb5⟩
        replace hz : Hid _ := hz
        replace hn : Hid _ := hn
        have hB5 : Below W.heap.size W w5 := bthen hB4 hb5
        have k4 := keep_cell hB5 c4
        have k5 := keep_cell hB5 c5
        have g4 := keep_frozen hB5 c4 f4
        have g5 := keep_frozen hB5 c5 f5
        clear key key2
        go_wp2
        refine bodyPost_ret (v := .tuple #[.agg #[.bool neg, .slice a ds.length cap], .bool true]) (by simp [results, Try.results27, go_sem, k4, k5]) rfl ⟨_, ls, rs, rfl, hsw1, hsw2, hsl1.out, hsl2.out, by rw [hsv1.out, trimmed_val], by rw [hsv2.out, trimmed_val], ⟨neg, a, cap, ds, rfl, ((hr.set (by exact hlt) _).set (by exact hlt) _).mono hbW.size, hn.out, ?_, ?_⟩, ?_⟩
        · have hss := zip_end .andNot ls rs ss _ hsl1.out hsl2.out hsl.out (fun j hj => HE.out j hj)
          rw [hz.out, ← hss]
          have hl' : ss.length - 1 = (trimmed ys).length := by have := hsl.out; omega
          unfold signed
          rw [hl', HT.out, if_pos ht.out, hsl.out]
          simp [num, hsv4.out, comp]
        · omega
        · exact ((bthen hbW hB5).setCell (by simp; omega) _).setCell (by simp; omega) _
      · replace ht : Hid _ := ht
        have hneg : (t / 2147483648 == 1) = false := by have := ht.out; rw [beq_eq_false_iff_ne]; intro h; apply this; omega
        have key := complement_any false (some ⟨W.heap.size, 0, none⟩) ((trimmed ys).length + 1) ((trimmed ys).length + 1) ss wr (hblk.row hsw) (by omega) (by have := hsl.out; omega)
        rw [hsl.out] at key
        replace key : Hid _ := key
        go_wp2_with fail
        refine Calls.mono key.out ?_
        rintro e w4 ⟨cs, rfl, hblk4, hsl4, hsw4, hsv4, hb4⟩
        have key2 := number_any false (some ⟨wr.heap.size, 0, none⟩) ((trimmed ys).length + 1) cs W.heap.size w4 (hblk4.own hsw4 hbel.size) (by omega)
        rw [hsl4] at key2
        replace hsl4 : Hid _ := hsl4
        replace hsv4 : Hid _ := hsv4
        replace key2 : Hid _ := key2
        have hB4 : Below W.heap.size W w4 := bthen hbel hb4
        go_wp2_with fail
        refine Calls.mono key2.out ?_
        rintro e w5 ⟨v, rfl, ⟨neg, a, cap, ds, rfl, hr, hn, hz, hle⟩, hb5⟩
        replace hz : Hid _ := hz
        replace hn : Hid _ := hn
        have hB5 : Below W.heap.size W w5 := bthen hB4 hb5
        have k4 := keep_cell hB5 c4
        have k5 := keep_cell hB5 c5
        have g4 := keep_frozen hB5 c4 f4
        have g5 := keep_frozen hB5 c5 f5
        clear key key2
        go_wp2
        refine bodyPost_ret (v := .tuple #[.agg #[.bool neg, .slice a ds.length cap], .bool true]) (by simp [results, Try.results27, go_sem, k4, k5]) rfl ⟨_, ls, rs, rfl, hsw1, hsw2, hsl1.out, hsl2.out, by rw [hsv1.out, trimmed_val], by rw [hsv2.out, trimmed_val], ⟨neg, a, cap, ds, rfl, ((hr.set (by exact hlt) _).set (by exact hlt) _).mono hbW.size, hn.out, ?_, ?_⟩, ?_⟩
        · have hss := zip_end .andNot ls rs ss _ hsl1.out hsl2.out hsl.out (fun j hj => HE.out j hj)
          rw [hz.out, ← hss]
          have hl' : ss.length - 1 = (trimmed ys).length := by have := hsl.out; omega
          unfold signed
          rw [hl', HT.out, if_neg ht.out]
          simp [num, hsv4.out, comp]
        · omega
        · exact ((bthen hbW hB5).setCell (by simp; omega) _).setCell (by simp; omega) _
set_option maxRecDepth 20000 in
set_option maxHeartbeats 4000000 in
theorem Bitwise_not_ge (na nb : Bool) (x y : Option Addr) (ca cb : Nat) (xs ys : List Int) (w : World) (ha : Row w .u32 4294967296 x ca xs) (hb : Row w .u32 4294967296 y cb ys) (hl : xs.length ≤ 400000) (_hlb : ys.length ≤ 400000) (hxy : (trimmed ys).length ≤ (trimmed xs).length) :
    Calls Try.prog 27 #[.string ⟨#[38, 94]⟩, .agg #[.bool na, .slice x xs.length ca], .agg #[.bool nb, .slice y ys.length cb]] w fun e w' => BitOut .andNot w w' e na nb xs ys ((trimmed xs).length + 1) (max xs.length ys.length + 1) := by
  have tx := trimmed_le xs
  have ty := trimmed_le ys
  have hZ : (trimmed xs).length + 1 ≤ max xs.length ys.length + 1 := by omega
  have hxy' : ((trimmed ys).length : Int) ≤ ((trimmed xs).length : Int) := by omega
  go_enter Try.func27, Try.ntmps27
  go_wp2
  obtain ⟨W, hW, hbW, hlt, c0, c1, c2, c3, c4, c5, f4, f5⟩ := boxes3 w (.bool na) (.slice x xs.length ca) (.bool nb) (.slice y ys.length cb) (.bool false) (.slice none 0 0) 24
  rw [← hW]
  clear hW
  have haW := ha.next hbW
  have hbW' := hb.next hbW
  have haD : Row W.drew .u32 4294967296 x ca xs := haW.next ((Below.refl _ _).drew)
  have hbD : Row W.drew .u32 4294967296 y cb ys := hbW'.next ((Below.refl _ _).drew)
  go_region_held3 (fun w' => w'.cell? ⟨w.heap.size, 1, none⟩ = some (.slice x xs.length ca) ∧ w'.cell? ⟨w.heap.size + 1, 1, none⟩ = some (.slice y ys.length cb)) (refine ⟨?_, ?_⟩ <;> first | assumption | exact c1 | exact c3)
    (first
      | (go_at_call_of 46 (Value.slice x xs.length ca); refine (trim_any x ca xs _ haD).mono ?_; rintro e w1 ⟨rfl, rfl⟩)
      | (go_at_call_of 46 (Value.slice y ys.length cb); refine (trim_any y cb ys _ hbD).mono ?_; rintro e w1 ⟨rfl, rfl⟩))
  go_wp2
  have hD2 : Below W.heap.size W W.drew.drew := ((Below.refl _ _).drew).drew
  have haE := (haW.next hD2).trim
  have hbE := (hbW'.next hD2).trim
  have d0 := keep_cell hD2 c0
  have d2 := keep_cell hD2 c2
  go_region_held3 (fun w' => w'.cell? ⟨w.heap.size, 0, none⟩ = some (.bool na) ∧ w'.cell? ⟨w.heap.size + 1, 0, none⟩ = some (.bool nb)) (first | exact ⟨d0, d2⟩ | exact ⟨keep_cell hB1 c0, keep_cell hB1 c2⟩ | exact ⟨keep_cell hB2 c0, keep_cell hB2 c2⟩)
    (first
      | (go_at_call_of 56 (Value.slice x (trimmed xs).length ca); refine (complement_any na x ca ((trimmed xs).length + 1) (trimmed xs) _ haE (by omega) (by omega)).mono ?_; rintro e w1 ⟨ls, rfl, hblk1, hsl1, hsw1, hsv1, hb1⟩; replace hsl1 : Hid _ := hsl1; replace hsv1 : Hid _ := hsv1; have hB1 : Below W.heap.size W w1 := bthen hD2 hb1)
      | (go_at_call_of 56 (Value.slice y (trimmed ys).length cb); refine (complement_any nb y cb ((trimmed xs).length + 1) (trimmed ys) _ (hbE.next hb1) (by omega) (by omega)).mono ?_; rintro e w2 ⟨rs, rfl, hblk2, hsl2, hsw2, hsv2, hb2⟩; replace hsl2 : Hid _ := hsl2; replace hsv2 : Hid _ := hsv2; have hB2 : Below W.heap.size W w2 := bthen hB1 hb2))
  go_wp2
  have hblkL : Blk w2 W.heap.size .u32 61 ((trimmed xs).length + 1) ls := hblk1.next hb2
  have hgl : W.heap.size < w1.heap.size := hblk1.lt
  go_loopw [40] (fun i wr => ∃ (k : Nat) (ss : List Int), k ≤ (trimmed xs).length + 1 ∧ i = .int .i64 k ∧ Blk wr W.heap.size .u32 61 ((trimmed xs).length + 1) ss ∧ Blk wr w1.heap.size .u32 61 ((trimmed xs).length + 1) rs ∧ Hid (ss.length = (trimmed xs).length + 1) ∧ Words 4294967296 ss ∧ Hid (∀ j, j < k → ss[j]?.getD 0 = bits .andNot .u32 (ls[j]?.getD 0) (rs[j]?.getD 0)) ∧ Hid (∀ j, k ≤ j → ss[j]?.getD 0 = ls[j]?.getD 0) ∧ Below W.heap.size W wr) (fun i _ => (trimmed xs).length + 1 - (intOf i).toNat)
  case atStart => exact ⟨0, ls, Nat.zero_le _, rfl, hblkL, hblk2, hsl1, hsw1, (fun j hj => by omega), (fun _ _ => rfl), hB2⟩
  case round =>
    obtain ⟨k, ss, hk, rfl, hblk, hblkR, hsl, hsw, HE, HF, hbel⟩ := hrel
    clear haE hbE hblkL hblk1 hblk2 hD2
    by_cases hlt2 : k < (trimmed xs).length + 1
    · obtain ⟨p, hp, hp0, hp1⟩ := hsw.get (by decide) k
      obtain ⟨q, hq, hq0, hq1⟩ := hsw2.get (by decide) k
      have hcl := hblk.cell k (by have := hsl.out; omega)
      have hcr := hblkR.cell k (by have := hsl2.out; omega)
      rw [hp] at hcl
      rw [hq] at hcr
      have hfr := hblk.frozen k
      have hrng := bits_rng .andNot p q
      have HB : Hid (bits .andNot .u32 (ls[k]?.getD 0) (rs[k]?.getD 0) = bits .andNot .u32 p q) := by show _ = _; rw [← HF.out k (Nat.le_refl _), hp, hq]
      have hkl : k < ss.length := by have := hsl.out; omega
      replace hkl : Hid _ := hkl
      clear hp hq
      go_wp2
      go_roundw
      case rel => exact ⟨k + 1, _, by omega, by go_num, hblk.set k _, hblkR.other _ _ (by simp; omega), (by show _ = _; rw [List.length_set]; exact hsl.out), hsw.set k hrng, (fun j hj => by by_cases e : j = k; (subst e; rw [HB.out]; simp [hkl.out]); (rw [List.getElem?_set_ne (fun h => e h.symm)]; exact HE.out j (by omega))), (fun j hj => by rw [List.getElem?_set_ne (by omega)]; exact HF.out j (by omega)), hbel.setCell (Nat.le_refl _) _⟩
      case measure => simp [intOf]; omega
    · obtain rfl : k = (trimmed xs).length + 1 := by omega
      obtain ⟨t, ht', ht0, ht1⟩ := hsw.get (by decide) (trimmed xs).length
      have hct := hblk.cell (trimmed xs).length (by have := hsl.out; omega)
      rw [ht'] at hct
      have HT : Hid (ss[(trimmed xs).length]?.getD 0 = t) := ht'
      clear ht'
      by_cases ht : 2147483648 ≤ t
      · replace ht : Hid _ := ht
        have hneg : (t / 2147483648 == 1) = true := by have := ht.out; rw [beq_iff_eq]; omega
        have key := complement_any true (some ⟨W.heap.size, 0, none⟩) ((trimmed xs).length + 1) ((trimmed xs).length + 1) ss wr (hblk.row hsw) (by omega) (by have := hsl.out; omega)
        rw [hsl.out] at key
        replace key : Hid _ := key
        go_wp2_with fail
        refine Calls.mono key.out ?_
        rintro e w4 ⟨cs, rfl, hblk4, hsl4, hsw4, hsv4, hb4⟩
        have key2 := number_any true (some ⟨wr.heap.size, 0, none⟩) ((trimmed xs).length + 1) cs W.heap.size w4 (hblk4.own hsw4 hbel.size) (by omega)
        rw [hsl4] at key2
        replace hsl4 : Hid _ := hsl4
        replace hsv4 : Hid _ := hsv4
        replace key2 : Hid _ := key2
        have hB4 : Below W.heap.size W w4 := bthen hbel hb4
        go_wp2_with fail
        refine Calls.mono key2.out ?_
        rintro e w5 ⟨v, rfl, ⟨neg, a, cap, ds, rfl, hr, hn, hz, hle⟩, hb5⟩
        replace hz : Hid _ := hz
        replace hn : Hid _ := hn
        have hB5 : Below W.heap.size W w5 := bthen hB4 hb5
        have k4 := keep_cell hB5 c4
        have k5 := keep_cell hB5 c5
        have g4 := keep_frozen hB5 c4 f4
        have g5 := keep_frozen hB5 c5 f5
        clear key key2
        go_wp2
        refine bodyPost_ret (v := .tuple #[.agg #[.bool neg, .slice a ds.length cap], .bool true]) (by simp [results, Try.results27, go_sem, k4, k5]) rfl ⟨_, ls, rs, rfl, hsw1, hsw2, hsl1.out, hsl2.out, by rw [hsv1.out, trimmed_val], by rw [hsv2.out, trimmed_val], ⟨neg, a, cap, ds, rfl, ((hr.set (by exact hlt) _).set (by exact hlt) _).mono hbW.size, hn.out, ?_, ?_⟩, ?_⟩
        · have hss := zip_end .andNot ls rs ss _ hsl1.out hsl2.out hsl.out (fun j hj => HE.out j hj)
          rw [hz.out, ← hss]
          have hl' : ss.length - 1 = (trimmed xs).length := by have := hsl.out; omega
          unfold signed
          rw [hl', HT.out, if_pos ht.out, hsl.out]
          simp [num, hsv4.out, comp]
        · omega
        · exact ((bthen hbW hB5).setCell (by simp; omega) _).setCell (by simp; omega) _
      · replace ht : Hid _ := ht
        have hneg : (t / 2147483648 == 1) = false := by have := ht.out; rw [beq_eq_false_iff_ne]; intro h; apply this; omega
        have key := complement_any false (some ⟨W.heap.size, 0, none⟩) ((trimmed xs).length + 1) ((trimmed xs).length + 1) ss wr (hblk.row hsw) (by omega) (by have := hsl.out; omega)
        rw [hsl.out] at key
        replace key : Hid _ := key
        go_wp2_with fail
        refine Calls.mono key.out ?_
        rintro e w4 ⟨cs, rfl, hblk4, hsl4, hsw4, hsv4, hb4⟩
        have key2 := number_any false (some ⟨wr.heap.size, 0, none⟩) ((trimmed xs).length + 1) cs W.heap.size w4 (hblk4.own hsw4 hbel.size) (by omega)
        rw [hsl4] at key2
        replace hsl4 : Hid _ := hsl4
        replace hsv4 : Hid _ := hsv4
        replace key2 : Hid _ := key2
        have hB4 : Below W.heap.size W w4 := bthen hbel hb4
        go_wp2_with fail
        refine Calls.mono key2.out ?_
        rintro e w5 ⟨v, rfl, ⟨neg, a, cap, ds, rfl, hr, hn, hz, hle⟩, hb5⟩
        replace hz : Hid _ := hz
        replace hn : Hid _ := hn
        have hB5 : Below W.heap.size W w5 := bthen hB4 hb5
        have k4 := keep_cell hB5 c4
        have k5 := keep_cell hB5 c5
        have g4 := keep_frozen hB5 c4 f4
        have g5 := keep_frozen hB5 c5 f5
        clear key key2
        go_wp2
        refine bodyPost_ret (v := .tuple #[.agg #[.bool neg, .slice a ds.length cap], .bool true]) (by simp [results, Try.results27, go_sem, k4, k5]) rfl ⟨_, ls, rs, rfl, hsw1, hsw2, hsl1.out, hsl2.out, by rw [hsv1.out, trimmed_val], by rw [hsv2.out, trimmed_val], ⟨neg, a, cap, ds, rfl, ((hr.set (by exact hlt) _).set (by exact hlt) _).mono hbW.size, hn.out, ?_, ?_⟩, ?_⟩
        · have hss := zip_end .andNot ls rs ss _ hsl1.out hsl2.out hsl.out (fun j hj => HE.out j hj)
          rw [hz.out, ← hss]
          have hl' : ss.length - 1 = (trimmed xs).length := by have := hsl.out; omega
          unfold signed
          rw [hl', HT.out, if_neg ht.out]
          simp [num, hsv4.out, comp]
        · omega
        · exact ((bthen hbW hB5).setCell (by simp; omega) _).setCell (by simp; omega) _
end Go.Proofs.Ytdcjgepgiaaaoaa
