/- Contracts of scaleAndAdd, digitOf, validBase, Parse. -/
import Derived.Test.YtclokcoimdjaeaaGreatDoorQuom
import Derived.BigRegion
import Derived.RegionTactic
namespace Go.Proofs.YtclokcoimdjaeaaGreatDoor
open Go.RowKit
attribute [local go_sem ↓] Go.wp_at_zero Go.wp_at_succ
theorem Own.owns {w : World} {base : Nat} {k : IntKind} {T : TypeId} {B : Int} {a : Option Addr} {cap : Nat} {zs : List Int} (h : Own w base k T B a cap zs) : w.ownsRow base T 1 (.slice a zs.length cap) zs.length (zs.map (Value.int k)) := by
  obtain ⟨_, ⟨rfl, rfl, rfl⟩ | ⟨g, rfl, hg, hb⟩⟩ := h
  · exact World.ownsRow_nil _ _ _ _
  · exact hb.owns base hg
theorem news_one (w : World) (k : IntKind) (T : TypeId) (c : Int) : ∀ j u, [Value.int k c][j]? = some u → (w.alloc (.cells #[.int k c] T)).cell? ((⟨w.heap.size, 0, none⟩ : Addr).add j) = some u := by
  intro j u hj
  match j, hj with
  | 0, hj => simp at hj; subst hj; rw [addr_add]; simp [go_sem]
theorem one_one (k : IntKind) (c : Int) : ∀ u ∈ [Value.int k c], u.oneCell' = true := by
  intro u hu; simp at hu; subst hu; rfl
theorem sca_step {B : Int} {xs ss : List Int} {k : Nat} {c p s m : Int} (hs : k < ss.length) (hx : xs[k]?.getD 0 = p)
    (h : val B (ss.take k) + c * B ^ k = val B (xs.take k) * s + m) :
    val B ((ss.set k ((p * s + c) % B)).take (k + 1)) + ((p * s + c) / B) * B ^ (k + 1) = val B (xs.take (k + 1)) * s + m := by
  rw [val_set_take B ss k _ hs, val_take_succ B xs, hx, Int.pow_succ]
  have h1 := Int.emod_add_mul_ediv (p * s + c) B
  have h2 : ((p * s + c) % B + B * ((p * s + c) / B)) * B ^ k = (p * s + c) * B ^ k := by rw [h1]
  have h3 : (p * s + c) / B * (B ^ k * B) = B * ((p * s + c) / B) * B ^ k := by rw [Int.mul_comm B, Int.mul_assoc, Int.mul_comm B]
  have h4 : p * B ^ k * s = p * s * B ^ k := by rw [Int.mul_assoc, Int.mul_comm (B ^ k) s, Int.mul_assoc]
  simp only [Int.add_mul] at h2 ⊢
  rw [h3, h4]
  omega
theorem scale_word {p s c : Int} (hp0 : 0 ≤ p) (hp1 : p < 4294967296) (hs0 : 0 ≤ s) (hs1 : s ≤ 4294967296) (hc0 : 0 ≤ c) (hc1 : c < 4294967296) : 0 ≤ p * s ∧ p * s + c < 18446744073709551616 ∧ 0 ≤ (p * s + c) / 4294967296 ∧ (p * s + c) / 4294967296 < 4294967296 := by
  have h0 := Int.mul_nonneg hp0 hs0
  have h1 : p * s ≤ p * 4294967296 := Int.mul_le_mul_of_nonneg_left hs1 hp0
  refine ⟨h0, by omega, by omega, by omega⟩
set_option maxHeartbeats 1000000 in
theorem scale_nil (s m : Int) (base : Nat) (w : World) (hm0 : 0 ≤ m) (hm1 : m < 4294967296) (hbase : base ≤ w.heap.size) :
    Calls Tryz.prog 197 #[.slice none 0 0, .int .u64 s, .int .u64 m] w fun e w' => ∃ a' cap' zs', e = .returned (.slice a' zs'.length cap') ∧ Own w' base .u32 139 4294967296 a' cap' zs' ∧ val 4294967296 zs' = m ∧ zs'.length ≤ 1 ∧ Below base w w' := by
  obtain ⟨i0, hi, hz0, hz1, hz2⟩ := info_parts Tryz.info139
  by_cases h0 : m = 0
  · subst h0
    go_enter Tryz.func197, Tryz.ntmps197
    go_wp2
    refine wp_loop_rounds 1 ?_
    rw [rounds_succ]
    go_wp2
    go_ret
    exact ⟨none, 0, [], rfl, Own.empty _ _ _ _ _, rfl, by simp, Below.refl _ _⟩
  · have hne : (m != 0) = true := by rw [bne_iff_ne]; exact h0
    replace h0 : Hid _ := h0
    go_enter Tryz.func197, Tryz.ntmps197
    go_wp2
    refine wp_loop_rounds 1 ?_
    rw [rounds_succ]
    go_wp2_with (at_builtin; refine wpList_append_lies _ (by rfl) (.tmp 35) (.tmp 38) 26 (by rfl) base 139 i0 (.int .u32 0) 1 4 Tryz.underlying26 hi hz0 hz1 hz2 (by rfl) (by omega) (.slice none 0 0) 0 [] (by rfl) (World.ownsRow_nil _ _ _ _) ⟨w.heap.size, 0, none⟩ 1 1 [.int .u32 m] (by rfl) (by rfl) (news_one w .u32 139 m) (one_one _ _) (by omega) (by decide) (by decide) (by simp; omega) (w.heap.size + 1) (by simp) ?_)
    intro g cap w1 hown hgrow hat hlt
    have hblk : Blk w1 g .u32 139 cap [m] := Blk.of_owns hown
    have hge : base ≤ g := by
      rcases hat with h | h
      · simp [Value.ownBlock] at h
      · omega
    have hbel : Below base w w1 := ((Below.refl _ w).alloc hbase _).grown hgrow (by simp; omega) (by intro k hk; simp [Value.ownBlock] at hk)
    clear hown hgrow hat
    go_wp2
    go_ret
    exact ⟨_, _, [m], rfl, hblk.own (Words.one ⟨hm0, hm1⟩) hge, by simp [val], by simp, hbel⟩
set_option maxHeartbeats 1000000 in
theorem scale_blk (s m : Int) (base g cap : Nat) (zs : List Int) (w : World) (hz : Blk w g .u32 139 cap zs) (hzw : Words 4294967296 zs) (hg : base ≤ g) (hl : zs.length ≤ 1000000) (hs0 : 0 ≤ s) (hs1 : s ≤ 4294967296) (hm0 : 0 ≤ m) (hm1 : m < 4294967296) :
    Calls Tryz.prog 197 #[.slice (some ⟨g, 0, none⟩) zs.length cap, .int .u64 s, .int .u64 m] w fun e w' => ∃ a' cap' zs', e = .returned (.slice a' zs'.length cap') ∧ Own w' base .u32 139 4294967296 a' cap' zs' ∧ val 4294967296 zs' = val 4294967296 zs * s + m ∧ zs'.length ≤ zs.length + 1 ∧ Below base w w' := by
  obtain ⟨i0, hi, hz0, hz1, hz2⟩ := info_parts Tryz.info139
  have hbase : base ≤ w.heap.size := by have := hz.lt; omega
  go_enter Tryz.func197, Tryz.ntmps197
  go_wp2
  go_loopw [7, 14] (fun c i wr => ∃ (k : Nat) (cc : Int) (ss : List Int), k ≤ zs.length ∧ i = .int .i64 k ∧ c = .int .u64 cc ∧ 0 ≤ cc ∧ cc < 4294967296 ∧ Blk wr g .u32 139 cap ss ∧ Hid (ss.length = zs.length) ∧ Words 4294967296 ss ∧ Hid (∀ j, k ≤ j → ss[j]?.getD 0 = zs[j]?.getD 0) ∧ Hid (val 4294967296 (ss.take k) + cc * 4294967296 ^ k = val 4294967296 (zs.take k) * s + m) ∧ Below base w wr) (fun _ i _ => zs.length - (intOf i).toNat)
  case atStart => exact ⟨0, m, zs, Nat.zero_le _, rfl, rfl, by omega, by omega, hz, rfl, hzw, fun _ _ => rfl, by simp [val, Hid], Below.refl _ _⟩
  case round =>
    obtain ⟨k, cc, ss, hk, rfl, rfl, hc0, hc1, hblk, hsl, hsw, HE, HV, hbel⟩ := hrel
    by_cases hlt : k < zs.length
    · obtain ⟨p, hp, hp0, hp1⟩ := hsw.get (by decide) k
      have hcs := hblk.cell k (by have := hsl.out; omega)
      rw [hp] at hcs
      have hfr := hblk.frozen k
      have hpp : zs[k]?.getD 0 = p := by rw [← HE.out k (Nat.le_refl _)]; exact hp
      have HS : Hid (Hid (val 4294967296 ((ss.set k ((p * s + cc) % 4294967296)).take (k + 1)) + ((p * s + cc) / 4294967296) * 4294967296 ^ (k + 1) = val 4294967296 (zs.take (k + 1)) * s + m)) := sca_step (by have := hsl.out; omega) hpp HV.out
      have hm := scale_word hp0 hp1 hs0 hs1 hc0 hc1
      clear hp hpp HV
      go_wp2
      go_roundw
      case rel => exact ⟨k + 1, _, _, by omega, by go_num, rfl, by omega, by omega, hblk.set k _, by show _ = _; rw [List.length_set]; exact hsl.out, hsw.set k (by omega), fun j hj => by rw [List.getElem?_set_ne (by omega)]; exact HE.out j (by omega), HS, hbel.setCell hg _⟩
      case measure => simp [intOf]; omega
    · obtain rfl : k = zs.length := by omega
      have HV' := HV.out
      rw [take_all (by have := hsl.out; omega), take_all (Nat.le_refl _)] at HV'
      replace HV' : Hid _ := HV'
      by_cases h0 : cc = 0
      · subst h0
        go_wp2
        go_ret
        have e := HV'.out
        exact ⟨_, _, ss, by rw [hsl.out]; rfl, hblk.own hsw hg, by omega, by rw [hsl.out]; omega, hbel⟩
      · have hne : (cc != 0) = true := by rw [bne_iff_ne]; exact h0
        replace h0 : Hid _ := h0
        have hown := ((hblk.alloc (.cells #[.int .u32 cc] 139)).owns base hg)
        rw [hsl.out] at hown
        replace hown : Hid _ := hown
        have hsz := hbel.size
        go_wp2_with (at_builtin; refine wpList_append_lies _ (by rfl) (.tmp 35) (.tmp 38) 26 (by rfl) base 139 i0 (.int .u32 0) 1 4 Tryz.underlying26 hi hz0 hz1 hz2 (by rfl) (by omega) (.slice (some ⟨g, 0, none⟩) zs.length cap) zs.length (ss.map (Value.int .u32)) (by rfl) hown.out ⟨wr.heap.size, 0, none⟩ 1 1 [.int .u32 cc] (by rfl) (by rfl) (news_one wr .u32 139 cc) (one_one _ _) (by omega) (by unfold maxLen; omega) (by omega) (by simp; omega) (wr.heap.size + 1) (by simp) ?_)
        intro g' cap' w1 hown' hgrow hat hlt'
        have hblk' : Blk w1 g' .u32 139 cap' (ss ++ [cc]) := Blk.of_owns (n := zs.length + 1) (by simpa using hown')
        have hge : base ≤ g' := by
          rcases hat with h | h
          · simp [Value.ownBlock] at h; omega
          · omega
        have hbel' : Below base w w1 := (hbel.alloc (by omega) _).grown hgrow (by simp; omega) (by intro k hk; simp [Value.ownBlock] at hk; omega)
        clear hown' hgrow hat hown
        go_wp2
        go_ret
        refine ⟨_, _, ss ++ [cc], by rw [List.length_append, hsl.out]; rfl, hblk'.own (hsw.append (Words.one ⟨hc0, hc1⟩)) hge, ?_, by rw [List.length_append, hsl.out]; simp, hbel'⟩
        rw [val_append, hsl.out, ← HV'.out]
        simp [val, Int.mul_comm]
theorem scaleAndAdd_any (s m : Int) (base : Nat) (a : Option Addr) (cap : Nat) (zs : List Int) (w : World) (ha : Own w base .u32 139 4294967296 a cap zs) (hbase : base ≤ w.heap.size) (hl : zs.length ≤ 1000000) (hs0 : 0 ≤ s) (hs1 : s ≤ 4294967296) (hm0 : 0 ≤ m) (hm1 : m < 4294967296) :
    Calls Tryz.prog 197 #[.slice a zs.length cap, .int .u64 s, .int .u64 m] w fun e w' => ∃ a' cap' zs', e = .returned (.slice a' zs'.length cap') ∧ Own w' base .u32 139 4294967296 a' cap' zs' ∧ val 4294967296 zs' = val 4294967296 zs * s + m ∧ zs'.length ≤ zs.length + 1 ∧ Below base w w' := by
  obtain ⟨hw, ⟨rfl, rfl, rfl⟩ | ⟨g, rfl, hg, hb⟩⟩ := ha
  · refine (scale_nil s m base w hm0 hm1 hbase).mono ?_
    rintro e w' ⟨a', cap', zs', h1, h2, h3, h4, h5⟩
    exact ⟨a', cap', zs', h1, h2, by rw [h3]; simp [val], by simpa using h4, h5⟩
  · exact scale_blk s m base g cap zs w hb hw hg hl hs0 hs1 hm0 hm1
/-- The digit of a byte; 16: none. -/
def digitI (c : Int) : Int := if 48 ≤ c ∧ c ≤ 57 then c - 48 else if 97 ≤ c ∧ c ≤ 102 then c - 87 else if 65 ≤ c ∧ c ≤ 70 then c - 55 else 16
theorem digitI_rng (c : Int) : 0 ≤ digitI c ∧ digitI c ≤ 16 := by unfold digitI; repeat' split <;> omega
set_option maxHeartbeats 400000 in
theorem digitOf_any (c : Int) (w : World) (h0 : 0 ≤ c) (h1 : c ≤ 255) : Calls Tryz.prog 196 #[.int .u8 c] w fun e w' => e = .returned (.int .i64 (digitI c)) ∧ w' = w := by
  unfold digitI
  go_enter Tryz.func196, Tryz.ntmps196
  go_wp2
  all_goals (go_ret; exact ⟨ret_int (by omega), rfl⟩)
/-- Which bases there are. -/
def baseB (b : Int) : Bool := decide (b = 2 ∨ b = 8 ∨ b = 10 ∨ b = 16)
theorem validBase_any (b : Int) (w : World) : Calls Tryz.prog 195 #[.int .i64 b] w fun e w' => e = .returned (.bool (baseB b)) ∧ w' = w := by
  go_enter Tryz.func195, Tryz.ntmps195
  go_wp2
  all_goals (go_ret; refine ⟨congrArg (fun t => Ending.returned (.bool t)) ?_, rfl⟩; unfold baseB; rw [Bool.eq_iff_iff]; simp; omega)
theorem toList_nonempty (s : ByteArray) (h : 0 < s.size) : s.toList.isEmpty = false := by
  rw [ByteArray.toList_eq]
  cases hl : s.data.toList with
  | nil => have : s.data.toList.length = 0 := by rw [hl]; rfl
           have h' : s.data.toList.length = s.size := by simp
           omega
  | cons _ _ => rfl
/-- The number of some digits to a base, the highest first. -/
def hor (b : Int) (ds : List Int) : Int := ds.foldl (fun a d => a * b + d) 0
theorem hor_snoc (b : Int) (ds : List Int) (d : Int) : hor b (ds ++ [d]) = hor b ds * b + d := by simp [hor]
def digs (s : ByteArray) : List Int := s.data.toList.map (fun c => digitI (c.toNat : Int))
theorem digs_len (s : ByteArray) : (digs s).length = s.size := by simp [digs]
theorem digs_take (s : ByteArray) (k : Nat) (h : k < s.size) : (digs s).take (k + 1) = (digs s).take k ++ [digitI ((s[k]'h).toNat : Int)] := by
  rw [List.take_succ_eq_append_getElem (by rw [digs_len]; exact h)]
  simp [digs]
  rfl
theorem parse_step {B b sc c d z : Int} {zs : List Int} (h : val B zs * sc + c = z) : val B zs * (sc * b) + (c * b + d) = z * b + d := by
  rw [← h, Int.add_mul, Int.mul_assoc]; omega
set_option maxRecDepth 20000 in
set_option maxHeartbeats 4000000 in
theorem Parse_ok (s : ByteArray) (b : Int) (w : World) (hb : b = 2 ∨ b = 8 ∨ b = 10 ∨ b = 16) (hs0 : 0 < s.size) (hs1 : s.size ≤ 100000) (hd : ∀ k (h : k < s.size), digitI ((s[k]'h).toNat : Int) < b) :
    Calls Tryz.prog 130 #[.string s, .int .i64 b] w fun e w' => ∃ v, e = .returned (.tuple #[v, .bool true]) ∧ Out w' w.heap.size v (hor b (digs s)) (s.size + 1) ∧ Below w.heap.size w w' := by
  have hbB : baseB b = true := by unfold baseB; simpa using hb
  have hb0 : 2 ≤ b := by omega
  have hb1 : b ≤ 16 := by omega
  replace hd : Hid _ := hd
  clear hb
  have hse := toList_nonempty s hs0
  obtain ⟨W, hW⟩ : ∃ W, W = w.alloc (.cells #[.bool false, .slice none 0 0] 28) := ⟨_, rfl⟩
  have hbW : Below w.heap.size w W := by rw [hW]; exact (Below.refl _ _).alloc (Nat.le_refl _) _
  have hlt : w.heap.size < W.heap.size := by rw [hW]; simp
  have c4 : W.cell? ⟨w.heap.size, 0, none⟩ = some (.bool false) := by rw [hW]; simp [go_sem]
  have c5 : W.cell? ⟨w.heap.size, 1, none⟩ = some (.slice none 0 0) := by rw [hW]; simp [go_sem]
  have f4 : W.frozen? ⟨w.heap.size, 0, none⟩ = false := by rw [hW]; simp [go_sem]
  have f5 : W.frozen? ⟨w.heap.size, 1, none⟩ = false := by rw [hW]; simp [go_sem]
  replace hW : Hid _ := hW
  go_enter Tryz.func130, Tryz.ntmps130
  go_wp2_with (go_at_call 195; refine (validBase_any _ _).mono ?_; rintro e w' ⟨rfl, rfl⟩)
  rw [← hW.out]
  clear hW
  go_loopw [6, 7, 8, 24] (fun mg c sc i wr => ∃ (k : Nat) (a : Option Addr) (cap : Nat) (zs : List Int) (cc ss : Int), k ≤ s.size ∧ i = .int .i64 k ∧ mg = .slice a zs.length cap ∧ c = .int .u64 cc ∧ sc = .int .u64 ss ∧ Own wr W.heap.size .u32 139 4294967296 a cap zs ∧ zs.length ≤ k ∧ 0 ≤ cc ∧ cc < ss ∧ 1 ≤ ss ∧ ss * b ≤ 4294967296 ∧ Hid (val 4294967296 zs * ss + cc = hor b ((digs s).take k)) ∧ Below W.heap.size W wr) (fun _ _ _ i _ => s.size - (intOf i).toNat)
  case atStart => exact ⟨0, none, 0, [], 0, 1, Nat.zero_le _, rfl, rfl, rfl, rfl, Own.empty _ _ _ _ _, by simp, by omega, by omega, by omega, by omega, by simp [val, hor, Hid], Below.refl _ _⟩
  case round =>
    obtain ⟨k, a, cap, zs, cc, ss, hk, rfl, rfl, rfl, rfl, hown, hzl, hc0, hc1, hs2, hs3, HV, hbel⟩ := hrel
    have hss : ss ≤ ss * b := by
      have := Int.mul_le_mul_of_nonneg_left (show (1 : Int) ≤ b by omega) (show 0 ≤ ss by omega)
      omega
    by_cases hlk : k < s.size
    · have hdk := hd.out k hlk
      have hdr := digitI_rng ((s[k]'hlk).toNat : Int)
      have HT : Hid (hor b ((digs s).take (k + 1)) = hor b ((digs s).take k) * b + digitI ((s[k]'hlk).toNat : Int)) := by show _ = _; rw [digs_take s k hlk, hor_snoc]
      have hbyte : ((s[k]'hlk).toNat : Int) ≤ 255 := by have := (s[k]'hlk).toNat_lt; omega
      generalize hcd : digitI ((s[k]'hlk).toNat : Int) = d at *
      have h1 : 0 ≤ cc * b := Int.mul_nonneg hc0 (by omega)
      have h2 : cc * b + b ≤ ss * b := by
        have : (cc + 1) * b ≤ ss * b := Int.mul_le_mul_of_nonneg_right (by omega) (by omega)
        rw [Int.add_mul] at this; omega
      have h3 : ss * b * b ≤ 68719476736 := by
        have e1 : ss * b * b ≤ 4294967296 * b := Int.mul_le_mul_of_nonneg_right hs3 (by omega)
        omega
      have h4 : 0 ≤ ss * b * b := Int.mul_nonneg (by omega) (by omega)
      have HS : Hid (val 4294967296 zs * (ss * b) + (cc * b + d) = hor b ((digs s).take (k + 1))) := by show _ = _; rw [HT.out]; exact parse_step HV.out
      replace hcd : Hid _ := hcd
      clear HT HV
      by_cases hfl : 4294967296 < ss * b * b
      · go_wp2_with (first
          | (go_at_call 196; refine (digitOf_any _ _ (by omega) hbyte).mono ?_; rintro e w' ⟨rfl, rfl⟩; rw [hcd.out])
          | (go_at_call 197; refine (scaleAndAdd_any (ss * b) (cc * b + d) W.heap.size a cap zs _ hown hbel.size (by omega) (by omega) (by omega) (by omega) (by omega)).mono ?_; rintro e w1 ⟨a', cap', zs', rfl, hown', hv', hl', hb'⟩; replace hv' : Hid _ := hv'))
        go_roundw
        case rel => exact ⟨k + 1, a', cap', zs', 0, 1, by omega, by go_num, rfl, rfl, rfl, hown', by omega, by omega, by omega, by omega, by omega, by show _ = _; rw [← HS.out, hv'.out]; omega, hbel.trans hb'⟩
        case measure => simp [intOf]; omega
      · go_wp2_with (first
          | (go_at_call 196; refine (digitOf_any _ _ (by omega) hbyte).mono ?_; rintro e w' ⟨rfl, rfl⟩; rw [hcd.out]))
        go_roundw
        case rel => exact ⟨k + 1, a, cap, zs, _, _, by omega, by go_num, rfl, rfl, rfl, hown, by omega, by omega, by omega, by omega, by omega, HS, hbel⟩
        case measure => simp [intOf]; omega
    · obtain rfl : k = s.size := by omega
      go_wp2_with (first
        | (go_at_call 197; refine (scaleAndAdd_any ss cc W.heap.size a cap zs _ hown hbel.size (by omega) (by omega) (by omega) (by omega) (by omega)).mono ?_; rintro e w1 ⟨a', cap', zs', rfl, hown', hv', hl', hb'⟩; replace hv' : Hid _ := hv')
        | (go_at_call 90; refine (number_any false a' cap' zs' W.heap.size _ hown' (by omega)).mono ?_; rintro e w2 ⟨v, rfl, ⟨neg, a2, cap2, ds, rfl, hr, hn, hz, hle⟩, hb2⟩; replace hz : Hid _ := hz; replace hn : Hid _ := hn; have hB2 : Below W.heap.size W w2 := bthen (hbel.trans hb') hb2; have k4 := keep_cell hB2 c4; have k5 := keep_cell hB2 c5; have g4 := keep_frozen hB2 c4 f4; have g5 := keep_frozen hB2 c5 f5))
      refine bodyPost_ret (v := .tuple #[.agg #[.bool neg, .slice a2 ds.length cap2], .bool true]) (by simp [results, Tryz.results130, go_sem, k4, k5]) rfl ⟨_, rfl, ⟨neg, a2, cap2, ds, rfl, ((hr.set (by exact hlt) _).set (by exact hlt) _).mono hbW.size, hn.out, ?_, ?_⟩, ?_⟩
      · rw [hz.out]
        have e := HV.out
        rw [take_all (by rw [digs_len]; exact Nat.le_refl _)] at e
        simp only [num]
        rw [hv'.out, e]; rfl
      · omega
      · exact ((bthen hbW hB2).setCell (by simp) _).setCell (by simp) _
end Go.Proofs.YtclokcoimdjaeaaGreatDoor
namespace Go.Proofs.YtclokcoimdjaeaaGreatDoor
open Go.RowKit
attribute [local go_sem ↓] Go.wp_at_zero Go.wp_at_succ
/-- The block in which a slice of one's own lies. -/
def ownB (a : Option Addr) : Option Nat := a.map (·.block)
end Go.Proofs.YtclokcoimdjaeaaGreatDoor
namespace Go.Proofs.YtclokcoimdjaeaaGreatDoor
open Go.RowKit
attribute [local go_sem ↓] Go.wp_at_zero Go.wp_at_succ
theorem Words.mono {B C : Int} (h : B ≤ C) {zs : List Int} (hz : Words B zs) : Words C zs := fun d hd => by have := hz d hd; omega
end Go.Proofs.YtclokcoimdjaeaaGreatDoor
namespace Go.Proofs.YtclokcoimdjaeaaGreatDoor
open Go.RowKit
/-- A value of type api.Big that reads as the number z, in at most n words; noughts at its end, and a zero's sign, say nothing. -/
def Num (w : World) (v : Value) (z : Int) (n : Nat) : Prop :=
  ∃ (neg : Bool) (a : Option Addr) (cap : Nat) (ds : List Int), v = .agg #[.bool neg, .slice a ds.length cap] ∧ Row w .u32 4294967296 a cap ds ∧ num 4294967296 neg ds = z ∧ ds.length ≤ n
theorem Out.num {w : World} {b : Nat} {v : Value} {z : Int} {n : Nat} (h : Out w b v z n) : Num w v z n := by
  obtain ⟨neg, a, cap, ds, hv, ho, _, hz, hl⟩ := h
  exact ⟨neg, a, cap, ds, hv, ho.row, hz, hl⟩
theorem Num.next {w w' : World} {v : Value} {z : Int} {n : Nat} (h : Num w v z n) (hb : Below w.heap.size w w') : Num w' v z n := by
  obtain ⟨neg, a, cap, ds, hv, hr, r⟩ := h
  exact ⟨neg, a, cap, ds, hv, hr.next hb, r⟩
theorem Num.form {w : World} {v : Value} {z : Int} {n : Nat} (h : Num w v z n) : ∃ neg a l cap, v = .agg #[.bool neg, .slice a l cap] := by
  obtain ⟨neg, a, cap, ds, hv, _⟩ := h
  exact ⟨neg, a, ds.length, cap, hv⟩
theorem Out.form {w : World} {b : Nat} {v : Value} {z : Int} {n : Nat} (h : Out w b v z n) : ∃ neg a l cap, v = .agg #[.bool neg, .slice a l cap] := h.num.form
theorem Out.mono {w : World} {b b' : Nat} {v : Value} {z : Int} {n : Nat} (h : Out w b v z n) (hb : b' ≤ b) : Out w b' v z n := by
  obtain ⟨neg, a, cap, ds, hv, ho, r⟩ := h
  exact ⟨neg, a, cap, ds, hv, ho.mono hb, r⟩
theorem Sub_num {w : World} {u v : Value} {y z : Int} {m n : Nat} (hu : Num w u y m) (hv : Num w v z n) (hm : m ≤ 100000) (hn : n ≤ 100000) :
    Calls Tryz.prog 159 #[u, v] w fun e w' => ∃ t, e = .returned t ∧ Out w' w.heap.size t (y - z) (max m n + 1) ∧ Below w.heap.size w w' := by
  obtain ⟨na, x, ca, xs, rfl, ha, rfl, hl⟩ := hu
  obtain ⟨nb, x', cb, ys, rfl, hb, rfl, hl'⟩ := hv
  refine (Sub_any na nb x x' ca cb xs ys w ha hb (by omega) (by omega)).mono ?_
  rintro e w' ⟨t, rfl, ⟨neg, a, cap, ds, r1, r2, r3, r4, r5⟩, h⟩
  exact ⟨t, rfl, ⟨neg, a, cap, ds, r1, r2, r3, r4, by omega⟩, h⟩
theorem Mul_num {w : World} {u v : Value} {y z : Int} {m n : Nat} (hu : Num w u y m) (hv : Num w v z n) (hm : m ≤ 100000) (hn : n ≤ 100000) :
    Calls Tryz.prog 160 #[u, v] w fun e w' => ∃ t, e = .returned t ∧ Out w' w.heap.size t (y * z) (m + n) ∧ Below w.heap.size w w' := by
  obtain ⟨na, x, ca, xs, rfl, ha, rfl, hl⟩ := hu
  obtain ⟨nb, x', cb, ys, rfl, hb, rfl, hl'⟩ := hv
  refine (Mul_any na nb x x' ca cb xs ys w ha hb (by omega) (by omega)).mono ?_
  rintro e w' ⟨t, rfl, ⟨neg, a, cap, ds, r1, r2, r3, r4, r5⟩, h⟩
  exact ⟨t, rfl, ⟨neg, a, cap, ds, r1, r2, r3, r4, by omega⟩, h⟩
theorem Neg_num {w : World} {u : Value} {y : Int} {m : Nat} (hu : Num w u y m) (hm : m ≤ 100000) :
    Calls Tryz.prog 227 #[u] w fun e w' => ∃ t, e = .returned t ∧ Out w' w.heap.size t (-y) m ∧ Below w.heap.size w w' := by
  obtain ⟨na, x, ca, xs, rfl, ha, rfl, hl⟩ := hu
  refine (Neg_any na x ca xs w ha (by omega)).mono ?_
  rintro e w' ⟨t, rfl, ⟨neg, a, cap, ds, r1, r2, r3, r4, r5⟩, h⟩
  exact ⟨t, rfl, ⟨neg, a, cap, ds, r1, r2, r3, r4, by omega⟩, h⟩
theorem Cmp_num {w : World} {u v : Value} {y z : Int} {m n : Nat} (hu : Num w u y m) (hv : Num w v z n) (hm : m ≤ 100000) (hn : n ≤ 100000) :
    Calls Tryz.prog 99 #[u, v] w fun e w' => e = .returned (.int .i64 (cmpI y z)) ∧ Below w.heap.size w w' := by
  obtain ⟨na, x, ca, xs, rfl, ha, rfl, hl⟩ := hu
  obtain ⟨nb, x', cb, ys, rfl, hb, rfl, hl'⟩ := hv
  exact Cmp_any na nb x x' ca cb xs ys w ha hb (by omega) (by omega)
end Go.Proofs.YtclokcoimdjaeaaGreatDoor
