/- The second road's division: quo of magnitudes. -/
import Derived.Test.YtclokcoimdjaeaaGreatDoorRrmm
import Derived.Test.YtclokcoimdjaeaaGreatDoorKrm
import Derived.Test.YtclokcoimdjaeaaGreatDoorNum
namespace Go.Proofs.YtclokcoimdjaeaaGreatDoor
open Go.RowKit
attribute [local go_sem ↓] Go.wp_at_zero Go.wp_at_succ
theorem guess1 {X R D T l v1 m : Int} (hR : R = T * X + l) (hl : l < X) (hD : D = v1 * X + m) (hm : 0 ≤ m) (hX : 0 < X) (hv : 0 < v1) (hT : 0 ≤ T) : R < (T / v1 + 1) * D := by
  have h1 := Int.lt_ediv_add_one_mul_self T hv
  have hq := Int.ediv_nonneg hT (Int.le_of_lt hv)
  have h2 := mul_mono_r (show T + 1 ≤ (T / v1 + 1) * v1 by omega) (Int.le_of_lt hX)
  have h3 := Int.mul_nonneg (show 0 ≤ T / v1 + 1 by omega) hm
  rw [hD, Int.mul_add, ← Int.mul_assoc, hR]
  rw [Int.add_mul, Int.one_mul] at h2
  omega
/-- The two highest digits of the one, the highest of the other. -/
theorem guess_rows {rs vs : List Int} {m : Nat} (hr : Words 65536 rs) (hv : Words 65536 vs) (lr : rs.length = m + 1 + 1) (lv : vs.length = m + 1) (hd : 0 < vs[m]?.getD 0) :
    val 65536 rs < ((rs[m + 1]?.getD 0 * 65536 + rs[m]?.getD 0) / vs[m]?.getD 0 + 1) * val 65536 vs := by
  have e1 := val_take_succ 65536 rs (m + 1)
  have e2 := val_take_succ 65536 rs m
  have f1 := val_take_succ 65536 vs m
  rw [take_all (by omega)] at e1 f1
  rw [e2] at e1
  have g1 := val_nonneg (B := 65536) (by decide) (hr.take m)
  have g2 := val_lt (B := 65536) (by decide) (hr.take m)
  rw [List.length_take, Nat.min_eq_left (by omega)] at g2
  have k1 := val_nonneg (B := 65536) (by decide) (hv.take m)
  have a1 := hr.at (by decide) (m + 1)
  have a2 := hr.at (by decide) m
  refine guess1 (X := 65536 ^ m) (l := val 65536 (rs.take m)) (m := val 65536 (vs.take m)) ?_ g2 (by omega) k1 (pow_pos' (by decide) m) hd (by omega)
  rw [e1, Int.pow_succ]
  exact tops_ring2 _ _ _ _ _
theorem tail_part' {B : Int} (hB : 0 < B) {zs : List Int} {o n : Nat} (hw : Words B zs) (hs : val B (zs.drop o) < B ^ (n + 1)) (ho : o + n + 1 ≤ zs.length) : val B ((zs.drop o).take (n + 1)) = val B (zs.drop o) ∧ val B (zs.drop (o + (n + 1))) = 0 := by
  have e := val_take_small hB (hw.drop o) hs
  refine ⟨e, ?_⟩
  have e2 := val_split B (zs.drop o) (n + 1) (by rw [List.length_drop]; omega)
  rw [List.drop_drop] at e2
  have hp := pow_pos' hB (n + 1)
  have h0 : B ^ (n + 1) * val B (zs.drop (o + (n + 1))) = 0 := by omega
  rcases Int.mul_eq_zero.1 h0 with h | h
  · omega
  · exact h
theorem patched_val {B : Int} {zs ws : List Int} {k n : Nat} (hk : k ≤ zs.length) (hl : ws.length = n + 1) (h0 : val B (zs.drop (k + (n + 1))) = 0) : val B ((patched zs k ws).drop k) = val B ws := by
  rw [patched_drop hk, val_append, hl, h0]
  simp
/-- The scale: the divisor's highest digit comes to at least half the base. -/
theorem scale_has {p : Int} (h0 : 0 < p) (h1 : p < 65536) : 0 < 65536 / (p + 1) ∧ 65536 / (p + 1) < 65536 ∧ 65536 / (p + 1) * (p + 1) ≤ 65536 := by
  have h2 : 1 ≤ 65536 / (p + 1) := Int.le_ediv_of_mul_le (by omega) (by omega)
  have h3 : 65536 / (p + 1) < 65536 := Int.ediv_lt_of_lt_mul (by omega) (by omega)
  have h4 := Int.ediv_mul_le (65536 : Int) (show p + 1 ≠ 0 by omega)
  exact ⟨by omega, h3, h4⟩
theorem scaled_len {ys ss : List Int} {m : Nat} {s : Int} (hy : Words 65536 ys) (hs : Words 65536 ss) (ny : nrm ys) (ly : ys.length = m + 1) (s0 : 0 < s) (hsc : s * (ys[m]?.getD 0 + 1) ≤ 65536) (hv : val 65536 ss = val 65536 ys * s) : (trimmed ss).length = m + 1 := by
  have e1 := val_take_succ 65536 ys m
  rw [take_all (by omega)] at e1
  have g2 := val_lt (B := 65536) (by decide) (hy.take m)
  rw [List.length_take, Nat.min_eq_left (by omega)] at g2
  have hp := pow_pos' (B := 65536) (by decide) m
  have hlow := nrm_pos (B := 65536) (by decide) hy ny (by intro e; rw [e] at ly; simp at ly)
  rw [ly, Nat.add_sub_cancel] at hlow
  have h1 : val 65536 ys + 1 ≤ (ys[m]?.getD 0 + 1) * 65536 ^ m := by rw [Int.add_mul]; omega
  have h2 := mul_mono_r h1 (Int.le_of_lt s0)
  have h3 := mul_mono_r hsc (Int.le_of_lt hp)
  have h4 : (ys[m]?.getD 0 + 1) * 65536 ^ m * s = s * (ys[m]?.getD 0 + 1) * 65536 ^ m := by rw [Int.mul_comm, ← Int.mul_assoc]
  rw [h4, Int.add_mul] at h2
  have hup : val 65536 (trimmed ss) < 65536 ^ (m + 1) := by rw [trimmed_val, hv, Int.pow_succ]; omega
  have hdn : (65536 : Int) ^ m ≤ val 65536 (trimmed ss) := by
    rw [trimmed_val, hv]
    have := mul_mono_l (show 1 ≤ s by omega) (val_nonneg (B := 65536) (by decide) hy)
    omega
  have l1 := nrm_len (by decide) hs.trimmed (trimmed_nrm ss) hup
  by_cases hh : (trimmed ss).length = m + 1
  · exact hh
  · have l2 := val_lt (B := 65536) (by decide) hs.trimmed
    have := pow_mono (B := 65536) (by decide) (m := (trimmed ss).length) (n := m) (by omega)
    omega
/-- The highest digits of what is divided are below the divisor. -/
theorem rquo_start {us ys : List Int} {V D s : Int} {m la : Nat} (hu : Words 65536 us) (hy : Words 65536 ys) (ny : nrm ys) (ly : ys.length = m + 1) (lu : us.length = la + 1) (hla : m + 1 ≤ la) (s0 : 0 < s) (hV1 : V < 65536 ^ la) (hv : val 65536 us = V * s) (hD : D = val 65536 ys * s) : val 65536 (us.drop (la - (m + 1) + 1)) < D := by
  have e := val_split 65536 us (la - (m + 1) + 1) (by omega)
  have h0 := val_nonneg (B := 65536) (by decide) (hu.take (la - (m + 1) + 1))
  have hlow := nrm_pos (B := 65536) (by decide) hy ny (by intro e; rw [e] at ly; simp at ly)
  rw [ly, Nat.add_sub_cancel] at hlow
  have hp := pow_pos' (B := 65536) (by decide) m
  have hq := pow_pos' (B := 65536) (by decide) (la - (m + 1) + 1)
  have h3 := Int.mul_lt_mul_of_pos_right hV1 s0
  have h4 : (65536 : Int) ^ la = 65536 ^ (la - (m + 1) + 1) * 65536 ^ m := by rw [← Int.pow_add]; congr 1; omega
  have h6 := mul_mono_r hlow (Int.le_of_lt s0)
  by_cases hh : val 65536 (us.drop (la - (m + 1) + 1)) < D
  · exact hh
  · exfalso
    have h5 := mul_mono_l (show 65536 ^ m * s ≤ val 65536 (us.drop (la - (m + 1) + 1)) by omega) (Int.le_of_lt hq)
    rw [h4, Int.mul_assoc] at h3
    omega
theorem exact_div {S s q r : Int} (hs : 0 < s) (h : S = s * q + r) (h0 : 0 ≤ r) (h1 : r < s) : q = S / s := by
  rw [h, Int.add_comm, Int.add_mul_ediv_left _ _ (by omega), Int.ediv_eq_zero_of_lt h0 h1]
  omega
/-- What the second road's quo answers. -/
def RquoOut (w w' : World) (e : Ending) (x : Option Addr) (xs ys : List Int) : Prop :=
  ∃ qa qc qs ra rc rs, e = .returned (.tuple #[.slice qa qs.length qc, .slice ra rs.length rc]) ∧ Rown w' w.heap.size qa qc qs ∧ nrm qs ∧ Row w' .i64 65536 ra rc rs ∧ nrm rs ∧ (ra = x ∧ rs = xs ∨ ∀ z, ra = some z → w.heap.size ≤ z.block) ∧ val 65536 xs = val 65536 ys * val 65536 qs + val 65536 rs ∧ 0 ≤ val 65536 rs ∧ val 65536 rs < val 65536 ys ∧ qs.length ≤ xs.length + 1 ∧ rs.length ≤ xs.length + 1
set_option maxHeartbeats 1000000 in
theorem rquo_one (x y : Option Addr) (ca cb : Nat) (xs ys : List Int) (w : World) (ha : Row w .i64 65536 x ca xs) (hb : Row w .i64 65536 y cb ys) (hl : xs.length ≤ 900000) (ny : nrm ys) (hy : ys.length = 1) :
    Calls Tryz.prog 173 #[.slice x xs.length ca, .slice y ys.length cb] w fun e w' => RquoOut w w' e x xs ys ∧ Below w.heap.size w w' := by
  obtain ⟨d, rfl⟩ : ∃ d, ys = [d] := by
    cases ys with
    | nil => simp at hy
    | cons d ds => cases ds with
      | nil => exact ⟨d, rfl⟩
      | cons _ _ => simp at hy
  clear hy
  have hd : d ≠ 0 := ny.1 rfl
  have hdw := hb.words.head
  obtain ⟨y, rfl⟩ := hb.some_of (i := 0) (by simp)
  have hcell : w.cell? y = some (.int .i64 d) := by have := hb.cell y rfl 0 (by simp); simpa [Addr.add] using this
  have ks := small_any x ca xs d w ha (by omega) (by omega) (by omega)
  replace ks : Hid _ := ks
  go_enter Tryz.func173, Tryz.ntmps173
  go_wp2_with (first | (go_at_call 231; refine Calls.mono ks.out ?_; rintro e w1 ⟨qa, qc, qs, r, rfl, hqo, hqn, hqv, hr0, hr1, hql, hb1⟩; replace hqv : Hid _ := hqv) | fail)
  have hrow := Row.alloc1 w1 .i64 3 65536 r (by omega)
  have htr := rtrim_any _ _ [r] _ hrow
  replace htr : Hid _ := htr
  have hal : Below w1.heap.size w1 (w1.alloc (.cells #[.int .i64 r] 3)) := (Below.refl _ _).alloc (Nat.le_refl _) _
  refine Calls.mono htr.out ?_
  rintro e w2 ⟨rfl, rfl⟩
  go_wp2
  go_ret2
  refine ⟨⟨qa, qc, qs, _, _, trimmed [r], rfl, hqo.next hal, hqn, hrow.cutTrim, trimmed_nrm _, .inr ?_, ?_, ?_, ?_, by omega, ?_⟩, bthen hb1 hal⟩
  · intro z hz; cases hz; exact hb1.size
  · rw [trimmed_val]; simp [val]; rw [hqv.out]
  · rw [trimmed_val]; simp [val]; omega
  · rw [trimmed_val]; simp [val]; omega
  · have := trimmed_le [r]; simp at this; omega
set_option maxHeartbeats 1000000 in
theorem rquo_less (x y : Option Addr) (ca cb : Nat) (xs ys : List Int) (w : World) (ha : Row w .i64 65536 x ca xs) (hb : Row w .i64 65536 y cb ys) (hl : xs.length ≤ 900000) (hlb : ys.length ≤ 900000) (nx : nrm xs) (ny : nrm ys) (hy : ys.length ≠ 1) (hv : val 65536 xs < val 65536 ys) :
    Calls Tryz.prog 173 #[.slice x xs.length ca, .slice y ys.length cb] w fun e w' => RquoOut w w' e x xs ys ∧ Below w.heap.size w w' := by
  have hy1 : ((ys.length : Int) == 1) = false := by simp; omega
  have kc := rcmp_any x y ca cb xs ys w ha hb (by omega) (by omega) nx ny
  rw [cmpI_lt hv] at kc
  replace kc : Hid _ := kc
  replace hv : Hid _ := hv
  go_enter Tryz.func173, Tryz.ntmps173
  go_wp2_with fail
  refine Calls.mono kc.out ?_
  rintro e w1 ⟨rfl, hb1⟩
  go_wp2
  go_ret2
  exact ⟨⟨none, 0, [], x, ca, xs, rfl, Rown.empty _ _, trivial, ha.next hb1, nx, .inl ⟨rfl, rfl⟩, by simp [val], val_nonneg (by decide) ha.words, hv.out, by simp, by omega⟩, hb1⟩
end Go.Proofs.YtclokcoimdjaeaaGreatDoor
namespace Go.Proofs.YtclokcoimdjaeaaGreatDoor
open Go.RowKit
attribute [local go_sem ↓] Go.wp_at_zero Go.wp_at_succ
theorem zeros_start' (us : List Int) (D : Int) (n : Nat) : val 65536 (us.drop (n + 1)) = D * val 65536 ((zeros (n + 1)).drop (n + 1)) + val 65536 (us.drop (n + 1)) := by
  have e : (zeros (n + 1)).drop (n + 1) = [] := List.drop_eq_nil_of_le (by rw [zeros_len]; omega)
  rw [e]
  simp [val]
set_option maxHeartbeats 8000000 in
set_option maxRecDepth 20000 in
theorem rquo_long (x y : Option Addr) (ca cb m : Nat) (xs ys : List Int) (w : World) (ha : Row w .i64 65536 x ca xs) (hb : Row w .i64 65536 y cb ys) (hl : xs.length ≤ 900000) (nx : nrm xs) (ny : nrm ys) (hm : ys.length = m + 1) (hm1 : 1 ≤ m) (hv : val 65536 ys ≤ val 65536 xs) :
    Calls Tryz.prog 173 #[.slice x xs.length ca, .slice y ys.length cb] w fun e w' => RquoOut w w' e x xs ys ∧ Below w.heap.size w w' := by
  have wx := ha.words
  have wy := hb.words
  have hll := len_le (by decide) wx wy ny hv
  rw [hm] at hll
  have hy1 : (((m + 1 : Nat) : Int) == 1) = false := by simp; omega
  rw [show ((m + 1 : Nat) : Int) = (m : Int) + 1 from by omega] at hy1
  have kc := rcmp_any x y ca cb xs ys w ha hb (by omega) (by omega) nx ny
  rw [hm] at kc
  have hcge : ¬ cmpI (val 65536 xs) (val 65536 ys) < 0 := by unfold cmpI; split <;> (try split) <;> omega
  have htop := top_ne (m := m) ny hm
  obtain ⟨p, hp, hp0, hp1⟩ := wy.get (by decide) m
  rw [hp] at htop
  obtain ⟨y, rfl⟩ := hb.some_of (i := 0) (by omega)
  have hcy := hb.cell y rfl m (by omega)
  rw [hp] at hcy
  obtain ⟨sc0, sc1, sc2⟩ := scale_has (p := p) (by omega) hp1
  have hpz : p + 1 ≠ 0 := by omega
  have htd : (65536 : Int).tdiv (p + 1) = 65536 / (p + 1) := Int.tdiv_eq_ediv_of_nonneg (by decide)
  generalize hsc : 65536 / (p + 1) = s at *
  have sc3 : s * (ys[m]?.getD 0 + 1) ≤ 65536 := by rw [hp]; exact sc2
  have hpos : (0 : Int) ≤ (m : Int) := by omega
  rw [hm]
  replace kc : Hid _ := kc
  replace hv : Hid _ := hv
  replace hp : Hid _ := hp
  replace hm : Hid _ := hm
  replace sc3 : Hid _ := sc3
  clear sc2
  go_enter Tryz.func173, Tryz.ntmps173
  go_wp2_with fail
  refine Calls.mono kc.out ?_
  rintro e w1 ⟨rfl, hb1⟩
  replace hcy := keep_cell hb1 hcy
  clear kc
  go_wp2_with fail
  have k1 := times_any x ca xs s w1 (ha.next hb1) (by omega) (by omega) sc1
  replace k1 : Hid _ := k1
  refine Calls.mono k1.out ?_
  rintro e w2 ⟨us, rfl, hub, hul, huw, huv, hb2⟩
  rw [hul] at hub ⊢
  have k2 := times_any (some y) cb ys s w2 ((hb.next hb1).next hb2) (by have := hm.out; omega) (by omega) sc1
  rw [hm.out] at k2
  replace k2 : Hid _ := k2
  clear k1
  replace hul : Hid _ := hul
  replace huv : Hid _ := huv
  go_wp2_with fail
  refine Calls.mono k2.out ?_
  rintro e w3 ⟨ts, rfl, htb, htl, htw, htv, hb3⟩
  have htr := rtrim_any _ _ ts w3 (htb.row htw)
  have hvl := scaled_len wy htw ny hm.out sc0 sc3.out htv
  have hvr := (htb.row htw).cutTrim
  rw [hvl] at htr hvr
  replace htr : Hid _ := htr
  clear k2
  have hvw := htw.trimmed
  have hvv : val 65536 (trimmed ts) = val 65536 ys * s := by rw [trimmed_val]; exact htv
  have hvn := trimmed_nrm ts
  rw [htl] at htb ⊢
  rw [htl] at htr
  clear htb htw htv htl
  generalize trimmed ts = vs at *
  replace hvl : Hid _ := hvl
  replace hvv : Hid _ := hvv
  go_wp2_with fail
  refine Calls.mono htr.out ?_
  rintro e w4 ⟨rfl, hw4⟩
  rw [hw4]
  clear hw4 w4 htr
  have hst := rquo_start (D := val 65536 vs) huw wy ny hm.out hul.out hll sc0 (val_lt (by decide) wx) huv.out hvv.out
  obtain ⟨lq, hlq⟩ : ∃ lq, xs.length - (m + 1) = lq := ⟨_, rfl⟩
  have hlq1 : xs.length ≤ lq + (m + 1) := by omega
  have hlq2 : lq + (m + 1) ≤ xs.length := by omega
  rw [hlq] at hst
  replace hst : Hid _ := hst
  clear hlq
  have hmk1 := mk28 ((xs.length : Int) + 1 - ((m : Int) + 1)) (by omega) (by omega) w3
  rw [show ((xs.length : Int) + 1 - ((m : Int) + 1)).toNat = lq + 1 from by omega] at hmk1
  have hmk2 := mk28 ((m : Int) + 1 + 1) (by omega) (by omega) (w3.alloc (.cells (cellsOf .i64 (zeros (lq + 1))) 3))
  rw [show ((m : Int) + 1 + 1).toNat = m + 1 + 1 from by omega, show (w3.alloc (.cells (cellsOf .i64 (zeros (lq + 1))) 3)).heap.size = w3.heap.size + 1 from by simp] at hmk2
  have hqb0 := Blk.new w3 .i64 3 (zeros (lq + 1)) (by rw [zeros_len]; unfold maxLen; omega)
  have hwb0 := Blk.new (w3.alloc (.cells (cellsOf .i64 (zeros (lq + 1))) 3)) .i64 3 (zeros (m + 1 + 1)) (by rw [zeros_len]; unfold maxLen; omega)
  rw [zeros_len] at hqb0 hwb0
  rw [show (w3.alloc (.cells (cellsOf .i64 (zeros (lq + 1))) 3)).heap.size = w3.heap.size + 1 from by simp] at hwb0
  have hal : Below w3.heap.size w3 ((w3.alloc (.cells (cellsOf .i64 (zeros (lq + 1))) 3)).alloc (.cells (cellsOf .i64 (zeros (m + 1 + 1))) 3)) := ((Below.refl _ _).alloc (Nat.le_refl _) _).alloc (by simp) _
  replace hqb0 := hqb0.alloc (.cells (cellsOf .i64 (zeros (m + 1 + 1))) 3)
  have hub0 := (hub.next hb3).next hal
  have hvr0 := hvr.next hal
  have s1 := hb1.size
  have l1 := hub.lt
  have l2 : w2.heap.size < w3.heap.size := by
    have := cell_lt (hvr.cell _ rfl 0 (by rw [hvl.out]; omega))
    rwa [add_block] at this
  have hB0 : Below w.heap.size w ((w3.alloc (.cells (cellsOf .i64 (zeros (lq + 1))) 3)).alloc (.cells (cellsOf .i64 (zeros (m + 1 + 1))) 3)) := bthen (bthen (bthen hb1 hb2) hb3) hal
  clear hub hvr hal hcy
  replace hb1 : Hid _ := hb1
  replace hb2 : Hid _ := hb2
  replace hb3 : Hid _ := hb3
  go_wp2
  generalize (w3.alloc (.cells (cellsOf .i64 (zeros (lq + 1))) 3)).alloc (.cells (cellsOf .i64 (zeros (m + 1 + 1))) 3) = w5 at *
  clear hmk1 hmk2
  go_loopw [14, 15] (fun i g wr => ∃ (k : Nat) (zs qs ws : List Int), k ≤ lq + 1 ∧ i = .int .i64 ((k : Int) - 1) ∧ Blk wr w1.heap.size .i64 3 (xs.length + 1) zs ∧ Hid (zs.length = xs.length + 1) ∧ Words 65536 zs ∧ Blk wr w3.heap.size .i64 3 (lq + 1) qs ∧ Hid (qs.length = lq + 1) ∧ Words 65536 qs ∧ Blk wr (w3.heap.size + 1) .i64 3 (m + 1 + 1) ws ∧ Hid (ws.length = m + 1 + 1) ∧ Words 65536 ws ∧ Row wr .i64 65536 (some ⟨w2.heap.size, 0, none⟩) (m + 1) vs ∧ Hid (∀ j, j < k → zs[j]?.getD 0 = us[j]?.getD 0) ∧ Hid (val 65536 (us.drop k) = val 65536 vs * val 65536 (qs.drop k) + val 65536 (zs.drop k)) ∧ Hid (val 65536 (zs.drop k) < val 65536 vs) ∧ Below w.heap.size w wr) (fun i _ _ => (intOf i + 1).toNat)
  case atStart => exact ⟨lq + 1, us, zeros (lq + 1), zeros (m + 1 + 1), Nat.le_refl _, by congr 1; omega, hub0, hul, huw, hqb0, zeros_len _, zeros_words (by decide) _, hwb0, zeros_len _, zeros_words (by decide) _, hvr0, fun _ _ => rfl, zeros_start' us _ lq, hst, hB0⟩
  case round =>
    obtain ⟨k, zs, qs, ws, hk, rfl, hzb, hzl, hzw, hqb, hql, hqw, hwb, hwl, hww, hvr, HE, HV, HL, hbel⟩ := hrel
    cases k with
    | zero =>
      have hsv := HL.out
      have hV0 := HV.out
      simp only [List.drop_zero] at hsv hV0
      rw [huv.out, hvv.out] at hV0
      rw [hvv.out] at hsv
      have hz0 := val_nonneg (B := 65536) (by decide) hzw
      have hle := long_end sc0 hV0 hsv hz0
      have hrow := hzb.row hzw
      have k1 := rtrim_any _ _ zs wr hrow
      rw [hzl.out] at k1
      have hcut := hrow.cutTrim
      have hlz := trimmed_le zs
      rw [hzl.out] at hlz
      have k2 := small_any _ _ (trimmed zs) s wr hcut (by omega) sc0 (by omega)
      rw [trimmed_val] at k2
      generalize trimmed zs = tz at *
      replace k1 : Hid _ := k1
      replace k2 : Hid _ := k2
      replace hle : Hid _ := hle
      replace hz0 : Hid _ := hz0
      replace hlz : Hid _ := hlz
      clear hsv hV0 hrow hcut
      go_wp2_with fail
      refine Calls.mono k1.out ?_
      rintro e w7 ⟨rfl, hw7⟩
      rw [hw7]
      clear hw7 w7 k1
      go_wp2_with fail
      refine Calls.mono k2.out ?_
      rintro e w7 ⟨ra, rc, rs, r, rfl, hro, hrn, hrv, hr0, hr1, hrl, hb7⟩
      clear k2
      have hqr := (hqb.next hb7).row hqw
      have k3 := rtrim_any _ _ qs w7 hqr
      rw [hql.out] at k3
      have hqt := hqr.cutTrim
      have hle2 := trimmed_le qs
      rw [hql.out] at hle2
      replace k3 : Hid _ := k3
      have hex := exact_div sc0 hrv hr0 hr1
      replace hex : Hid _ := hex
      replace hrv : Hid _ := hrv
      have s9 := hbel.size
      have hqv := trimmed_val 65536 qs
      replace hqv : Hid _ := hqv
      have hqn := trimmed_nrm qs
      generalize trimmed qs = tq at *
      have s2' := hb2.out.size
      go_wp2_with fail
      refine Calls.mono k3.out ?_
      rintro e w8 ⟨rfl, hw8⟩
      rw [hw8]
      clear hw8 w8 k3
      go_wp2
      go_ret2
      refine ⟨⟨_, _, tq, ra, rc, rs, rfl, ⟨hqt, fun z hz => by cases hz; simp; omega⟩, hqn, hro.1, hrn, .inr (fun z hz => Nat.le_trans s9 (hro.2 z hz)), ?_, val_nonneg (by decide) hro.1.words, ?_, by omega, by have := hlz.out; omega⟩, bthen hbel hb7⟩
      · rw [hex.out, hqv.out]; exact hle.out.1
      · rw [hex.out]; exact hle.out.2
    | succ k =>
      have hzlen := hzl.out
      obtain ⟨u1, e1, u10, u11⟩ := hzw.get (by decide) (k + (m + 1))
      obtain ⟨u0, e0, u00, u01⟩ := hzw.get (by decide) (k + m)
      obtain ⟨v1, f1, v10, v11⟩ := hvw.get (by decide) m
      have c1 := hzb.cell (k + (m + 1)) (by omega)
      have c0 := hzb.cell (k + m) (by omega)
      have cv := hvr.cell _ rfl m (by rw [hvl.out]; omega)
      rw [e1] at c1
      rw [e0] at c0
      rw [f1, addr_add, Nat.zero_add] at cv
      have hv1 : v1 ≠ 0 := by rw [← f1]; exact top_ne hvn hvl.out
      have hvp : 0 < v1 := by omega
      have hD0 := val_nonneg (B := 65536) (by decide) hvw
      have hDlt := val_lt (B := 65536) (by decide) hvw
      rw [hvl.out] at hDlt
      have hR0 : val 65536 (zs.drop k) < 65536 * val 65536 vs := by
        rw [val_drop]
        have := hzw.at (by decide) k
        have := HL.out
        omega
      have hR1 : val 65536 (zs.drop k) < 65536 ^ (m + 1 + 1) := by rw [Int.pow_succ]; omega
      have hpart := tail_part' (by decide) hzw hR1 (by omega)
      have hg0 := guess_rows (rs := (zs.drop k).take (m + 1 + 1)) (vs := vs) (m := m) ((hzw.drop k).take _) hvw (by rw [List.length_take, List.length_drop]; omega) hvl.out (by rw [f1]; exact hvp)
      rw [List.getElem?_take_of_lt (by omega), List.getElem?_take_of_lt (by omega), drop_at, drop_at, e1, e0, f1, hpart.1] at hg0
      have hT0 : 0 ≤ (u1 * 65536 + u0) / v1 := Int.ediv_nonneg (by omega) (by omega)
      have hT1 : (u1 * 65536 + u0) / v1 ≤ 4294967295 := Int.le_trans (Int.ediv_le_self _ (by omega)) (by omega)
      have htd1 : (u1 * 65536 + u0).tdiv v1 = (u1 * 65536 + u0) / v1 := Int.tdiv_eq_ediv_of_nonneg (by omega)
      replace hg0 : Hid _ := hg0
      replace hpart : Hid _ := hpart
      replace hR0 : Hid _ := hR0
      replace hR1 : Hid _ := hR1
      replace hzlen : Hid _ := hzlen
      replace hDlt : Hid _ := hDlt
      clear e1 e0 f1
      go_wp2
      go_quiet (fail)
      have hbn : Below wr.heap.size wr (wr.drewN nq) := below_drewN (Below.refl _ _) nq
      replace hzb := hzb.next hbn
      replace hqb := hqb.next hbn
      replace hwb := hwb.next hbn
      replace hvr := hvr.next hbn
      replace hbel := bthen hbel hbn
      clear hbn c1 c0 cv
      generalize wr.drewN nq = w6 at *
      generalize hG : (u1 * 65536 + u0) / v1 = G at *
      replace hG : Hid _ := hG
      by_cases hGb : 65536 ≤ G
      · go_wp2
        rw [show ((k + 1 : Nat) : Int) - 1 = (k : Int) from by omega, show k + (m + 1) - 1 = k + m from by omega]
        go_loopw [15] (fun g wr' => ∃ (gg : Int) (ws1 : List Int), g = .int .i64 gg ∧ 0 ≤ gg ∧ gg < 65536 ∧ Hid (val 65536 (zs.drop k) < (gg + 1) * val 65536 vs) ∧ Blk wr' w1.heap.size .i64 3 (xs.length + 1) zs ∧ Blk wr' w3.heap.size .i64 3 (lq + 1) qs ∧ Blk wr' (w3.heap.size + 1) .i64 3 (m + 1 + 1) ws1 ∧ Hid (ws1.length = m + 1 + 1) ∧ Words 65536 ws1 ∧ Row wr' .i64 65536 (some ⟨w2.heap.size, 0, none⟩) (m + 1) vs ∧ Below w.heap.size w wr') (fun g _ => (intOf g).toNat)
        case atStart => exact ⟨65535, ws, rfl, by decide, by decide, (by rw [show (65535 : Int) + 1 = 65536 from rfl]; exact hR0.out), hzb, hqb, hwb, hwl, hww, hvr, hbel⟩
        case round =>
          obtain ⟨gg, ws1, rfl, hg1, hg2, HG, hzb2, hqb2, hwb2, hwl2, hww2, hvr2, hbel2⟩ := hrel
          have kl := less_any w1.heap.size (w3.heap.size + 1) k (m + 1) (xs.length + 1) (m + 1) zs ws1 vs (some ⟨w2.heap.size, 0, none⟩) gg wr hvr2 (fun x hx => by cases hx; simp; omega) (by omega) hzb2 hzl.out hzw hwb2 hwl2.out hww2 hvl.out (by omega) (by omega) hg1 hg2
          replace kl : Hid _ := kl
          clear hzb hqb hwb hvr hbel
          go_wp2_with fail
          refine Calls.mono kl.out ?_
          rintro e w7 ⟨ok, zs', ws', rfl, hzb3, hzl3, hzw3, hwb3, hwl3, hww3, hT, hF, hfr, hsz, hos, htp, hout⟩
          clear kl
          have hqb3 := hqb2.same (hfr _ hqb2.lt (by omega) (by omega))
          have hvr3 := hvr2.frame (w' := w7) (fun x hx hlt => by cases hx; exact hfr _ hlt (by simp; omega) (by simp; omega))
          have hbel3 : Below w.heap.size w w7 := hbel2.trans ⟨hos, htp, hout, hsz, fun b hb => hfr b (by have := hbel2.size; omega) (by omega) (by omega)⟩
          have hr0 := val_nonneg (B := 65536) (by decide) (hzw.drop k)
          replace hzl3 : Hid _ := hzl3
          replace hwl3 : Hid _ := hwl3
          clear hfr hos htp hout hsz hzb2 hqb2 hwb2 hvr2 hbel2
          cases ok with
          | true =>
            obtain ⟨t1, t2, t3⟩ := hT rfl
            clear hT hF
            rw [hpart.out.1] at t1 t3
            have hpv := patched_val (B := 65536) (zs := zs) (ws := ws') (k := k) (n := m + 1) (by rw [hzl.out]; omega) hwl3.out hpart.out.2
            rw [← t2] at hpv
            have hlow : ∀ j, j < k → zs'[j]?.getD 0 = zs[j]?.getD 0 := fun j hj => by rw [t2]; exact patched_low (by rw [hzl.out]; omega) hj
            have HS : Hid (Hid (val 65536 (us.drop k) = val 65536 vs * val 65536 ((qs.set k gg).drop k) + val 65536 (zs'.drop k))) := long_step (by rw [hql.out]; omega) (HE.out k (by omega)) HV.out (by rw [hpv, t3, Int.mul_comm]; omega)
            have HL2 : Hid (Hid (val 65536 (zs'.drop k) < val 65536 vs)) := by
              have e := HG.out
              rw [Int.add_mul, Int.one_mul] at e
              show _ < _
              omega
            have HE2 : Hid (Hid (∀ j, j < k → zs'[j]?.getD 0 = us[j]?.getD 0)) := fun j hj => (hlow j hj).trans (HE.out j (by omega))
            have hcs := hqb3.cell k (by rw [hql.out]; omega)
            have hfz := hqb3.frozen k
            generalize qs[k]?.getD 0 = old at hcs
            clear t1 t2 t3 hpv hlow HV HL HE hr0
            go_wp2
            go_roundw
            case rel => exact ⟨k, zs', _, ws', by omega, rfl, hzb3.other _ _ (by simp; omega), hzl3, hzw3, hqb3.set k _, by show _ = _; rw [List.length_set]; exact hql.out, hqw.set k (by omega), hwb3.other _ _ (by simp), hwl3, hww3, Row.frame hvr3 (fun x hx _ => by cases hx; exact Below.heap_setCell _ _ _ _ (by simp; omega)), HE2, HS, HL2, hbel3.setCell (by simp; omega) _⟩
            case measure => simp [intOf]
          | false =>
            obtain ⟨t1, t2⟩ := hF rfl
            clear hT hF
            rw [hpart.out.1] at t2
            subst t1
            have hgp : 1 ≤ gg := by
              by_cases h : 1 ≤ gg
              · exact h
              · have : gg = 0 := by omega
                rw [this, Int.zero_mul] at t2
                omega
            have HG2 : Hid (Hid (val 65536 (zs'.drop k) < (gg - 1 + 1) * val 65536 vs)) := by show _ < _; rw [Int.sub_add_cancel]; exact t2
            clear t2 hr0
            go_wp2
            go_roundw
            case rel => exact ⟨gg - 1, ws', rfl, by omega, by omega, HG2, hzb3, hqb3, hwb3, hwl3, hww3, hvr3, hbel3⟩
            case measure => simp [intOf]; omega
      · go_wp2
        go_loopw [15] (fun g wr' => ∃ (gg : Int) (ws1 : List Int), g = .int .i64 gg ∧ 0 ≤ gg ∧ gg < 65536 ∧ Hid (val 65536 (zs.drop k) < (gg + 1) * val 65536 vs) ∧ Blk wr' w1.heap.size .i64 3 (xs.length + 1) zs ∧ Blk wr' w3.heap.size .i64 3 (lq + 1) qs ∧ Blk wr' (w3.heap.size + 1) .i64 3 (m + 1 + 1) ws1 ∧ Hid (ws1.length = m + 1 + 1) ∧ Words 65536 ws1 ∧ Row wr' .i64 65536 (some ⟨w2.heap.size, 0, none⟩) (m + 1) vs ∧ Below w.heap.size w wr') (fun g _ => (intOf g).toNat)
        case atStart => exact ⟨G, ws, rfl, hT0, by omega, hg0, hzb, hqb, hwb, hwl, hww, hvr, hbel⟩
        case round =>
          obtain ⟨gg, ws1, rfl, hg1, hg2, HG, hzb2, hqb2, hwb2, hwl2, hww2, hvr2, hbel2⟩ := hrel
          have kl := less_any w1.heap.size (w3.heap.size + 1) k (m + 1) (xs.length + 1) (m + 1) zs ws1 vs (some ⟨w2.heap.size, 0, none⟩) gg wr hvr2 (fun x hx => by cases hx; simp; omega) (by omega) hzb2 hzl.out hzw hwb2 hwl2.out hww2 hvl.out (by omega) (by omega) hg1 hg2
          replace kl : Hid _ := kl
          clear hzb hqb hwb hvr hbel
          go_wp2_with fail
          refine Calls.mono kl.out ?_
          rintro e w7 ⟨ok, zs', ws', rfl, hzb3, hzl3, hzw3, hwb3, hwl3, hww3, hT, hF, hfr, hsz, hos, htp, hout⟩
          clear kl
          have hqb3 := hqb2.same (hfr _ hqb2.lt (by omega) (by omega))
          have hvr3 := hvr2.frame (w' := w7) (fun x hx hlt => by cases hx; exact hfr _ hlt (by simp; omega) (by simp; omega))
          have hbel3 : Below w.heap.size w w7 := hbel2.trans ⟨hos, htp, hout, hsz, fun b hb => hfr b (by have := hbel2.size; omega) (by omega) (by omega)⟩
          have hr0 := val_nonneg (B := 65536) (by decide) (hzw.drop k)
          replace hzl3 : Hid _ := hzl3
          replace hwl3 : Hid _ := hwl3
          clear hfr hos htp hout hsz hzb2 hqb2 hwb2 hvr2 hbel2
          cases ok with
          | true =>
            obtain ⟨t1, t2, t3⟩ := hT rfl
            clear hT hF
            rw [hpart.out.1] at t1 t3
            have hpv := patched_val (B := 65536) (zs := zs) (ws := ws') (k := k) (n := m + 1) (by rw [hzl.out]; omega) hwl3.out hpart.out.2
            rw [← t2] at hpv
            have hlow : ∀ j, j < k → zs'[j]?.getD 0 = zs[j]?.getD 0 := fun j hj => by rw [t2]; exact patched_low (by rw [hzl.out]; omega) hj
            have HS : Hid (Hid (val 65536 (us.drop k) = val 65536 vs * val 65536 ((qs.set k gg).drop k) + val 65536 (zs'.drop k))) := long_step (by rw [hql.out]; omega) (HE.out k (by omega)) HV.out (by rw [hpv, t3, Int.mul_comm]; omega)
            have HL2 : Hid (Hid (val 65536 (zs'.drop k) < val 65536 vs)) := by
              have e := HG.out
              rw [Int.add_mul, Int.one_mul] at e
              show _ < _
              omega
            have HE2 : Hid (Hid (∀ j, j < k → zs'[j]?.getD 0 = us[j]?.getD 0)) := fun j hj => (hlow j hj).trans (HE.out j (by omega))
            have hcs := hqb3.cell k (by rw [hql.out]; omega)
            have hfz := hqb3.frozen k
            generalize qs[k]?.getD 0 = old at hcs
            clear t1 t2 t3 hpv hlow HV HL HE hr0
            go_wp2
            go_roundw
            case rel => exact ⟨k, zs', _, ws', by omega, rfl, hzb3.other _ _ (by simp; omega), hzl3, hzw3, hqb3.set k _, by show _ = _; rw [List.length_set]; exact hql.out, hqw.set k (by omega), hwb3.other _ _ (by simp), hwl3, hww3, Row.frame hvr3 (fun x hx _ => by cases hx; exact Below.heap_setCell _ _ _ _ (by simp; omega)), HE2, HS, HL2, hbel3.setCell (by simp; omega) _⟩
            case measure => simp [intOf]
          | false =>
            obtain ⟨t1, t2⟩ := hF rfl
            clear hT hF
            rw [hpart.out.1] at t2
            subst t1
            have hgp : 1 ≤ gg := by
              by_cases h : 1 ≤ gg
              · exact h
              · have : gg = 0 := by omega
                rw [this, Int.zero_mul] at t2
                omega
            have HG2 : Hid (Hid (val 65536 (zs'.drop k) < (gg - 1 + 1) * val 65536 vs)) := by show _ < _; rw [Int.sub_add_cancel]; exact t2
            clear t2 hr0
            go_wp2
            go_roundw
            case rel => exact ⟨gg - 1, ws', rfl, by omega, by omega, HG2, hzb3, hqb3, hwb3, hwl3, hww3, hvr3, hbel3⟩
            case measure => simp [intOf]; omega
end Go.Proofs.YtclokcoimdjaeaaGreatDoor
namespace Go.Proofs.YtclokcoimdjaeaaGreatDoor
open Go.RowKit
attribute [local go_sem ↓] Go.wp_at_zero Go.wp_at_succ
/-- A value of the second road that reads as the number z, in normal form, in at most n digits. -/
def Rint (w : World) (v : Value) (z : Int) (n : Nat) : Prop :=
  ∃ (neg : Bool) (a : Option Addr) (cap : Nat) (ds : List Int), v = .agg #[.bool neg, .slice a ds.length cap] ∧ Row w .i64 65536 a cap ds ∧ Norm neg ds ∧ num 65536 neg ds = z ∧ ds.length ≤ n
theorem Rint.next {w w' : World} {v : Value} {z : Int} {n : Nat} (h : Rint w v z n) (hb : Below w.heap.size w w') : Rint w' v z n := by
  obtain ⟨neg, a, cap, ds, hv, hr, r⟩ := h
  exact ⟨neg, a, cap, ds, hv, hr.next hb, r⟩
theorem Rint.form {w : World} {v : Value} {z : Int} {n : Nat} (h : Rint w v z n) : ∃ neg a l cap, v = .agg #[.bool neg, .slice a l cap] := by
  obtain ⟨neg, a, cap, ds, hv, _⟩ := h
  exact ⟨neg, a, ds.length, cap, hv⟩
theorem Rint.mono {w : World} {v : Value} {z : Int} {n m : Nat} (h : Rint w v z n) (hm : n ≤ m) : Rint w v z m := by
  obtain ⟨neg, a, cap, ds, hv, hr, h1, h2, h3⟩ := h
  exact ⟨neg, a, cap, ds, hv, hr, h1, h2, by omega⟩
/-- The same in memory from block base on. -/
def Rout (w : World) (base : Nat) (v : Value) (z : Int) (n : Nat) : Prop :=
  ∃ (neg : Bool) (a : Option Addr) (cap : Nat) (ds : List Int), v = .agg #[.bool neg, .slice a ds.length cap] ∧ Rown w base a cap ds ∧ Norm neg ds ∧ num 65536 neg ds = z ∧ ds.length ≤ n
theorem Rout.rint {w : World} {base : Nat} {v : Value} {z : Int} {n : Nat} (h : Rout w base v z n) : Rint w v z n := by
  obtain ⟨neg, a, cap, ds, hv, hr, h1⟩ := h
  exact ⟨neg, a, cap, ds, hv, hr.1, h1⟩
theorem wrap_i64 (p : Int) (h0 : -9223372036854775808 ≤ p) (h1 : p ≤ 9223372036854775807) : IntKind.i64.wrap p = p := by show IntKind.wrap _ _ = _; unfold IntKind.wrap; simp [IntKind.bits, IntKind.signed]; omega
theorem own_block {w : World} {base : Nat} {k : IntKind} {T : TypeId} {B : Int} {a : Option Addr} {cap : Nat} {zs : List Int} (h : Own w base k T B a cap zs) {x : Addr} (hx : a = some x) : base ≤ x.block := by
  obtain ⟨_, ⟨rfl, _⟩ | ⟨g, rfl, hg, _⟩⟩ := h
  · cases hx
  · cases hx; exact hg
theorem boxes2t (w : World) (v0 v1 v4 v5 : Value) (T T' : TypeId) : ∃ W, W = (w.alloc (.cells #[v0, v1] T)).alloc (.cells #[v4, v5] T') ∧ Below w.heap.size w W ∧ w.heap.size + 1 < W.heap.size ∧
    W.cell? ⟨w.heap.size, 0, none⟩ = some v0 ∧ W.cell? ⟨w.heap.size, 1, none⟩ = some v1 ∧ W.cell? ⟨w.heap.size + 1, 0, none⟩ = some v4 ∧ W.cell? ⟨w.heap.size + 1, 1, none⟩ = some v5 ∧
    W.frozen? ⟨w.heap.size + 1, 0, none⟩ = false ∧ W.frozen? ⟨w.heap.size + 1, 1, none⟩ = false := by
  refine ⟨_, rfl, ((Below.refl _ _).alloc (Nat.le_refl _) _).alloc (by simp) _, by simp, ?_, ?_, ?_, ?_, ?_, ?_⟩ <;> simp [go_sem, World.cell?_alloc_past]
theorem num_halves (n : Bool) (xs : List Int) : num 65536 (n && decide (0 < (trimmed (halves xs)).length)) (trimmed (halves xs)) = num 4294967296 n xs := by
  have h : val 65536 (trimmed (halves xs)) = val 4294967296 xs := by rw [trimmed_val, halves_val]
  cases n with
  | false => simp [num, h]
  | true =>
    by_cases hl : 0 < (trimmed (halves xs)).length
    · simp [num, hl, h]
    · have hn : trimmed (halves xs) = [] := List.eq_nil_of_length_eq_zero (by omega)
      simp only [hn] at h ⊢
      simp only [val_nil] at h
      simp [num, ← h, val]
theorem norm_pick (n : Bool) (zs : List Int) (h : nrm zs) : Norm (n && decide (0 < zs.length)) zs := by
  refine ⟨h, fun hh e => ?_⟩
  subst e
  simp at hh
set_option maxHeartbeats 2000000 in
set_option maxRecDepth 100000 in
theorem From_any (na : Bool) (x : Option Addr) (ca : Nat) (xs : List Int) (w : World) (ha : Row w .u32 4294967296 x ca xs) (hl : xs.length ≤ 1000000) :
    Calls Tryz.prog 155 #[.agg #[.bool na, .slice x xs.length ca]] w fun e w' => ∃ v, e = .returned v ∧ Rout w' w.heap.size v (num 4294967296 na xs) (2 * xs.length) ∧ Below w.heap.size w w' := by
  obtain ⟨i0, hi, hz0, hz1, hz2⟩ := info_parts Tryz.info3
  go_enter Tryz.func155, Tryz.ntmps155
  go_wp2
  obtain ⟨W, hW, hbW, hlt, c0, c1, c4, c5, f4, f5⟩ := boxes2t w (.bool na) (.slice x xs.length ca) (.bool false) (.slice none 0 0) 28 38
  rw [← hW]
  clear hW
  have haW := ha.next hbW
  go_loopw [3, 4] (fun d i wr => ∃ (k : Nat) (a' : Option Addr) (cap' : Nat), k ≤ xs.length ∧ i = .int .i64 k ∧ d = .slice a' (2 * k) cap' ∧ Own wr W.heap.size .i64 3 65536 a' cap' (halves (xs.take k)) ∧ Below W.heap.size W wr) (fun _ i _ => xs.length - (intOf i).toNat)
  case atStart => exact ⟨0, none, 0, by omega, rfl, rfl, Own.empty _ _ _ _ _, Below.refl _ _⟩
  case round =>
    obtain ⟨k, a', cap', hk, rfl, rfl, hown, hbel⟩ := hrel
    have k1 := keep_cell hbel c1
    have hln : (halves (xs.take k)).length = 2 * k := by rw [halves_len, List.length_take]; omega
    by_cases hkl : k < xs.length
    · obtain ⟨x, rfl⟩ := haW.some_of hkl
      obtain ⟨p, hp, hp0, hp1⟩ := ha.words.get (by decide) k
      have hce := (haW.next hbel).cell x rfl k hkl
      rw [hp] at hce
      have HT : Hid (halves (xs.take (k + 1)) = halves (xs.take k) ++ [p % 65536, p / 65536]) := by have := halves_take xs k hkl; rw [hp] at this; exact this
      have HP : Hid (xs[k]?.getD 0 = p) := hp
      clear hp
      have e0 : IntKind.i64.wrap p = p := wrap_i64 p (by omega) (by omega)
      have e1 : (IntKind.i64.wrap p).tmod 65536 = p % 65536 := by rw [e0, Int.tmod_eq_emod_of_nonneg hp0]
      have e2 : IntKind.i64.wrap ((IntKind.i64.wrap p).tdiv 65536) = p / 65536 := by rw [e0, Int.tdiv_eq_ediv_of_nonneg hp0]; exact wrap_i64 _ (by omega) (by omega)
      have hD : Below wr.heap.size wr (wr.alloc (.cells #[.int .i64 ((IntKind.i64.wrap p).tmod 65536), .int .i64 (IntKind.i64.wrap ((IntKind.i64.wrap p).tdiv 65536))] 3)).drew := ((Below.refl _ _).alloc (Nat.le_refl _) _).drew
      have hs := hbel.size
      obtain ⟨a2, cap2, w2, hr, hown2, hb2⟩ := run_append_row (P := Tryz.prog) (wr.alloc (.cells #[.int .i64 ((IntKind.i64.wrap p).tmod 65536), .int .i64 (IntKind.i64.wrap ((IntKind.i64.wrap p).tdiv 65536))] 3)).drew 36 36 3 W.heap.size .i64 8 65536 i0 Tryz.underlying36 hi hz0 hz1 hz2 a' cap' (2 * k) _ (hown.next hD) hln ⟨wr.heap.size, 0, none⟩ 2 2 _ ((Row.alloc2 wr .i64 3 65536 _ _ (by rw [e1]; omega) (by rw [e2]; omega)).next ((Below.refl _ _).drew)) rfl (by omega) (by omega) (by omega) (by simp; omega)
      replace hr : Hid _ := hr
      rw [e1, e2, ← HT.out] at hown2
      have hbel2 : Below W.heap.size W w2 := (hbel.trans (hD.mono hs)).trans hb2
      replace e0 : Hid _ := e0
      replace e1 : Hid _ := e1
      replace e2 : Hid _ := e2
      have k1d : wr.drew.cell? ⟨w.heap.size, 1, none⟩ = some (.slice (some x) xs.length ca) := k1
      have hced : wr.drew.cell? (x.add k) = some (.int .u32 p) := hce
      go_wp2
      go_region_held3 (fun w' => w'.cell? ⟨w.heap.size, 1, none⟩ = some (.slice (some x) xs.length ca) ∧ w'.cell? (x.add k) = some (.int .u32 p)) (first | with_reducible exact ⟨k1d, hced⟩ | with_reducible exact ⟨k1, hce⟩ | with_reducible exact ⟨keep_cell hD k1, keep_cell hD hce⟩ | (with_reducible refine ⟨keep_cell (wk := W) hbel2 c1, ?_⟩; rw [← HP.out]; exact (haW.next hbel2).cell x rfl k hkl))
        (first
          | (refine step_append_run (by rfl) (.tmp 12) (.tmp 27) 36 36 (by rfl) (.slice a' (2 * k) cap') (.slice (some ⟨wr.heap.size, 0, none⟩) 2 2) (by rfl) (by rfl) _ _ hr.out ?_))
      go_wp2
      go_roundw
      case rel => exact ⟨k + 1, a2, cap2, by omega, by go_num, rfl, hown2, hbel2⟩
      case measure => simp [intOf]; omega
    · obtain rfl : k = xs.length := by omega
      rw [take_all (Nat.le_refl _)] at hown hln
      have k0 := keep_cell hbel c0
      have k4 := keep_cell hbel c4
      have k5 := keep_cell hbel c5
      have g4 := keep_frozen hbel c4 f4
      have g5 := keep_frozen hbel c5 f5
      have htr := rtrim_any a' cap' _ wr hown.row
      rw [hln] at htr
      have hB := bthen hbW hbel
      have hnn := num_halves na xs
      have hnm := norm_pick na (trimmed (halves xs)) (trimmed_nrm _)
      have hle := trimmed_le (halves xs)
      rw [hln] at hle
      have hO : ∀ w', Own w' W.heap.size .i64 3 65536 a' cap' (halves xs) → Rout w' w.heap.size (.agg #[.bool (na && decide (0 < (trimmed (halves xs)).length)), .slice a' (trimmed (halves xs)).length (trimmed (halves xs)).length]) (num 4294967296 na xs) (2 * xs.length) :=
        fun w' ho => ⟨_, _, _, _, rfl, ⟨ho.row.cutTrim, fun x hx => Nat.le_trans hbW.size (own_block ho hx)⟩, hnm, hnn, hle⟩
      generalize (trimmed (halves xs)).length = n at *
      clear hnn hnm hln
      go_wp2_with fail
      refine Calls.mono htr ?_
      rintro e w' ⟨rfl, rfl⟩
      clear htr
      cases na with
      | false =>
        go_wp2
        refine bodyPost_ret (v := .agg #[.bool false, .slice a' n n]) (by simp [results, Tryz.results155, go_sem, k4, k5]) rfl ⟨_, rfl, ?_, (hB.setCell (by simp) _).setCell (by simp) _⟩
        exact hO _ ((hown.set (by exact hlt) _).set (by exact hlt) _)
      | true =>
        by_cases hn : 0 < n
        · have hn' : (n : Int) > 0 := by omega
          go_wp2
          refine bodyPost_ret (v := .agg #[.bool true, .slice a' n n]) (by simp [results, Tryz.results155, go_sem, k4, k5]) rfl ⟨_, rfl, ?_, (hB.setCell (by simp) _).setCell (by simp) _⟩
          have hO' := hO _ ((hown.set (p := ⟨w.heap.size + 1, 0, none⟩) (by exact hlt) (.bool true)).set (p := ⟨w.heap.size + 1, 1, none⟩) (by exact hlt) (.slice a' n n))
          simpa [hn] using hO'
        · have hn' : ¬ (n : Int) > 0 := by omega
          go_wp2
          refine bodyPost_ret (v := .agg #[.bool false, .slice a' n n]) (by simp [results, Tryz.results155, go_sem, k4, k5]) rfl ⟨_, rfl, ?_, (hB.setCell (by simp) _).setCell (by simp) _⟩
          have hO' := hO _ ((hown.set (p := ⟨w.heap.size + 1, 0, none⟩) (by exact hlt) (.bool false)).set (p := ⟨w.heap.size + 1, 1, none⟩) (by exact hlt) (.slice a' n n))
          simpa [hn] using hO'
end Go.Proofs.YtclokcoimdjaeaaGreatDoor
namespace Go.Proofs.YtclokcoimdjaeaaGreatDoor
open Go.RowKit
attribute [local go_sem ↓] Go.wp_at_zero Go.wp_at_succ
theorem add_succ (x : Addr) (n : Nat) : x.add (n + 1) = ⟨x.block, x.off + (n + 1), none⟩ := by simp [Addr.add]
set_option maxHeartbeats 2000000 in
set_option maxRecDepth 100000 in
theorem To_any (na : Bool) (x : Option Addr) (ca : Nat) (xs : List Int) (w : World) (ha : Row w .i64 65536 x ca xs) (hn : Norm na xs) (hl : xs.length ≤ 1000000) :
    Calls Tryz.prog 120 #[.agg #[.bool na, .slice x xs.length ca]] w fun e w' => ∃ a' cap', e = .returned (.agg #[.bool na, .slice a' (paired xs).length cap']) ∧ Own w' w.heap.size .u32 139 4294967296 a' cap' (paired xs) ∧ Below w.heap.size w w' := by
  obtain ⟨i0, hi, hz0, hz1, hz2⟩ := info_parts Tryz.info139
  have hna : na = true → xs.length ≠ 0 := fun h e => hn.2 h (List.eq_nil_of_length_eq_zero e)
  have hpl := paired_len xs
  clear hn
  go_enter Tryz.func120, Tryz.ntmps120
  go_wp2
  obtain ⟨W, hW, hbW, hlt, c0, c1, c4, c5, f4, f5⟩ := boxes2t w (.bool na) (.slice x xs.length ca) (.bool false) (.slice none 0 0) 38 28
  rw [← hW]
  clear hW
  have haW := ha.next hbW
  go_loopw [3, 4, 5] (fun m i u wr => ∃ (k : Nat) (a' : Option Addr) (cap' : Nat), 2 * k ≤ xs.length + 1 ∧ i = .int .i64 (2 * (k : Int)) ∧ m = .slice a' k cap' ∧ Own wr W.heap.size .u32 139 4294967296 a' cap' (paired (xs.take (2 * k))) ∧ Below W.heap.size W wr) (fun _ i _ _ => xs.length + 1 - (intOf i).toNat)
  case atStart => exact ⟨0, none, 0, by omega, rfl, rfl, Own.empty _ _ _ _ _, Below.refl _ _⟩
  case round =>
    obtain ⟨k, a', cap', hk, rfl, rfl, hown, hbel⟩ := hrel
    have k1 := keep_cell hbel c1
    by_cases hkl : 2 * k < xs.length
    · obtain ⟨x, rfl⟩ := haW.some_of hkl
      obtain ⟨p, hp, hp0, hp1⟩ := ha.words.get (by decide) (2 * k)
      have hce := (haW.next hbel).cell x rfl (2 * k) hkl
      rw [hp] at hce
      have hln : (paired (xs.take (2 * k))).length = k := by rw [paired_len, List.length_take]; omega
      have hs := hbel.size
      by_cases hk2 : 2 * k + 1 < xs.length
      · obtain ⟨q, hq, hq0, hq1⟩ := ha.words.get (by decide) (2 * k + 1)
        have hce2 := (haW.next hbel).cell x rfl (2 * k + 1) hk2
        rw [hq, add_succ] at hce2
        have HT := paired_two xs k hk2
        rw [hp, hq] at HT
        replace HT : Hid _ := HT
        clear hp hq
        have hD : Below wr.heap.size wr (wr.alloc (.cells #[.int .u32 (p + 65536 * q)] 139)) := (Below.refl _ _).alloc (Nat.le_refl _) _
        obtain ⟨a2, cap2, w2, hr, hown2, hb2⟩ := run_append_row (P := Tryz.prog) (wr.alloc (.cells #[.int .u32 (p + 65536 * q)] 139)) 26 26 139 W.heap.size .u32 4 4294967296 i0 Tryz.underlying26 hi hz0 hz1 hz2 a' cap' k _ (hown.next hD) hln ⟨wr.heap.size, 0, none⟩ 1 1 [p + 65536 * q] (Row.alloc1 wr .u32 139 4294967296 _ (by omega)) rfl (by omega) (by omega) (by omega) (by simp; omega)
        replace hr : Hid _ := hr
        rw [← HT.out] at hown2
        have hbel2 : Below W.heap.size W w2 := (hbel.trans (hD.mono hs)).trans hb2
        go_wp2_with (at_builtin; refine wpList_append_run (by rfl) (.tmp 33) (.tmp 36) 26 26 (by rfl) (.slice a' k cap') (.slice (some ⟨wr.heap.size, 0, none⟩) 1 1) (by rfl) (by rfl) _ _ hr.out ?_)
        go_roundw
        case rel => exact ⟨k + 1, a2, cap2, by omega, by go_num, rfl, hown2, hbel2⟩
        case measure => simp [intOf]; omega
      · have HT := paired_one xs k (by omega)
        rw [hp] at HT
        replace HT : Hid _ := HT
        clear hp
        have hD : Below wr.heap.size wr (wr.alloc (.cells #[.int .u32 p] 139)) := (Below.refl _ _).alloc (Nat.le_refl _) _
        obtain ⟨a2, cap2, w2, hr, hown2, hb2⟩ := run_append_row (P := Tryz.prog) (wr.alloc (.cells #[.int .u32 p] 139)) 26 26 139 W.heap.size .u32 4 4294967296 i0 Tryz.underlying26 hi hz0 hz1 hz2 a' cap' k _ (hown.next hD) hln ⟨wr.heap.size, 0, none⟩ 1 1 [p] (Row.alloc1 wr .u32 139 4294967296 _ (by omega)) rfl (by omega) (by omega) (by omega) (by simp; omega)
        replace hr : Hid _ := hr
        rw [← HT.out] at hown2
        have hbel2 : Below W.heap.size W w2 := (hbel.trans (hD.mono hs)).trans hb2
        go_wp2_with (at_builtin; refine wpList_append_run (by rfl) (.tmp 33) (.tmp 36) 26 26 (by rfl) (.slice a' k cap') (.slice (some ⟨wr.heap.size, 0, none⟩) 1 1) (by rfl) (by rfl) _ _ hr.out ?_)
        go_roundw
        case rel => exact ⟨k + 1, a2, cap2, by omega, by go_num, rfl, hown2, hbel2⟩
        case measure => simp [intOf]; omega
    · rw [take_all (by omega)] at hown
      have hkp : (paired xs).length = k := by omega
      replace hkp : Hid _ := hkp
      clear hpl
      have k0 := keep_cell hbel c0
      have k4 := keep_cell hbel c4
      have k5 := keep_cell hbel c5
      have g4 := keep_frozen hbel c4 f4
      have g5 := keep_frozen hbel c5 f5
      have hB := bthen hbW hbel
      have hbs := hbW.size
      cases na with
      | false =>
        clear hna
        go_wp2
        exact bodyPost_ret (v := .agg #[.bool false, .slice a' k cap']) (by simp [results, Tryz.results120, go_sem, k4, k5]) rfl ⟨_, _, by rw [hkp.out], ((hown.set (by exact hlt) _).set (by exact hlt) _).mono hbs, (hB.setCell (by simp) _).setCell (by simp) _⟩
      | true =>
        have hn' : (xs.length : Int) > 0 := by have := hna rfl; omega
        have hn2 : 0 < xs.length := by omega
        clear hna
        go_wp2
        exact bodyPost_ret (v := .agg #[.bool true, .slice a' k cap']) (by simp [results, Tryz.results120, go_sem, k4, k5]) rfl ⟨_, _, by rw [hkp.out], ((hown.set (by exact hlt) _).set (by exact hlt) _).mono hbs, (hB.setCell (by simp) _).setCell (by simp) _⟩
theorem same_at {xs ps : List Int} {j k : Nat} (h : j = k) (e : xs[k]?.getD 0 = ps[k]?.getD 0) : xs[j]?.getD 0 = ps[j]?.getD 0 := by rw [h]; exact e
theorem Row.words_eq {w : World} {k : IntKind} {B : Int} {a b : Option Addr} {c d : Nat} {xs ys : List Int} (_ : Row w k B a c xs) (_ : Row w k B b d ys) (hl : xs.length = ys.length) (h : ∀ i, i < xs.length → xs[i]?.getD 0 = ys[i]?.getD 0) : xs = ys := by
  apply List.ext_getElem? 
  intro i
  by_cases hi : i < xs.length
  · have := h i hi
    rw [List.getElem?_eq_getElem hi, List.getElem?_eq_getElem (by omega)] at this ⊢
    simpa using this
  · rw [List.getElem?_eq_none (by omega), List.getElem?_eq_none (by omega)]
set_option maxHeartbeats 2000000 in
set_option maxRecDepth 100000 in
theorem Is_any (na nb : Bool) (x y : Option Addr) (ca cb : Nat) (xs ys : List Int) (w : World) (ha : Row w .u32 4294967296 x ca xs) (hna : Norm na xs) (hb : Row w .i64 65536 y cb ys) (hnb : Norm nb ys) (hl : xs.length ≤ 1000000) (hlb : ys.length ≤ 1000000) :
    Calls Tryz.prog 154 #[.agg #[.bool na, .slice x xs.length ca], .agg #[.bool nb, .slice y ys.length cb]] w fun e w' => e = .returned (.bool (decide (num 4294967296 na xs = num 65536 nb ys))) ∧ Below w.heap.size w w' := by
  have hkey := paired_unique ha.words hb.words hna hnb
  replace hkey : Hid _ := hkey
  go_enter Tryz.func154, Tryz.ntmps154
  go_wp2_with fail
  obtain ⟨W, hW, hbW, hlt, c0, c1, c4, c5, f4, f5⟩ := boxes2t w (.bool na) (.slice x xs.length ca) (.bool nb) (.slice y ys.length cb) 28 38
  rw [← hW]
  clear hW
  have haW := ha.next hbW
  refine (To_any nb y cb ys W (hb.next hbW) hnb hlb).mono ?_
  rintro e w1 ⟨a', cap', rfl, hown, hb1⟩
  have hrow := hown.row
  have haw1 := haW.next hb1
  have k0 := keep_cell hb1 c0
  have k1 := keep_cell hb1 c1
  have hB := bthen hbW hb1
  have h1l := cell_lt k0
  generalize paired ys = ps at *
  have hB2 : Below w1.heap.size w1 (w1.alloc (.cells #[.bool nb, .slice a' ps.length cap'] 28)) := (Below.refl _ _).alloc (Nat.le_refl _) _
  have hBB := bthen hB hB2
  by_cases hnn : na = nb
  · subst hnn
    by_cases hll : xs.length = ps.length
    · have hll' : ((xs.length : Int) != (ps.length : Int)) = false := by simp [hll]
      replace hll : Hid _ := hll
      have d1 : (w1.alloc (.cells #[.bool na, .slice a' ps.length cap'] 28)).cell? ⟨w1.heap.size, 1, none⟩ = some (.slice a' ps.length cap') := by simp [go_sem]
      have d2 := keep_cell hB2 k1
      have hx2 := haw1.next hB2
      have hy2 := hrow.next hB2
      go_wp2
      clear hB2
      generalize w1.alloc (.cells #[.bool na, .slice a' ps.length cap'] 28) = W2 at *
      clear k0 k1 hown hb1 hrow haw1 hB haW c0 c1 c4 c5 f4 f5
      go_loopw [6] (fun i wr => ∃ k : Nat, k ≤ xs.length ∧ i = .int .i64 k ∧ Hid (∀ j, j < k → xs[j]?.getD 0 = ps[j]?.getD 0) ∧ Below W2.heap.size W2 wr) (fun i _ => xs.length - (intOf i).toNat)
      case atStart => exact ⟨0, by omega, rfl, fun j hj => absurd hj (by omega), Below.refl _ _⟩
      case round =>
        obtain ⟨k, hk, rfl, HE, hbel⟩ := hrel
        have m1 := keep_cell hbel d1
        have m2 := keep_cell hbel d2
        by_cases hkl : k < xs.length
        · have hkp : k < ps.length := by have := hll.out; omega
          obtain ⟨x, rfl⟩ := hx2.some_of hkl
          obtain ⟨a', rfl⟩ := hy2.some_of hkp
          have hca := (hx2.next hbel).cell x rfl k hkl
          have hcb := (hy2.next hbel).cell a' rfl k hkp
          obtain ⟨p, hp, hp0, hp1⟩ := hx2.words.get (by decide) k
          obtain ⟨q, hq, hq0, hq1⟩ := hy2.words.get (by decide) k
          rw [hp] at hca
          rw [hq] at hcb
          replace hp : Hid _ := hp
          replace hq : Hid _ := hq
          by_cases hpq : p = q
          · have hne : (p != q) = false := by simp [hpq]
            replace hpq : Hid _ := hpq
            go_wp2
            go_quiet (fail)
            go_wp2
            go_roundw
            case rel => exact ⟨k + 1, by omega, by go_num, fun j hj => (Nat.lt_or_ge j k).elim (HE.out j) (fun h => same_at (Nat.le_antisymm (Nat.le_of_lt_succ hj) h) (by rw [hp.out, hq.out, hpq.out])), below_drewN hbel _⟩
            case measure => simp [intOf]; omega
          · have hne : (p != q) = true := by simp [hpq]
            have hf : ¬ num 4294967296 na xs = num 65536 na ys := by
              intro e
              exact hpq (by rw [← hp.out, ← hq.out, ← (hkey.out.1 e).2])
            replace hf : Hid _ := hf
            replace hpq : Hid _ := hpq
            go_wp2
            go_quiet (fail)
            go_wp2
            go_ret
            exact ⟨by rw [decide_eq_false hf.out]; rfl, below_drewN (bthen hBB hbel) _⟩
        · obtain rfl : k = xs.length := by omega
          have ht : num 4294967296 na xs = num 65536 na ys := hkey.out.2 ⟨by first | trivial | rfl, hx2.words_eq hy2 hll.out HE.out⟩
          replace ht : Hid _ := ht
          go_wp2
          go_ret
          exact ⟨by rw [decide_eq_true ht.out]; rfl, bthen hBB hbel⟩
    · have hll' : ((xs.length : Int) != (ps.length : Int)) = true := by simp; omega
      have hf : ¬ num 4294967296 na xs = num 65536 na ys := by
        intro e
        exact hll (by rw [(hkey.out.1 e).2])
      replace hf : Hid _ := hf
      replace hll : Hid _ := hll
      go_wp2
      go_ret
      exact ⟨by rw [decide_eq_false hf.out]; rfl, hBB⟩
  · have hne : (na != nb) = true := by simp [hnn]
    have hf : ¬ num 4294967296 na xs = num 65536 nb ys := fun e => hnn (hkey.out.1 e).1
    replace hf : Hid _ := hf
    go_wp2
    go_ret
    exact ⟨by rw [decide_eq_false hf.out]; rfl, hBB⟩
end Go.Proofs.YtclokcoimdjaeaaGreatDoor
