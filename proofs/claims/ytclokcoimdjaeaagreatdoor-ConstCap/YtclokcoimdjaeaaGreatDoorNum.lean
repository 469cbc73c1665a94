/- A row copied by append to nil. -/
import Derived.Test.YtclokcoimdjaeaaGreatDoorOutm
import Derived.Lib.AppendZeros
import Derived.Test.YtclokcoimdjaeaaGreatDoorLeafm
import Derived.Test.YtclokcoimdjaeaaGreatDoorMulm
import Derived.Deep.RegionHeld3
import Derived.Deep.DrawnRows
import Derived.Test.YtclokcoimdjaeaaGreatDoorTim
import Derived.Test.YtclokcoimdjaeaaGreatDoorKrm
import Derived.Test.YtclokcoimdjaeaaGreatDoorStpm
import Derived.Deep.Cut
import Derived.Deep.CutRange
import Derived.Deep.Light
import Derived.Deep.RegionWith
import Derived.Deep.RegionLaw
namespace Go.Proofs.YtclokcoimdjaeaaGreatDoor
open Go.RowKit
/-- An append whose run is known, at a step of a region that draws its order. -/
theorem step_append_run {P : Program} {ops : Array Oper} {o : Oper} {a : Act} {w : World} {K : Act → World → Prop} {Q : Exit → Act → World → Prop} {E : Prop} (hgd : o.guard = none) (s x : Operand) (t tn : TypeId)
    (ho : o.op = .call { callee := .builtin .append, args := #[s, x], argTypes := #[t, tn] }) (vs vx : Value) (hs : a.eval s = vs) (hx : a.eval x = vx)
    (v' : Value) (w' : World) (hr : (Builtin.append_ #[t, tn] o.type #[vs, vx]).run P w = .ok v' w') (h : K (a.put o.dst v') w') : if Region.wanted o (yielded ops a.tmps) = true then Oper.wp P o a w K Q else E := by
  have hw : Region.wanted o (yielded ops a.tmps) = true := by simp [Region.wanted, hgd]
  rw [if_pos hw]
  exact Lib.wp_append_run w s x t tn ho vs vx hs hx v' w' hr h
end Go.Proofs.YtclokcoimdjaeaaGreatDoor
namespace Go.Proofs.YtclokcoimdjaeaaGreatDoor

/-- Each word as its two digits. -/
def halves : List Int → List Int
  | [] => []
  | d :: ds => d % 65536 :: d / 65536 :: halves ds
theorem halves_len (zs : List Int) : (halves zs).length = 2 * zs.length := by
  induction zs with
  | nil => rfl
  | cons d ds ih => simp only [halves, List.length_cons, ih]; omega
theorem halves_snoc (xs : List Int) (d : Int) : halves (xs ++ [d]) = halves xs ++ [d % 65536, d / 65536] := by
  induction xs with
  | nil => rfl
  | cons e es ih => simp [halves, ih]
theorem halves_val (zs : List Int) : val 65536 (halves zs) = val 4294967296 zs := by
  induction zs with
  | nil => rfl
  | cons d ds ih => simp only [halves, val_cons, ih]; omega
theorem halves_take (zs : List Int) (k : Nat) (h : k < zs.length) : halves (zs.take (k + 1)) = halves (zs.take k) ++ [zs[k]?.getD 0 % 65536, zs[k]?.getD 0 / 65536] := by
  rw [List.take_succ_eq_append_getElem h, halves_snoc, List.getElem?_eq_getElem h]; rfl
/-- Two digits each put together to a word. -/
def paired : List Int → List Int
  | [] => []
  | [d] => [d]
  | d :: e :: ds => (d + 65536 * e) :: paired ds
theorem paired_len : (zs : List Int) → (paired zs).length = (zs.length + 1) / 2
  | [] => rfl
  | [_] => by simp [paired]
  | _ :: _ :: ds => by simp only [paired, List.length_cons, paired_len ds]; omega
theorem paired_val : (zs : List Int) → val 4294967296 (paired zs) = val 65536 zs
  | [] => rfl
  | [d] => by simp [paired, val]
  | d :: e :: ds => by simp only [paired, val_cons, paired_val ds]; omega
theorem paired_words : (zs : List Int) → Words 65536 zs → Words 4294967296 (paired zs)
  | [], _ => Words.nil _
  | [_], h => Words.one (by have := h.head; omega)
  | d :: e :: ds, h => by
    have h1 := h.head
    have h2 := h.tail.head
    exact Words.cons (by omega) (paired_words ds h.tail.tail)
theorem paired_ne : (zs : List Int) → zs ≠ [] → paired zs ≠ []
  | [], h => absurd rfl h
  | [_], _ => by simp [paired]
  | _ :: _ :: _, _ => by simp [paired]
theorem paired_nrm : (zs : List Int) → Words 65536 zs → nrm zs → nrm (paired zs)
  | [], _, _ => trivial
  | [_], _, h => h
  | d :: e :: ds, hw, h => by
    have h1 := hw.head
    have h2 := hw.tail.head
    refine ⟨fun he => ?_, paired_nrm ds hw.tail.tail h.2.2⟩
    have hds : ds = [] := by
      by_cases hh : ds = []
      · exact hh
      · exact absurd he (paired_ne ds hh)
    have := h.2.1 hds
    omega
theorem paired_even : (xs ys : List Int) → (k : Nat) → xs.length = 2 * k → paired (xs ++ ys) = paired xs ++ paired ys
  | [], _, _, _ => rfl
  | [_], _, k, h => by simp at h; omega
  | d :: e :: ds, ys, k, h => by
    simp only [List.length_cons] at h
    simp only [List.cons_append, paired, paired_even ds ys (k - 1) (by omega)]
theorem paired_two (zs : List Int) (k : Nat) (h : 2 * k + 1 < zs.length) : paired (zs.take (2 * (k + 1))) = paired (zs.take (2 * k)) ++ [zs[2 * k]?.getD 0 + 65536 * zs[2 * k + 1]?.getD 0] := by
  rw [show 2 * (k + 1) = (2 * k + 1) + 1 from by omega, List.take_succ_eq_append_getElem h, List.take_succ_eq_append_getElem (by omega), List.append_assoc, paired_even _ _ k (by rw [List.length_take]; omega), List.getElem?_eq_getElem h, List.getElem?_eq_getElem (i := 2 * k) (by omega)]; rfl
theorem paired_one (zs : List Int) (k : Nat) (h : 2 * k + 1 = zs.length) : paired (zs.take (2 * (k + 1))) = paired (zs.take (2 * k)) ++ [zs[2 * k]?.getD 0] := by
  have e : zs.take (2 * (k + 1)) = zs.take (2 * k + 1) := by rw [List.take_of_length_le (by omega), List.take_of_length_le (by omega)]
  rw [e, List.take_succ_eq_append_getElem (by omega), paired_even _ _ k (by rw [List.length_take]; omega), List.getElem?_eq_getElem (by omega)]; rfl
/-- The number a normal form stands for is one, at whichever base: so the words are the digits' pairs. -/
theorem paired_unique {m n : Bool} {xs ys : List Int} (hx : Words 4294967296 xs) (hy : Words 65536 ys) (nx : Norm m xs) (ny : Norm n ys) : (num 4294967296 m xs = num 65536 n ys) ↔ (m = n ∧ xs = paired ys) := by
  have hny : Norm n (paired ys) := ⟨paired_nrm ys hy ny.1, fun h => paired_ne ys (ny.2 h)⟩
  have hv : num 4294967296 n (paired ys) = num 65536 n ys := by simp [num, paired_val]
  constructor
  · intro h; exact norm_unique (by decide) hx (paired_words ys hy) nx hny (by rw [h, hv])
  · rintro ⟨rfl, rfl⟩; exact hv
end Go.Proofs.YtclokcoimdjaeaaGreatDoor
namespace Go.Proofs.YtclokcoimdjaeaaGreatDoor
open Go.RowKit
/-- What is appended to a row of one's own lies behind it, in memory of one's own. -/
theorem run_append_row {P : Program} (w : World) (t ty T : TypeId) (base : Nat) (k : IntKind) (by' : Nat) (B : Int) (i : TypeInfo) (ht : P.underlying t = some (.slice T)) (hi : P.info? T = some i) (hz : i.zero = some (.int k 0)) (hsize : i.size = 1) (hby : i.bytes = by')
    (a : Option Addr) (cap n : Nat) (zs : List Int) (hown : Own w base k T B a cap zs) (hn : zs.length = n) (ad : Addr) (m c : Nat) (ys : List Int) (hy : Row w k B (some ad) c ys) (hm : ys.length = m) (hp : 0 < m) (hlen : n + m ≤ 100000000) (hb8 : by' ≤ 8) (hbase : base ≤ w.heap.size) :
    ∃ a' cap' w', (Builtin.append_ #[t, t] ty #[.slice a n cap, .slice (some ad) m c]).run P w = .ok (.slice a' (n + m) cap') w' ∧ Own w' base k T B a' cap' (zs ++ ys) ∧ Below base w w' := by
  subst hn
  subst hm
  obtain ⟨g, cap', w', hr, ho, hgr, hat, hlt⟩ := run_append_lies (P := P) w t ty base T i (.int k 0) 1 by' ht hi hz hsize hby (by rfl) (by omega) (.slice a zs.length cap) zs.length (zs.map (Value.int k)) (by
      obtain ⟨_, ⟨rfl, rfl, rfl⟩ | ⟨g, rfl, hg, hb⟩⟩ := hown
      · exact World.ownsRow_nil _ _ _ _
      · exact hb.owns base hg) ad ys.length c (ys.map (Value.int k)) (by simp) (news_of_row hy) (one_ints _ _) hp (by unfold maxLen; omega) (by
      have h1 : (zs.length + ys.length) * by' ≤ (zs.length + ys.length) * 8 := Nat.mul_le_mul_left _ hb8
      omega) hbase w.heap.size rfl
  have hob : ∀ g, (Value.slice a zs.length cap).ownBlock = some g → base ≤ g := by
    intro g hg
    obtain ⟨_, ⟨rfl, rfl, rfl⟩ | ⟨g', rfl, hg', hb⟩⟩ := hown
    · simp [Value.ownBlock] at hg
    · simp [Value.ownBlock] at hg; omega
  refine ⟨_, cap', w', hr, Blk.own (Blk.of_owns (base := base) (n := zs.length + ys.length) (by rw [List.map_append]; exact ho)) (hown.words.append hy.words) ?_, (Below.refl _ w).grown hgr hbase hob⟩
  rcases hat with h | h
  · exact hob _ h
  · omega
/-- The same at a step of a region in its order. -/
theorem wpList_append_run {P : Program} {ops : Array Oper} {rest : List Oper} {o : Oper} {a : Act} {w : World} {Q : Exit → Act → World → Prop} (hgd : o.guard = none) (s x : Operand) (t tn : TypeId)
    (ho : o.op = .call { callee := .builtin .append, args := #[s, x], argTypes := #[t, tn] }) (vs vx : Value) (hs : a.eval s = vs) (hx : a.eval x = vx)
    (v' : Value) (w' : World) (hr : (Builtin.append_ #[t, tn] o.type #[vs, vx]).run P w = .ok v' w') (h : wpList P ops Q rest (a.put o.dst v') w') : wpList P ops Q (o :: rest) a w :=
  wpList_plain hgd fun _ hK => Lib.wp_append_run w s x t tn ho vs vx hs hx v' w' hr (hK _ _ h)
theorem Row.alloc1 (w : World) (k : IntKind) (T : TypeId) (B d : Int) (h : 0 ≤ d ∧ d < B) : Row (w.alloc (.cells #[.int k d] T)) k B (some ⟨w.heap.size, 0, none⟩) 1 [d] :=
  (Blk.new w k T [d] (by simp [maxLen])).row (Words.one h)
theorem Row.alloc2 (w : World) (k : IntKind) (T : TypeId) (B d e : Int) (h : 0 ≤ d ∧ d < B) (h' : 0 ≤ e ∧ e < B) : Row (w.alloc (.cells #[.int k d, .int k e] T)) k B (some ⟨w.heap.size, 0, none⟩) 2 [d, e] :=
  (Blk.new w k T [d, e] (by simp [maxLen])).row (Words.cons h (Words.one h'))
theorem Row.cut {w : World} {k : IntKind} {B : Int} {a : Option Addr} {cap : Nat} {zs : List Int} (h : Row w k B a cap zs) (n : Nat) (hn : n ≤ zs.length) : Row w k B a n (zs.take n) := by
  have hl : (zs.take n).length = n := by rw [List.length_take]; omega
  refine ⟨by omega, by have := h.max; have := h.le; omega, fun e => ?_, fun x hx i hi => ?_, h.words.take n⟩
  · have := h.nil e; have := h.le; omega
  · rw [h.cell x hx i (by omega), List.getElem?_take_of_lt (by omega)]
theorem Row.cutTrim {w : World} {k : IntKind} {B : Int} {a : Option Addr} {cap : Nat} {zs : List Int} (h : Row w k B a cap zs) : Row w k B a (trimmed zs).length (trimmed zs) := by
  have := h.cut (trimN zs zs.length) (trimN_le _ _)
  rw [trimmed_len]; exact this
/-- Digits in memory from block base on. -/
def Rown (w : World) (base : Nat) (a : Option Addr) (cap : Nat) (ds : List Int) : Prop := Row w .i64 65536 a cap ds ∧ ∀ x, a = some x → base ≤ x.block
theorem add_block (x : Addr) (i : Nat) : (x.add i).block = x.block := by unfold Addr.add; split <;> rfl
theorem Rown.next {w w' : World} {base : Nat} {a : Option Addr} {cap : Nat} {ds : List Int} (h : Rown w base a cap ds) (hb : Below w.heap.size w w') : Rown w' base a cap ds := ⟨h.1.next hb, h.2⟩
theorem Rown.mono {w : World} {base base' : Nat} {a : Option Addr} {cap : Nat} {ds : List Int} (h : Rown w base a cap ds) (hb : base' ≤ base) : Rown w base' a cap ds := ⟨h.1, fun x hx => Nat.le_trans hb (h.2 x hx)⟩
theorem Rown.set {w : World} {base : Nat} {a : Option Addr} {cap : Nat} {ds : List Int} (h : Rown w base a cap ds) {p : Addr} (hp : p.block < base) (u : Value) : Rown (w.setCell p u) base a cap ds :=
  ⟨⟨h.1.le, h.1.max, h.1.nil, fun x hx i hi => keep_set (h.1.cell x hx i hi) (by rw [add_block]; have := h.2 x hx; omega), h.1.words⟩, h.2⟩
theorem Rown.empty (w : World) (base : Nat) : Rown w base none 0 [] := ⟨Row.empty _ _ _, fun x hx => by cases hx⟩
set_option maxHeartbeats 400000 in
theorem rtrim_any (a : Option Addr) (cap : Nat) (zs : List Int) (w : World) (h : Row w .i64 65536 a cap zs) :
    Calls Tryz.prog 175 #[.slice a zs.length cap] w fun e w' => e = .returned (.slice a (trimmed zs).length (trimmed zs).length) ∧ w' = w := by
  cases a with
  | none =>
    obtain ⟨rfl, rfl⟩ := h.nil_of
    go_enter Tryz.func175, Tryz.ntmps175
    go_wp2
    refine wp_loop_rounds 1 ?_
    rw [rounds_succ]
    go_wp2
    go_ret
    exact ⟨rfl, rfl⟩
  | some x =>
    obtain ⟨hle, hm, _, hcell, _⟩ := h
    replace hcell := hcell x rfl
    unfold maxLen at hm
    rw [trimmed_len]
    generalize hn : zs.length = n at *
    go_enter Tryz.func175, Tryz.ntmps175
    go_wp2
    go_loop [3] (fun t => ∃ k : Nat, k ≤ n ∧ t = .int .i64 k ∧ Hid (trimN zs k = trimN zs n)) (fun t => (intOf t).toNat)
    case atStart => exact ⟨n, Nat.le_refl _, rfl, rfl⟩
    case round =>
      obtain ⟨k, hk, rfl, H⟩ := hrel
      cases k with
      | zero =>
        go_wp2
        go_ret
        exact ⟨by rw [← H.out]; rfl, rfl⟩
      | succ k =>
        have hce := hcell k (by omega)
        go_wp2
        · have hz : (zs[k]?.getD 0 == 0) = true := by assumption
          have hz' : zs[k]?.getD 0 = 0 := by simpa using hz
          go_round
          case rel => exact ⟨k, by omega, rfl, by show trimN zs k = _; rw [← H.out]; simp [trimN, hz']⟩
          case measure => simp [intOf]
        · have hz : (zs[k]?.getD 0 == 0) = false := by assumption
          have hz' : zs[k]?.getD 0 ≠ 0 := by simpa using hz
          have e : trimN zs n = k + 1 := by rw [← H.out]; simp [trimN, hz']
          go_ret
          exact ⟨by rw [e]; rfl, rfl⟩
end Go.Proofs.YtclokcoimdjaeaaGreatDoor
namespace Go.Proofs.YtclokcoimdjaeaaGreatDoor
open Go.RowKit
attribute [local go_sem ↓] Go.wp_at_zero Go.wp_at_succ
/-- How many binary digits v has. -/
def HasBits (v : Int) (L : Nat) : Prop := v < 2 ^ L ∧ (L = 0 ∨ 2 ^ (L - 1) ≤ v)
theorem val_abs {B : Int} (hB : 0 < B) {n : Bool} {zs : List Int} (h : Words B zs) : val B zs = ((num B n zs).natAbs : Int) := by
  have := val_nonneg hB h
  cases n <;> simp [num] <;> omega
theorem bitLenAux_has : ∀ (f x : Nat), x < 2 ^ f → x < 2 ^ Lib.bitLenAux f x ∧ (Lib.bitLenAux f x = 0 ∨ 2 ^ (Lib.bitLenAux f x - 1) ≤ x)
  | 0, x, h => by simp at h; subst h; simp [Lib.bitLenAux]
  | f + 1, x, h => by
    by_cases hx : x = 0
    · subst hx; simp [Lib.bitLenAux]
    · have ih := bitLenAux_has f (x / 2) (by rw [Nat.pow_succ] at h; omega)
      simp only [Lib.bitLenAux, hx, if_false]
      generalize Lib.bitLenAux f (x / 2) = L at *
      refine ⟨?_, .inr ?_⟩
      · rw [Nat.pow_add]; omega
      · rcases ih.2 with e | e
        · subst e; simp; omega
        · by_cases hL : L = 0
          · subst hL; simp; omega
          · rw [show 1 + L - 1 = (L - 1) + 1 from by omega, Nat.pow_succ]; omega
theorem bitLen_has (x : Nat) (h : x < 4294967296) : x < 2 ^ Lib.bitLen x ∧ (x ≠ 0 → 0 < Lib.bitLen x ∧ 2 ^ (Lib.bitLen x - 1) ≤ x) := by
  have := bitLenAux_has 64 x (by omega)
  refine ⟨this.1, fun hx => ?_⟩
  rcases this.2 with e | e
  · have h1 := this.1
    rw [e] at h1
    simp at h1
    exact absurd h1 hx
  · refine ⟨?_, e⟩
    by_cases hL : Lib.bitLenAux 64 x = 0
    · have h1 := this.1
      rw [hL] at h1
      simp at h1
      exact absurd h1 hx
    · exact Nat.pos_of_ne_zero hL
/-- The top word's bits and 32 for each word below. -/
theorem has_words {xs : List Int} (hw : Words 4294967296 xs) (hn : nrm xs) (hne : xs ≠ []) : HasBits (val 4294967296 xs) (32 * (xs.length - 1) + Lib.bitLen (xs[xs.length - 1]?.getD 0).toNat) := by
  have hl := List.length_pos_iff.2 hne
  obtain ⟨p, hp, hp0, hp1⟩ := hw.get (by decide) (xs.length - 1)
  have htop : xs[xs.length - 1]?.getD 0 ≠ 0 := by
    have e := trimmed_of_nrm xs hn
    have e2 := congrArg List.length e
    rw [trimmed_len] at e2
    intro h0
    rw [show xs.length = (xs.length - 1) + 1 from by omega] at e2
    simp only [trimN, h0, if_true] at e2
    have := trimN_le xs (xs.length - 1)
    omega
  have hv : val 4294967296 xs = val 4294967296 (xs.take (xs.length - 1)) + p * 4294967296 ^ (xs.length - 1) := by
    have := val_take_succ 4294967296 xs (xs.length - 1)
    rw [show xs.length - 1 + 1 = xs.length from by omega, List.take_length, hp] at this
    exact this
  have h0 := val_nonneg (B := 4294967296) (by decide) (hw.take (xs.length - 1))
  have h1 := val_lt (B := 4294967296) (by decide) (hw.take (xs.length - 1))
  rw [List.length_take, Nat.min_eq_left (by omega)] at h1
  rw [hp] at htop ⊢
  have hb := bitLen_has p.toNat (by omega)
  have hpw : (4294967296 : Int) ^ (xs.length - 1) = 2 ^ (32 * (xs.length - 1)) := by rw [Int.pow_mul]; rfl
  rw [hpw] at h1 hv
  rw [hv]
  have hpos := pow_pos' (B := 2) (by decide) (32 * (xs.length - 1))
  clear hpw hv
  generalize hX : (2 : Int) ^ (32 * (xs.length - 1)) = X at *
  have hb1 : p + 1 ≤ 2 ^ Lib.bitLen p.toNat := by
    have := hb.1
    have e : ((2 ^ Lib.bitLen p.toNat : Nat) : Int) = 2 ^ Lib.bitLen p.toNat := by simp
    omega
  obtain ⟨hL, hb2⟩ := hb.2 (by omega)
  have hb3 : 2 ^ (Lib.bitLen p.toNat - 1) ≤ p := by
    have e : ((2 ^ (Lib.bitLen p.toNat - 1) : Nat) : Int) = 2 ^ (Lib.bitLen p.toNat - 1) := by simp
    omega
  refine ⟨?_, .inr ?_⟩
  · rw [Int.pow_add, hX]
    have := Int.mul_le_mul_of_nonneg_right hb1 (Int.le_of_lt hpos)
    rw [Int.add_mul, Int.mul_comm (2 ^ Lib.bitLen p.toNat) X] at this
    omega
  · rw [show 32 * (xs.length - 1) + Lib.bitLen p.toNat - 1 = 32 * (xs.length - 1) + (Lib.bitLen p.toNat - 1) from by omega, Int.pow_add, hX]
    have := Int.mul_le_mul_of_nonneg_right hb3 (Int.le_of_lt hpos)
    rw [Int.mul_comm (2 ^ (Lib.bitLen p.toNat - 1)) X] at this
    omega
theorem Bits_num {w : World} {u : Value} {y : Int} {m : Nat} (hu : Num w u y m) (hm : m ≤ 1000) :
    Calls Tryz.prog 167 #[u] w fun e w' => ∃ L : Nat, e = .returned (.int .i64 L) ∧ HasBits (y.natAbs : Int) L ∧ Below w.heap.size w w' := by
  obtain ⟨na, x, ca, xs, rfl, ha, rfl, hl⟩ := hu
  have hva := val_abs (B := 4294967296) (n := na) (by decide) ha.words
  refine (Bits_any na x ca xs w ha (by omega)).mono ?_
  rintro e w' ⟨rfl, h⟩
  rw [← hva]
  by_cases h0 : (trimmed xs).length = 0
  · refine ⟨0, by rw [if_pos h0]; rfl, ⟨?_, .inl rfl⟩, h⟩
    have e : trimmed xs = [] := List.eq_nil_of_length_eq_zero h0
    rw [← trimmed_val, e]
    decide
  · have hne : trimmed xs ≠ [] := fun e => h0 (by simp [e])
    have hh := has_words ha.words.trimmed (trimmed_nrm xs) hne
    rw [trimmed_val] at hh
    refine ⟨_, ?_, hh, h⟩
    rw [if_neg h0]
    congr 2
    omega
/-- An answer in normal form, wherever it lies. -/
def OutE (w : World) (v : Value) (z : Int) (n : Nat) : Prop := ∃ b, Out w b v z n
theorem OutE.next {w w' : World} {v : Value} {z : Int} {n : Nat} (h : OutE w v z n) (hb : Below w.heap.size w w') : OutE w' v z n := by
  obtain ⟨b, h⟩ := h
  exact ⟨b, h.next hb⟩
/-- A struct of two cells read whole. -/
theorem ld24 {w : World} {p : Nat} {v0 v1 : Value} (h0 : w.cell? ⟨p, 0, none⟩ = some v0) (h1 : w.cell? ⟨p, 1, none⟩ = some v1) {o : Oper} {b : Act} {K : Act → World → Prop} {Q : Exit → Act → World → Prop} (t : Nat) (ho : o.op = .load 28 (.tmp t)) (hb : b.tmps.getD t undef = .pointer (some ⟨p, 0, none⟩)) (h : K (b.put o.dst (.agg #[v0, v1])) w) : o.wp Tryz.prog b w K Q := by
  obtain ⟨dst, op, type, pos, after, guard⟩ := o
  dsimp only at ho
  subst ho
  unfold Oper.wp
  have e : b.eval (.tmp t) = .pointer (some ⟨p, 0, none⟩) := hb
  go_simp
  exact h
theorem Quo_num {w : World} {u v : Value} {y z : Int} {m n : Nat} (hu : Num w u y m) (hv : Num w v z n) (hm : m ≤ 100000) (hn : n ≤ 100000) (hz : z ≠ 0) :
    Calls Tryz.prog 161 #[u, v] w fun e w' => ∃ t t', e = .returned (.tuple #[t, t', .bool true]) ∧ Out w' w.heap.size t (y.tdiv z) (m + 1) ∧ Out w' w.heap.size t' (y.tmod z) (m + n) ∧ Below w.heap.size w w' := by
  obtain ⟨na, x, ca, xs, rfl, ha, rfl, hl⟩ := hu
  obtain ⟨nb, x', cb, ys, rfl, hb, rfl, hl'⟩ := hv
  have hne : trimmed ys ≠ [] := by
    intro e
    have h0 := (trimmed_zero_iff (by decide) hb.words).1 e
    apply hz
    cases nb <;> simp [num, h0]
  have hpos := List.length_pos_iff.2 hne
  have l1 := trimmed_le xs
  refine (Quo_any na nb x x' ca cb xs ys w ha hb (by omega) (by omega) hne (fun h hv => long_said (trimmed_nrm xs) (trimmed_nrm ys) ha.words.trimmed hb.words.trimmed (by omega) (by omega) (by rw [trimmed_val, trimmed_val]; exact hv))).mono ?_
  rintro e w' ⟨t, t', rfl, ⟨neg, a, cap, ds, r1, r2, r3, r4, r5⟩, ⟨neg', a', cap', ds', s1, s2, s3, s4, s5⟩, h⟩
  exact ⟨t, t', rfl, ⟨neg, a, cap, ds, r1, r2, r3, r4, by omega⟩, ⟨neg', a', cap', ds', s1, s2, s3, s4, by omega⟩, h⟩
theorem Quo_none {w : World} {u v : Value} {y : Int} {m n : Nat} (hu : Num w u y m) (hv : Num w v 0 n) (hm : m ≤ 100000) (hn : n ≤ 100000) :
    Calls Tryz.prog 161 #[u, v] w fun e w' => e = .returned (.tuple #[.agg #[.bool false, .slice none 0 0], .agg #[.bool false, .slice none 0 0], .bool false]) ∧ Below w.heap.size w w' := by
  obtain ⟨na, x, ca, xs, rfl, ha, rfl, hl⟩ := hu
  obtain ⟨nb, x', cb, ys, rfl, hb, hz, hl'⟩ := hv
  refine Quo_zero na nb x x' ca cb xs ys w ha hb (by omega) (by omega) ((trimmed_zero_iff (by decide) hb.words).2 ?_)
  have := val_nonneg (B := 4294967296) (by decide) hb.words
  cases nb <;> simp [num] at hz <;> omega
theorem Out.zero {w : World} {b : Nat} {v : Value} {n : Nat} (h : Out w b v 0 n) : ∃ a cap, v = .agg #[.bool false, .slice a 0 cap] := by
  obtain ⟨neg, a, cap, ds, rfl, ho, hn, hz, _⟩ := h
  have hu := norm_unique (B := 4294967296) (by decide) ho.words (Words.nil _) hn (n := false) ⟨trivial, fun h => by cases h⟩ (by rw [hz]; rfl)
  obtain ⟨rfl, rfl⟩ := hu
  exact ⟨a, cap, rfl⟩
theorem Num.more {w : World} {v : Value} {z : Int} {n m : Nat} (h : n ≤ m) (hn : Num w v z n) : Num w v z m := by
  obtain ⟨neg, a, cap, ds, r1, r2, r3, r4⟩ := hn
  exact ⟨neg, a, cap, ds, r1, r2, r3, by omega⟩
theorem Own.lt {w : World} {base : Nat} {k : IntKind} {T : TypeId} {B : Int} {a : Option Addr} {cap : Nat} {zs : List Int} (h : Own w base k T B a cap zs) (g : Nat) (hg : ownB a = Option.some g) : base ≤ g ∧ g < w.heap.size := by
  obtain ⟨_, ⟨rfl, _⟩ | ⟨g2, rfl, hb2, hb⟩⟩ := h
  · cases hg
  · simp [ownB] at hg; subst hg; exact ⟨hb2, hb.lt⟩
theorem OutE.num {w : World} {v : Value} {z : Int} {n : Nat} (h : OutE w v z n) : Num w v z n := by
  obtain ⟨b, h⟩ := h
  exact h.num
theorem OutE.more {w : World} {v : Value} {z : Int} {n m : Nat} (h : OutE w v z n) (hm : n ≤ m) : OutE w v z m := by
  obtain ⟨b, neg, a, cap, ds, r1, r2, r3, r4, r5⟩ := h
  exact ⟨b, neg, a, cap, ds, r1, r2, r3, r4, by omega⟩
end Go.Proofs.YtclokcoimdjaeaaGreatDoor
