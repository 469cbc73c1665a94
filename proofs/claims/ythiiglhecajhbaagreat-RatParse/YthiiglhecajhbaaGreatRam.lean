/- Plain mathematics for the second road: words of 32 bits cut into digits of 16 bits, and put together again. -/
import Derived.Test.YthiiglhecajhbaaGreatMath
import Derived.Test.YthiiglhecajhbaaGreatMul
import Derived.Lib.AppendZeros
import Derived.Deep.RegionHeld3
import Derived.Deep.DrawnRows
namespace Go.Proofs.YthiiglhecajhbaaGreat

/-- Each word as its two digits. -/
def halves : List Int → List Int
  | [] => []
  | d :: ds => d % 65536 :: d / 65536 :: halves ds
theorem halves_len (zs : List Int) : (halves zs).length = 2 * zs.length := by
  induction zs with
  | nil => rfl
  | cons d ds ih => simp only [halves, List.length_cons, ih]; omega
theorem halves_snoc (xs : List Int) (d : Int) : halves (xs ++ [d]) = halves xs ++ [d % 65536, d / 65536] := by
  induction xs with
  | nil => rfl
  | cons e es ih => simp [halves, ih]
theorem halves_words {zs : List Int} (h : Words 4294967296 zs) : Words 65536 (halves zs) := by
  induction zs with
  | nil => exact Words.nil _
  | cons d ds ih => have := h.head; exact Words.cons (by omega) (Words.cons (by omega) (ih h.tail))
theorem halves_val (zs : List Int) : val 65536 (halves zs) = val 4294967296 zs := by
  induction zs with
  | nil => rfl
  | cons d ds ih => simp only [halves, val_cons, ih]; omega
theorem halves_take (zs : List Int) (k : Nat) (h : k < zs.length) : halves (zs.take (k + 1)) = halves (zs.take k) ++ [zs[k]?.getD 0 % 65536, zs[k]?.getD 0 / 65536] := by
  rw [List.take_succ_eq_append_getElem h, halves_snoc, List.getElem?_eq_getElem h]; rfl
/-- Two digits each put together to a word. -/
def paired : List Int → List Int
  | [] => []
  | [d] => [d]
  | d :: e :: ds => (d + 65536 * e) :: paired ds
theorem paired_len : (zs : List Int) → (paired zs).length = (zs.length + 1) / 2
  | [] => rfl
  | [_] => by simp [paired]
  | _ :: _ :: ds => by simp only [paired, List.length_cons, paired_len ds]; omega
theorem paired_val : (zs : List Int) → val 4294967296 (paired zs) = val 65536 zs
  | [] => rfl
  | [d] => by simp [paired, val]
  | d :: e :: ds => by simp only [paired, val_cons, paired_val ds]; omega
theorem paired_words : (zs : List Int) → Words 65536 zs → Words 4294967296 (paired zs)
  | [], _ => Words.nil _
  | [_], h => Words.one (by have := h.head; omega)
  | d :: e :: ds, h => by
    have h1 := h.head
    have h2 := h.tail.head
    exact Words.cons (by omega) (paired_words ds h.tail.tail)
theorem paired_ne : (zs : List Int) → zs ≠ [] → paired zs ≠ []
  | [], h => absurd rfl h
  | [_], _ => by simp [paired]
  | _ :: _ :: _, _ => by simp [paired]
theorem paired_nrm : (zs : List Int) → Words 65536 zs → nrm zs → nrm (paired zs)
  | [], _, _ => trivial
  | [_], _, h => h
  | d :: e :: ds, hw, h => by
    have h1 := hw.head
    have h2 := hw.tail.head
    refine ⟨fun he => ?_, paired_nrm ds hw.tail.tail h.2.2⟩
    have hds : ds = [] := by
      by_cases hh : ds = []
      · exact hh
      · exact absurd he (paired_ne ds hh)
    have := h.2.1 hds
    omega
theorem paired_even : (xs ys : List Int) → (k : Nat) → xs.length = 2 * k → paired (xs ++ ys) = paired xs ++ paired ys
  | [], _, _, _ => rfl
  | [_], _, k, h => by simp at h; omega
  | d :: e :: ds, ys, k, h => by
    simp only [List.length_cons] at h
    simp only [List.cons_append, paired, paired_even ds ys (k - 1) (by omega)]
theorem paired_two (zs : List Int) (k : Nat) (h : 2 * k + 1 < zs.length) : paired (zs.take (2 * (k + 1))) = paired (zs.take (2 * k)) ++ [zs[2 * k]?.getD 0 + 65536 * zs[2 * k + 1]?.getD 0] := by
  rw [show 2 * (k + 1) = (2 * k + 1) + 1 from by omega, List.take_succ_eq_append_getElem h, List.take_succ_eq_append_getElem (by omega), List.append_assoc, paired_even _ _ k (by rw [List.length_take]; omega), List.getElem?_eq_getElem h, List.getElem?_eq_getElem (i := 2 * k) (by omega)]; rfl
theorem paired_one (zs : List Int) (k : Nat) (h : 2 * k + 1 = zs.length) : paired (zs.take (2 * (k + 1))) = paired (zs.take (2 * k)) ++ [zs[2 * k]?.getD 0] := by
  have e : zs.take (2 * (k + 1)) = zs.take (2 * k + 1) := by rw [List.take_of_length_le (by omega), List.take_of_length_le (by omega)]
  rw [e, List.take_succ_eq_append_getElem (by omega), paired_even _ _ k (by rw [List.length_take]; omega), List.getElem?_eq_getElem (by omega)]; rfl
/-- The number a normal form stands for is one, at whichever base: so the words are the digits' pairs. -/
theorem paired_unique {m n : Bool} {xs ys : List Int} (hx : Words 4294967296 xs) (hy : Words 65536 ys) (nx : Norm m xs) (ny : Norm n ys) : (num 4294967296 m xs = num 65536 n ys) ↔ (m = n ∧ xs = paired ys) := by
  have hny : Norm n (paired ys) := ⟨paired_nrm ys hy ny.1, fun h => paired_ne ys (ny.2 h)⟩
  have hv : num 4294967296 n (paired ys) = num 65536 n ys := by simp [num, paired_val]
  constructor
  · intro h; exact norm_unique (by decide) hx (paired_words ys hy) nx hny (by rw [h, hv])
  · rintro ⟨rfl, rfl⟩; exact hv
end Go.Proofs.YthiiglhecajhbaaGreat
namespace Go.Proofs.YthiiglhecajhbaaGreat
open Go.RowKit
/-- What is appended to a row of one's own lies behind it, in memory of one's own. -/
theorem run_append_row {P : Program} (w : World) (t ty T : TypeId) (base : Nat) (k : IntKind) (by' : Nat) (B : Int) (i : TypeInfo) (ht : P.underlying t = some (.slice T)) (hi : P.info? T = some i) (hz : i.zero = some (.int k 0)) (hsize : i.size = 1) (hby : i.bytes = by')
    (a : Option Addr) (cap n : Nat) (zs : List Int) (hown : Own w base k T B a cap zs) (hn : zs.length = n) (ad : Addr) (m c : Nat) (ys : List Int) (hy : Row w k B (some ad) c ys) (hm : ys.length = m) (hp : 0 < m) (hlen : n + m ≤ 100000000) (hb8 : by' ≤ 8) (hbase : base ≤ w.heap.size) :
    ∃ a' cap' w', (Builtin.append_ #[t, t] ty #[.slice a n cap, .slice (some ad) m c]).run P w = .ok (.slice a' (n + m) cap') w' ∧ Own w' base k T B a' cap' (zs ++ ys) ∧ Below base w w' := by
  subst hn
  subst hm
  obtain ⟨g, cap', w', hr, ho, hgr, hat, hlt⟩ := run_append_lies (P := P) w t ty base T i (.int k 0) 1 by' ht hi hz hsize hby (by rfl) (by omega) (.slice a zs.length cap) zs.length (zs.map (Value.int k)) (by
      obtain ⟨_, ⟨rfl, rfl, rfl⟩ | ⟨g, rfl, hg, hb⟩⟩ := hown
      · exact World.ownsRow_nil _ _ _ _
      · exact hb.owns base hg) ad ys.length c (ys.map (Value.int k)) (by simp) (news_of_row hy) (one_ints _ _) hp (by unfold maxLen; omega) (by
      have h1 : (zs.length + ys.length) * by' ≤ (zs.length + ys.length) * 8 := Nat.mul_le_mul_left _ hb8
      omega) hbase w.heap.size rfl
  have hob : ∀ g, (Value.slice a zs.length cap).ownBlock = some g → base ≤ g := by
    intro g hg
    obtain ⟨_, ⟨rfl, rfl, rfl⟩ | ⟨g', rfl, hg', hb⟩⟩ := hown
    · simp [Value.ownBlock] at hg
    · simp [Value.ownBlock] at hg; omega
  refine ⟨_, cap', w', hr, Blk.own (Blk.of_owns (base := base) (n := zs.length + ys.length) (by rw [List.map_append]; exact ho)) (hown.words.append hy.words) ?_, (Below.refl _ w).grown hgr hbase hob⟩
  rcases hat with h | h
  · exact hob _ h
  · omega
/-- The same at a step of a region in its order. -/
theorem wpList_append_run {P : Program} {ops : Array Oper} {rest : List Oper} {o : Oper} {a : Act} {w : World} {Q : Exit → Act → World → Prop} (hgd : o.guard = none) (s x : Operand) (t tn : TypeId)
    (ho : o.op = .call { callee := .builtin .append, args := #[s, x], argTypes := #[t, tn] }) (vs vx : Value) (hs : a.eval s = vs) (hx : a.eval x = vx)
    (v' : Value) (w' : World) (hr : (Builtin.append_ #[t, tn] o.type #[vs, vx]).run P w = .ok v' w') (h : wpList P ops Q rest (a.put o.dst v') w') : wpList P ops Q (o :: rest) a w :=
  wpList_plain hgd fun _ hK => Lib.wp_append_run w s x t tn ho vs vx hs hx v' w' hr (hK _ _ h)
theorem Row.alloc1 (w : World) (k : IntKind) (T : TypeId) (B d : Int) (h : 0 ≤ d ∧ d < B) : Row (w.alloc (.cells #[.int k d] T)) k B (some ⟨w.heap.size, 0, none⟩) 1 [d] :=
  (Blk.new w k T [d] (by simp [maxLen])).row (Words.one h)
theorem Row.alloc2 (w : World) (k : IntKind) (T : TypeId) (B d e : Int) (h : 0 ≤ d ∧ d < B) (h' : 0 ≤ e ∧ e < B) : Row (w.alloc (.cells #[.int k d, .int k e] T)) k B (some ⟨w.heap.size, 0, none⟩) 2 [d, e] :=
  (Blk.new w k T [d, e] (by simp [maxLen])).row (Words.cons h (Words.one h'))
theorem Row.cut {w : World} {k : IntKind} {B : Int} {a : Option Addr} {cap : Nat} {zs : List Int} (h : Row w k B a cap zs) (n : Nat) (hn : n ≤ zs.length) : Row w k B a n (zs.take n) := by
  have hl : (zs.take n).length = n := by rw [List.length_take]; omega
  refine ⟨by omega, by have := h.max; have := h.le; omega, fun e => ?_, fun x hx i hi => ?_, h.words.take n⟩
  · have := h.nil e; have := h.le; omega
  · rw [h.cell x hx i (by omega), List.getElem?_take_of_lt (by omega)]
theorem Row.cutTrim {w : World} {k : IntKind} {B : Int} {a : Option Addr} {cap : Nat} {zs : List Int} (h : Row w k B a cap zs) : Row w k B a (trimmed zs).length (trimmed zs) := by
  have := h.cut (trimN zs zs.length) (trimN_le _ _)
  rw [trimmed_len]; exact this
/-- Digits in memory from block base on. -/
def Rown (w : World) (base : Nat) (a : Option Addr) (cap : Nat) (ds : List Int) : Prop := Row w .i64 65536 a cap ds ∧ ∀ x, a = some x → base ≤ x.block
theorem add_block (x : Addr) (i : Nat) : (x.add i).block = x.block := by unfold Addr.add; split <;> rfl
theorem Rown.next {w w' : World} {base : Nat} {a : Option Addr} {cap : Nat} {ds : List Int} (h : Rown w base a cap ds) (hb : Below w.heap.size w w') : Rown w' base a cap ds := ⟨h.1.next hb, h.2⟩
theorem Rown.mono {w : World} {base base' : Nat} {a : Option Addr} {cap : Nat} {ds : List Int} (h : Rown w base a cap ds) (hb : base' ≤ base) : Rown w base' a cap ds := ⟨h.1, fun x hx => Nat.le_trans hb (h.2 x hx)⟩
theorem Rown.set {w : World} {base : Nat} {a : Option Addr} {cap : Nat} {ds : List Int} (h : Rown w base a cap ds) {p : Addr} (hp : p.block < base) (u : Value) : Rown (w.setCell p u) base a cap ds :=
  ⟨⟨h.1.le, h.1.max, h.1.nil, fun x hx i hi => keep_set (h.1.cell x hx i hi) (by rw [add_block]; have := h.2 x hx; omega), h.1.words⟩, h.2⟩
theorem Rown.empty (w : World) (base : Nat) : Rown w base none 0 [] := ⟨Row.empty _ _ _, fun x hx => by cases hx⟩
set_option maxHeartbeats 400000 in
theorem rtrim_any (a : Option Addr) (cap : Nat) (zs : List Int) (w : World) (h : Row w .i64 65536 a cap zs) :
    Calls Tryz.prog 55 #[.slice a zs.length cap] w fun e w' => e = .returned (.slice a (trimmed zs).length (trimmed zs).length) ∧ w' = w := by
  cases a with
  | none =>
    obtain ⟨rfl, rfl⟩ := h.nil_of
    go_enter Tryz.func55, Tryz.ntmps55
    go_wp2
    refine wp_loop_rounds 1 ?_
    rw [rounds_succ]
    go_wp2
    go_ret
    exact ⟨rfl, rfl⟩
  | some x =>
    obtain ⟨hle, hm, _, hcell, _⟩ := h
    replace hcell := hcell x rfl
    unfold maxLen at hm
    rw [trimmed_len]
    generalize hn : zs.length = n at *
    go_enter Tryz.func55, Tryz.ntmps55
    go_wp2
    go_loop [3] (fun t => ∃ k : Nat, k ≤ n ∧ t = .int .i64 k ∧ Hid (trimN zs k = trimN zs n)) (fun t => (intOf t).toNat)
    case atStart => exact ⟨n, Nat.le_refl _, rfl, rfl⟩
    case round =>
      obtain ⟨k, hk, rfl, H⟩ := hrel
      cases k with
      | zero =>
        go_wp2
        go_ret
        exact ⟨by rw [← H.out]; rfl, rfl⟩
      | succ k =>
        have hce := hcell k (by omega)
        go_wp2
        · have hz : (zs[k]?.getD 0 == 0) = true := by assumption
          have hz' : zs[k]?.getD 0 = 0 := by simpa using hz
          go_round
          case rel => exact ⟨k, by omega, rfl, by show trimN zs k = _; rw [← H.out]; simp [trimN, hz']⟩
          case measure => simp [intOf]
        · have hz : (zs[k]?.getD 0 == 0) = false := by assumption
          have hz' : zs[k]?.getD 0 ≠ 0 := by simpa using hz
          have e : trimN zs n = k + 1 := by rw [← H.out]; simp [trimN, hz']
          go_ret
          exact ⟨by rw [e]; rfl, rfl⟩
end Go.Proofs.YthiiglhecajhbaaGreat
