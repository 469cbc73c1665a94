/- Files, copied and sorted. -/
import Derived.Test.YtkngjljcjgagbaaSf
import Derived.Test.YtkngjljcjgagbaaSb
namespace Go.Proofs.Ytkngjljcjgagbaa
open Go.Shelf Go.RowKit Go.Lib Go.Sort
attribute [local go_sem ↓] Go.wp_at_zero Go.wp_at_succ
/-- A file. -/
structure FD where
  name : ByteArray
  body : List Int
theorem add_block (x : Addr) (i : Nat) : (x.add i).block = x.block := by unfold Addr.add; split <;> rfl
theorem Row.kept {w w' : World} {k : IntKind} {B : Int} {a : Option Addr} {cap : Nat} {zs : List Int} {r : Option Nat} (h : Row w k B a cap zs) (hg : w.grownBy w' r) (hne : ∀ x, a = some x → some x.block ≠ r) : Row w' k B a cap zs :=
  ⟨h.le, h.max, h.nil, fun x hx i hi => hg.cell (h.cell x hx i hi) (by rw [add_block]; exact hne x hx), h.words⟩
/-- What a file's two cells mean. -/
def FileAt (w : World) (x : NS) (f : FD) : Prop := x.name = f.name ∧ x.n = f.body.length ∧ Row w .u8 256 x.a x.c f.body
/-- The same, its body in a block of ours, another one than g. -/
def FileOwn (w : World) (lo g : Nat) (x : NS) (f : FD) : Prop := FileAt w x f ∧ ∀ p, x.a = some p → lo ≤ p.block ∧ p.block ≠ g ∧ p.block < w.heap.size
/-- Names and slices in a row. -/
structure RowNS (w : World) (a : Option Addr) (cap : Nat) (xs : List NS) : Prop where
  le : xs.length ≤ cap
  max : cap ≤ maxLen
  nil : a = none → cap = 0
  cell0 : ∀ p, a = some p → ∀ i (h : i < xs.length), w.cell? (p.add (i * 2)) = some (.string xs[i].name)
  cell1 : ∀ p, a = some p → ∀ i (h : i < xs.length), w.cell? ⟨(p.add (i * 2)).block, (p.add (i * 2)).off + 1, none⟩ = some (.slice xs[i].a xs[i].n xs[i].c)
theorem RowNS.next {w w' : World} {a : Option Addr} {cap : Nat} {xs : List NS} (h : RowNS w a cap xs) (hb : Below w.heap.size w w') : RowNS w' a cap xs :=
  ⟨h.le, h.max, h.nil, fun p hp i hi => keep_cell hb (h.cell0 p hp i hi), fun p hp i hi => keep_cell hb (h.cell1 p hp i hi)⟩
theorem Try.info31 : (Try.prog.info? 31).map (fun i => (i.zero, i.size, i.bytes)) = some (some (.agg #[.string ⟨#[]⟩, .slice none 0 0]), 2, 40) := by kernel_rfl
theorem Try.info5 : (Try.prog.info? 5).map (fun i => (i.zero, i.size, i.bytes)) = some (some (.int .u8 0), 1, 1) := by kernel_rfl
/-- The cells of names and slices. -/
def flatNS (L : List NS) : List Value := L.flatMap encNS
theorem flatNS_len (L : List NS) : (flatNS L).length = L.length * 2 := by
  induction L with
  | nil => rfl
  | cons x L ih => simp [flatNS, encNS] at ih ⊢; omega
theorem flatNS_snoc (L : List NS) (x : NS) : flatNS (L ++ [x]) = flatNS L ++ [.string x.name, .slice x.a x.n x.c] := by simp [flatNS, encNS]
theorem flatNS_get (L : List NS) (i : Nat) (h : i < L.length) : (flatNS L)[i * 2]? = some (.string L[i].name) ∧ (flatNS L)[i * 2 + 1]? = some (.slice L[i].a L[i].n L[i].c) := by
  induction L generalizing i with
  | nil => simp at h
  | cons x L ih =>
    cases i with
    | zero => exact ⟨rfl, rfl⟩
    | succ i =>
      have := ih i (by simpa using h)
      have e : (i + 1) * 2 = i * 2 + 1 + 1 := by omega
      simp only [flatNS, encNS, List.flatMap_cons, e] at this ⊢
      simpa using this
theorem FileAt.next {w w' : World} {x : NS} {f : FD} (h : FileAt w x f) (hb : Below w.heap.size w w') : FileAt w' x f := ⟨h.1, h.2.1, h.2.2.next hb⟩
theorem FileOwn.kept {w w' : World} {lo g : Nat} {x : NS} {f : FD} (h : FileOwn w lo g x f) (hg : w.grownBy w' (some g)) : FileOwn w' lo g x f :=
  ⟨⟨h.1.1, h.1.2.1, h.1.2.2.kept hg (fun p hp => by simp; exact (h.2 p hp).2.1)⟩, fun p hp => ⟨(h.2 p hp).1, (h.2 p hp).2.1, Nat.lt_of_lt_of_le (h.2 p hp).2.2 hg.size⟩⟩
theorem FileOwn.next {w w' : World} {lo g : Nat} {x : NS} {f : FD} (h : FileOwn w lo g x f) (hb : Below w.heap.size w w') : FileOwn w' lo g x f := h.kept (grownBy_of_below hb)
theorem wpList_copy5 {ops : Array Oper} {rest : List Oper} {o : Oper} {a : Act} {Q : Exit → Act → World → Prop} {w : World} (hgd : o.guard = none) (t : Nat) (ho : o.op = .call { callee := .builtin .append, args := #[.const (.slice none 0 0), .tmp t], argTypes := #[29, 29] })
    (x : Option Addr) (n c : Nat) (zs : List Int) (hx : a.eval (.tmp t) = .slice x n c) (hn : n = zs.length) (hr : Row w .u8 256 x c zs) (hbytes : zs.length ≤ 140737488355328)
    (h : ∀ a' c' w', Row w' .u8 256 a' c' zs → (∀ p, a' = some p → w.heap.size ≤ p.block ∧ p.block < w'.heap.size) → Below w.heap.size w w' → wpList Try.prog ops Q rest (a.put o.dst (.slice a' zs.length c')) w') : wpList Try.prog ops Q (o :: rest) a w := by
  subst hn
  obtain ⟨i5, hi5, hy0, hy1, hy2⟩ := info_parts Try.info5
  by_cases hz : zs = []
  · subst hz
    have h' := h none 0 w (Row.empty _ _ _) (fun p hp => (by cases hp)) (Below.refl _ _)
    refine wpList_plain hgd fun K hK => ?_
    replace h' := hK _ _ h'
    clear hK h
    obtain ⟨dst, op, type, pos, after, guard⟩ := o
    dsimp only at ho hgd h'
    subst ho
    unfold Oper.wp
    simp only [List.length_nil] at hx h'
    have hx' := getD' hx
    clear hx
    cases x with
    | none => go_simp; exact h'
    | some p => go_simp; exact h'
  · have hlen : 0 < zs.length := List.length_pos_iff.2 hz
    obtain ⟨p, rfl⟩ : ∃ p, x = some p := by
      cases x with
      | none => have := hr.nil_of; rw [this.2] at hlen; simp at hlen
      | some p => exact ⟨p, rfl⟩
    refine wpList_append_lies w hgd (.const (.slice none 0 0)) (.tmp t) 29 ho w.heap.size 5 i5 (.int .u8 0) 1 1 Try.underlying29 hi5 hy0 hy1 hy2 rfl (by decide) (.slice none 0 0) 0 [] rfl (World.ownsRow_nil _ _ _ _) p zs.length c (zs.map (Value.int .u8)) hx (by simp) (fun j u hj => ?_) (fun u hu => ?_) hlen (by have := hr.max; have := hr.le; omega) (by omega) (Nat.le_refl _) w.heap.size rfl ?_
    · have hj' : j < zs.length := by
        by_cases hh : j < zs.length
        · exact hh
        · rw [List.getElem?_eq_none (by simp; omega)] at hj; cases hj
      rw [hr.cell p rfl j hj']
      simp [List.getElem?_eq_getElem hj'] at hj
      rw [← hj]
      simp [List.getElem?_eq_getElem hj']
    · simp at hu
      obtain ⟨z, _, rfl⟩ := hu
      rfl
    · intro g cap w' ho' hg hat hlt
      simp only [Nat.zero_add, List.nil_append] at ho' ⊢
      have hblk : Blk w' g .u8 5 cap zs := Blk.of_owns ho'
      have hge : g = w.heap.size := by
        rcases hat with h1 | h1
        · simp [Value.ownBlock] at h1
        · exact h1
      subst hge
      exact h _ _ _ (hblk.row hr.words) (fun p hp => by cases hp; exact ⟨Nat.le_refl _, hlt⟩) ((Below.refl _ _).grown hg (Nat.le_refl _) (by intro k hk; simp [Value.ownBlock] at hk))
theorem FileOwn.move {w : World} {lo g g' : Nat} {x : NS} {f : FD} (h : FileOwn w lo g x f) (hg : ∀ b, b < w.heap.size → b ≠ g → b ≠ g') : FileOwn w lo g' x f :=
  ⟨h.1, fun p hp => ⟨(h.2 p hp).1, hg _ (h.2 p hp).2.2 (h.2 p hp).2.1, (h.2 p hp).2.2⟩⟩
theorem owns_cells {w : World} {base T g n cap : Nat} {xs : List Value} (h : w.ownsRow base T 2 (.slice (some ⟨g, 0, none⟩) n cap) n xs) (j : Nat) (v : Value) (hj : xs[j]? = some v) : w.cell? ⟨g, j, none⟩ = some v ∧ w.frozen? ⟨g, j, none⟩ = false := by
  obtain ⟨h1, ⟨h2, _⟩ | ⟨g', cap', cur, h2, h3, h4, h5, h6, h7, h8⟩⟩ := h
  · cases h2
  · cases h2
    have hlt : j < xs.length := by
      by_cases hh : j < xs.length
      · exact hh
      · rw [List.getElem?_eq_none (by omega)] at hj; cases hj
    have e : cur[j]? = some v := by
      rw [← h8] at hj
      rw [List.getElem?_take] at hj
      split at hj
      · simpa using hj
      · cases hj
    constructor
    · simp [World.cell?, h4, e]
    · simp [World.frozen?, h4]
theorem holdsK_of_owns [Inhabited NS] {w : World} {base T g cap : Nat} {L : List NS} (h : w.ownsRow base T 2 (.slice (some ⟨g, 0, none⟩) L.length cap) L.length (flatNS L)) : HoldsK encNS 2 w g 0 L.toArray := by
  intro j hj
  rw [size_flatK] at hj
  simp only [List.size_toArray] at hj
  rw [get_flatK _ _ _ _ (by simpa using hj), Nat.zero_add]
  have hd : j / 2 < L.length := by omega
  have e : L.toArray[j / 2]! = L[j / 2] := by rw [getElem!_pos _ _ (by simpa using hd)]; simp
  rw [e]
  have hg := flatNS_get L (j / 2) hd
  rcases (show j % 2 = 0 ∨ j % 2 = 1 by omega) with hm | hm
  · rw [hm]
    refine owns_cells h j _ ?_
    have := hg.1
    rw [show j / 2 * 2 = j by omega] at this
    exact this
  · rw [hm]
    refine owns_cells h j _ ?_
    have := hg.2
    rw [show j / 2 * 2 + 1 = j by omega] at this
    exact this
theorem perm_map {α β : Type} (f : α → β) {l : List β} {m : List α} (h : l.Perm (m.map f)) : ∃ m' : List α, m'.Perm m ∧ l = m'.map f := by
  generalize hm : m.map f = k at h
  induction h generalizing m with
  | nil =>
    simp at hm
    subst hm
    exact ⟨[], List.Perm.refl _, rfl⟩
  | cons x _ ih =>
    cases m with
    | nil => cases hm
    | cons a m =>
      simp at hm
      obtain ⟨rfl, hm⟩ := hm
      obtain ⟨m', h1, rfl⟩ := ih hm
      exact ⟨a :: m', h1.cons a, rfl⟩
  | swap x y l =>
    cases m with
    | nil => cases hm
    | cons a m =>
      cases m with
      | nil => cases hm
      | cons b m =>
        simp at hm
        obtain ⟨rfl, rfl, rfl⟩ := hm
        exact ⟨b :: a :: m, List.Perm.swap _ _ _, rfl⟩
  | trans _ _ ih1 ih2 =>
    obtain ⟨m2, h1, rfl⟩ := ih2 hm
    obtain ⟨m3, h2, rfl⟩ := ih1 rfl
    exact ⟨m3, h2.trans h1, rfl⟩
/-- No two files of one name. -/
def ApartF (fs : List FD) : Prop := fs.Pairwise (fun x y => x.name ≠ y.name)
theorem apartF_iff {qs : List (NS × FD)} {fs : List FD} (hn : ∀ p ∈ qs, p.1.name = p.2.name) (h : (qs.map Prod.snd).Perm fs) : Apart (qs.map Prod.fst) ↔ ApartF fs := by
  unfold Apart ApartF
  rw [← List.Perm.pairwise_iff (fun h => Ne.symm h) h, List.pairwise_map, List.pairwise_map]
  constructor
  · intro hh
    refine hh.imp_of_mem fun {x y} hx hy e => ?_
    rw [← hn x hx, ← hn y hy]
    exact e
  · intro hh
    refine hh.imp_of_mem fun {x y} hx hy e => ?_
    rw [hn x hx, hn y hy]
    exact e
/-- What the files become. -/
structure FilesOut [Inhabited NS] (w' : World) (lo g cap : Nat) (qs : List (NS × FD)) (fs : List FD) : Prop where
  hlo : lo ≤ g
  lt : g < w'.heap.size
  le : qs.length ≤ cap
  max : cap ≤ maxLen
  holds : HoldsK encNS 2 w' g 0 (qs.map Prod.fst).toArray
  own : ∀ p ∈ qs, FileOwn w' lo g p.1 p.2
  perm : (qs.map Prod.snd).Perm fs
  asc : Asc cmpNS (qs.map Prod.fst)
def NormF [Inhabited NS] (w w' : World) (e : Ending) (fs : List FD) : Prop :=
  Below w.heap.size w w' ∧ ((¬ ApartF fs ∧ e = .returned (.tuple #[.slice none 0 0, .bool false])) ∨ (ApartF fs ∧ ∃ g cap qs, e = .returned (.tuple #[.slice (some ⟨g, 0, none⟩) qs.length cap, .bool true]) ∧ FilesOut w' w.heap.size g cap qs fs))
set_option maxRecDepth 20000 in
set_option maxHeartbeats 4000000 in
theorem normFiles_any [Inhabited NS] (a : Option Addr) (cap : Nat) (ps : List (NS × FD)) (w : World) (hx : RowNS w a cap (ps.map Prod.fst)) (hf : ∀ p ∈ ps, FileAt w p.1 p.2) (hn : ps.length ≤ 1000000) (hb : ∀ p ∈ ps, p.2.body.length ≤ 140737488355328) :
    Calls Try.prog 14 #[.slice a ps.length cap] w fun e w' => NormF w w' e (ps.map Prod.snd) := by
  obtain ⟨i0, hi, hz0, hz1, hz2⟩ := info_parts Try.info31
  obtain ⟨i5, hi5, hy0, hy1, hy2⟩ := info_parts Try.info5
  obtain ⟨w1, hmk, hown, hgr⟩ := run_make_own (P := Try.prog) w w.heap.size 26 31 i0 _ 2 Try.underlying26 hi hz0 hz1 .i64 .i64 ps.length (by rw [hz2]; omega) (by unfold maxLen; omega) (Nat.le_refl _)
  have hB1 : Below w.heap.size w w1 := (Below.refl _ _).grown hgr (Nat.le_refl _) (by intro k hk; cases hk)
  have hlx : (ps.map Prod.fst).length = ps.length := by simp
  replace hown : Hid (w1.ownsRow w.heap.size 31 2 (.slice (some ⟨w.heap.size, 0, none⟩) 0 ps.length) 0 []) := hown
  replace hf : Hid (∀ p ∈ ps, FileAt w p.1 p.2) := hf
  replace hb : Hid _ := hb
  go_enter Try.func14, Try.ntmps14
  go_wp2
  clear hmk
  go_loopw [4, 6, 7, 13] (fun s4 _ _ i wr => ∃ (k g c : Nat) (qs : List (NS × FD)), k ≤ ps.length ∧ i = .int .i64 k ∧ s4 = .slice (some ⟨g, 0, none⟩) k c ∧ Hid (wr.ownsRow w.heap.size 31 2 (.slice (some ⟨g, 0, none⟩) k c) k (flatNS (qs.map Prod.fst))) ∧ Hid (qs.map Prod.snd = (ps.map Prod.snd).take k) ∧ Hid (∀ p ∈ qs, FileOwn wr w.heap.size g p.1 p.2) ∧ Below w.heap.size w wr) (fun _ _ _ i _ => ps.length - (intOf i).toNat)
  case atStart => exact ⟨0, w.heap.size, ps.length, [], Nat.zero_le _, rfl, rfl, hown, rfl, fun p hp => (by cases hp), hB1⟩
  case round =>
    obtain ⟨k, g, c, qs, hk, rfl, rfl, hO, hq, hfo, hB⟩ := hrel
    by_cases hlt : k < ps.length
    · have hxr := hx.next hB
      obtain ⟨p, rfl⟩ : ∃ p, a = some p := by
        cases a with
        | none => have h1 := hx.nil rfl; have h2 := hx.le; rw [hlx, h1] at h2; omega
        | some p => exact ⟨p, rfl⟩
      have k0 := hxr.cell0 p rfl k (by simpa using hlt)
      have k1 := hxr.cell1 p rfl k (by simpa using hlt)
      have hfk := (hf.out ps[k] (List.getElem_mem hlt)).next hB
      have hbk := hb.out ps[k] (List.getElem_mem hlt)
      simp only [List.getElem_map] at k0 k1
      obtain ⟨⟨x, f⟩, hpk⟩ : ∃ q, q = ps[k] := ⟨_, rfl⟩
      rw [← hpk] at k0 k1 hfk hbk
      simp only at k0 k1 hfk hbk
      obtain ⟨nm, xa, xn, xc⟩ := x
      obtain ⟨rfl, hxn, hrow⟩ := hfk
      simp only at k0 k1 hxn hrow hbk
      replace hxn : Hid (xn = f.body.length) := hxn
      have hBa : Below wr.heap.size wr (wr.alloc (.cells #[.string f.name, .slice xa xn xc] 31)) := (Below.refl _ _).alloc (Nat.le_refl _) _
      have hrow' := hrow.next hBa
      go_wp2_with (at_builtin; refine wpList_copy5 (by rfl) 18 (by rfl) xa xn xc f.body (by rfl) hxn.out hrow' hbk ?_)
      intro a' c' w2 hr2 hfresh hB2
      rw [show wr.heap.size + 1 = (wr.alloc (.cells #[.string f.name, .slice xa xn xc] 31)).heap.size from by simp] at hB2
      have hB3 : Below wr.heap.size wr w2 := hBa.trans (hB2.mono hBa.size)
      have b0 : w2.cell? ⟨wr.heap.size, 0, none⟩ = some (.string f.name) := keep_cell hB2 (by simp [go_sem])
      have hBb : Below w2.heap.size w2 (w2.alloc (.cells #[.string f.name, .slice a' f.body.length c'] 31)) := (Below.refl _ _).alloc (Nat.le_refl _) _
      have hB4 : Below wr.heap.size wr (w2.alloc (.cells #[.string f.name, .slice a' f.body.length c'] 31)) := bthen hB3 hBb
      have hO3 := hO.out.kept (grownBy_of_below hB4 (r := none)) (.inr (by simp [Value.ownBlock]))
      have hgl := hO.out.lt g rfl
      have hsz2 : wr.heap.size ≤ w2.heap.size := hB3.size
      have hnews : ∀ j u, ([.string f.name, .slice a' f.body.length c'] : List Value)[j]? = some u → (w2.alloc (.cells #[.string f.name, .slice a' f.body.length c'] 31)).cell? ((⟨w2.heap.size, 0, none⟩ : Addr).add j) = some u := by
        intro j u hj
        rw [addr_add]
        match j, hj with
        | 0, hj => simp at hj; subst hj; simp [go_sem]
        | 1, hj => simp at hj; subst hj; simp [go_sem]
      have hone : ∀ u ∈ ([.string f.name, .slice a' f.body.length c'] : List Value), u.oneCell' = true := by
        intro u hu
        simp at hu
        rcases hu with rfl | rfl <;> rfl
      have hbase : w.heap.size ≤ w2.heap.size + 1 := by have := hB.size; omega
      replace hO3 : Hid ((w2.alloc (.cells #[.string f.name, .slice a' f.body.length c'] 31)).ownsRow w.heap.size 31 2 (.slice (some ⟨g, 0, none⟩) k c) k (flatNS (qs.map Prod.fst))) := hO3
      go_wp2_with (at_builtin; refine wpList_append_lies _ (by rfl) (.tmp 20) (.tmp 25) 26 (by rfl) w.heap.size 31 i0 _ 2 40 Try.underlying26 hi hz0 hz1 hz2 (by rfl) (by decide) (.slice (some ⟨g, 0, none⟩) k c) k (flatNS (qs.map Prod.fst)) (by rfl) hO3.out ⟨w2.heap.size, 0, none⟩ 1 1 [.string f.name, .slice a' f.body.length c'] (by rfl) (by rfl) hnews hone (by decide) (by unfold maxLen; omega) (by omega) (by simp; omega) (w2.heap.size + 1) (by simp) ?_)
      intro g' cap' w4 hO4 hg4 hat hlt4
      have hgw : (w2.alloc (.cells #[.string f.name, .slice a' f.body.length c'] 31)).grownBy w4 (some g) := hg4
      have hlo : w.heap.size ≤ g := hgl.1
      have hB5 : Below w.heap.size w w4 := (hB.trans (hB4.mono hB.size)).grown hgw (by simp; omega) (by intro t ht; cases ht; exact hlo)
      have hmv : ∀ b, b < w2.heap.size + 1 → b ≠ g → b ≠ g' := by
        intro b hb1 hb2 hb3
        rcases hat with h1 | h1
        · simp [Value.ownBlock] at h1; omega
        · omega
      have hnew : FileOwn w4 w.heap.size g' ⟨f.name, a', f.body.length, c'⟩ f := by
        have hne : ∀ q, a' = some q → q.block ≠ g := fun q hq => by have := (hfresh q hq).1; omega
        refine ⟨⟨rfl, rfl, (hr2.next hBb).kept hgw (fun q hq => by simp; exact hne q hq)⟩, fun q hq => ?_⟩
        have h1 := hfresh q hq
        have h2 := hB.size
        have h3 := hgw.size
        simp at h3
        exact ⟨by omega, hmv _ (by omega) (hne q hq), by omega⟩
      have hall : ∀ q ∈ qs ++ [((⟨f.name, a', f.body.length, c'⟩ : NS), f)], FileOwn w4 w.heap.size g' q.1 q.2 := by
        intro q hq
        rcases List.mem_append.1 hq with h1 | h1
        · have h2 := ((hfo.out q h1).next hB4).move (g' := g') (fun b hb1 hb2 => hmv b (by simpa using hb1) hb2)
          have h3 := ((hfo.out q h1).next hB4).kept hgw
          exact ⟨h3.1, fun t ht => ⟨(h2.2 t ht).1, (h2.2 t ht).2.1, (h3.2 t ht).2.2⟩⟩
        · simp at h1
          subst h1
          exact hnew
      have hrow4 : w4.ownsRow w.heap.size 31 2 (.slice (some ⟨g', 0, none⟩) (k + 1) cap') (k + 1) (flatNS ((qs ++ [((⟨f.name, a', f.body.length, c'⟩ : NS), f)]).map Prod.fst)) := by
        rw [List.map_append, List.map_cons, List.map_nil, flatNS_snoc]
        exact hO4
      have hq4 : (qs ++ [((⟨f.name, a', f.body.length, c'⟩ : NS), f)]).map Prod.snd = (ps.map Prod.snd).take (k + 1) := by
        rw [List.map_append, hq.out, List.take_add_one]
        have : (ps.map Prod.snd)[k]? = some f := by rw [List.getElem?_map, List.getElem?_eq_getElem hlt, ← hpk]; rfl
        rw [this]
        rfl
      clear hO4 hat hnew hO3 hnews hone
      go_wp2
      go_roundw
      case rel => exact ⟨k + 1, g', cap', _, by omega, by go_num, rfl, hrow4, hq4, hall, hB5⟩
      case measure => simp [intOf]; omega
    · obtain rfl : k = ps.length := by omega
      have hql : qs.length = ps.length := by
        have := congrArg List.length hq.out
        simpa using this
      have hq' : qs.map Prod.snd = ps.map Prod.snd := by rw [hq.out, List.take_of_length_le (by simp)]
      have hgl := hO.out.lt g rfl
      have hO' := hO.out
      have hcc : ps.length ≤ c ∧ c ≤ maxLen := by
        obtain ⟨_, ⟨h2, _⟩ | ⟨g', cap', cur, h2, h3, h4, h5, h6, h7, h8⟩⟩ := hO.out
        · cases h2
        · cases h2; exact ⟨h5, h6⟩
      have hH : HoldsK encNS 2 wr g 0 (qs.map Prod.fst).toArray := holdsK_of_owns (by rw [List.length_map, hql]; exact hO')
      have kS := sortNames21_any g c (qs.map Prod.fst) wr hH hgl.2 (by rw [List.length_map, hql]; omega)
      rw [List.length_map, hql] at kS
      replace kS : Hid (Calls Try.prog 21 #[.slice (some ⟨g, 0, none⟩) ps.length c, .func (.func 22) #[] #[]] wr fun e w' => Sorted wr w' e g (qs.map Prod.fst)) := kS
      go_wp2_with (go_at_call 21; refine Calls.mono kS.out ?_; rintro e w5 ⟨L', b, rfl, hb1, hp1, ha1, hh1, hg1⟩)
      · have hbf : b = false := by revert hb1; cases b <;> simp_all
        subst hbf
        have hna : ¬ Apart L' := fun h => Bool.false_ne_true (hb1.2 h)
        obtain ⟨qs', hqp, rfl⟩ := perm_map Prod.fst hp1
        have hpp : (qs'.map Prod.snd).Perm (ps.map Prod.snd) := hq' ▸ hqp.map Prod.snd
        have hnm : ∀ p ∈ qs', p.1.name = p.2.name := fun p hp => (hfo.out p (hqp.mem_iff.1 hp)).1.1
        exact bodyPost_ret (v := .tuple #[.slice none 0 0, .bool false]) (by simp [results, Try.results14, go_sem]) rfl ⟨hB.grown hg1 hB.size (by intro t ht; cases ht; exact hgl.1), .inl ⟨fun h => hna ((apartF_iff hnm hpp).2 h), rfl⟩⟩
      · have hbt : b = true := by revert hb1; cases b <;> simp_all
        subst hbt
        have hna : Apart L' := hb1.1 rfl
        obtain ⟨qs', hqp, rfl⟩ := perm_map Prod.fst hp1
        have hpp : (qs'.map Prod.snd).Perm (ps.map Prod.snd) := hq' ▸ hqp.map Prod.snd
        have hnm : ∀ p ∈ qs', p.1.name = p.2.name := fun p hp => (hfo.out p (hqp.mem_iff.1 hp)).1.1
        have hl' : qs'.length = ps.length := by rw [hqp.length_eq, hql]
        exact bodyPost_ret (v := .tuple #[.slice (some ⟨g, 0, none⟩) ps.length c, .bool true]) (by simp [results, Try.results14, go_sem]) rfl ⟨hB.grown hg1 hB.size (by intro t ht; cases ht; exact hgl.1), .inr ⟨(apartF_iff hnm hpp).1 hna, g, c, qs', by rw [hl'], ⟨hgl.1, Nat.lt_of_lt_of_le hgl.2 hg1.size, by rw [hl']; exact hcc.1, hcc.2, hh1, fun p hp => (hfo.out p (hqp.mem_iff.1 hp)).kept hg1, hpp, ha1⟩⟩⟩
end Go.Proofs.Ytkngjljcjgagbaa
