/- Norm. -/
import Derived.Test.YtkngjljcjgagbaaSg
namespace Go.Proofs.Ytkngjljcjgagbaa
open Go.Shelf Go.RowKit Go.Lib Go.Sort
attribute [local go_sem ↓] Go.wp_at_zero Go.wp_at_succ
/-- A package. -/
structure PD where
  path : ByteArray
  files : List FD
def PkgAt (w : World) (x : NS) (p : PD) : Prop := x.name = p.path ∧ ∃ fps : List (NS × FD), x.n = fps.length ∧ RowNS w x.a x.c (fps.map Prod.fst) ∧ (∀ q ∈ fps, FileAt w q.1 q.2) ∧ fps.map Prod.snd = p.files ∧ fps.length ≤ 1000000 ∧ ∀ q ∈ fps, q.2.body.length ≤ 140737488355328
theorem PkgAt.next {w w' : World} {x : NS} {p : PD} (h : PkgAt w x p) (hb : Below w.heap.size w w') : PkgAt w' x p := by
  obtain ⟨h1, fps, h2, h3, h4, h5, h6, h7⟩ := h
  exact ⟨h1, fps, h2, h3.next hb, fun q hq => (h4 q hq).next hb, h5, h6, h7⟩
/-- A package as it comes out, in blocks from B on, others than G. -/
def PkgOwn [Inhabited NS] (w : World) (B G : Nat) (x : NS) (p : PD) : Prop := x.name = p.path ∧ ∃ lo g cap qs, x.a = some ⟨g, 0, none⟩ ∧ x.n = qs.length ∧ x.c = cap ∧ FilesOut w lo g cap qs p.files ∧ B ≤ lo ∧ g ≠ G ∧ ∀ q ∈ qs, ∀ t, q.1.a = some t → t.block ≠ G
theorem holdsK_kept [Inhabited NS] {w w' : World} {g G : Nat} {L : List NS} (h : HoldsK encNS 2 w g 0 L.toArray) (hl : g < w.heap.size) (hg : w.grownBy w' (some G)) (hne : g ≠ G) : HoldsK encNS 2 w' g 0 L.toArray := fun j hj => by
  have := h j hj
  have hb := hg.block g hl (by simpa using hne)
  exact ⟨(World.cell?_of_block hb).trans this.1, (World.frozen?_of_block hb).trans this.2⟩
theorem PkgOwn.kept [Inhabited NS] {w w' : World} {B G r : Nat} {x : NS} {p : PD} (h : PkgOwn w B G x p) (hg : w.grownBy w' (some r)) (hr : r = G ∨ r < B) : PkgOwn w' B G x p := by
  obtain ⟨h1, lo, g, cap, qs, h2, h3, h4, h5, hB, h6, h7⟩ := h
  have hlo := h5.hlo
  refine ⟨h1, lo, g, cap, qs, h2, h3, h4, ⟨h5.hlo, Nat.lt_of_lt_of_le h5.lt hg.size, h5.le, h5.max, holdsK_kept h5.holds h5.lt hg (by omega), fun q hq => ?_, h5.perm, h5.asc⟩, hB, h6, h7⟩
  have ho := h5.own q hq
  exact ⟨⟨ho.1.1, ho.1.2.1, ho.1.2.2.kept hg (fun t ht => by have e1 := h7 q hq t ht; have e2 := (ho.2 t ht).1; simp; omega)⟩, fun t ht => ⟨(ho.2 t ht).1, (ho.2 t ht).2.1, Nat.lt_of_lt_of_le (ho.2 t ht).2.2 hg.size⟩⟩
theorem PkgOwn.next [Inhabited NS] {w w' : World} {B G : Nat} {x : NS} {p : PD} (h : PkgOwn w B G x p) (hb : Below w.heap.size w w') : PkgOwn w' B G x p := h.kept (grownBy_of_below hb) (.inl rfl)
theorem PkgOwn.move [Inhabited NS] {w : World} {B G G' : Nat} {x : NS} {p : PD} (h : PkgOwn w B G x p) (hg : ∀ b, b < w.heap.size → b ≠ G → b ≠ G') : PkgOwn w B G' x p := by
  obtain ⟨h1, lo, g, cap, qs, h2, h3, h4, h5, hB, h6, h7⟩ := h
  exact ⟨h1, lo, g, cap, qs, h2, h3, h4, h5, hB, hg _ h5.lt h6, fun q hq t ht => hg _ (((h5.own q hq).2 t ht).2.2) (h7 q hq t ht)⟩
theorem PkgOwn.app [Inhabited NS] {w w' : World} {B G G' : Nat} {x : NS} {p : PD} (h : PkgOwn w B G x p) (hg : w.grownBy w' (some G)) (hmv : ∀ b, b < w.heap.size → b ≠ G → b ≠ G') : PkgOwn w' B G' x p := by
  obtain ⟨h1, lo, g, cap, qs, h2, h3, h4, h5, hB, h6, h7⟩ := h
  refine ⟨h1, lo, g, cap, qs, h2, h3, h4, ⟨h5.hlo, Nat.lt_of_lt_of_le h5.lt hg.size, h5.le, h5.max, holdsK_kept h5.holds h5.lt hg h6, fun q hq => ?_, h5.perm, h5.asc⟩, hB, hmv _ h5.lt h6, fun q hq t ht => hmv _ (((h5.own q hq).2 t ht).2.2) (h7 q hq t ht)⟩
  have ho := h5.own q hq
  exact ⟨⟨ho.1.1, ho.1.2.1, ho.1.2.2.kept hg (fun t ht => by simp; exact h7 q hq t ht)⟩, fun t ht => ⟨(ho.2 t ht).1, (ho.2 t ht).2.1, Nat.lt_of_lt_of_le (ho.2 t ht).2.2 hg.size⟩⟩
theorem grownBy_set (w : World) (p : Addr) (v : Value) : w.grownBy (w.setCell p v) (some p.block) :=
  ⟨rfl, rfl, rfl, by simp, fun k _ hne => Below.heap_setCell _ _ _ _ (fun e => hne (by rw [e]))⟩
def ApartT (ps : List PD) : Prop := ps.Pairwise (fun x y => x.path ≠ y.path) ∧ ∀ p ∈ ps, ApartF p.files
theorem apartP_iff {qs : List (NS × PD)} {fs : List PD} (hn : ∀ p ∈ qs, p.1.name = p.2.path) (h : (qs.map Prod.snd).Perm fs) : Apart (qs.map Prod.fst) ↔ fs.Pairwise (fun x y => x.path ≠ y.path) := by
  unfold Apart
  rw [← List.Perm.pairwise_iff (fun h => Ne.symm h) h, List.pairwise_map, List.pairwise_map]
  constructor
  · intro hh
    refine hh.imp_of_mem fun {x y} hx hy e => ?_
    rw [← hn x hx, ← hn y hy]
    exact e
  · intro hh
    refine hh.imp_of_mem fun {x y} hx hy e => ?_
    rw [hn x hx, hn y hy]
    exact e
structure PkgsOut [Inhabited NS] (w' : World) (lo G cap : Nat) (Qs : List (NS × PD)) (ps : List PD) : Prop where
  hlo : lo ≤ G
  lt : G < w'.heap.size
  le : Qs.length ≤ cap
  max : cap ≤ maxLen
  holds : HoldsK encNS 2 w' G 0 (Qs.map Prod.fst).toArray
  own : ∀ p ∈ Qs, PkgOwn w' lo G p.1 p.2
  perm : (Qs.map Prod.snd).Perm ps
  asc : Asc cmpNS (Qs.map Prod.fst)
def NormT [Inhabited NS] (w w' : World) (e : Ending) (ps : List PD) : Prop :=
  Below w.heap.size w w' ∧ ((¬ ApartT ps ∧ e = .returned (.tuple #[.agg #[.slice none 0 0], .bool false])) ∨ (ApartT ps ∧ ∃ G cap Qs, e = .returned (.tuple #[.agg #[.slice (some ⟨G, 0, none⟩) Qs.length cap], .bool true]) ∧ PkgsOut w' w.heap.size G cap Qs ps))
theorem Try.info28 : (Try.prog.info? 28).map (fun i => (i.zero, i.size, i.bytes)) = some (some (.agg #[.string ⟨#[]⟩, .slice none 0 0]), 2, 40) := by kernel_rfl
set_option maxRecDepth 20000 in
set_option maxHeartbeats 4000000 in
theorem Norm_any [Inhabited NS] (a : Option Addr) (cap : Nat) (ps : List (NS × PD)) (w : World) (hx : RowNS w a cap (ps.map Prod.fst)) (hf : ∀ p ∈ ps, PkgAt w p.1 p.2) (hn : ps.length ≤ 1000000) :
    Calls Try.prog 8 #[.agg #[.slice a ps.length cap]] w fun e w' => NormT w w' e (ps.map Prod.snd) := by
  obtain ⟨i0, hi, hz0, hz1, hz2⟩ := info_parts Try.info28
  obtain ⟨W, hW⟩ : ∃ W, W = (w.alloc (.cells #[.slice a ps.length cap] 24)).alloc (.cells #[.slice none 0 0] 24) := ⟨_, rfl⟩
  have hbW : Below w.heap.size w W := by rw [hW]; exact ((Below.refl _ _).alloc (Nat.le_refl _) _).alloc (by simp) _
  have c1 : W.cell? ⟨w.heap.size, 0, none⟩ = some (.slice a ps.length cap) := by rw [hW]; simp [go_sem]
  have c2 : W.cell? ⟨w.heap.size + 1, 0, none⟩ = some (.slice none 0 0) := by rw [hW]; simp [go_sem]
  have f2 : W.frozen? ⟨w.heap.size + 1, 0, none⟩ = false := by rw [hW]; simp [go_sem]
  have hls : w.heap.size + 1 < W.heap.size := cell_lt c2
  obtain ⟨w1, hmk, hown, hgr⟩ := run_make_own (P := Try.prog) W W.heap.size 22 28 i0 _ 2 Try.underlying22 hi hz0 hz1 .i64 .i64 ps.length (by rw [hz2]; omega) (by unfold maxLen; omega) (Nat.le_refl _)
  have hB1 : Below W.heap.size W w1 := (Below.refl _ _).grown hgr (Nat.le_refl _) (by intro k hk; cases hk)
  have hlx : (ps.map Prod.fst).length = ps.length := by simp
  have d1 := keep_cell hB1 c1
  have d2 := keep_cell hB1 c2
  have g2 := keep_frozen hB1 c2 f2
  replace hown : Hid (w1.ownsRow W.heap.size 28 2 (.slice (some ⟨W.heap.size, 0, none⟩) 0 ps.length) 0 []) := hown
  replace hf : Hid (∀ p ∈ ps, PkgAt w p.1 p.2) := hf
  go_enter Try.func8, Try.ntmps8
  go_wp2_with fail
  rw [← hW, hmk]
  clear hW hmk
  go_wp2
  go_loopw [4, 6, 7, 8, 16] (fun s4 _ _ _ i wr => ∃ (k G c : Nat) (qs : List (NS × PD)), k ≤ ps.length ∧ i = .int .i64 k ∧ s4 = .slice (some ⟨G, 0, none⟩) k c ∧ Hid (wr.ownsRow W.heap.size 28 2 (.slice (some ⟨G, 0, none⟩) k c) k (flatNS (qs.map Prod.fst))) ∧ Hid (qs.map Prod.snd = (ps.map Prod.snd).take k) ∧ Hid (∀ p ∈ qs, PkgOwn wr W.heap.size G p.1 p.2) ∧ Hid (∀ p ∈ (ps.map Prod.snd).take k, ApartF p.files) ∧ Below W.heap.size W wr) (fun _ _ _ _ i _ => ps.length - (intOf i).toNat)
  case atStart => exact ⟨0, W.heap.size, ps.length, [], Nat.zero_le _, rfl, rfl, hown, rfl, fun p hp => (by cases hp), fun p hp => (by cases hp), hB1⟩
  case round =>
    obtain ⟨k, G, c, qs, hk, rfl, rfl, hO, hq, hfo, hap, hB⟩ := hrel
    have hBw := bthen hbW hB
    have e1 := keep_cell hB c1
    have e2 := keep_cell hB c2
    have h2 := keep_frozen hB c2 f2
    by_cases hlt : k < ps.length
    · have hxr := hx.next hBw
      obtain ⟨p, rfl⟩ : ∃ p, a = some p := by
        cases a with
        | none => have h1 := hx.nil rfl; have h2 := hx.le; rw [hlx, h1] at h2; omega
        | some p => exact ⟨p, rfl⟩
      have k0 := hxr.cell0 p rfl k (by simpa using hlt)
      have k1 := hxr.cell1 p rfl k (by simpa using hlt)
      have hfk := (hf.out ps[k] (List.getElem_mem hlt)).next hBw
      simp only [List.getElem_map] at k0 k1
      obtain ⟨⟨x, f⟩, hpk⟩ : ∃ q, q = ps[k] := ⟨_, rfl⟩
      rw [← hpk] at k0 k1 hfk
      simp only at k0 k1 hfk
      obtain ⟨nm, xa, xn, xc⟩ := x
      obtain ⟨rfl, fps, hxn, hrow, hfp, hfe, hfl, hfb⟩ := hfk
      simp only at k0 k1 hxn hrow
      subst hxn
      obtain ⟨Wa, hWa⟩ : ∃ Wa, Wa = wr.alloc (.cells #[.string f.path, .slice xa fps.length xc] 28) := ⟨_, rfl⟩
      have hBa : Below wr.heap.size wr Wa := by rw [hWa]; exact (Below.refl _ _).alloc (Nat.le_refl _) _
      have b0 : Wa.cell? ⟨wr.heap.size, 0, none⟩ = some (.string f.path) := by rw [hWa]; simp [go_sem]
      have b1 : Wa.cell? ⟨wr.heap.size, 1, none⟩ = some (.slice xa fps.length xc) := by rw [hWa]; simp [go_sem]
      have kN := normFiles_any xa xc fps Wa (hrow.next hBa) (fun q hq => (hfp q hq).next hBa) hfl hfb
      rw [hfe] at kN
      replace kN : Hid (Calls Try.prog 14 #[.slice xa fps.length xc] Wa fun e w' => NormF Wa w' e f.files) := kN
      go_wp2_with fail
      rw [← hWa]
      clear hWa
      refine Calls.mono kN.out ?_
      rintro e w2 ⟨hB2, ⟨hna, rfl⟩ | ⟨hya, g, cp, fq, rfl, hfo2⟩⟩
      · clear kN
        have hno : ¬ ApartT (ps.map Prod.snd) := fun h => hna (h.2 f (by rw [List.mem_map]; exact ⟨ps[k], List.getElem_mem hlt, by rw [← hpk]⟩))
        have hB3 : Below wr.heap.size wr w2 := bthen hBa hB2
        have e2' := keep_cell hB3 e2
        have h2' := keep_frozen hB3 e2 h2
        replace hno : Hid (¬ ApartT (ps.map Prod.snd)) := hno
        go_wp2
        exact bodyPost_ret (v := .tuple #[.agg #[.slice none 0 0], .bool false]) (by simp [results, Try.results8, go_sem, e2']) rfl ⟨(bthen hBw hB3).setCell (by simp) _, .inl ⟨hno.out, rfl⟩⟩
      · clear kN
        have hB3 : Below wr.heap.size wr w2 := bthen hBa hB2
        have b0' := keep_cell hB2 b0
        have hBb : Below w2.heap.size w2 (w2.alloc (.cells #[.string f.path, .slice (some ⟨g, 0, none⟩) fq.length cp] 28)) := (Below.refl _ _).alloc (Nat.le_refl _) _
        have hB4 : Below wr.heap.size wr (w2.alloc (.cells #[.string f.path, .slice (some ⟨g, 0, none⟩) fq.length cp] 28)) := bthen hB3 hBb
        have hO3 := hO.out.kept (grownBy_of_below hB4 (r := none)) (.inr (by simp [Value.ownBlock]))
        have hgl := hO.out.lt G rfl
        have hsz2 : wr.heap.size ≤ w2.heap.size := hB3.size
        have hsza : wr.heap.size < Wa.heap.size := cell_lt b0
        have hszB := hB.size
        have hnews : ∀ j u, ([.string f.path, .slice (some ⟨g, 0, none⟩) fq.length cp] : List Value)[j]? = some u → (w2.alloc (.cells #[.string f.path, .slice (some ⟨g, 0, none⟩) fq.length cp] 28)).cell? ((⟨w2.heap.size, 0, none⟩ : Addr).add j) = some u := by
          intro j u hj
          rw [addr_add]
          match j, hj with
          | 0, hj => simp at hj; subst hj; simp [go_sem]
          | 1, hj => simp at hj; subst hj; simp [go_sem]
        have hone : ∀ u ∈ ([.string f.path, .slice (some ⟨g, 0, none⟩) fq.length cp] : List Value), u.oneCell' = true := by
          intro u hu
          simp at hu
          rcases hu with rfl | rfl <;> rfl
        have hbase : W.heap.size ≤ w2.heap.size + 1 := by omega
        replace hO3 : Hid ((w2.alloc (.cells #[.string f.path, .slice (some ⟨g, 0, none⟩) fq.length cp] 28)).ownsRow W.heap.size 28 2 (.slice (some ⟨G, 0, none⟩) k c) k (flatNS (qs.map Prod.fst))) := hO3
        replace hfo2 : Hid (FilesOut w2 Wa.heap.size g cp fq f.files) := hfo2
        replace hya : Hid (ApartF f.files) := hya
        go_wp2_with (at_builtin; refine wpList_append_lies _ (by rfl) (.tmp 29) (.tmp 34) 22 (by rfl) W.heap.size 28 i0 _ 2 40 Try.underlying22 hi hz0 hz1 hz2 (by rfl) (by decide) (.slice (some ⟨G, 0, none⟩) k c) k (flatNS (qs.map Prod.fst)) (by rfl) hO3.out ⟨w2.heap.size, 0, none⟩ 1 1 [.string f.path, .slice (some ⟨g, 0, none⟩) fq.length cp] (by rfl) (by rfl) hnews hone (by decide) (by unfold maxLen; omega) (by omega) (by simp; omega) (w2.heap.size + 1) (by simp) ?_)
        intro G' cap' w4 hO4 hg4 hat hlt4
        have hgw : (w2.alloc (.cells #[.string f.path, .slice (some ⟨g, 0, none⟩) fq.length cp] 28)).grownBy w4 (some G) := hg4
        have hlo : W.heap.size ≤ G := hgl.1
        have hB5 : Below W.heap.size W w4 := (hB.trans (hB4.mono hB.size)).grown hgw (by simp; omega) (by intro t ht; cases ht; exact hlo)
        have hmv : ∀ b, b < w2.heap.size + 1 → b ≠ G → b ≠ G' := by
          intro b hb1 hb2 hb3
          rcases hat with h1 | h1
          · simp [Value.ownBlock] at h1; omega
          · omega
        have hfin : ∀ (x : NS) (p : PD), PkgOwn (w2.alloc (.cells #[.string f.path, .slice (some ⟨g, 0, none⟩) fq.length cp] 28)) W.heap.size G x p → PkgOwn w4 W.heap.size G' x p := by
          intro x p h
          exact h.app hgw (fun b hb1 hb2 => hmv b (by simpa using hb1) hb2)
        have hnew : PkgOwn w4 W.heap.size G' ⟨f.path, some ⟨g, 0, none⟩, fq.length, cp⟩ f := by
          refine hfin _ _ (PkgOwn.next ⟨rfl, Wa.heap.size, g, cp, fq, rfl, rfl, rfl, hfo2.out, by omega, ?_, fun q hq t ht => ?_⟩ hBb)
          · have := hfo2.out.hlo; omega
          · have := ((hfo2.out.own q hq).2 t ht).1; omega
        have hall : ∀ q ∈ qs ++ [((⟨f.path, some ⟨g, 0, none⟩, fq.length, cp⟩ : NS), f)], PkgOwn w4 W.heap.size G' q.1 q.2 := by
          intro q hq
          rcases List.mem_append.1 hq with h1 | h1
          · exact hfin _ _ ((hfo.out q h1).next hB4)
          · simp at h1
            subst h1
            exact hnew
        have hrow4 : w4.ownsRow W.heap.size 28 2 (.slice (some ⟨G', 0, none⟩) (k + 1) cap') (k + 1) (flatNS ((qs ++ [((⟨f.path, some ⟨g, 0, none⟩, fq.length, cp⟩ : NS), f)]).map Prod.fst)) := by
          rw [List.map_append, List.map_cons, List.map_nil, flatNS_snoc]
          exact hO4
        have hfk : (ps.map Prod.snd)[k]? = some f := by rw [List.getElem?_map, List.getElem?_eq_getElem hlt, ← hpk]; rfl
        have hq4 : (qs ++ [((⟨f.path, some ⟨g, 0, none⟩, fq.length, cp⟩ : NS), f)]).map Prod.snd = (ps.map Prod.snd).take (k + 1) := by
          rw [List.map_append, hq.out, List.take_add_one, hfk]
          rfl
        have hap4 : ∀ p ∈ (ps.map Prod.snd).take (k + 1), ApartF p.files := by
          rw [List.take_add_one, hfk]
          intro p hp
          rcases List.mem_append.1 hp with h1 | h1
          · exact hap.out p h1
          · simp at h1
            subst h1
            exact hya.out
        clear hO4 hat hnew hO3 hnews hone hfin
        go_wp2
        go_roundw
        case rel => exact ⟨k + 1, G', cap', _, by omega, by go_num, rfl, hrow4, hq4, hall, hap4, hB5⟩
        case measure => simp [intOf]; omega
    · obtain rfl : k = ps.length := by omega
      have hql : qs.length = ps.length := by
        have := congrArg List.length hq.out
        simpa using this
      have hq' : qs.map Prod.snd = ps.map Prod.snd := by rw [hq.out, List.take_of_length_le (by simp)]
      have hgl := hO.out.lt G rfl
      have hO' := hO.out
      have hcc : ps.length ≤ c ∧ c ≤ maxLen := by
        obtain ⟨_, ⟨h2, _⟩ | ⟨g', cap', cur, h2, h3, h4, h5, h6, h7, h8⟩⟩ := hO.out
        · cases h2
        · cases h2; exact ⟨h5, h6⟩
      have hH : HoldsK encNS 2 wr G 0 (qs.map Prod.fst).toArray := holdsK_of_owns (by rw [List.length_map, hql]; exact hO')
      have kS := sortNames15_any G c (qs.map Prod.fst) wr hH hgl.2 (by rw [List.length_map, hql]; omega)
      rw [List.length_map, hql] at kS
      replace kS : Hid (Calls Try.prog 15 #[.slice (some ⟨G, 0, none⟩) ps.length c, .func (.func 16) #[] #[]] wr fun e w' => Sorted wr w' e G (qs.map Prod.fst)) := kS
      have hap' : ∀ p ∈ ps.map Prod.snd, ApartF p.files := by
        have := hap.out
        rwa [List.take_of_length_le (by simp)] at this
      replace hap' : Hid (∀ p ∈ ps.map Prod.snd, ApartF p.files) := hap'
      go_wp2_with fail
      refine Calls.mono kS.out ?_
      rintro e w5 ⟨L', b, rfl, hb1, hp1, ha1, hh1, hg1⟩
      clear kS
      have hne : some (w.heap.size + 1) ≠ some G := by simp; omega
      have e2' := hg1.cell e2 hne
      have h2' : w5.frozen? ⟨w.heap.size + 1, 0, none⟩ = false := (World.frozen?_of_block (hg1.block _ (by have := hB.size; simp; omega) hne)).trans h2
      obtain ⟨qs', hqp, rfl⟩ := perm_map Prod.fst hp1
      have hpp : (qs'.map Prod.snd).Perm (ps.map Prod.snd) := hq' ▸ hqp.map Prod.snd
      have hnm : ∀ p ∈ qs', p.1.name = p.2.path := fun p hp => (hfo.out p (hqp.mem_iff.1 hp)).1
      have hl' : qs'.length = ps.length := by rw [hqp.length_eq, hql]
      have hBw5 : Below w.heap.size w w5 := hBw.grown hg1 hBw.size (by intro t ht; cases ht; have := hgl.1; omega)
      cases b with
      | false =>
        have hna : ¬ Apart (qs'.map Prod.fst) := fun h => Bool.false_ne_true (hb1.2 h)
        have hno : ¬ ApartT (ps.map Prod.snd) := fun h => hna ((apartP_iff hnm hpp).2 h.1)
        replace hno : Hid (¬ ApartT (ps.map Prod.snd)) := hno
        clear hb1 hna
        go_wp2
        exact bodyPost_ret (v := .tuple #[.agg #[.slice none 0 0], .bool false]) (by simp [results, Try.results8, go_sem, e2']) rfl ⟨hBw5.setCell (by simp) _, .inl ⟨hno.out, rfl⟩⟩
      | true =>
        have hna : Apart (qs'.map Prod.fst) := hb1.1 rfl
        have hyes : ApartT (ps.map Prod.snd) := ⟨(apartP_iff hnm hpp).1 hna, hap'.out⟩
        replace hyes : Hid (ApartT (ps.map Prod.snd)) := hyes
        clear hb1 hna
        have hPO : ∀ v, PkgsOut (w5.setCell ⟨w.heap.size + 1, 0, none⟩ v) w.heap.size G c qs' (ps.map Prod.snd) := fun v => by
          have hgs := grownBy_set w5 ⟨w.heap.size + 1, 0, none⟩ v
          have hG5 : G < w5.heap.size := Nat.lt_of_lt_of_le hgl.2 hg1.size
          refine ⟨by have := hgl.1; omega, Nat.lt_of_lt_of_le hG5 hgs.size, by rw [hl']; exact hcc.1, hcc.2, holdsK_kept hh1 hG5 hgs (by have := hgl.1; simp; omega), fun p hp => ?_, hpp, ha1⟩
          have h5 := ((hfo.out p (hqp.mem_iff.1 hp)).kept hg1 (.inl rfl)).kept hgs (.inr (by simp; omega))
          obtain ⟨n2, lo2, g2, cap2, qs2, z1, z2, z3, z4, z5, z6, z7⟩ := h5
          exact ⟨n2, lo2, g2, cap2, qs2, z1, z2, z3, z4, by omega, z6, z7⟩
        replace hPO : Hid (∀ v, PkgsOut (w5.setCell ⟨w.heap.size + 1, 0, none⟩ v) w.heap.size G c qs' (ps.map Prod.snd)) := hPO
        go_wp2
        exact bodyPost_ret (v := .tuple #[.agg #[.slice (some ⟨G, 0, none⟩) ps.length c], .bool true]) (by simp [results, Try.results8, go_sem, e2']) rfl ⟨hBw5.setCell (by simp) _, .inr ⟨hyes.out, G, c, qs', by rw [hl'], hPO.out _⟩⟩
end Go.Proofs.Ytkngjljcjgagbaa
