/- a range over a function whose body is never left: both sides keep to their own blocks. -/
import Derived.Test.YtbfklindcmmncaaAg
import Derived.RangeFuncNested
import Derived.RangeFuncBound
import Derived.RangeFuncCalls
import Derived.RangeFuncLeaves
import Derived.Shelf.Abstract
import Derived.Shelf.RegionOpen
import Derived.WalkKit
import Derived.OwnWalkIn
import Derived.TacticsInMore
import Derived.LoopNIn
import Derived.LoopIn
import Derived.Maps.AppendAt
namespace Go.Proofs.Ytbfklindcmmncaa
open Go.RowKit
/-- What lay below B and the caller's own blocks are as they were. -/
structure Still (B : Nat) (C : World → Nat → Prop) (W W' : World) : Prop where
  os : W'.os = W.os
  tape : W'.tape = W.tape
  output : W'.output = W.output
  size : W.heap.size ≤ W'.heap.size
  block : ∀ b, b < W.heap.size → (b < B ∨ C W b) → W'.heap[b]? = W.heap[b]?
/-- What is not the caller's is as it was; what became the caller's is new. -/
structure Rnd (C : World → Nat → Prop) (W W' : World) : Prop where
  os : W'.os = W.os
  tape : W'.tape = W.tape
  output : W'.output = W.output
  size : W.heap.size ≤ W'.heap.size
  block : ∀ b, b < W.heap.size → ¬ C W b → W'.heap[b]? = W.heap[b]?
  own : ∀ b, C W' b → C W b ∨ W.heap.size ≤ b
theorem Rnd.refl (C : World → Nat → Prop) (W : World) : Rnd C W W := ⟨rfl, rfl, rfl, Nat.le_refl _, fun _ _ _ => rfl, fun _ h => .inl h⟩
theorem Rnd.trans {C : World → Nat → Prop} {X Y Z : World} (h : Rnd C X Y) (k : Rnd C Y Z) : Rnd C X Z :=
  ⟨k.os.trans h.os, k.tape.trans h.tape, k.output.trans h.output, Nat.le_trans h.size k.size,
   fun b hb hc => (k.block b (Nat.lt_of_lt_of_le hb h.size) (fun hy => by rcases h.own b hy with h1 | h1; exact hc h1; omega)).trans (h.block b hb hc),
   fun b hb => by
    rcases k.own b hb with h1 | h1
    · exact h.own b h1
    · exact .inr (Nat.le_trans h.size h1)⟩
/-- What the caller holds lasts while its blocks do. -/
structure Side {α : Type} (B : Nat) (C : World → Nat → Prop) (J : List α → World → Prop) : Prop where
  lt : ∀ ys W b, J ys W → C W b → b < W.heap.size
  keep : ∀ ys W W', J ys W → Still B C W W' → J ys W' ∧ ∀ b, C W' b → C W b
/-- The caller's blocks with those of the loop itself. -/
def Cx (C : World → Nat → Prop) (D : Nat) : World → Nat → Prop := fun W b => C W b ∨ b = D + 1 ∨ b = D
theorem Still.putObj {B : Nat} {C : World → Nat → Prop} (W : World) (l : Nat) (o : Obj) (hl : B ≤ l) (hc : ¬ C W l) : Still B C W (W.putObj l o) :=
  ⟨rfl, rfl, rfl, by simp, fun b _ h => World.putObj_heap_other (fun e => by subst e; rcases h with h | h; omega; exact hc h)⟩
/-- How a round's body ends. -/
def sidePost {α : Type} (C : World → Nat → Prop) (I : List α → World → Prop) (ys : List α) (W : World) : Exit → Act → World → Prop
  | .normal, _, W' => Rnd C W W' ∧ I ys W'
  | _, _, _ => False
abbrev Fw : Fence := Fence.wide
theorem range_side {α : Type} {P : Program} {g : Operand} {ps : Array Tmp} {assign body : Code} {Q : Exit → Act → World → Prop} {a : Act} {w : World}
    {gf : Nat} {lb : Array Value} (hg : a.eval g = .func (.func gf) #[] lb) (eg : ∀ args w, (callFunc gf args).run P w = .ok (.enter gf args) w)
    {encs : α → Array Value} (hps : ∀ x, (encs x).size = ps.size) (C : World → Nat → Prop) (I : List α → World → Prop) (G : α → Prop) (S : List α → Prop) (M : Nat)
    (apart : ∀ ys W b, I ys W → C W b → (b < w.heap.size ∨ w.heap.size + 2 ≤ b) ∧ b < W.heap.size)
    (keep : ∀ ys W W', I ys W → Still w.heap.size C W W' → I ys W' ∧ ∀ b, C W' b → C W b)
    (h0 : I [] w) (Ax : α → Act → World → Prop) (hAx : ∀ x a' W r o, Ax x a' W → W.heap[w.heap.size + 1]? = some (.loop r) → Ax x a' (W.putObj (w.heap.size + 1) o))
    (hseq : ∀ (W1 : World) (J : List α → World → Prop), W1.heap.size = w.heap.size + 2 → Below w.heap.size w W1 → Side (w.heap.size + 2) (Cx C w.heap.size) J → (∀ b, C W1 b → C w b) →
      (∀ ys x W, J ys W → G x → ys.length < M → YieldAt Fw 0 P (w.heap.size + 1) (encs x) W fun e W' => e = .returned (.bool true) ∧ J (ys ++ [x]) W' ∧ Rnd (Cx C w.heap.size) W W') →
      J [] W1 → CallsIn Fw 0 P gf (#[.func (.yield (w.heap.size + 1)) #[] #[]] ++ lb) W1 fun e W' => (∃ v, e = .returned v) ∧ ∃ xs, S xs ∧ J xs W' ∧ Rnd (Cx C w.heap.size) W1 W')
    (hassign : ∀ (ys : List α) (x : α) (W : World) (K : Act → World → Prop), I ys W → G x → ys.length < M → w.heap.size + 2 ≤ W.heap.size → (∀ a' W', Rnd C W W' → I ys W' → Ax x a' W' → K a' W') →
      assign.wpIn (Fw.inRound (w.heap.size + 1)) 0 P (Exit.then K (fun _ _ _ => False)) { tmps := (ps.zip (encs x)).foldl (fun t (p, v) => t.setIfInBounds p v) a.tmps, defers := [] } W)
    (hbody : ∀ (ys : List α) (x : α) (a' : Act) (W : World), I ys W → G x → ys.length < M → Ax x a' W → w.heap.size + 2 ≤ W.heap.size → body.wpIn (Fw.inRound (w.heap.size + 1)) 0 P (sidePost C I (ys ++ [x]) W) a' W)
    (hdone : ∀ (xs : List α) (W : World), S xs → I xs W → W.heap[w.heap.size]? = some (.deferred (some [])) → w.heap.size + 2 ≤ W.heap.size → Q .normal { a with defers := { target := .collected w.heap.size, args := #[] } :: a.defers } W) :
    (Code.rangeFunc g ps assign body).wpIn Fw 0 P Q a w := by
  refine wpIn_rangeFunc ?_
  intro fn hfn
  show ∃ _ _ _ _ _ _ _ _, (Instr.enterLoop fn a.tmps ps assign body none).run P w = _ ∧ _
  obtain ⟨rec, hrec⟩ : ∃ rec : LoopState → Option Code → Loop, rec = fun st pe => { state := st, pending := pe, fn, tmps := a.tmps, params := ps, assign, body, defers := w.heap.size } := ⟨_, rfl⟩
  obtain ⟨W1, hW1⟩ : ∃ W1, (w.alloc (.deferred (some []))).alloc (.loop (rec .ready none)) = W1 := ⟨_, rfl⟩
  have hL1 : W1.heap[w.heap.size + 1]? = some (.loop (rec .ready none)) := by
    rw [← hW1]; have := World.alloc_heap_new (w.alloc (.deferred (some []))) (.loop (rec .ready none)); rwa [World.size_alloc] at this
  have hK1 : W1.heap[w.heap.size]? = some (.deferred (some [])) := by
    rw [← hW1]; exact (Below.heap_alloc _ _ _ (by simp)).trans (World.alloc_heap_new w _)
  have hb1 : Below w.heap.size w W1 := by
    rw [← hW1]; exact ((Below.refl _ w).alloc (Nat.le_refl _) _).alloc (by simp) _
  have hs1 : W1.heap.size = w.heap.size + 2 := by rw [← hW1]; simp
  have hst1 : Still w.heap.size C w W1 := ⟨hb1.os, hb1.tape, hb1.output, hb1.size, fun b hb _ => hb1.block b hb⟩
  obtain ⟨hI1, hC1⟩ := keep _ _ _ h0 hst1
  refine ⟨w.heap.size + 1, [{ target := .collected w.heap.size, args := #[] }], W1, { target := .fn (.func gf) lb, args := #[.func (.yield (w.heap.size + 1)) #[] #[]] }, W1, gf,
    #[.func (.yield (w.heap.size + 1)) #[] #[]] ++ lb, W1, ?_, ?_, ?_, ?_, (fun h => by cases h), ?_⟩
  · rw [← hW1, hrec]; exact run_enterLoop_outer _ _ _ _ _
  · simp only [resolve, hg]
    simp [go_sem]
  · intro f' hf'; trivial
  · simp [invoke, go_sem, eg]
  · have wide : ∀ {X Y : World}, Rnd C X Y → Rnd (Cx C w.heap.size) X Y := fun h => ⟨h.os, h.tape, h.output, h.size, fun b hb hc => h.block b hb (fun h' => hc (.inl h')), fun b hb => by
      rcases hb with hb | hb
      · rcases h.own b hb with h1 | h1
        · exact .inl (.inl h1)
        · exact .inr h1
      · exact .inl (.inr hb)⟩
    have put : ∀ ys (X : World) o, I ys X → Rnd (Cx C w.heap.size) X (X.putObj (w.heap.size + 1) o) ∧ I ys (X.putObj (w.heap.size + 1) o) := fun ys X o hi => by
      have hn : ¬ C X (w.heap.size + 1) := fun h => by have := (apart _ _ _ hi h).1; omega
      obtain ⟨hk1, hk2⟩ := keep _ _ _ hi (Still.putObj X (w.heap.size + 1) o (by omega) hn)
      exact ⟨⟨rfl, rfl, rfl, by simp, fun b _ hc => World.putObj_heap_other (fun e => hc (.inr (.inl e))), fun b hb => .inl (hb.imp (hk2 b) id)⟩, hk1⟩
    refine (hseq W1 (fun ys W => I ys W ∧ W.heap[w.heap.size + 1]? = some (.loop (rec .ready none)) ∧ W.heap[w.heap.size]? = some (.deferred (some []))) hs1 hb1
      ⟨fun ys W b hj hc => ?_, fun ys W W' hj hs => ?_⟩ hC1 ?_ ⟨hI1, hL1, hK1⟩).mono ?_
    · rcases hc with hc | hc | hc
      · exact (apart _ _ _ hj.1 hc).2
      · rw [hc]; exact (Array.getElem?_eq_some_iff.1 hj.2.1).1
      · rw [hc]; exact (Array.getElem?_eq_some_iff.1 hj.2.2).1
    · obtain ⟨hi, hl, hk⟩ := hj
      obtain ⟨h1, h2⟩ := keep _ _ _ hi ⟨hs.os, hs.tape, hs.output, hs.size, fun b hb h => hs.block b hb (h.imp (by omega) .inl)⟩
      exact ⟨⟨h1, (hs.block _ (Array.getElem?_eq_some_iff.1 hl).1 (.inr (.inr (.inl rfl)))).trans hl, (hs.block _ (Array.getElem?_eq_some_iff.1 hk).1 (.inr (.inr (.inr rfl)))).trans hk⟩, fun b hb => hb.imp (h2 b) id⟩
    · -- one round
      rintro ys x W ⟨hi, hl, hk⟩ hG hM
      have hlt : w.heap.size + 1 < W.heap.size := (Array.getElem?_eq_some_iff.1 hl).1
      have hy := run_yield (P := P) (args := encs x) hl (by rw [hrec]; exact hps x)
      rw [hrec] at hy
      refine ⟨fn, _, assign, body, hy, roundIn_of_wpIn hfn (hassign ys x W _ hi hG hM (by omega) ?_)⟩
      clear hy
      intro a' Wa hra hia hax
      have hn : ∀ X zs b, I zs X → (b = w.heap.size ∨ b = w.heap.size + 1) → ¬ C X b := fun X zs b h e hc => by have := (apart _ _ _ h hc).1; omega
      have hla := (hra.block _ hlt (hn _ _ _ hi (.inr rfl))).trans hl
      have hka := (hra.block _ (by omega) (hn _ _ _ hi (.inl rfl))).trans hk
      have hlta : w.heap.size + 1 < Wa.heap.size := (Array.getElem?_eq_some_iff.1 hla).1
      refine ⟨_, run_beginRound hla (by rw [hrec]), ?_⟩
      obtain ⟨hr2, hi2⟩ := put ys Wa (.loop { rec .ready none with state := .busy }) hia
      have hl2 : (Wa.putObj (w.heap.size + 1) (.loop { rec .ready none with state := .busy })).heap[w.heap.size + 1]? = some (.loop { rec .ready none with state := .busy }) := World.putObj_heap_same hlta
      have hk2 : (Wa.putObj (w.heap.size + 1) (.loop { rec .ready none with state := .busy })).heap[w.heap.size]? = some (.deferred (some [])) := (World.putObj_heap_other (by omega)).trans hka
      refine wpIn_mono (hbody ys x a' _ hi2 hG hM (hAx _ _ _ _ _ hax hla) (by simp; omega)) ?_
      rintro e a3 W3 hp
      cases e with
      | normal =>
        obtain ⟨hr3, hi3⟩ := hp
        have hl3 := (hr3.block _ (Array.getElem?_eq_some_iff.1 hl2).1 (hn _ _ _ hi2 (.inr rfl))).trans hl2
        have hk3 := (hr3.block _ (Array.getElem?_eq_some_iff.1 hk2).1 (hn _ _ _ hi2 (.inl rfl))).trans hk2
        have := run_endRound (P := P) none hl3
        rw [hrec] at this
        obtain ⟨hr4, hi4⟩ := put _ W3 (.loop { rec .ready none with state := .ready, pending := none }) hi3
        refine ⟨_, _, this, rfl, ⟨?_, ?_, ?_⟩, ?_⟩
        · rw [hrec] at hi4; exact hi4
        · rw [hrec]; exact World.putObj_heap_same (Array.getElem?_eq_some_iff.1 hl3).1
        · exact (World.putObj_heap_other (by omega)).trans hk3
        · rw [hrec] at hr4 hr2 hr3; exact (wide hra).trans (hr2.trans ((wide hr3).trans hr4))
      | ret => exact hp.elim
      | exit id => exact hp.elim
      | goto t => exact hp.elim
      | panic ch => exact hp.elim
      | outgrown => exact hp.elim
    · rintro e W2 ⟨⟨v, rfl⟩, xs, hS, ⟨hi, hl, hk⟩, _⟩
      have := run_endLoop (P := P) hl (by rw [hrec]; simp)
      rw [hrec] at this
      obtain ⟨_, hi5⟩ := put xs W2 (.loop { rec .ready none with state := .exhausted }) hi
      rw [hrec] at hi5
      have hlt := (Array.getElem?_eq_some_iff.1 hl).1
      exact ⟨none, _, this, hdone xs _ hS hi5 ((World.putObj_heap_other (by omega)).trans hk) (by simp; omega)⟩
/-- A loop's mark. -/
def mark (D : Nat) : Deferred := { target := .collected D, args := #[] }
/-- The world behind all marks. -/
def shut : List Nat → World → World
  | [], W => W
  | D :: Ds, W => shut Ds (W.putObj D (.deferred none))
theorem shut_size : ∀ (Ds : List Nat) (W : World), (shut Ds W).heap.size = W.heap.size
  | [], _ => rfl
  | D :: Ds, W => by show (shut Ds (W.putObj D _)).heap.size = _; rw [shut_size Ds]; simp
theorem shut_other : ∀ (Ds : List Nat) (W : World) (b : Nat), b ∉ Ds → (shut Ds W).heap[b]? = W.heap[b]?
  | [], _, _, _ => rfl
  | D :: Ds, W, b, h => by
    show (shut Ds (W.putObj D _)).heap[b]? = _
    rw [shut_other Ds _ b (fun h' => h (List.mem_cons_of_mem _ h'))]
    exact World.putObj_heap_other (fun e => h (by rw [e]; exact List.mem_cons_self))
theorem shut_rest : ∀ (Ds : List Nat) (W : World), (shut Ds W).os = W.os ∧ (shut Ds W).tape = W.tape ∧ (shut Ds W).output = W.output
  | [], _ => ⟨rfl, rfl, rfl⟩
  | D :: Ds, W => shut_rest Ds (W.putObj D _)
theorem leaves_marks {F : Fence} {n : Nat} {P : Program} {fn : Func} {tmps : Array Value} {R : Ending → World → Prop} : ∀ (Ds : List Nat) (W : World), Ds.Nodup → (∀ D ∈ Ds, W.heap[D]? = some (.deferred (some []))) → LeavesIn F n P fn tmps R [] .returning (shut Ds W) → LeavesInM F n P fn tmps R (Ds.map mark) .returning W
  | [], _, _, _, h => h
  | D :: Ds, W, hn, hd, h => by
    refine ⟨by simp, .inl ⟨D, _, rfl, run_takeDeferred (hd D List.mem_cons_self), ?_⟩⟩
    have hn' := List.nodup_cons.1 hn
    exact leaves_marks Ds _ hn'.2 (fun E hE => (World.putObj_heap_other (fun e => hn'.1 (by rw [← e]; exact hE))).trans (hd E (List.mem_cons_of_mem _ hE))) h
end Go.Proofs.Ytbfklindcmmncaa
