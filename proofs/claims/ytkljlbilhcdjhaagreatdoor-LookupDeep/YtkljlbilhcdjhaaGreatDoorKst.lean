/- Closed runs: calls whose answers are known otherwise: maps.Keys and slices.Sorted at what it answers. -/
import Derived.Test.YtkljlbilhcdjhaaGreatDoorCxkm
import Derived.Sort.KeysCollected
import Derived.Sort.OwnSorted
namespace Go.Proofs.YtkljlbilhcdjhaaGreatDoor
set_option linter.unusedVariables false
namespace Cx
open Go Go.Proofs Go.RowKit

noncomputable def insU (x : List UInt8) (l : List (List UInt8)) : List (List UInt8) :=
  List.rec [x] (fun y l ih => cond (decide (x ≤ y)) (x :: y :: l) (y :: ih)) l
noncomputable def sortU (l : List (List UInt8)) : List (List UInt8) := List.rec [] (fun x _ ih => insU x ih) l
def keyU : Value → Option (List UInt8)
  | .string b => some b.data.toList
  | _ => none
noncomputable def keysU (l : List (Value × Value)) : Option (List (List UInt8)) :=
  List.rec (some []) (fun x _ ih => match keyU x.1, ih with | some k, some r => some (k :: r) | _, _ => none) l
noncomputable def shortU (l : List (List UInt8)) : Bool := List.rec true (fun x _ ih => and (Nat.ble x.length 1000000) ih) l
/-- what maps.Keys answers: a function over a new block that holds the map -/
noncomputable def keysK (fk : FuncId) (args : List Value) (h : Hp) : Option CRes :=
  match args with
  | [.map (some r)] => (match h.t.get r with
    | some (.map _) => some (.ok (.func (.func fk) #[] #[.pointer (some ⟨h.n, 0, none⟩)]) (h.new (.kmap r)))
    | _ => none)
  | _ => none
noncomputable def sortedK2 (h : Hp) (r : Nat) : Option CRes :=
  match h.t.get r with
  | some (.map es) => (match keysU es with
    | some (x :: l) => cond (and (Nat.ble (x :: l).length 1000000) (shortU (x :: l))) (some (.ok (.slice (some ⟨h.n, 0, none⟩) (x :: l).length 1) (h.new (.cells ((sortU (x :: l)).map encStr))))) none
    | _ => none)
  | _ => none
/-- what slices.Sorted answers there -/
noncomputable def sortedK (fk : FuncId) (args : List Value) (h : Hp) : Option CRes :=
  match args with
  | [.func (.func f) ⟨[]⟩ ⟨[.pointer (some ⟨k, 0, none⟩)]⟩] => cond (Nat.beq f fk) (match h.t.get k with
    | some (.kmap r) => sortedK2 h r
    | _ => none) none
  | _ => none

theorem insU_perm (x : List UInt8) : ∀ (l : List (List UInt8)), (insU x l).Perm (x :: l)
  | [] => .refl _
  | y :: l => by
    show (cond (decide (x ≤ y)) (x :: y :: l) (y :: insU x l)).Perm _
    cases decide (x ≤ y) with
    | true => exact .refl _
    | false => exact ((insU_perm x l).cons y).trans (.swap ..)
theorem sortU_perm : ∀ (l : List (List UInt8)), (sortU l).Perm l
  | [] => .refl _
  | x :: l => (insU_perm x (sortU l)).trans ((sortU_perm l).cons x)
theorem insU_sorted (x : List UInt8) : ∀ {l : List (List UInt8)}, l.Pairwise (fun a b => a ≤ b) → (insU x l).Pairwise (fun a b => a ≤ b)
  | [], _ => List.pairwise_singleton ..
  | y :: l, h => by
    show (cond (decide (x ≤ y)) (x :: y :: l) (y :: insU x l)).Pairwise _
    rw [List.pairwise_cons] at h
    by_cases hxy : x ≤ y
    · simp only [hxy, decide_true, cond_true]
      refine List.pairwise_cons.2 ⟨fun z hz => ?_, List.pairwise_cons.2 h⟩
      rcases List.mem_cons.1 hz with rfl | hz
      · exact hxy
      · exact List.le_trans hxy (h.1 z hz)
    · simp only [hxy, decide_false, cond_false]
      refine List.pairwise_cons.2 ⟨fun z hz => ?_, insU_sorted x h.2⟩
      rcases List.mem_cons.1 ((insU_perm x l).subset hz) with rfl | hz
      · exact (List.le_total y z).resolve_right hxy
      · exact h.1 z hz
theorem sortU_sorted : ∀ (l : List (List UInt8)), (sortU l).Pairwise (fun a b => a ≤ b)
  | [] => .nil
  | x :: l => insU_sorted x (sortU_sorted l)
theorem sortU_eq {l ss : List (List UInt8)} (h : ss.Perm l) : ss.mergeSort (fun x y => decide (x ≤ y)) = sortU l := by
  have tr : ∀ a b c : List UInt8, leB a b = true → leB b c = true → leB a c = true := fun a b c h1 h2 => by simp only [leB, decide_eq_true_eq] at *; exact List.le_trans h1 h2
  have to : ∀ a b : List UInt8, (leB a b || leB b a) = true := fun a b => by simp only [leB, Bool.or_eq_true, decide_eq_true_eq]; exact List.le_total a b
  refine List.Perm.eq_of_pairwise (le := fun a b => leB a b = true) (fun a b _ _ h1 h2 => ?_) (List.pairwise_mergeSort tr to ss) ((sortU_sorted l).imp fun {a b} h => by simpa [leB] using h) (((List.mergeSort_perm ss leB).trans h).trans (sortU_perm l).symm)
  simp only [leB, decide_eq_true_eq] at h1 h2
  exact List.le_antisymm h1 h2
theorem encStr_keyU {v : Value} {k : List UInt8} (h : keyU v = some k) : v = encStr k := by
  unfold keyU at h
  split at h
  · simp only [Option.some.injEq] at h
    subst h; rfl
  · cases h
theorem keysU_spec : ∀ {l : List (Value × Value)} {ks : List (List UInt8)}, keysU l = some ks → l.map (·.1) = ks.map encStr
  | [], ks, h => by
    have h' : some ([] : List (List UInt8)) = some ks := h
    simp only [Option.some.injEq] at h'; subst h'; rfl
  | x :: l, ks, h => by
    have h' : (match keyU x.1, keysU l with | some k, some r => some (k :: r) | _, _ => none) = some ks := h
    split at h'
    · rename_i k r hk hr
      simp only [Option.some.injEq] at h'
      subst h'
      simp only [List.map_cons]
      rw [keysU_spec hr, encStr_keyU hk]
    · cases h'
theorem shortU_spec : ∀ {l : List (List UInt8)}, shortU l = true → ∀ x ∈ l, x.length ≤ 1000000
  | [], _, x, hx => by cases hx
  | y :: l, h, x, hx => by
    have h' : and (Nat.ble y.length 1000000) (shortU l) = true := h
    rw [Bool.and_eq_true] at h'
    rcases List.mem_cons.1 hx with rfl | hx
    · exact Nat.le_of_ble_eq_true h'.1
    · exact shortU_spec h'.2 x hx
theorem encStr_perm {a b : List (List UInt8)} (h : (a.map encStr).Perm (b.map encStr)) : a.Perm b := by
  have key : ∀ l : List (List UInt8), (l.map encStr).map (fun v => (keyU v).getD []) = l := fun l => by
    rw [List.map_map]
    have : (fun v => (keyU v).getD []) ∘ encStr = id := by funext x; simp [keyU]
    rw [this]; simp
  have := h.map fun v => (keyU v).getD []
  rwa [key, key] at this

section
variable {P : Program} {G : GS} {B : Nat}
theorem calls_fw {ro' : Option Nat} {n : Nat} {f : FuncId} {args : Array Value} {w : World} {R : Ending → World → Prop} (h : CallsIn Fence.wide n P f args w R) : CallsIn (FW ro') 0 P f args w R := by
  have h0 : CallsIn Fence.wide 0 P f args w R := callsIn_wide.2 (callsIn_wide.1 h)
  cases ro' with
  | none => exact h0
  | some b => exact h0
/-- a new block among others, which nobody knows -/
theorem far_ok {μ : Mu} {h : Hp} {w w' : World} (hr : HR B μ h.n h.t.get w) (hB : B ≤ w.heap.size) (hb : Below w.heap.size w w') {g : Nat} (hg : w.heap.size ≤ g) (hg2 : g < w'.heap.size) (o : LObj) (s : Nat) (hro : o.isRo = false) (ho : OR (μ.add h.n (g, 0, s)) w' g 0 s o) :
    Good B μ h w (μ.add h.n (g, 0, s)) (h.new o) w' := by
  have hle : Mu.le μ (μ.add h.n (g, 0, s)) := Mu.add_le fun y e => by have := hr.dom _ _ e; omega
  have hget : ∀ k, (h.new o).t.get k = if k = h.n then some o else h.t.get k := fun k => T.get_put _ _ _ _
  have hsz := hb.size
  refine ⟨⟨?_, ?_, ?_, ?_⟩, ⟨hle, ?_, Nat.le_succ _, Nat.le_refl _, ?_, ?_, hb.os, hb.tape, hb.output, hsz, fun b hbb _ => hb.block b hbb, ?_⟩⟩
  · intro k b p s' e
    unfold Mu.add at e
    by_cases hk : k = h.n
    · simp [hk] at e; obtain ⟨rfl, rfl, rfl⟩ := e; exact ⟨by subst hk; exact Nat.lt_succ_self _, hg2⟩
    · simp [hk] at e; have := hr.lt k b p s' e; exact ⟨Nat.lt_succ_of_lt this.1, by omega⟩
  · intro k b p s' o' e1 e2
    rw [hget] at e2
    unfold Mu.add at e1
    by_cases hk : k = h.n
    · simp [hk] at e1 e2; obtain ⟨rfl, rfl, rfl⟩ := e1; subst e2; exact ho
    · simp [hk] at e1 e2
      exact ((hr.obj k b p s' o' e1 e2).mono hle).same (hb.block b (hr.lt k b p s' e1).2)
  · intro k k' b p s' p' s'' o1 o2 e1 e2 e3 e4 l1 l2
    rw [hget] at e3 e4
    unfold Mu.add at e1 e2
    by_cases hk : k = h.n
    · by_cases hk' : k' = h.n
      · rw [hk, hk']
      · simp [hk, hk'] at e1 e2; obtain ⟨rfl, _⟩ := e1; exact absurd (hr.lt k' _ _ _ e2).2 (by omega)
    · by_cases hk' : k' = h.n
      · simp [hk, hk'] at e1 e2; obtain ⟨rfl, _⟩ := e2; exact absurd (hr.lt k _ _ _ e1).2 (by omega)
      · simp [hk, hk'] at e1 e2 e3 e4; exact hr.inj k k' b p s' p' s'' o1 o2 e1 e2 e3 e4 l1 l2
  · intro k b p s' o' e1 e2 l
    rw [hget] at e2
    unfold Mu.add at e1
    by_cases hk : k = h.n
    · simp [hk] at e1; obtain ⟨rfl, _⟩ := e1; exact .inr (by omega)
    · simp [hk] at e1 e2; exact hr.own k b p s' o' e1 e2 l
  · intro k hk
    have : k ≠ h.n := by omega
    simp [Mu.add, this]
  · intro k hk _
    have : k ≠ h.n := by omega
    rw [hget]; simp [this]
  · intro k o' hk e hl
    have : k ≠ h.n := by omega
    rw [hget] at e; simp [this] at e
    exact ⟨o', e, hl, rfl⟩
  · intro k b p s' hk e
    unfold Mu.add at e
    by_cases hk' : k = h.n
    · simp [hk'] at e; obtain ⟨rfl, _⟩ := e; exact .inl hg
    · simp [hk'] at e; exact absurd (hr.lt k b p s' e).1 (by omega)

theorem keysK_ok {fs fk : FuncId} {tm : TypeId} (hen : ∀ args w, (callFunc fs args).run P w = .ok (.enter fs args) w)
    (hK : ∀ (mb : Option Nat) (W : World), CallsIn Fence.wide 5 P fs #[.map mb] W fun e w' => e = .returned (.func (.func fk) #[] #[.pointer (some ⟨W.heap.size, 0, none⟩)]) ∧ w' = W.alloc (.cells #[.map mb] tm)) :
    SF P G B fun f args h => cond (Nat.beq f fs) ((keysK fk args h).getD .fail) .fail := by
  constructor
  · intro f args h v h' hc μ args' w c hargs
    cases hb : Nat.beq f fs with
    | false => simp only [hb] at hc; cases hc
    | true =>
      have hfs := Nat.eq_of_beq_eq_true hb
      subst hfs
      simp only [hb, cond_true] at hc
      right
      refine ⟨hen _ w, fun ro' => ?_⟩
      unfold keysK at hc
      split at hc
      · rename_i r
        split at hc
        · rename_i es hes
          simp only [Option.getD_some, CRes.ok.injEq] at hc
          obtain ⟨rfl, rfl⟩ := hc
          cases hargs with
          | cons h1 t =>
            cases t
            cases h1 with
            | map hk =>
              rename_i bm p s
              refine (calls_fw (hK (some bm) w)).mono ?_
              rintro e w' ⟨rfl, rfl⟩
              have hlt := (c.hr.lt r bm p s hk).1
              have hadd : (μ.add h.n (w.heap.size, 0, 1)) r = some (bm, p, s) := by
                unfold Mu.add
                rw [if_neg (by omega)]; exact hk
              refine ⟨_, μ.add h.n (w.heap.size, 0, 1), rfl, ?_, new_ok c.hr c.hB (.cells #[.map (some bm)] tm) (.kmap r) 1 rfl ⟨rfl, bm, tm, (0, 0), ⟨p, s, hadd⟩, by simp⟩⟩
              refine .func fk .nil (.cons ?_ .nil)
              exact VR.ptr (p := 0) (s := 1) (by simp [Mu.add])
        · cases hc
      · cases hc
  · intro f args h v h' hc
    exfalso
    cases hb : Nat.beq f fs with
    | false => simp only [hb] at hc; cases hc
    | true =>
      simp only [hb, cond_true] at hc
      unfold keysK at hc
      split at hc
      · split at hc <;> cases hc
      · cases hc

/-- slices.Sorted at what maps.Keys answered: a new row of the map's keys, rising -/
def SortedLaid (P : Program) (fs fk : FuncId) (kt : TypeId) : Prop := ∀ (cb b : Nat) (W : World) (ents : Array MapEntry) (clock : Nat) (ty : TypeId) (fr : Nat × Nat), W.heap[cb]? = some (.cells #[.map (some b)] ty fr) → W.heap[b]? = some (.map ents clock) →
  (∀ en ∈ ents.toList, ∃ s : List UInt8, en.key = encStr s ∧ s.length ≤ 1000000) → ents.size ≤ 1000000 → (∀ en ∈ ents.toList, en.born < clock) → (ents.toList.map (·.born)).Nodup → (ents.toList.map (·.key)).Nodup →
  CallsIn Fence.wide 5 P fs #[.func (.func fk) #[] #[.pointer (some ⟨cb, 0, none⟩)]] W fun e w' => ∃ (v : Value) (ss : List (List UInt8)), e = .returned v ∧ (ss.map encStr).Perm (ents.toList.map (·.key)) ∧
    w'.ownsRow W.heap.size kt 1 v ss.length ((ss.mergeSort fun x y => decide (x ≤ y)).map encStr) ∧ Below W.heap.size W w'

theorem sortedK_ok {fs fk : FuncId} {kt : TypeId} (hen : ∀ args w, (callFunc fs args).run P w = .ok (.enter fs args) w) (hS : SortedLaid P fs fk kt) :
    SF P G B fun f args h => cond (Nat.beq f fs) ((sortedK fk args h).getD .fail) .fail := by
  constructor
  · intro f args h v h' hc μ args' w c hargs
    cases hb : Nat.beq f fs with
    | false => simp only [hb] at hc; cases hc
    | true =>
      have hfs := Nat.eq_of_beq_eq_true hb
      subst hfs
      simp only [hb, cond_true] at hc
      right
      refine ⟨hen _ w, fun ro' => ?_⟩
      unfold sortedK at hc
      split at hc
      · rename_i g k
        cases hgk : Nat.beq g fk with
        | false => rw [hgk] at hc; cases hc
        | true =>
          rw [hgk] at hc
          have hgk' := Nat.eq_of_beq_eq_true hgk
          subst hgk'
          simp only [cond_true] at hc
          split at hc
          · rename_i r hkm
            unfold sortedK2 at hc
            split at hc
            · rename_i es hes
              split at hc
              · rename_i x l hks
                cases hsh : (and (Nat.ble (x :: l).length 1000000) (shortU (x :: l))) with
                | false => rw [hsh] at hc; cases hc
                | true =>
                  rw [hsh] at hc
                  simp only [cond_true, Option.getD_some, CRes.ok.injEq] at hc
                  obtain ⟨rfl, rfl⟩ := hc
                  rw [Bool.and_eq_true] at hsh
                  have hlen := Nat.le_of_ble_eq_true hsh.1
                  have hshort := shortU_spec hsh.2
                  cases hargs with
                  | cons h1 t =>
                    cases t
                    cases h1 with
                    | func _ f1 f2 =>
                      rename_i first' captured'
                      have e1 : first' = #[] := by
                        generalize hq : first'.toList = q at f1
                        cases f1
                        exact Array.toList_eq_nil_iff.1 hq
                      subst e1
                      generalize hq : captured'.toList = q at f2
                      cases f2 with
                      | cons h2 t =>
                        cases t
                        cases h2 with
                        | ptr hk =>
                          rename_i cb p s
                          obtain ⟨rfl, bm, ty, fr, ⟨p', s', hr'⟩, hcell⟩ := c.hr.obj k cb p s _ hk hkm
                          have hcap : captured' = #[.pointer (some ⟨cb, 0, none⟩)] := Array.ext' (by rw [hq])
                          subst hcap
                          obtain ⟨ents, clock, g1, g2⟩ := c.hr.obj r bm p' s' _ hr' hes
                          have hkeys : (ents.toList.map (·.key)).Perm ((x :: l).map encStr) := by
                            obtain ⟨lq, q1, q2⟩ := g2.rel
                            have h3 : ∀ {a : List (Value × Value)} {b : List MapEntry}, ER μ a b → b.map (·.key) = a.map (·.1) := by
                              intro a b h
                              induction h with
                              | nil => rfl
                              | cons hk h1 _ _ ih => simp only [List.map_cons]; rw [ih, h1.scalar hk]
                            have h4 := h3 q2
                            rw [keysU_spec hks] at h4
                            rw [← h4]
                            exact (q1.map _).symm
                          have hnd : (ents.toList.map (·.key)).Nodup := by
                            have h4 := g2.nd
                            rw [keysU_spec hks] at h4
                            exact hkeys.nodup_iff.2 h4
                          have hcall := hS cb bm w ents clock ty fr hcell g1 (fun en hen => by
                            have : en.key ∈ (x :: l).map encStr := hkeys.subset (List.mem_map.2 ⟨en, hen, rfl⟩)
                            obtain ⟨s, hs, hse⟩ := List.mem_map.1 this
                            exact ⟨s, hse.symm, hshort s hs⟩) (by
                            have := hkeys.length_eq
                            simp only [List.length_map, Array.length_toList] at this
                            omega) g2.old g2.bn hnd
                          refine (calls_fw hcall).mono ?_
                          rintro e w' ⟨v, ss, rfl, hp, hrow, hbel⟩
                          have hssp : ss.Perm (x :: l) := encStr_perm (hp.trans hkeys)
                          have hsl : ss.length = (x :: l).length := hssp.length_eq
                          rw [sortU_eq hssp] at hrow
                          rcases hrow.2 with ⟨_, hz⟩ | ⟨gb, cap, cur, rfl, hbase, hgb, r1, r2, r3, r4⟩
                          · rw [hsl] at hz; cases hz
                          · have hgl : gb < w'.heap.size := (Array.getElem?_eq_some_iff.1 hgb).1
                            have hle2 : Mu.le μ (μ.add h.n (gb, 0, cap)) := Mu.add_le fun y e => by have := c.hr.dom _ _ e; omega
                            have hslen : (sortU (x :: l)).length = (x :: l).length := (sortU_perm (x :: l)).length_eq
                            refine ⟨_, μ.add h.n (gb, 0, cap), rfl, ?_, far_ok c.hr c.hB hbel hbase hgl (.cells ((sortU (x :: l)).map encStr)) cap rfl ⟨cur, kt, 0, 0, hgb, by omega, by rw [List.length_map, hslen]; omega, ⟨Nat.le_refl _, fun i _ hh => by omega⟩, fun i u e => ?_⟩⟩
                            · rw [hsl]
                              exact VR.slice (p := 0) (s := cap) (by simp [Mu.add]) (by omega) (.inr ⟨rfl, by omega⟩) (by omega)
                            · have hi : i < ss.length := by
                                have := (List.getElem?_eq_some_iff.1 e).1
                                rw [List.length_map, hslen] at this; omega
                              have h5 : (cur.toList.take (ss.length * 1))[i]? = some u := by rw [r4]; exact e
                              rw [List.getElem?_take_of_lt (by omega), Array.getElem?_toList] at h5
                              refine ⟨u, by simpa using h5, ?_⟩
                              obtain ⟨b, _, rfl⟩ := List.mem_map.1 (List.mem_of_getElem? e)
                              exact .string _
              · cases hc
            · cases hc
          · cases hc
      · cases hc
  · intro f args h v h' hc
    exfalso
    cases hb : Nat.beq f fs with
    | false => simp only [hb] at hc; cases hc
    | true =>
      simp only [hb, cond_true] at hc
      unfold sortedK at hc
      split at hc
      · rename_i g k
        cases hgk : Nat.beq g fk with
        | false => rw [hgk] at hc; cases hc
        | true =>
          rw [hgk] at hc
          simp only [cond_true] at hc
          split at hc
          · unfold sortedK2 at hc
            split at hc
            · split at hc
              · rename_i x l hks
                cases hsh : (and (Nat.ble (x :: l).length 1000000) (shortU (x :: l))) <;> rw [hsh] at hc <;> cases hc
              · cases hc
            · cases hc
          · cases hc
      · cases hc
end
end Cx
end Go.Proofs.YtkljlbilhcdjhaaGreatDoor
