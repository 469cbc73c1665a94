/- Closed runs: each operation of the faster executor. -/
import Derived.Test.YtkljlbilhcdjhaaGreatDoorFym
import Derived.Test.YtkljlbilhcdjhaaGreatDoorCxhm
import Derived.Laws.Strings
namespace Go.Proofs.YtkljlbilhcdjhaaGreatDoor
set_option linter.unusedVariables false
namespace Cx
open Go
section
variable {P : Program} {G : GS}
variable (call : FuncId → List Value → Hp → CRes) (round : Nat → List Value → Hp → CRes) (all : Array Oper) (sz : Nat) (mks : List DI)

theorem onlyV_ofV (h : Hp) (x : Option Value) : onlyV (Out.ofV h x) = Out.ofV h x := by cases x <;> rfl
/-- an operation of one operand -/
theorem v1_eq (x : Operand) (F : Hp → Value → Option Value) (d : Nat) (ih : Kk) (t : T Value) (h : Hp) (out : Out)
    (h0 : ev G ⟨sz, t, mks⟩ x = none → out = .fail) (h1 : ∀ a, ev G ⟨sz, t, mks⟩ x = some a → out = Out.ofV h (F h a)) :
    aV1 (compA G x) F (pfn Value d) ih t h = doneR sz mks ih t d (opDone call round h out) := by
  unfold aV1
  rw [evK_eq sz t mks]
  cases he : ev G ⟨sz, t, mks⟩ x with
  | none => rw [h0 he]; rfl
  | some a =>
    rw [h1 a he, done_ofV]
    show optK (F h a) (fun v => pK (pfn Value d) ih v t h) = _
    cases F h a with
    | none => rfl
    | some v => exact pK_eq d ih v t h
/-- an operation of two operands -/
theorem v2_eq (x y : Operand) (F : Hp → Value → Value → Option Value) (d : Nat) (ih : Kk) (t : T Value) (h : Hp) (out : Out)
    (h0 : ev G ⟨sz, t, mks⟩ x = none → out = .fail) (h2 : ev G ⟨sz, t, mks⟩ y = none → out = .fail) (h1 : ∀ a b, ev G ⟨sz, t, mks⟩ x = some a → ev G ⟨sz, t, mks⟩ y = some b → out = Out.ofV h (F h a b)) :
    aV2 (compA G x) (compA G y) F (pfn Value d) ih t h = doneR sz mks ih t d (opDone call round h out) := by
  unfold aV2
  rw [evK_eq sz t mks]
  cases he : ev G ⟨sz, t, mks⟩ x with
  | none => rw [h0 he]; rfl
  | some a =>
    show evK (compA G y) t (fun b => optK (F h a b) fun v => pK (pfn Value d) ih v t h) = _
    rw [evK_eq sz t mks]
    cases he2 : ev G ⟨sz, t, mks⟩ y with
    | none => rw [h2 he2]; rfl
    | some b =>
      rw [h1 a b he he2, done_ofV]
      show optK (F h a b) (fun v => pK (pfn Value d) ih v t h) = _
      cases F h a b with
      | none => rfl
      | some v => exact pK_eq d ih v t h
/-- a new block -/
theorem newK_eq (vs : List Value) (d : Nat) (ih : Kk) (t : T Value) (h : Hp) : newK vs (pfn Value d) ih t h = doneR sz mks ih t d (opDone call round h (outNew h vs)) := by
  obtain ⟨n, ht, low⟩ := h
  show numK n (fun n => pK (pfn Value d) ih (.pointer (some ⟨n, 0, none⟩)) t ⟨Nat.succ n, T.put (.cells vs) ht n, low⟩) = ih (T.put (.pointer (some ⟨n, 0, none⟩)) t d) ⟨Nat.succ n, T.put (.cells vs) ht n, low⟩
  cases n <;> exact pK_eq d ih _ t _

/-! Sums and orders of small numbers. -/
theorem intOf_spec (v : Value) : (∃ k n, v = .int k (.ofNat n) ∧ intOf v = some (kidx k, n)) ∨ intOf v = none := by
  cases v with
  | int k n =>
    cases n with
    | ofNat n => exact .inl ⟨k, n, rfl, rfl⟩
    | negSucc n => exact .inr rfl
  | _ => exact .inr rfl
theorem kidx_inj {k k' : IntKind} (h : kidx k = kidx k') : k = k' := by
  cases k <;> cases k' <;> first | rfl | (exact absurd h (by decide))
theorem kidx_i64 {k : IntKind} (h : kidx k = 3) : k = .i64 := kidx_inj h
theorem natsK_eq (a b : Value) (f : Nat → Nat → Nat → Option Value) (g : Option Value) (hf : ∀ k m n, a = .int k (.ofNat m) → b = .int k (.ofNat n) → f (kidx k) m n = g) : natsK a b f g = g := by
  unfold natsK
  rcases intOf_spec a with ⟨k, m, rfl, e1⟩ | e1
  · rcases intOf_spec b with ⟨k', n, rfl, e2⟩ | e2
    · rw [e1, e2]
      show (Bool.rec g (f (kidx k) m n) (Nat.beq (kidx k) (kidx k')) : Option Value) = g
      cases hb : Nat.beq (kidx k) (kidx k') with
      | false => rfl
      | true =>
        obtain rfl := kidx_inj (Nat.eq_of_beq_eq_true hb)
        exact hf k m n rfl rfl
    · rw [e1, e2]
  · rw [e1]
theorem binV_int (c : Bool) (op : BinOp) (ty : TypeId) (k : IntKind) (m n : Int) : binV P c op ty (.int k m) (.int k n) = pureS P (binOp op ty (.int k m) (.int k n)) := rfl
theorem cmp_eq {op : BinOp} (c : Nat → Nat → Bool) (cb : Bool) (ty : TypeId) (hc : ∀ k m n, pureS P (binOp op ty (.int k (.ofNat m)) (.int k (.ofNat n))) = some (.bool (c m n))) (h : Hp) (a b : Value) :
    cmpF c (binV P cb op ty) h a b = binV P cb op ty a b := by
  refine natsK_eq a b _ _ fun k m n ha hb => ?_
  subst ha; subst hb
  rw [binV_int, hc]
theorem i64K_eq (k r : Nat) (ok : Bool) (g : Option Value) (hk : k = 3 → ok = true → g = some (.int .i64 (.ofNat r))) : i64K k r ok g = g := by
  unfold i64K
  cases hb : Nat.beq k 3 with
  | false => rfl
  | true =>
    cases ok with
    | false => rfl
    | true => exact (hk (Nat.eq_of_beq_eq_true hb) rfl).symm
theorem wrap_i64 {n : Int} (h0 : 0 ≤ n) (h1 : n ≤ 9223372036854775807) : IntKind.i64.wrap n = n := by
  simp [IntKind.wrap, IntKind.signed, IntKind.bits]
  omega
theorem run_cmp {op : BinOp} {ty : TypeId} {k : IntKind} {m n : Int} {b : Bool} (h : binOp op ty (.int k m) (.int k n) = pure (.bool b)) : pureS P (binOp op ty (.int k m) (.int k n)) = some (.bool b) := by
  rw [h]; rfl
theorem run_sum {op : BinOp} {ty : TypeId} {m n r : Int} (h : binOp op ty (.int .i64 m) (.int .i64 n) = pure (.int .i64 (IntKind.i64.wrap r))) (h0 : 0 ≤ r) (h1 : r ≤ 9223372036854775807) : pureS P (binOp op ty (.int .i64 m) (.int .i64 n)) = some (.int .i64 r) := by
  rw [h, wrap_i64 h0 h1]; rfl
theorem ofNat_beq (m n : Nat) : (Int.ofNat m == Int.ofNat n) = Nat.beq m n := by
  rw [beqN]
  by_cases h : m = n
  · subst h; simp
  · simp [h]
    omega
theorem ble_dec (m n : Nat) : Nat.ble m n = decide (m ≤ n) := by
  by_cases h : m ≤ n
  · simp [h, Nat.ble_eq_true_of_le h]
  · cases e : Nat.ble m n with
    | false => simp [h]
    | true => exact absurd (Nat.le_of_ble_eq_true e) h
theorem blt_dec (m n : Nat) : Nat.blt m n = decide (m < n) := ble_dec (m + 1) n
theorem str_eql (cb : Bool) (ty : TypeId) (s r : ByteArray) : binV P cb .eql ty (.string s) (.string r) = some (.bool (s.data.toList == r.data.toList)) := by
  show pureS P (binOp .eql ty (.string s) (.string r)) = _
  have : binOp .eql ty (.string s) (.string r) = pure (.bool (s.toList == r.toList)) := rfl
  rw [this, ByteArray.toList_eq, ByteArray.toList_eq]
  rfl
theorem str_neq (cb : Bool) (ty : TypeId) (s r : ByteArray) : binV P cb .neq ty (.string s) (.string r) = some (.bool (not (s.data.toList == r.data.toList))) := by
  show pureS P (binOp .neq ty (.string s) (.string r)) = _
  have : binOp .neq ty (.string s) (.string r) = pure (.bool !(s.toList == r.toList)) := rfl
  rw [this, ByteArray.toList_eq, ByteArray.toList_eq]
  rfl
theorem intOf_some {v : Value} {q : Nat × Nat} (h : intOf v = some q) : ∃ k, v = .int k (.ofNat q.2) := by
  unfold intOf at h
  split at h
  · rename_i k n
    simp only [Option.some.injEq] at h
    subst h
    exact ⟨k, rfl⟩
  · cases h
theorem index_str (ty : TypeId) (k : IntKind) (n : Nat) (s : ByteArray) (b : UInt8) (hb : s.data.toList[n]? = some b) (hu : P.underlying ty = some .string) : pureRun P (Instr.index ty (.string s) (.int k (.ofNat n))) = some (.int .u8 (.ofNat b.toNat)) := by
  have h1 : (if (0 : Int) ≤ Int.ofNat n then s[(Int.ofNat n).toNat]? else none) = some b := by
    rw [if_pos (show (0 : Int) ≤ Int.ofNat n from Int.natCast_nonneg n), ← hb]
    show s[n]? = _
    rw [Array.getElem?_toList]
    by_cases h : n < s.size
    · rw [getElem?_pos s n h, getElem?_pos s.data n h]; rfl
    · rw [getElem?_neg s n h, getElem?_neg s.data n h]
  have h2 : pureRun P (Instr.index ty (.string s) (.int k (.ofNat n))) = pureRun P (match (if (0 : Int) ≤ Int.ofNat n then s[(Int.ofNat n).toNat]? else none) with
      | some b => pure (.int .u8 b.toNat)
      | none => boundsPanic k (Int.ofNat n) s.size .index) := by
    simp only [Instr.index, asIntOf, underlying, program, bind, pure, Sem.bind, pureRun, hu]
    rfl
  rw [h2, h1]
  rfl
theorem indexF_eq (ty : TypeId) (h : Hp) (a b : Value) : indexF P ty h a b = cond (scalar a && scalar b) (pureS P (Instr.index ty a b)) none := by
  unfold indexF
  cases ha : strOf a with
  | none => rfl
  | some l =>
    obtain ⟨s, rfl, rfl⟩ : ∃ s, a = .string s ∧ l = s.data.toList := by
      cases a with
      | string s => exact ⟨s, rfl, by have h' : some s.data.toList = some l := ha; simp only [Option.some.injEq] at h'; exact h'.symm⟩
      | _ => cases ha
    cases hb : intOf b with
    | none => rfl
    | some q =>
      obtain ⟨k, rfl⟩ := intOf_some hb
      simp only
      cases hu : P.underlying ty with
      | none => rfl
      | some d =>
        cases d with
        | string =>
          show (Option.rec (pureS P (Instr.index ty (.string s) (.int k (.ofNat q.2)))) (fun b => some (.int .u8 (.ofNat b.toNat))) (nthF s.data.toList q.2) : Option Value) = pureS P (Instr.index ty (.string s) (.int k (.ofNat q.2)))
          rw [nthF_get]
          cases hb : s.data.toList[q.2]? with
          | none => rfl
          | some b =>
            show some (Value.int .u8 (.ofNat b.toNat)) = _
            unfold pureS
            rw [index_str ty k q.2 s b hb hu]
            rfl
        | _ => rfl
theorem fast_eq (op : BinOp) (cb : Bool) (ty : TypeId) (h : Hp) (a b : Value) : fastF op (binV P cb op ty) h a b = binV P cb op ty a b := by
  cases op with
  | eql =>
    show natsK a b (fun _ m n => some (.bool (Nat.beq m n))) (strK a b (fun c => c) (binV P cb .eql ty a b)) = _
    rw [strK_eq (fun s r ha hb => by subst ha; subst hb; exact (str_eql cb ty s r).symm)]
    exact cmp_eq _ _ _ (fun k m n => run_cmp (by rw [← ofNat_beq]; simp [binOp, Op.intCmp])) h a b
  | neq =>
    show natsK a b (fun _ m n => some (.bool (not (Nat.beq m n)))) (strK a b (fun c => not c) (binV P cb .neq ty a b)) = _
    rw [strK_eq (fun s r ha hb => by subst ha; subst hb; exact (str_neq cb ty s r).symm)]
    exact cmp_eq _ _ _ (fun k m n => run_cmp (by rw [← ofNat_beq]; simp [binOp, Op.intCmp, bne])) h a b
  | lss => exact cmp_eq _ _ _ (fun k m n => run_cmp (by rw [blt_dec]; simp [binOp, Op.intCmp])) h a b
  | leq => exact cmp_eq _ _ _ (fun k m n => run_cmp (by rw [ble_dec]; simp [binOp, Op.intCmp])) h a b
  | gtr => exact cmp_eq _ _ _ (fun k m n => run_cmp (by rw [blt_dec]; simp [binOp, Op.intCmp])) h a b
  | geq => exact cmp_eq _ _ _ (fun k m n => run_cmp (by rw [ble_dec]; simp [binOp, Op.intCmp])) h a b
  | add =>
    show natsK a b (fun k m n => i64K k (Nat.add m n) (Nat.ble (Nat.add m n) 9223372036854775807) (binV P cb .add ty a b)) (binV P cb .add ty a b) = _
    refine natsK_eq a b _ _ fun k m n ha hb => i64K_eq _ _ _ _ fun hk hok => ?_
    subst ha; subst hb
    obtain rfl := kidx_i64 hk
    have := Nat.le_of_ble_eq_true hok
    rw [binV_int]
    refine run_sum (r := Int.ofNat (Nat.add m n)) (by simp [binOp, Op.intArith]) (Int.natCast_nonneg _) ?_
    have h2 : m + n ≤ 9223372036854775807 := this
    show ((m + n : Nat) : Int) ≤ _
    omega
  | mul =>
    show natsK a b (fun k m n => i64K k (Nat.mul m n) (Nat.ble (Nat.mul m n) 9223372036854775807) (binV P cb .mul ty a b)) (binV P cb .mul ty a b) = _
    refine natsK_eq a b _ _ fun k m n ha hb => i64K_eq _ _ _ _ fun hk hok => ?_
    subst ha; subst hb
    obtain rfl := kidx_i64 hk
    have h2 : m * n ≤ 9223372036854775807 := Nat.le_of_ble_eq_true hok
    rw [binV_int]
    refine run_sum (r := Int.ofNat (Nat.mul m n)) (by simp [binOp, Op.intArith]) (Int.natCast_nonneg _) ?_
    show ((m * n : Nat) : Int) ≤ _
    omega
  | sub =>
    show natsK a b (fun k m n => i64K k (Nat.sub m n) (and (Nat.ble n m) (Nat.ble m 9223372036854775807)) (binV P cb .sub ty a b)) (binV P cb .sub ty a b) = _
    refine natsK_eq a b _ _ fun k m n ha hb => i64K_eq _ _ _ _ fun hk hok => ?_
    subst ha; subst hb
    obtain rfl := kidx_i64 hk
    have h3 : Nat.ble n m = true ∧ Nat.ble m 9223372036854775807 = true := by
      cases h4 : Nat.ble n m <;> cases h5 : Nat.ble m 9223372036854775807 <;> simp_all
    have h4 := Nat.le_of_ble_eq_true h3.1
    have h5 := Nat.le_of_ble_eq_true h3.2
    rw [binV_int]
    have e : (Int.ofNat m - Int.ofNat n) = Int.ofNat (Nat.sub m n) := by
      show ((m : Int) - (n : Int)) = ((m - n : Nat) : Int)
      omega
    refine run_sum (r := Int.ofNat (Nat.sub m n)) (by rw [← e]; simp [binOp, Op.intArith]) (by simp) ?_
    show ((m - n : Nat) : Int) ≤ _
    omega
  | _ => rfl
theorem ev_move (x : Operand) (d : Nat) (ih : Kk) (t : T Value) (h : Hp) : aMv (compA G x) (pfn Value d) ih t h = doneR sz mks ih t d (opDone call round h (onlyV (Out.ofV h (ev G ⟨sz, t, mks⟩ x)))) := by
  unfold aMv
  rw [evK_eq sz t mks, onlyV_ofV, done_ofV]
  cases ev G ⟨sz, t, mks⟩ x with
  | none => rfl
  | some v => exact pK_eq d ih v t h
theorem fld_eq {s : TypeId} {f off : Nat} (hf : fieldOff P s f = some off) (e : En) (h : Hp) (x : Operand) (a : Value) (he : ev G e x = some a) : opFieldAddr P G e h s x f = Out.ofV h (fldF off h a) := by
  unfold fieldOff at hf
  unfold opFieldAddr
  rw [he]
  split at hf
  · rename_i fs hs
    rw [hs]
    split at hf
    · rename_i fd hfd
      split at hf
      · rename_i n hn
        cases hb : Nat.blt 0 n with
        | false => rw [hb] at hf; cases hf
        | true =>
          rw [hb] at hf
          simp only [cond_true, Option.some.injEq] at hf
          subst hf
          cases a with
          | pointer a =>
            cases a with
            | none => rfl
            | some a =>
              obtain ⟨k, o, sp⟩ := a
              cases sp with
              | some _ => rfl
              | none => simp only [hfd, hn, hb, cond_true]; rfl
          | _ => rfl
      · cases hf
    · cases hf
  · cases hf
theorem nil_eq (h : Hp) (a : Value) : nilCheckV h (some a) = Out.ofV h (nilF h a) := by
  unfold nilF nilCheckV
  split <;> rfl
theorem un_eq (op : UnOp) (h : Hp) (a : Value) : cond (scalar a) (Out.ofV h (pureS P (Op.unary op a))) .fail = Out.ofV h (unF P op h a) := by
  unfold unF
  cases scalar a <;> rfl
theorem outV_keep {h : Hp} {o : Out} (ho : (∃ v, o = .value v h) ∨ o = .fail) : o = Out.ofV h (outV o) := by
  rcases ho with ⟨v, rfl⟩ | rfl <;> rfl
theorem keep_cond {h : Hp} (c : Bool) (v : Value) : (∃ v', cond c (Out.value v h) .fail = .value v' h) ∨ cond c (Out.value v h) .fail = .fail := by
  cases c
  · exact .inr rfl
  · exact .inl ⟨_, rfl⟩
theorem idxV_keep (h : Hp) (ty : TypeId) (i : Nat) (a : Value) : (∃ v, idxV P h ty i a = .value v h) ∨ idxV P h ty i a = .fail := by
  unfold idxV
  split
  · split
    · split
      · exact keep_cond _ _
      · exact .inr rfl
    · exact .inr rfl
  · split
    · split
      · exact keep_cond _ _
      · exact .inr rfl
    · exact .inr rfl
  · exact .inr rfl
theorem idx_eq (e : En) (h : Hp) (ty : TypeId) (x y : Operand) (a b : Value) (ha : ev G e x = some a) (hb : ev G e y = some b) : opIndexAddr P G e h ty x y = Out.ofV h (idxF P ty h a b) := by
  unfold opIndexAddr idxF
  rw [ha, hb]
  cases b with
  | int k n =>
    cases n with
    | ofNat n => exact outV_keep (idxV_keep h ty n a)
    | negSucc n => rfl
  | _ => rfl
theorem len_keep (h : Hp) (ts : Array TypeId) (l : List Value) : (∃ v, opLen P h ts l = .value v h) ∨ opLen P h ts l = .fail := by
  unfold opLen
  split
  · split
    · split
      · exact .inl ⟨_, rfl⟩
      · exact .inr rfl
    · exact .inr rfl
  · split
    · split
      · exact .inl ⟨_, rfl⟩
      · exact .inr rfl
    · exact .inr rfl
  · exact .inr rfl
theorem ext_eq (e : En) (h : Hp) (x : Operand) (ix : Nat) (a : Value) (ha : ev G e x = some a) : opExtract G e h x ix = Out.ofV h (extF ix h a) := by
  unfold opExtract extF
  rw [ha]
  cases a <;> rfl
theorem pk_eq (c x y : Operand) (d : Nat) (ih : Kk) (t : T Value) (h : Hp) :
    aPk (compA G c) (compA G x) (compA G y) (pfn Value d) ih t h = doneR sz mks ih t d (opDone call round h (onlyV (opPick ⟨sz, t, mks⟩ h c x y (ev G)))) := by
  unfold aPk opPick
  rw [evK_eq sz t mks]
  cases ev G ⟨sz, t, mks⟩ c with
  | none => rfl
  | some v =>
    simp only
    rcases isBool_spec v with ⟨b, rfl, e⟩ | ⟨hn, e⟩
    · rw [e]
      cases b with
      | true =>
        show evK (compA G x) t (fun v => pK (pfn Value d) ih v t h) = doneR sz mks ih t d (opDone call round h (onlyV (Out.ofV h (ev G ⟨sz, t, mks⟩ x))))
        exact ev_move call round sz mks x d ih t h
      | false =>
        show evK (compA G y) t (fun v => pK (pfn Value d) ih v t h) = doneR sz mks ih t d (opDone call round h (onlyV (Out.ofV h (ev G ⟨sz, t, mks⟩ y))))
        exact ev_move call round sz mks y d ih t h
    · rw [e]
      cases v with
      | bool b => exact absurd rfl (hn b)
      | _ => rfl
theorem ptrOf_spec (v : Value) : (∃ k o, v = .pointer (some ⟨k, o, none⟩) ∧ ptrOf v = some (k, o)) ∨ ((∀ k o, v ≠ .pointer (some ⟨k, o, none⟩)) ∧ ptrOf v = none) := by
  cases v with
  | pointer a =>
    cases a with
    | none => exact .inr ⟨fun k o h => (by cases h), rfl⟩
    | some x =>
      obtain ⟨k, o, s⟩ := x
      cases s with
      | none => exact .inl ⟨k, o, rfl, rfl⟩
      | some _ => exact .inr ⟨fun k o h => (by cases h), rfl⟩
  | _ => exact .inr ⟨fun k o h => (by cases h), rfl⟩
theorem st_eq {ty : TypeId} {n : Nat} (hn : size P ty = some n) (x y : Operand) (ih : Kk) (t : T Value) (h : Hp) :
    aSt n (compA G x) (compA G y) ih t h = doneN sz mks ih t (opDone call round h (onlyV (opStore P G ⟨sz, t, mks⟩ h ty x y))) := by
  unfold aSt opStore
  rw [evK_eq sz t mks]
  cases ev G ⟨sz, t, mks⟩ x with
  | none => rfl
  | some a =>
    simp only
    rw [evK_eq sz t mks]
    cases ev G ⟨sz, t, mks⟩ y with
    | none =>
      rcases ptrOf_spec a with ⟨k, o, rfl, e⟩ | ⟨hne, e⟩
      · rfl
      · cases a with
        | pointer a =>
          cases a with
          | none => rfl
          | some x => obtain ⟨k, o, s⟩ := x; cases s <;> rfl
        | _ => rfl
    | some v =>
      simp only
      rcases ptrOf_spec a with ⟨k, o, rfl, e⟩ | ⟨hne, e⟩
      · rw [e, hn]
        simp only
        rw [cellsF_len, wrF_eq, cellsF_eq]
        cases Nat.beq v.cells.size n with
        | false => rfl
        | true =>
          show (Option.rec .fail (fun h => ih t h) (h.wr k o v.cells.toList) : Res) = _
          simp only [cond_true]
          cases h.wr k o v.cells.toList <;> rfl
      · rw [e]
        cases a with
        | pointer a =>
          cases a with
          | none => rfl
          | some x =>
            obtain ⟨k, o, s⟩ := x
            cases s with
            | none => exact absurd rfl (hne k o)
            | some _ => rfl
        | _ => rfl
theorem evs_consF (e : En) (x : Operand) (l : List Operand) : evs G e (x :: l) = (match ev G e x with
    | some v => (match evs G e l with | some l => some (v :: l) | none => none)
    | none => none) := rfl
theorem evL_eq (t : T Value) : ∀ (l : List Operand) (k : List Value → Res), evL t (l.map (compA G)) k = (match evs G ⟨sz, t, mks⟩ l with | some vs => k vs | none => .fail)
  | [], k => rfl
  | x :: l, k => by
    show evK (compA G x) t (fun v => evL t (l.map (compA G)) fun vs => k (v :: vs)) = _
    rw [evK_eq sz t mks, evs_consF]
    cases ev G ⟨sz, t, mks⟩ x with
    | none => rfl
    | some v =>
      simp only
      rw [evL_eq t l]
      cases evs G ⟨sz, t, mks⟩ l <;> rfl
theorem callee_spec {c : Call} {f : FuncId} (hc : callee c = some f) : c.callee = .value (.func f) := by
  unfold callee at hc
  split at hc
  · rename_i h; simp only [Option.some.injEq] at hc; subst hc; exact h
  · cases hc
theorem opCall_fn {c : Call} {f : FuncId} (hc : callee c = some f) (e : En) (h : Hp) (ty : TypeId) : opCall P G e h c ty = (match evs G e c.args.toList with | some vs => .call f vs | none => .fail) := by
  unfold opCall
  rw [callee_spec hc]
  cases evs G e c.args.toList with
  | none => rfl
  | some vs =>
    show Out.call f ([] ++ (vs ++ [])) = _
    simp
theorem isLen_spec {c : Call} {x : Operand} (hc : isLen c = some x) : c.callee = .builtin .len ∧ c.args.toList = [x] := by
  unfold isLen at hc
  split at hc
  · rename_i h1 h2; simp only [Option.some.injEq] at hc; subst hc; exact ⟨h1, h2⟩
  · cases hc
theorem len_eq {c : Call} {x : Operand} (hc : isLen c = some x) (e : En) (h : Hp) (ty : TypeId) : (ev G e x = none → opCall P G e h c ty = .fail) ∧ ∀ a, ev G e x = some a → opCall P G e h c ty = Out.ofV h (lenF P c.argTypes h a) := by
  obtain ⟨h1, h2⟩ := isLen_spec hc
  unfold opCall
  rw [h1, h2, evs_consF]
  refine ⟨fun he => by rw [he], fun a he => ?_⟩
  rw [he]
  show (match opLen P h c.argTypes [a] with | .value v h => .value v h | _ => .fail) = Out.ofV h (outV (opLen P h c.argTypes [a]))
  rcases len_keep h c.argTypes [a] with ⟨v, e⟩ | e <;> rw [e] <;> rfl
theorem evp_consF (e : En) (p : Nat × Operand) (l : List (Nat × Operand)) : evp G e (p :: l) = (match ev G e p.2 with
    | some v => (match evp G e l with | some l => some ((p.1, v) :: l) | none => none)
    | none => none) := rfl
theorem fillL_consF (place : Nat → Option (Nat × Nat)) (p : Nat × Value) (l : List (Nat × Value)) (cells : List Value) : fillL place (p :: l) cells = (match place p.1 with
    | some q => cond (Nat.beq p.2.cells.size q.2) (match over cells q.1 p.2.cells.toList with | some r => fillL place l r | none => none) none
    | none => none) := rfl
theorem partsF_cons (fs : Array Field) (p : Nat × Operand) (l : List (Nat × Operand)) : partsF P G fs (p :: l) = (match placeS P fs p.1, partsF P G fs l with | some q, some r => some ((compA G p.2, q) :: r) | _, _ => none) := rfl
theorem bdK_eq (fs : Array Field) (t : T Value) (k : List Value → Res) : ∀ (parts : List (Nat × Operand)) (l : List (MA × Nat × Nat)), partsF P G fs parts = some l → ∀ cells, bdK t l k cells = (match evp G ⟨sz, t, mks⟩ parts with
      | some ps => (match fillL (placeS P fs) ps cells with | some r => k r | none => .fail)
      | none => .fail)
  | [], l, hl, cells => by
    have : some ([] : List (MA × Nat × Nat)) = some l := hl
    simp only [Option.some.injEq] at this; subst this; rfl
  | p :: parts, l, hl, cells => by
    rw [partsF_cons] at hl
    split at hl
    · rename_i q r hq hr
      simp only [Option.some.injEq] at hl
      subst hl
      show evK (compA G p.2) t (fun v => Bool.rec .fail (Option.rec .fail (bdK t r k) (overF cells q.1 (cellsF v))) (Nat.beq (lenN (cellsF v)) q.2)) = _
      rw [evK_eq sz t mks, evp_consF]
      cases ev G ⟨sz, t, mks⟩ p.2 with
      | none => rfl
      | some v =>
        simp only
        have ih := bdK_eq fs t k parts r hr
        rw [cellsF_len, cellsF_eq, overF_eq]
        cases hp : evp G ⟨sz, t, mks⟩ parts with
        | none =>
          simp only
          cases Nat.beq v.cells.size q.2 with
          | false => rfl
          | true =>
            show (Option.rec .fail (bdK t r k) (over cells q.1 v.cells.toList) : Res) = .fail
            cases over cells q.1 v.cells.toList with
            | none => rfl
            | some cs => show bdK t r k cs = .fail; rw [ih cs, hp]
        | some ps =>
          simp only
          rw [fillL_consF, hq]
          simp only
          cases Nat.beq v.cells.size q.2 with
          | false => rfl
          | true =>
            simp only [cond_true]
            show (Option.rec .fail (bdK t r k) (over cells q.1 v.cells.toList) : Res) = _
            cases over cells q.1 v.cells.toList with
            | none => rfl
            | some cs => show bdK t r k cs = _; rw [ih cs, hp]
    · cases hl
theorem bd_eq {ty : TypeId} {z : Value} {fs : Array Field} {parts : List (Nat × Operand)} {l : List (MA × Nat × Nat)} (hz : zero P ty = some z) (hu : P.underlying ty = some (.struct fs)) (hs : sizesOk P fs = true) (hl : partsF P G fs parts = some l) (d : Nat) (ih : Kk) (t : T Value) (h : Hp) :
    aBd l z.cells.toList (pfn Value d) ih t h = doneR sz mks ih t d (opDone call round h (onlyV (opBuild P G ⟨sz, t, mks⟩ h ty parts))) := by
  unfold aBd opBuild
  rw [bdK_eq sz mks fs t _ parts l hl, hz, hu]
  cases evp G ⟨sz, t, mks⟩ parts with
  | none => rfl
  | some ps =>
    simp only
    rw [hs]
    simp only [cond_true]
    cases fillL (placeS P fs) ps z.cells.toList with
    | none => rfl
    | some r => exact pK_eq d ih _ t h
theorem appF_eq {α : Type} (r l : List α) : appF r l = r ++ l := by
  induction r with
  | nil => rfl
  | cons x r ih => show x :: appF r l = x :: (r ++ l); rw [ih]
theorem appXF_eq (h : Hp) (es : Nat) (v : Value) : appXF h es v = appX h es v := by
  cases v with
  | slice a n c =>
    cases a with
    | none => rfl
    | some x =>
      obtain ⟨k, o, sp⟩ := x
      cases sp with
      | some _ => rfl
      | none =>
        show cond (Nat.beq es c) (rdF h k o (Nat.mul n es)) none = cond (Nat.beq es c) (h.rd k o (Nat.mul n es)) none
        rw [rdF_eq]
  | _ => rfl
theorem appToF_eq (h : Hp) (es n c : Nat) (vs : List Value) (m : Nat) (a : Option Addr) : appToF h es n c vs m a = appTo h es n c vs m a := by
  cases a with
  | none => rfl
  | some x =>
    obtain ⟨k, o, sp⟩ := x
    cases sp with
    | some _ => rfl
    | none =>
      show (match h.t.get k with
        | some (.cells us) => (match cutF us o (Nat.mul n es) with
          | some old => cond (allOne vs && Nat.beq c es) (outRow (h.set k .dead) (appF old vs) m es) .fail
          | none => .fail)
        | _ => .fail) = (match h.t.get k with
        | some (.cells us) => (match cut us o (Nat.mul n es) with
          | some old => cond (vs.all one && Nat.beq c es) (outRow (h.set k .dead) (old ++ vs) m es) .fail
          | none => .fail)
        | _ => .fail)
      cases h.t.get k with
      | none => rfl
      | some q =>
        cases q with
        | cells us =>
          simp only
          rw [cutF_eq, allOne_eq]
          cases cut us o (Nat.mul n es) with
          | none => rfl
          | some old => simp only; rw [appF_eq]
        | _ => rfl
theorem appBodyF_eq (h : Hp) (el : TypeId) (a : Option Addr) (n c : Nat) (x : Value) : appBodyF P h el a n c x = appBody P h el a n c x := by
  unfold appBodyF appBody
  cases size P el with
  | none => rfl
  | some es =>
    cases zero P el with
    | none => rfl
    | some z =>
      cases P.info? el with
      | none => rfl
      | some i =>
        simp only
        rw [appXF_eq]
        cases appX h es x with
        | none => rfl
        | some vs =>
          cases vs with
          | nil => rfl
          | cons v vs => simp only; rw [lenN_eq, appToF_eq]
theorem appendF_eq (ts : Array TypeId) (l : List Value) (h : Hp) : appendF P ts l h = opAppend P h ts l := by
  match l with
  | [.slice a n c, x] =>
    show (match ts[0]?, ts[1]? with
      | some st, some xt => (match elemOf P st with
        | some el => cond (sliceOrString P xt) (appBodyF P h el a n c x) .fail
        | none => .fail)
      | _, _ => .fail) = (match ts[0]?, ts[1]? with
      | some st, some xt => (match elemOf P st with
        | some el => cond (sliceOrString P xt) (appBody P h el a n c x) .fail
        | none => .fail)
      | _, _ => .fail)
    cases ts[0]? with
    | none => rfl
    | some st =>
      cases ts[1]? with
      | none => rfl
      | some xt =>
        simp only
        cases elemOf P st with
        | none => rfl
        | some el => simp only; rw [appBodyF_eq]
  | [] => rfl
  | [v] => cases v <;> rfl
  | v :: x :: y :: l => cases v <;> rfl
  | [.bool _, _] => rfl
  | [.int _ _, _] => rfl
  | [.float _ _, _] => rfl
  | [.complex _ _ _, _] => rfl
  | [.string _, _] => rfl
  | [.pointer _, _] => rfl
  | [.map _, _] => rfl
  | [.chan _, _] => rfl
  | [.func _ _ _, _] => rfl
  | [.nilFunc, _] => rfl
  | [.iface _ _, _] => rfl
  | [.nilIface, _] => rfl
  | [.agg _, _] => rfl
  | [.tuple _, _] => rfl
theorem intOf_kind {v : Value} {q : Nat × Nat} (h : intOf v = some q) : ∃ k, v = .int k (.ofNat q.2) ∧ kidx k = q.1 := by
  unfold intOf at h
  split at h
  · rename_i k n
    simp only [Option.some.injEq] at h
    subst h
    exact ⟨k, rfl, rfl⟩
  · cases h
theorem two_eq (l : List Value) (h : Hp) (slow : Out) (f : Nat → Nat → Bool) (hs : ∀ k m n, l = [.int k (.ofNat m), .int k (.ofNat n)] → slow = .value (Bool.rec (.int k (.ofNat m)) (.int k (.ofNat n)) (f m n)) h) : two l h slow f = slow := by
  unfold two
  split
  · rename_i a b
    cases ha : intOf a with
    | none => rfl
    | some p =>
      cases hb : intOf b with
      | none => rfl
      | some q =>
        cases hk : Nat.beq p.1 q.1 with
        | false => simp only [hk]
        | true =>
          obtain ⟨k, rfl, k1⟩ := intOf_kind ha
          obtain ⟨k', rfl, k2⟩ := intOf_kind hb
          have : k = k' := kidx_inj (by rw [k1, k2]; exact Nat.eq_of_beq_eq_true hk)
          subst this
          simp only [hk]
          exact (hs k p.2 q.2 rfl).symm
  · rfl
theorem two_min (l : List Value) (h : Hp) : two l h (minS P l h) (fun m n => Nat.blt n m) = minS P l h := by
  refine two_eq l h _ _ fun k m n e => ?_
  subst e
  show Out.ofV h (some (.int k (if (Int.ofNat n) < (Int.ofNat m) then Int.ofNat n else Int.ofNat m))) = _
  cases hb : Nat.blt n m with
  | true =>
    have : n < m := by rw [blt_dec] at hb; simpa using hb
    rw [if_pos (by simpa using this)]
    rfl
  | false =>
    have : ¬ n < m := by rw [blt_dec] at hb; simpa using hb
    rw [if_neg (by simpa using this)]
    rfl
theorem two_max (l : List Value) (h : Hp) : two l h (maxS P l h) (fun m n => Nat.blt m n) = maxS P l h := by
  refine two_eq l h _ _ fun k m n e => ?_
  subst e
  show Out.ofV h (some (.int k (if (Int.ofNat m) < (Int.ofNat n) then Int.ofNat n else Int.ofNat m))) = _
  cases hb : Nat.blt m n with
  | true =>
    have : m < n := by rw [blt_dec] at hb; simpa using hb
    rw [if_pos (by simpa using this)]
    rfl
  | false =>
    have : ¬ m < n := by rw [blt_dec] at hb; simpa using hb
    rw [if_neg (by simpa using this)]
    rfl
theorem blt_eq {c : Call} {F : List Value → Hp → Out} (hF : bltF P c = some F) (e : En) (h : Hp) (ty : TypeId) : (evs G e c.args.toList = none → opCall P G e h c ty = .fail) ∧ ∀ vs, evs G e c.args.toList = some vs → opCall P G e h c ty = onlyV (F vs h) := by
  unfold bltF at hF
  split at hF
  · rename_i hc
    simp only [Option.some.injEq] at hF
    subst hF
    unfold opCall
    rw [hc]
    refine ⟨fun he => by rw [he], fun vs he => ?_⟩
    rw [he, appendF_eq]
    show (match opAppend P h c.argTypes vs with | .value v h => .value v h | _ => .fail) = onlyV (opAppend P h c.argTypes vs)
    cases opAppend P h c.argTypes vs <;> rfl
  · rename_i hc
    simp only [Option.some.injEq] at hF
    subst hF
    unfold opCall
    rw [hc]
    refine ⟨fun he => by rw [he], fun vs he => ?_⟩
    rw [he]
    show _ = onlyV (two vs h (minS P vs h) (fun m n => Nat.blt n m))
    rw [two_min]
    show (match minS P vs h with | .value v h => .value v h | _ => .fail) = onlyV (minS P vs h)
    cases minS P vs h <;> rfl
  · rename_i hc
    simp only [Option.some.injEq] at hF
    subst hF
    unfold opCall
    rw [hc]
    refine ⟨fun he => by rw [he], fun vs he => ?_⟩
    rw [he]
    show _ = onlyV (two vs h (maxS P vs h) (fun m n => Nat.blt m n))
    rw [two_max]
    show (match maxS P vs h with | .value v h => .value v h | _ => .fail) = onlyV (maxS P vs h)
    cases maxS P vs h <;> rfl
  · cases hF
theorem mo_eq (l : List Operand) (F : List Value → Hp → Out) (d : Nat) (ih : Kk) (t : T Value) (h : Hp) (out : Out)
    (h0 : evs G ⟨sz, t, mks⟩ l = none → out = .fail) (h1 : ∀ vs, evs G ⟨sz, t, mks⟩ l = some vs → out = onlyV (F vs h)) :
    aMo (l.map (compA G)) F (pfn Value d) ih t h = doneR sz mks ih t d (opDone call round h out) := by
  unfold aMo
  rw [evL_eq sz mks]
  cases he : evs G ⟨sz, t, mks⟩ l with
  | none => rw [h0 he]; rfl
  | some vs =>
    rw [h1 vs he]
    show (Out.rec (fun v h => pK (pfn Value d) ih v t (fl h)) (fun _ _ => .fail) (fun _ _ => .fail) .fail (F vs h) : Res) = _
    cases F vs h with
    | value v h2 => show pK (pfn Value d) ih v t (fl h2) = _; rw [fl_eq]; exact pK_eq d ih v t h2
    | _ => rfl
theorem evO_eq (sz : Nat) (t : T Value) (mks : List DI) (x : Operand) : evO (compA G x) t = ev G ⟨sz, t, mks⟩ x := by
  cases x with
  | tmp i => rfl
  | const v =>
    show evO (Bool.rec .bad (.val v) (constOk v)) t = cond (constOk v) (some v) none
    cases constOk v <;> rfl
  | global g =>
    show evO (Bool.rec .bad (.val (.pointer (some ⟨g, 0, none⟩))) (Nat.blt g G.n)) t = cond (Nat.blt g G.n) (some (.pointer (some ⟨g, 0, none⟩))) none
    cases Nat.blt g G.n <;> rfl
  | func f => rfl
theorem calleeV_spec {c : Call} {f : Operand} (hc : calleeV c = some f) : c.callee = .value f := by
  unfold calleeV at hc
  split at hc
  · rename_i h; simp only [Option.some.injEq] at hc; subst hc; exact h
  · cases hc
theorem opCall_val {c : Call} {f : Operand} (hc : calleeV c = some f) (e : En) (h : Hp) (ty : TypeId) : opCall P G e h c ty = (match evs G e c.args.toList with | some vs => callV vs (ev G e f) | none => .fail) := by
  unfold opCall
  rw [calleeV_spec hc]
  cases evs G e c.args.toList <;> rfl
theorem evs_append (e : En) : ∀ (l r : List Operand), evs G e (l ++ r) = (match evs G e l, evs G e r with | some a, some b => some (a ++ b) | _, _ => none)
  | [], r => by
    show evs G e r = (match some [], evs G e r with | some a, some b => some (a ++ b) | _, _ => none)
    cases evs G e r <;> rfl
  | x :: l, r => by
    have ih := evs_append e l r
    show evs G e (x :: (l ++ r)) = _
    rw [evs_consF, evs_consF, ih]
    cases ev G e x with
    | none => rfl
    | some v =>
      cases evs G e l with
      | none => rfl
      | some a => cases evs G e r <;> rfl
theorem evs_len (e : En) : ∀ (l : List Operand) (vs : List Value), evs G e l = some vs → vs.length = l.length
  | [], vs, h => by
    have h' : some ([] : List Value) = some vs := h
    simp only [Option.some.injEq] at h'; subst h'; rfl
  | x :: l, vs, h => by
    rw [evs_consF] at h
    split at h
    · split at h
      · rename_i q hq
        simp only [Option.some.injEq] at h; subst h
        simp [evs_len e l q hq]
      · cases h
    · cases h
theorem evp_zip (e : En) : ∀ (l : List (Nat × Operand)), evp G e l = (match evs G e (l.map (·.2)) with | some vs => some ((l.map (·.1)).zip vs) | none => none)
  | [] => rfl
  | q :: l => by
    have ih := evp_zip e l
    rw [evp_consF]
    show _ = (match evs G e (q.2 :: l.map (fun (q : Nat × Operand) => q.2)) with | some vs => some ((q.1 :: l.map (fun (q : Nat × Operand) => q.1)).zip vs) | none => none)
    rw [evs_consF, ih]
    cases ev G e q.2 with
    | none => rfl
    | some v => cases evs G e (l.map (fun (q : Nat × Operand) => q.2)) <;> rfl
theorem ev_one {e : En} {x : Operand} : evs G e [x] = (match ev G e x with | some v => some [v] | none => none) := by
  rw [evs_consF]
  cases ev G e x <;> rfl
theorem compOp_eq (o : Oper) (hg : o.guard = none) {d : Nat} (hd : o.dst = some d) (hb : Nat.blt d sz = true) (ih : Kk) (t : T Value) (h : Hp) :
    runOne (P := P) (G := G) call round all sz mks (compOp P G o (pfn Value d)) ih t h = aGen P G call round all sz mks o ih t h := by
  have hgen := gen_dst (P := P) (G := G) call round all sz mks hg hd hb ih t h
  unfold compOp
  split
  · rename_i x ho
    rw [hgen (by rw [ho]; rfl)]; unfold opC; rw [ho]
    exact ev_move call round sz mks x d ih t h
  · rename_i x ho
    rw [hgen (by rw [ho]; rfl)]; unfold opC; rw [ho]
    exact ev_move call round sz mks x d ih t h
  · rename_i op ty x y yt ho
    rw [hgen (by rw [ho]; rfl)]; unfold opC; rw [ho]
    refine v2_eq call round sz mks x y _ d ih t h _ (fun e => ?_) (fun e => ?_) fun a b ea eb => ?_
    · show onlyV (opBin P G ⟨sz, t, mks⟩ h op ty x y) = .fail
      unfold opBin; rw [e]; rfl
    · show onlyV (opBin P G ⟨sz, t, mks⟩ h op ty x y) = .fail
      unfold opBin; rw [e]; cases ev G ⟨sz, t, mks⟩ x <;> rfl
    · show onlyV (opBin P G ⟨sz, t, mks⟩ h op ty x y) = _
      unfold opBin
      rw [ea, eb, fast_eq]
      exact onlyV_ofV _ _
  · rename_i ty x ho
    split
    · rename_i n h1 h2
      rw [hgen (by rw [ho]; rfl)]; unfold opC; rw [ho]
      refine v1_eq call round sz mks x _ d ih t h _ (fun e => ?_) fun a ea => ?_
      · show onlyV (match ev G ⟨sz, t, mks⟩ x with | some p => .ofV h (ld P h ty p) | none => .fail) = .fail
        rw [e]; rfl
      · show onlyV (match ev G ⟨sz, t, mks⟩ x with | some p => .ofV h (ld P h ty p) | none => .fail) = _
        rw [ea, ldAF_eq h1 h2]; exact onlyV_ofV _ _
    · rename_i h1
      rw [hgen (by rw [ho]; rfl)]; unfold opC; rw [ho]
      refine v1_eq call round sz mks x _ d ih t h _ (fun e => ?_) fun a ea => ?_
      · show onlyV (match ev G ⟨sz, t, mks⟩ x with | some p => .ofV h (ld P h ty p) | none => .fail) = .fail
        rw [e]; rfl
      · show onlyV (match ev G ⟨sz, t, mks⟩ x with | some p => .ofV h (ld P h ty p) | none => .fail) = _
        rw [ea, ld1F_eq h1]; exact onlyV_ofV _ _
    · rfl
  · rename_i ty x f ho
    split
    · rename_i off hf
      rw [hgen (by rw [ho]; rfl)]; unfold opC; rw [ho]
      refine v1_eq call round sz mks x _ d ih t h _ (fun e => ?_) fun a ea => ?_
      · show onlyV (opFieldAddr P G ⟨sz, t, mks⟩ h ty x f) = .fail
        unfold opFieldAddr; rw [e]; rfl
      · show onlyV (opFieldAddr P G ⟨sz, t, mks⟩ h ty x f) = _
        rw [fld_eq hf _ h x a ea]; exact onlyV_ofV _ _
    · rfl
  · rename_i x ho
    rw [hgen (by rw [ho]; rfl)]; unfold opC; rw [ho]
    refine v1_eq call round sz mks x _ d ih t h _ (fun e => ?_) fun a ea => ?_
    · show onlyV (nilCheckV h (ev G ⟨sz, t, mks⟩ x)) = .fail
      rw [e]; rfl
    · show onlyV (nilCheckV h (ev G ⟨sz, t, mks⟩ x)) = _
      rw [ea, nil_eq]; exact onlyV_ofV _ _
  · rename_i op ty x ho
    rw [hgen (by rw [ho]; rfl)]; unfold opC; rw [ho]
    refine v1_eq call round sz mks x _ d ih t h _ (fun e => ?_) fun a ea => ?_
    · show onlyV (opUn P G ⟨sz, t, mks⟩ h op x) = .fail
      unfold opUn; rw [e]; rfl
    · show onlyV (opUn P G ⟨sz, t, mks⟩ h op x) = _
      unfold opUn; rw [ea]; simp only; rw [un_eq]; exact onlyV_ofV _ _
  · rename_i ty x y ho
    rw [hgen (by rw [ho]; rfl)]; unfold opC; rw [ho]
    refine v2_eq call round sz mks x y _ d ih t h _ (fun e => ?_) (fun e => ?_) fun a b ea eb => ?_
    · show onlyV (opIndexAddr P G ⟨sz, t, mks⟩ h ty x y) = .fail
      unfold opIndexAddr; rw [e]; rfl
    · show onlyV (opIndexAddr P G ⟨sz, t, mks⟩ h ty x y) = .fail
      unfold opIndexAddr; rw [e]; cases ev G ⟨sz, t, mks⟩ x <;> rfl
    · show onlyV (opIndexAddr P G ⟨sz, t, mks⟩ h ty x y) = _
      rw [idx_eq _ h ty x y a b ea eb]; exact onlyV_ofV _ _
  · rename_i c x y ho
    rw [hgen (by rw [ho]; rfl)]; unfold opC; rw [ho]
    exact pk_eq call round sz mks c x y d ih t h
  · rename_i ty ho
    split
    · rename_i z hz
      rw [hgen (by rw [ho]; rfl)]; unfold opC; rw [ho]
      show newK z.cells.toList (pfn Value d) ih t h = doneR sz mks ih t d (opDone call round h (onlyV (opAlloc P h ty)))
      unfold opAlloc; rw [hz]
      exact newK_eq call round sz mks z.cells.toList d ih t h
    · rfl
  · rename_i ty parts ho
    split
    · rename_i z fs hz hu
      cases hs : sizesOk P fs with
      | false => rfl
      | true =>
        simp only [cond_true]
        split
        · rename_i l hl
          rw [hgen (by rw [ho]; rfl)]; unfold opC; rw [ho]
          exact bd_eq call round sz mks hz hu hs hl d ih t h
        · rfl
    · rfl
  · rename_i ty x ho
    rw [hgen (by rw [ho]; rfl)]; unfold opC; rw [ho]
    show evK (compA G x) t (fun v => newK (cellsF v) (pfn Value d) ih t h) = doneR sz mks ih t d (opDone call round h (onlyV (opBox G ⟨sz, t, mks⟩ h x)))
    unfold opBox
    rw [evK_eq sz t mks]
    cases ev G ⟨sz, t, mks⟩ x with
    | none => rfl
    | some v => simp only; rw [cellsF_eq]; exact newK_eq call round sz mks _ d ih t h
  · rename_i c ho
    split
    · rename_i f hf
      rw [hgen (by rw [ho]; rfl)]; unfold opC; rw [ho]
      show evL t (c.args.toList.map (compA G)) (fun vs => CRes.rec (fun v h => pK (pfn Value d) ih v t h) .fail (fun v h => .ok (.pan v) ⟨sz, t, mks⟩ h) (call f vs h)) = doneR sz mks ih t d (opDone call round h (opCall P G ⟨sz, t, mks⟩ h c o.type))
      rw [opCall_fn hf, evL_eq sz mks]
      cases evs G ⟨sz, t, mks⟩ c.args.toList with
      | none => rfl
      | some vs =>
        show (CRes.rec (fun v h => pK (pfn Value d) ih v t h) .fail (fun v h => .ok (.pan v) ⟨sz, t, mks⟩ h) (call f vs h) : Res) = doneR sz mks ih t d (call f vs h)
        cases call f vs h with
        | fail => rfl
        | panic v h2 => rfl
        | ok v h2 => exact pK_eq d ih v t h2
    · split
      · rename_i x hx
        rw [hgen (by rw [ho]; rfl)]; unfold opC; rw [ho]
        have hl := len_eq (P := P) (G := G) hx ⟨sz, t, mks⟩ h o.type
        exact v1_eq call round sz mks x _ d ih t h _ hl.1 hl.2
      · split
        · rename_i F hF
          rw [hgen (by rw [ho]; rfl)]; unfold opC; rw [ho]
          have hb := blt_eq (P := P) (G := G) hF ⟨sz, t, mks⟩ h o.type
          exact mo_eq call round sz mks c.args.toList F d ih t h _ hb.1 hb.2
        · split
          · rename_i f hf
            rw [hgen (by rw [ho]; rfl)]; unfold opC; rw [ho]
            show evL t (c.args.toList.map (compA G)) (fun vs => CRes.rec (fun v h => pK (pfn Value d) ih v t h) .fail (fun v h => .ok (.pan v) ⟨sz, t, mks⟩ h) (opDone call round h (callV vs (evO (compA G f) t)))) = doneR sz mks ih t d (opDone call round h (opCall P G ⟨sz, t, mks⟩ h c o.type))
            rw [opCall_val hf, evL_eq sz mks, evO_eq sz t mks]
            cases evs G ⟨sz, t, mks⟩ c.args.toList with
            | none => rfl
            | some vs =>
              simp only
              cases opDone call round h (callV vs (ev G ⟨sz, t, mks⟩ f)) with
              | fail => rfl
              | panic v h2 => rfl
              | ok v h2 => exact pK_eq d ih v t h2
          · rfl
  · rename_i src dst x ho
    rw [hgen (by rw [ho]; rfl)]; unfold opC; rw [ho]
    refine mo_eq call round sz mks [x] (convF P src dst) d ih t h _ (fun e => ?_) fun vs e => ?_
    · show onlyV (opConv P G ⟨sz, t, mks⟩ h src dst x) = .fail
      rw [ev_one] at e
      unfold opConv
      split at e
      · cases e
      · rename_i he; rw [he]; rfl
    · show onlyV (opConv P G ⟨sz, t, mks⟩ h src dst x) = _
      rw [ev_one] at e
      unfold opConv
      split at e
      · rename_i v he
        simp only [Option.some.injEq] at e; subst e
        rw [he]; rfl
      · cases e
  · rename_i ty x ho
    split
    · rfl
    · rename_i du hnot hu
      rw [hgen (by rw [ho]; rfl)]; unfold opC; rw [ho]
      refine v1_eq call round sz mks x _ d ih t h _ (fun e => ?_) fun a ea => ?_
      · show onlyV (opIface P G ⟨sz, t, mks⟩ h ty x) = .fail
        unfold opIface; rw [e]; rfl
      · show onlyV (opIface P G ⟨sz, t, mks⟩ h ty x) = _
        unfold opIface; rw [ea, hu]
        cases hdu : du with
        | interface m => exact (hnot m hdu).elim
        | _ => rfl
    · rfl
  · rename_i x xt ty ok ho
    rw [hgen (by rw [ho]; rfl)]; unfold opC; rw [ho]
    have hun : ∀ a, (match some a, P.underlying ty with
      | some _, some (.interface _) => Out.fail
      | some a, some _ => assertV P h ty ok a
      | _, _ => .fail) = assertF P ty ok [a] h := by
      intro a
      unfold assertF
      simp only
      cases P.underlying ty with
      | none => rfl
      | some du => cases du <;> rfl
    refine mo_eq call round sz mks [x] (assertF P ty ok) d ih t h _ (fun e => ?_) fun vs e => ?_
    · show onlyV (opAssert P G ⟨sz, t, mks⟩ h x ty ok) = .fail
      rw [ev_one] at e
      unfold opAssert
      split at e
      · cases e
      · rename_i he; rw [he]; rfl
    · show onlyV (opAssert P G ⟨sz, t, mks⟩ h x ty ok) = _
      rw [ev_one] at e
      unfold opAssert
      split at e
      · rename_i v he
        simp only [Option.some.injEq] at e; subst e
        rw [he, ← hun v]; rfl
      · cases e
  · rename_i ty x y ho
    rw [hgen (by rw [ho]; rfl)]; unfold opC; rw [ho]
    refine v2_eq call round sz mks x y _ d ih t h _ (fun e => ?_) (fun e => ?_) fun a b ea eb => ?_
    · show onlyV (opIndex P G ⟨sz, t, mks⟩ h ty x y) = .fail
      unfold opIndex; rw [e]; rfl
    · show onlyV (opIndex P G ⟨sz, t, mks⟩ h ty x y) = .fail
      unfold opIndex; rw [e]; cases ev G ⟨sz, t, mks⟩ x <;> rfl
    · show onlyV (opIndex P G ⟨sz, t, mks⟩ h ty x y) = _
      rw [indexF_eq]
      unfold opIndex
      rw [ea, eb]
      simp only
      cases (scalar a && scalar b) with
      | true => exact onlyV_ofV _ _
      | false => rfl
  · rename_i ty x y ho
    rw [hgen (by rw [ho]; rfl)]; unfold opC; rw [ho]
    refine mo_eq call round sz mks [x, y] (mkSlF P ty) d ih t h _ (fun e => ?_) fun vs e => ?_
    · show onlyV (opMakeSlice P G ⟨sz, t, mks⟩ h ty x y) = .fail
      rw [evs_consF, ev_one] at e
      unfold opMakeSlice
      split at e
      · rename_i v he
        split at e
        · cases e
        · rename_i h2
          have he2 : ev G ⟨sz, t, mks⟩ y = none := by
            cases h3 : ev G ⟨sz, t, mks⟩ y with
            | none => rfl
            | some u => rw [h3] at h2; cases h2
          rw [he2]
          split <;> first | rfl | (simp_all)
      · rename_i he
        rw [he]
        split <;> first | rfl | (simp_all)
    · show onlyV (opMakeSlice P G ⟨sz, t, mks⟩ h ty x y) = _
      rw [evs_consF, ev_one] at e
      split at e
      · rename_i v he
        split at e
        · rename_i l2 h2
          simp only [Option.some.injEq] at e; subst e
          split at h2
          · rename_i u he2
            simp only [Option.some.injEq] at h2; subst h2
            unfold opMakeSlice mkSlF
            rw [he, he2]
            simp only
            congr 1
            cases elemOf P ty with
            | none => rfl
            | some el =>
              cases v with
              | int k n =>
                cases k <;> cases n <;> first | rfl | (cases u with
                  | int k2 n2 => cases k2 <;> cases n2 <;> rfl
                  | _ => rfl)
              | _ => rfl
          · cases h2
        · cases e
      · cases e
  · rename_i fn first cap ho
    split
    · rename_i f
      rw [hgen (by rw [ho]; rfl)]; unfold opC; rw [ho]
      refine mo_eq call round sz mks (first.toList ++ cap.toList) (funcF f first.toList.length) d ih t h _ (fun e => ?_) fun vs e => ?_
      · show onlyV (opFunc G ⟨sz, t, mks⟩ h (.func f) first.toList cap.toList) = .fail
        rw [evs_append] at e
        unfold opFunc
        split at e
        · cases e
        · rename_i hno
          cases h1 : evs G ⟨sz, t, mks⟩ first.toList with
          | none => rfl
          | some a =>
            cases h2 : evs G ⟨sz, t, mks⟩ cap.toList with
            | none => rfl
            | some b => exact absurd h2 (hno a b h1)
      · show onlyV (opFunc G ⟨sz, t, mks⟩ h (.func f) first.toList cap.toList) = _
        rw [evs_append] at e
        unfold opFunc
        split at e
        · rename_i a b h1 h2
          simp only [Option.some.injEq] at e; subst e
          rw [h1, h2]
          have hl := evs_len _ _ _ h1
          unfold funcF
          rw [← hl, List.take_left, List.drop_left]
        · cases e
    · rfl
  · rename_i ty len parts ho
    rw [hgen (by rw [ho]; rfl)]; unfold opC; rw [ho]
    have hmap : (parts.toList.map fun q => compA G q.2) = (parts.toList.map (·.2)).map (compA G) := by rw [List.map_map]; rfl
    rw [hmap]
    refine mo_eq call round sz mks (parts.toList.map (·.2)) (bsF P ty len (parts.toList.map (·.1))) d ih t h _ (fun e => ?_) fun vs e => ?_
    · show onlyV (opBuildSlice P G ⟨sz, t, mks⟩ h ty len parts.toList) = .fail
      unfold opBuildSlice
      rw [evp_zip, e]
      cases elemOf P ty <;> rfl
    · show onlyV (opBuildSlice P G ⟨sz, t, mks⟩ h ty len parts.toList) = _
      unfold opBuildSlice bsF
      rw [evp_zip, e]
      cases elemOf P ty <;> rfl
  · rename_i x ix ho
    rw [hgen (by rw [ho]; rfl)]; unfold opC; rw [ho]
    refine v1_eq call round sz mks x _ d ih t h _ (fun e => ?_) fun a ea => ?_
    · show onlyV (opExtract G ⟨sz, t, mks⟩ h x ix) = .fail
      unfold opExtract; rw [e]; rfl
    · show onlyV (opExtract G ⟨sz, t, mks⟩ h x ix) = _
      rw [ext_eq _ h x ix a ea]; exact onlyV_ofV _ _
  · rename_i s x f ho
    rw [hgen (by rw [ho]; rfl)]; unfold opC; rw [ho]
    refine v1_eq (G := G) call round sz mks x (fun _ a => fieldV P s f a) d ih t h (onlyV (opField P G ⟨sz, t, mks⟩ h s x f)) (fun e => ?_) fun a ea => ?_
    · show onlyV (opField P G ⟨sz, t, mks⟩ h s x f) = .fail
      unfold opField; rw [e]; rfl
    · show onlyV (opField P G ⟨sz, t, mks⟩ h s x f) = _
      unfold opField; rw [ea]; exact onlyV_ofV _ _
  · rfl
theorem compNo_eq (o : Oper) (hg : o.guard = none) (hd : o.dst = none) (ih : Kk) (t : T Value) (h : Hp) :
    runOne (P := P) (G := G) call round all sz mks (compNo P G o) ih t h = aGen P G call round all sz mks o ih t h := by
  have hgen := gen_no (P := P) (G := G) call round all sz mks hg hd ih t h
  unfold compNo
  split
  · rename_i ty x y ho
    split
    · rename_i n hn
      rw [hgen (by rw [ho]; rfl)]; unfold opC; rw [ho]
      exact st_eq call round sz mks hn x y ih t h
    · rfl
  · rename_i c ho
    split
    · rename_i f hf
      rw [hgen (by rw [ho]; rfl)]; unfold opC; rw [ho]
      show evL t (c.args.toList.map (compA G)) (fun vs => CRes.rec (fun v h => ih t h) .fail (fun v h => .ok (.pan v) ⟨sz, t, mks⟩ h) (call f vs h)) = doneN sz mks ih t (opDone call round h (opCall P G ⟨sz, t, mks⟩ h c o.type))
      rw [opCall_fn hf, evL_eq sz mks]
      cases evs G ⟨sz, t, mks⟩ c.args.toList with
      | none => rfl
      | some vs =>
        show (CRes.rec (fun v h => ih t h) .fail (fun v h => .ok (.pan v) ⟨sz, t, mks⟩ h) (call f vs h) : Res) = doneN sz mks ih t (call f vs h)
        cases call f vs h <;> rfl
    · split
      · rename_i f hf
        rw [hgen (by rw [ho]; rfl)]; unfold opC; rw [ho]
        show evL t (c.args.toList.map (compA G)) (fun vs => CRes.rec (fun v h => ih t h) .fail (fun v h => .ok (.pan v) ⟨sz, t, mks⟩ h) (opDone call round h (callV vs (evO (compA G f) t)))) = doneN sz mks ih t (opDone call round h (opCall P G ⟨sz, t, mks⟩ h c o.type))
        rw [opCall_val hf, evL_eq sz mks, evO_eq sz t mks]
        cases evs G ⟨sz, t, mks⟩ c.args.toList with
        | none => rfl
        | some vs =>
          simp only
          cases opDone call round h (callV vs (ev G ⟨sz, t, mks⟩ f)) <;> rfl
      · rfl
  · rfl
theorem dstF_eq (sz : Nat) (dd : Option Nat) (k : Option (PF (Option Value) (T Value)) → M) (no : M) (Q : M → Prop) (hno : Q no)
    (hn : dd = none → Q (k none)) (hd : ∀ d, dd = some d → Nat.blt d sz = true → Q (k (some (pfn Value d)))) : Q (dstF sz dd k no) := by
  cases dd with
  | none => exact hn rfl
  | some d =>
    show Q (Bool.rec no (k (some (pfn Value d))) (Nat.blt d sz))
    cases hb : Nat.blt d sz with
    | false => exact hno
    | true => exact hd d rfl hb
theorem wanted_at {j : Nat} {d : Nat} {want : Bool} (hj : guardAt all j = some d) (t : T Value) :
    wantedC all ⟨sz, t, mks⟩ (some (j, want)) = (match t.get d with | some v => wantB v want | none => none) := by
  unfold guardAt at hj
  rw [nthF_get, Array.getElem?_toList] at hj
  unfold wantedC
  simp only
  cases ha : all[j]? with
  | none => rw [ha] at hj; cases hj
  | some o =>
    rw [ha] at hj
    have hj' : o.dst = some d := hj
    simp only
    rw [hj']
    simp only
    cases t.get d with
    | none => rfl
    | some v => cases v <;> rfl
/-- behind a guard that is told ahead -/
theorem gd_eq (o : Oper) {j d : Nat} {want : Bool} (hg : o.guard = some (j, want)) (hj : guardAt all j = some d) (hs : isSpec o.op = false) (m : M) (p : Option (PF (Option Value) (T Value)))
    (hp : (o.dst = none ∧ p = none) ∨ ∃ q, o.dst = some q ∧ Nat.blt q sz = true ∧ p = some (pfn Value q))
    (hm : ∀ (ih : Kk) (t : T Value) (h : Hp), runOne (P := P) (G := G) call round all sz mks m ih t h = aGen P G call round all sz mks { o with guard := none } ih t h)
    (ih : Kk) (t : T Value) (h : Hp) : runOne (P := P) (G := G) call round all sz mks (.gd (gfn Value d) want m p) ih t h = aGen P G call round all sz mks o ih t h := by
  show (Option.rec .fail (fun v => Option.rec .fail (fun c => Bool.rec (Option.rec (ih t h) (fun p => pK p ih undef t h) p) (runOne (P := P) (G := G) call round all sz mks m ih t h) c) (wantB v want)) (t.get d) : Res) = _
  rw [hm]
  have hsn : isSpec ({ o with guard := none } : Oper).op = false := hs
  unfold aGen oneOp
  rw [spec_none hs, spec_none hsn, hg, wanted_at all sz mks hj]
  cases t.get d with
  | none => rfl
  | some v =>
    simp only
    cases wantB v want with
    | none => rfl
    | some c =>
      cases c with
      | true => rfl
      | false =>
        simp only
        rcases hp with ⟨hd, rfl⟩ | ⟨q, hd, hb, rfl⟩
        · rw [hd]; rfl
        · rw [hd]
          show pK (pfn Value q) ih undef t h = (match cond (Nat.blt q sz) (some (⟨sz, T.put undef t q, mks⟩ : En)) none with | some e => ih e.t h | none => .fail)
          rw [hb, pK_eq]
          rfl
theorem bound_at (e : En) (n : Nat) (x : Operand) : bound G e n (some x) = (match ev G e x with | some v => natOf v | none => none) := rfl
theorem sliceV_G (e : En) (h : Hp) (ty : TypeId) (lo hi : Option Operand) (a : Value) : sliceV P G e h ty lo hi a = sliceG P h ty (fun n => bound G e n lo) (fun n => bound G e n hi) a := by
  cases a with
  | pointer p =>
    cases p with
    | none => rfl
    | some q => obtain ⟨b, o, s⟩ := q; cases s <;> rfl
  | _ => rfl
theorem sliceG_lo {h : Hp} {ty : TypeId} {lo hi : Nat → Option Nat} {a : Value} (hl : lo 0 = none) : sliceG P h ty lo hi a = .fail := by
  unfold sliceG
  rw [hl]
  split
  · split
    · rename_i h1 _; cases h1
    · rfl
  · split
    · rename_i h1 _; cases h1
    · rfl
  · split
    · split
      · rename_i h1 _; cases h1
      · rfl
    · rfl
  · rfl
theorem sliceG_hi {h : Hp} {ty : TypeId} {lo hi : Nat → Option Nat} {a : Value} (hl : ∀ n, hi n = none) : sliceG P h ty lo hi a = .fail := by
  unfold sliceG
  split
  · rw [hl]
    split
    · rename_i h1; cases h1
    · rfl
  · rw [hl]
    split
    · rename_i h1; cases h1
    · rfl
  · split
    · rw [hl]
      split
      · rename_i h1; cases h1
      · rfl
    · rfl
  · rfl
theorem sliceX_eq {e : En} {h : Hp} {ty : TypeId} {lo hi : Option Operand} {a : Value} (lv hv : Option Value) (h1 : ∀ n, bound G e n lo = bv lv n) (h2 : ∀ n, bound G e n hi = bv hv n) :
    sliceV P G e h ty lo hi a = Option.rec (sliceG P h ty (bv lv) (bv hv) a) (fun s => sliceS P ty s lv hv h) (strOf a) := by
  rw [sliceV_G, funext h1, funext h2]
  cases a with
  | string s =>
    show _ = sliceS P ty s.data.toList lv hv h
    unfold sliceG sliceS
    rw [lenN_eq]
    simp only [cutS_eq]
  | _ => rfl
theorem compOpR_same (o : Oper) (p : PF (Option Value) (T Value)) (hn : ∀ t x lo hi mx, o.op ≠ .slice t x lo hi mx) : compOpR P G o p = compOp P G o p := by
  obtain ⟨d, op, ty, ps, af, g⟩ := o
  cases op <;> first | rfl | exact absurd rfl (hn _ _ _ _ _)
theorem compNoR_same (o : Oper) : compNoR P G o = compNo P G o := by
  obtain ⟨d, op, ty, ps, af, g⟩ := o
  cases op <;> rfl
theorem isSpecR_eq (op : Op) : isSpecR op = isSpec op := by cases op <;> rfl
theorem compOpR_eq (o : Oper) (hg : o.guard = none) {d : Nat} (hd : o.dst = some d) (hb : Nat.blt d sz = true) (ih : Kk) (t : T Value) (h : Hp) :
    runOne (P := P) (G := G) call round all sz mks (compOpR P G o (pfn Value d)) ih t h = aGen P G call round all sz mks o ih t h := by
  by_cases hn : ∃ ty x lo hi mx, o.op = .slice ty x lo hi mx
  · obtain ⟨ty, x, lo, hi, mx, hop⟩ := hn
    have hc : compOpR P G o (pfn Value d) = cSlice P G ty x lo hi mx o (pfn Value d) := by
      obtain ⟨d', op, ty', ps, af, g⟩ := o
      subst hop
      rfl
    rw [hc]
    cases mx with
    | some m => rfl
    | none =>
      show runOne (P := P) (G := G) call round all sz mks (.mo ((x :: (opL lo ++ opL hi)).map (compA G)) (sliceF P ty (isSm lo) (isSm hi)) (pfn Value d)) ih t h = _
      rw [gen_dst (P := P) (G := G) call round all sz mks hg hd hb ih t h (by rw [hop]; rfl)]
      unfold opC
      rw [hop]
      refine mo_eq call round sz mks (x :: (opL lo ++ opL hi)) (sliceF P ty (isSm lo) (isSm hi)) d ih t h _ (fun e => ?_) fun vs e => ?_
      · show onlyV (opSlice P G ⟨sz, t, mks⟩ h ty x lo hi none) = .fail
        unfold opSlice
        rw [evs_consF] at e
        cases hx : ev G ⟨sz, t, mks⟩ x with
        | none => rfl
        | some a =>
          simp only
          rw [sliceV_G]
          rw [hx] at e
          simp only at e
          cases lo with
          | some y =>
            cases hy : ev G ⟨sz, t, mks⟩ y with
            | none => rw [sliceG_lo (by show bound G _ 0 (some y) = none; rw [bound_at, hy])]; rfl
            | some vy =>
              cases hi with
              | none => rw [show opL (some y) ++ opL none = [y] from rfl, evs_consF, hy] at e; cases e
              | some z =>
                cases hz : ev G ⟨sz, t, mks⟩ z with
                | none => rw [sliceG_hi (fun n => by show bound G _ n (some z) = none; rw [bound_at, hz])]; rfl
                | some vz => rw [show opL (some y) ++ opL (some z) = [y, z] from rfl, evs_consF, evs_consF, hy, hz] at e; cases e
          | none =>
            cases hi with
            | none => cases e
            | some z =>
              cases hz : ev G ⟨sz, t, mks⟩ z with
              | none => rw [sliceG_hi (fun n => by show bound G _ n (some z) = none; rw [bound_at, hz])]; rfl
              | some vz => rw [show opL none ++ opL (some z) = [z] from rfl, evs_consF, hz] at e; cases e
      · show onlyV (opSlice P G ⟨sz, t, mks⟩ h ty x lo hi none) = _
        unfold opSlice
        rw [evs_consF] at e
        cases hx : ev G ⟨sz, t, mks⟩ x with
        | none => rw [hx] at e; cases e
        | some a =>
          rw [hx] at e
          simp only at e ⊢
          have key : ∀ (lv hv : Option Value) (r : List Value), (∀ n, bound G ⟨sz, t, mks⟩ n lo = bv lv n) → (∀ n, bound G ⟨sz, t, mks⟩ n hi = bv hv n) → loF (isSm lo) r = lv → hiF (isSm lo) (isSm hi) r = hv → onlyV (sliceV P G ⟨sz, t, mks⟩ h ty lo hi a) = onlyV (sliceF P ty (isSm lo) (isSm hi) (a :: r) h) := by
            intro lv hv r h1 h2 h3 h4
            rw [sliceX_eq lv hv h1 h2]
            subst h3; subst h4
            rfl
          cases lo with
          | some y =>
            cases hy : ev G ⟨sz, t, mks⟩ y with
            | none =>
              exfalso
              cases hi with
              | none => rw [show opL (some y) ++ opL none = [y] from rfl, evs_consF, hy] at e; cases e
              | some z => rw [show opL (some y) ++ opL (some z) = [y, z] from rfl, evs_consF, hy] at e; cases e
            | some vy =>
              cases hi with
              | none =>
                rw [show opL (some y) ++ opL none = [y] from rfl, evs_consF, hy] at e
                cases e
                exact key (some vy) none [vy] (fun n => by rw [bound_at, hy]; rfl) (fun n => rfl) rfl rfl
              | some z =>
                cases hz : ev G ⟨sz, t, mks⟩ z with
                | none => rw [show opL (some y) ++ opL (some z) = [y, z] from rfl, evs_consF, evs_consF, hy, hz] at e; cases e
                | some vz =>
                  rw [show opL (some y) ++ opL (some z) = [y, z] from rfl, evs_consF, evs_consF, hy, hz] at e
                  cases e
                  exact key (some vy) (some vz) [vy, vz] (fun n => by rw [bound_at, hy]; rfl) (fun n => by rw [bound_at, hz]; rfl) rfl rfl
          | none =>
            cases hi with
            | none =>
              cases e
              exact key none none [] (fun n => rfl) (fun n => rfl) rfl rfl
            | some z =>
              cases hz : ev G ⟨sz, t, mks⟩ z with
              | none => rw [show opL none ++ opL (some z) = [z] from rfl, evs_consF, hz] at e; cases e
              | some vz =>
                rw [show opL none ++ opL (some z) = [z] from rfl, evs_consF, hz] at e
                cases e
                exact key none (some vz) [vz] (fun n => rfl) (fun n => by rw [bound_at, hz]; rfl) rfl rfl
  · rw [compOpR_same o _ fun ty x lo hi mx e => hn ⟨ty, x, lo, hi, mx, e⟩]
    exact compOp_eq call round all sz mks o hg hd hb ih t h
theorem compNoR_eq (o : Oper) (hg : o.guard = none) (hd : o.dst = none) (ih : Kk) (t : T Value) (h : Hp) :
    runOne (P := P) (G := G) call round all sz mks (compNoR P G o) ih t h = aGen P G call round all sz mks o ih t h := by
  rw [compNoR_same]
  exact compNo_eq call round all sz mks o hg hd ih t h
theorem comp_eq (o : Oper) (ih : Kk) (t : T Value) (h : Hp) :
    runOne (P := P) (G := G) call round all sz mks (comp P G all sz o) ih t h = aGen P G call round all sz mks o ih t h := by
  unfold comp
  cases hg : o.guard with
  | none =>
    exact dstF_eq sz o.dst (fun p => comp0 P G o p) (.gen o) (fun m => runOne (P := P) (G := G) call round all sz mks m ih t h = aGen P G call round all sz mks o ih t h) rfl
      (fun hd => compNoR_eq call round all sz mks o hg hd ih t h) (fun d hd hb => compOpR_eq call round all sz mks o hg hd hb ih t h)
  | some g =>
    obtain ⟨j, want⟩ := g
    show runOne (P := P) (G := G) call round all sz mks (compG P G all sz o (j, want)) ih t h = _
    unfold compG
    rw [isSpecR_eq]
    cases hj : guardAt all (j, want).1 with
    | none => rfl
    | some d =>
      cases hs : isSpec o.op with
      | true => rfl
      | false =>
        show runOne (P := P) (G := G) call round all sz mks (dstF sz o.dst (fun p => .gd (gfn Value d) want (comp0 P G { o with guard := none } p) p) (.gen o)) ih t h = _
        refine dstF_eq sz o.dst (fun p => .gd (gfn Value d) want (comp0 P G { o with guard := none } p) p) (.gen o) (fun m => runOne (P := P) (G := G) call round all sz mks m ih t h = aGen P G call round all sz mks o ih t h) rfl (fun hd => ?_) (fun q hd hb => ?_)
        · exact gd_eq call round all sz mks o hg hj hs _ none (.inl ⟨hd, rfl⟩) (fun ih t h => compNoR_eq call round all sz mks { o with guard := none } rfl hd ih t h) ih t h
        · exact gd_eq call round all sz mks o hg hj hs _ (some (pfn Value q)) (.inr ⟨q, hd, hb, rfl⟩) (fun ih t h => compOpR_eq call round all sz mks { o with guard := none } rfl hd hb ih t h) ih t h
theorem anyDef_cons (o : Oper) (l : List Oper) : anyDef (o :: l) = Bool.rec (anyDef l) true (isDefer o.op) := rfl
theorem runM_eq (ro : Option Nat) : ∀ (l : List Oper) (hl : anyDef l = false) (t : T Value) (h : Hp), runM P G call round all sz mks (comps P G all sz l) t h = runOps P G ro call round all l ⟨sz, t, mks⟩ h
  | [], _, t, h => rfl
  | o :: l, hl, t, h => by
    rw [anyDef_cons] at hl
    cases hdf : isDefer o.op with
    | true => rw [hdf] at hl; cases hl
    | false =>
      rw [hdf] at hl
      have hl' : anyDef l = false := hl
      show runOne (P := P) (G := G) call round all sz mks (comp P G all sz o) (runM P G call round all sz mks (comps P G all sz l)) t h = _
      rw [comp_eq]
      show aGen P G call round all sz mks o (runM P G call round all sz mks (comps P G all sz l)) t h = (match oneOp P G call round all o ⟨sz, t, mks⟩ h with
        | .ok v h => (match putD ⟨sz, t, mks⟩ o.dst v with | some e => runOps P G ro call round all l e h | none => .fail)
        | .fail => specC G ro all o ⟨sz, t, mks⟩ h (runOps P G ro call round all l)
        | .panic v h => .ok (.pan v) ⟨sz, t, mks⟩ h)
      unfold aGen
      cases oneOp P G call round all o ⟨sz, t, mks⟩ h with
      | fail => exact spec_same hdf _ _ _ _ _ _ _
      | panic v h2 => rfl
      | ok v h2 =>
        simp only
        cases hp : putD ⟨sz, t, mks⟩ o.dst v with
        | none => rfl
        | some e =>
          simp only
          have he : e = ⟨sz, e.t, mks⟩ := by
            unfold putD at hp
            split at hp
            · rename_i d _
              cases hb : Nat.blt d sz with
              | false => rw [hb] at hp; cases hp
              | true => rw [hb] at hp; simp only [cond_true, Option.some.injEq] at hp; subst hp; rfl
            · simp only [Option.some.injEq] at hp; subst hp; rfl
          rw [runM_eq ro l hl' e.t h2, ← he]
end
section
variable {P : Program} {G : GS}
section
variable (call : FuncId → List Value → Hp → CRes) (round : Nat → List Value → Hp → CRes) (all : Array Oper) (sz : Nat) (mks : List DI)
theorem putD_same {t : T Value} {d : Option Tmp} {v : Value} {e : En} (hp : putD ⟨sz, t, mks⟩ d v = some e) : e = ⟨sz, e.t, mks⟩ := by
  cases d with
  | none =>
    have hp' : some (⟨sz, t, mks⟩ : En) = some e := hp
    simp only [Option.some.injEq] at hp'; subst hp'; rfl
  | some d =>
    have hp' : cond (Nat.blt d sz) (some (⟨sz, T.put v t d, mks⟩ : En)) none = some e := hp
    cases hb : Nat.blt d sz with
    | false => rw [hb] at hp'; cases hp'
    | true => rw [hb] at hp'; simp only [cond_true, Option.some.injEq] at hp'; subst hp'; rfl
/-- an operation without a guard, by itself -/
theorem one_eq (o : Oper) (hg : o.guard = none) (hs : isSpec o.op = false) (ih : Kk) (t : T Value) (h : Hp) :
    runOne P G call round all sz mks (comp P G all sz o) ih t h = (match opDone call round h (opC P G ⟨sz, t, mks⟩ h o) with
      | .ok v h => (match putD ⟨sz, t, mks⟩ o.dst v with | some e => ih e.t h | none => .fail)
      | .fail => .fail
      | .panic v h => .ok (.pan v) ⟨sz, t, mks⟩ h) := by
  rw [comp_eq]
  unfold aGen oneOp
  rw [spec_none hs]
  unfold wantedC
  rw [hg]
  rfl
theorem goD_eq {rest : List Oper} {ih : KdD} {i : Nat} {acc : List (Nat × AE)} (hih : ∀ t h, Nat.ble (Hp.low h) h.n = true → ih i acc t h = runDrawn P G call round all rest i acc ⟨sz, t, mks⟩ h) (t : T Value) (h : Hp) :
    goD P G call round all sz mks rest ih i acc t h = runDrawn P G call round all rest i acc ⟨sz, t, mks⟩ h := by
  unfold goD
  rw [fl_eq]
  show (Bool.rec (runDrawn P G call round all rest i acc ⟨sz, t, mks⟩ h) (ih i acc t h) (Nat.ble h.low h.n) : Res) = _
  cases hb : Nat.ble h.low h.n with
  | false => rfl
  | true => exact hih t h hb
theorem ev_ptr (p : Value) : (∃ k o, p = .pointer (some ⟨k, o, none⟩) ∧ ptrOf p = some (k, o)) ∨ (ptrOf p = none ∧ ((∃ k o s, p = .pointer (some ⟨k, o, some s⟩)) ∨ ∀ k o s, p ≠ .pointer (some ⟨k, o, s⟩))) := by
  cases p with
  | pointer a =>
    cases a with
    | none => exact .inr ⟨rfl, .inr fun k o s h => (by cases h)⟩
    | some x =>
      obtain ⟨k, o, s⟩ := x
      cases s with
      | none => exact .inl ⟨k, o, rfl, rfl⟩
      | some s => exact .inr ⟨rfl, .inl ⟨k, o, s, rfl⟩⟩
  | _ => exact .inr ⟨rfl, .inr fun k o s h => (by cases h)⟩
theorem compDR_eq (i : Nat) (o : Oper) : compDR P G all sz i o = compD P G all sz i o := by
  obtain ⟨d, op, ty, ps, af, g⟩ := o
  cases g with
  | some g => rfl
  | none => cases op <;> rfl
theorem isDeferR_eq (op : Op) : isDeferR op = isDefer op := by cases op <;> rfl
theorem anyDefR_eq : ∀ l : List Oper, anyDefR l = anyDef l
  | [] => rfl
  | o :: l => by
    show (Bool.rec (anyDefR l) true (isDeferR o.op) : Bool) = Bool.rec (anyDef l) true (isDefer o.op)
    rw [isDeferR_eq, anyDefR_eq l]
theorem runMD_eq : ∀ (l : List Oper) (i : Nat) (acc : List (Nat × AE)) (t : T Value) (h : Hp), Nat.ble h.low h.n = true → runMD P G call round all sz mks (compsD P G all sz l i) i acc t h = runDrawn P G call round all l i acc ⟨sz, t, mks⟩ h
  | [], i, acc, t, h, _ => rfl
  | o :: l, i, acc, t, h, hlow => by
    have ihx : ∀ acc t h, Nat.ble (Hp.low h) h.n = true → runMD P G call round all sz mks (compsD P G all sz l (i + 1)) (i + 1) acc t h = runDrawn P G call round all l (i + 1) acc ⟨sz, t, mks⟩ h := fun acc t h hl => runMD_eq l (i + 1) acc t h hl
    show MD.rec (motive := fun _ => List Oper → KdD → KdD) (dSl P G call round all sz mks) (dLd P G call round all sz mks) (dNw P G call round all sz mks) (dSt P G call round all sz mks) (dGe P G call round all sz mks) (compDR P G all sz i o) l (runMD P G call round all sz mks (compsD P G all sz l (i + 1))) i acc t h = _
    rw [compDR_eq]
    have hge : dGe P G call round all sz mks o l (runMD P G call round all sz mks (compsD P G all sz l (i + 1))) i acc t h = runDrawn P G call round all (o :: l) i acc ⟨sz, t, mks⟩ h := by
      rw [runDrawn_cons]
      unfold dGe
      cases wantedC all ⟨sz, t, mks⟩ o.guard with
      | none => rfl
      | some b =>
        cases b with
        | true =>
          simp only
          cases drawOne P G call round all i o ⟨sz, t, mks⟩ h acc (touch G ⟨sz, t, mks⟩ o.op) with
          | fail => rfl
          | panic v h2 => rfl
          | ok v h2 =>
            simp only
            cases hp : putD ⟨sz, t, mks⟩ o.dst v with
            | none => rfl
            | some e =>
              simp only
              rw [goD_eq call round all sz mks (fun t h hl => ihx _ t h hl), ← putD_same sz mks hp]
        | false =>
          simp only
          cases hp : putD ⟨sz, t, mks⟩ o.dst undef with
          | none => rfl
          | some e =>
            simp only
            rw [ihx _ _ _ hlow, ← putD_same sz mks hp]
    unfold compD
    cases hg : o.guard with
    | some g => exact hge
    | none =>
      have hw : wantedC all ⟨sz, t, mks⟩ o.guard = some true := by rw [hg]; rfl
      have hslot : touch G ⟨sz, t, mks⟩ o.op = none → loadStore o.op = false → slotOp o.op = true → isSpec o.op = false → runOne P G call round all sz mks (comp P G all sz o) (runMD P G call round all sz mks (compsD P G all sz l (i + 1)) (i + 1) acc) t h = runDrawn P G call round all (o :: l) i acc ⟨sz, t, mks⟩ h := by
        intro ht hls hs hsp
        rw [one_eq call round all sz mks o hg hsp, runDrawn_cons, hw, ht]
        simp only
        have hdr : drawOne P G call round all i o ⟨sz, t, mks⟩ h acc none = drawRest all i h acc (opDone call round ⟨h.n, h.t, h.n⟩ (opC P G ⟨sz, t, mks⟩ ⟨h.n, h.t, h.n⟩ o)) := by
          unfold drawOne; rw [hls]; rfl
        rw [hdr]
        rcases slot_HU (P := P) (G := G) (e := ⟨sz, t, mks⟩) hs with hf | ⟨u, hf⟩
        · rw [show opC P G ⟨sz, t, mks⟩ h o = .fail from hf h, show opC P G ⟨sz, t, mks⟩ ⟨h.n, h.t, h.n⟩ o = .fail from hf _]; rfl
        · rw [show opC P G ⟨sz, t, mks⟩ h o = .value u h from hf h, show opC P G ⟨sz, t, mks⟩ ⟨h.n, h.t, h.n⟩ o = .value u ⟨h.n, h.t, h.n⟩ from hf _]
          have hd2 : drawRest all i h acc (opDone call round ⟨h.n, h.t, h.n⟩ (.value u ⟨h.n, h.t, h.n⟩)) = .ok u h := by
            show cond (Nat.ble h.n h.n || _) (CRes.ok u ⟨h.n, h.t, cond (Nat.ble h.low h.n) h.low h.n⟩) .fail = _
            rw [hlow, Nat.ble_eq_true_of_le (Nat.le_refl _)]
            rfl
          rw [hd2]
          show (match putD ⟨sz, t, mks⟩ o.dst u with | some e => runMD P G call round all sz mks (compsD P G all sz l (i + 1)) (i + 1) acc e.t h | none => .fail) = (match putD ⟨sz, t, mks⟩ o.dst u with | some e' => runDrawn P G call round all l (i + 1) (accPut i acc h h (slotOp o.op) (isNew o.op) none) e' h | none => .fail)
          rw [hs]
          cases hp : putD ⟨sz, t, mks⟩ o.dst u with
          | none => rfl
          | some e =>
            simp only
            rw [ihx _ _ _ hlow, ← putD_same sz mks hp]
            rfl
      have hnew : touch G ⟨sz, t, mks⟩ o.op = none → loadStore o.op = false → slotOp o.op = false → isNew o.op = true → isSpec o.op = false → dNw P G call round all sz mks (comp P G all sz o) l (runMD P G call round all sz mks (compsD P G all sz l (i + 1))) i acc t h = runDrawn P G call round all (o :: l) i acc ⟨sz, t, mks⟩ h := by
        intro ht hls hs hn hsp
        unfold dNw
        rw [one_eq call round all sz mks o hg hsp, runDrawn_cons, hw, ht]
        simp only
        have hdr : drawOne P G call round all i o ⟨sz, t, mks⟩ h acc none = drawRest all i h acc (opDone call round ⟨h.n, h.t, h.n⟩ (opC P G ⟨sz, t, mks⟩ ⟨h.n, h.t, h.n⟩ o)) := by
          unfold drawOne; rw [hls]; rfl
        rw [hdr]
        rcases new_NU (P := P) (G := G) (e := ⟨sz, t, mks⟩) hn h.n with hf | ⟨u, ob, hf⟩
        · rw [show opC P G ⟨sz, t, mks⟩ h o = .fail from hf h rfl, show opC P G ⟨sz, t, mks⟩ ⟨h.n, h.t, h.n⟩ o = .fail from hf _ rfl]; rfl
        · rw [show opC P G ⟨sz, t, mks⟩ h o = .value u (h.new ob) from hf h rfl, show opC P G ⟨sz, t, mks⟩ ⟨h.n, h.t, h.n⟩ o = .value u ((⟨h.n, h.t, h.n⟩ : Hp).new ob) from hf _ rfl]
          have hd2 : drawRest all i h acc (opDone call round ⟨h.n, h.t, h.n⟩ (.value u ((⟨h.n, h.t, h.n⟩ : Hp).new ob))) = .ok u (h.new ob) := by
            show cond (Nat.ble h.n h.n || _) (CRes.ok u ⟨Nat.succ h.n, T.put ob h.t h.n, cond (Nat.ble h.low h.n) h.low h.n⟩) .fail = _
            rw [hlow, Nat.ble_eq_true_of_le (Nat.le_refl _)]
            rfl
          rw [hd2]
          show (match putD ⟨sz, t, mks⟩ o.dst u with | some e => goD P G call round all sz mks l (runMD P G call round all sz mks (compsD P G all sz l (i + 1))) (i + 1) ((i, .nw h.n) :: acc) e.t (h.new ob) | none => .fail) = (match putD ⟨sz, t, mks⟩ o.dst u with | some e' => runDrawn P G call round all l (i + 1) (accPut i acc h (h.new ob) (slotOp o.op) (isNew o.op) none) e' (h.new ob) | none => .fail)
          rw [hs, hn]
          cases hp : putD ⟨sz, t, mks⟩ o.dst u with
          | none => rfl
          | some e =>
            simp only
            rw [goD_eq call round all sz mks (fun t h hl => ihx _ t h hl), ← putD_same sz mks hp]
            rfl
      simp only
      split
      · rename_i ty x ho
        show dLd P G call round all sz mks (compA G x) (comp P G all sz o) l (runMD P G call round all sz mks (compsD P G all sz l (i + 1))) i acc t h = _
        have hsp : isSpec o.op = false := by rw [ho]; rfl
        unfold dLd
        rw [evK_eq sz t mks, runDrawn_cons, hw]
        have htc : touch G ⟨sz, t, mks⟩ o.op = (match ev G ⟨sz, t, mks⟩ x with | some (.pointer (some ⟨k, _, _⟩)) => some (false, k) | _ => none) := by rw [ho]; rfl
        have hls : loadStore o.op = true := by rw [ho]; rfl
        have hno : drawOne P G call round all i o ⟨sz, t, mks⟩ h acc none = .fail := by unfold drawOne; rw [hls]; rfl
        have hoc : opC P G ⟨sz, t, mks⟩ h o = onlyV (match ev G ⟨sz, t, mks⟩ x with | some p => Out.ofV h (ld P h ty p) | none => .fail) := by unfold opC; rw [ho]; rfl
        cases he : ev G ⟨sz, t, mks⟩ x with
        | none =>
          rw [he] at htc
          rw [htc]
          simp only
          rw [hno]
        | some p =>
          rw [he] at htc hoc
          simp only
          rcases ev_ptr p with ⟨k, off, rfl, hq⟩ | ⟨hq, hp2⟩
          · rw [hq, htc]
            simp only
            show (Bool.rec .fail (runOne P G call round all sz mks (comp P G all sz o) (goD P G call round all sz mks l (runMD P G call round all sz mks (compsD P G all sz l (i + 1))) (i + 1) ((i, .ld k) :: acc)) t h) (accOk all i false k acc) : Res) = _
            have hdr : drawOne P G call round all i o ⟨sz, t, mks⟩ h acc (some (false, k)) = cond (accOk all i false k acc && true) (opDone call round h (opC P G ⟨sz, t, mks⟩ h o)) .fail := rfl
            rw [hdr]
            cases accOk all i false k acc with
            | false => rfl
            | true =>
              show runOne P G call round all sz mks (comp P G all sz o) _ t h = _
              rw [one_eq call round all sz mks o hg hsp]
              simp only [Bool.and_self, cond_true]
              have hnp : ∀ v h2, opDone call round h (opC P G ⟨sz, t, mks⟩ h o) ≠ .panic v h2 := by
                intro v h2; rw [hoc]; simp only
                cases ld P h ty (.pointer (some ⟨k, off, none⟩)) <;> (intro hh; cases hh)
              cases hop : opDone call round h (opC P G ⟨sz, t, mks⟩ h o) with
              | fail => rfl
              | panic v h2 => exact absurd hop (hnp v h2)
              | ok v h2 =>
                simp only
                cases hp : putD ⟨sz, t, mks⟩ o.dst v with
                | none => rfl
                | some e =>
                  simp only
                  rw [goD_eq call round all sz mks (fun t h hl => ihx _ t h hl), ← putD_same sz mks hp]
                  rfl
          · rw [hq]
            rcases hp2 with ⟨k, off, sp, rfl⟩ | hp2
            · rw [htc]
              simp only
              have hdr : drawOne P G call round all i o ⟨sz, t, mks⟩ h acc (some (false, k)) = cond (accOk all i false k acc && true) (opDone call round h (opC P G ⟨sz, t, mks⟩ h o)) .fail := rfl
              rw [hdr, hoc]
              cases accOk all i false k acc <;> rfl
            · have hn : (match some p with | some (.pointer (some ⟨k, _, _⟩)) => some (false, k) | _ => (none : Option (Bool × Nat))) = none := by
                split
                · rename_i k o2 s2 heq
                  simp only [Option.some.injEq] at heq
                  exact absurd heq (hp2 k o2 s2)
                · rfl
              rw [htc, hn]
              simp only
              rw [hno]
      · rename_i ty x z ho
        show dSt P G call round all sz mks (barrierS all i) (compA G x) (comp P G all sz o) l (runMD P G call round all sz mks (compsD P G all sz l (i + 1))) i acc t h = _
        have hsp : isSpec o.op = false := by rw [ho]; rfl
        unfold dSt
        rw [evK_eq sz t mks, runDrawn_cons, hw]
        have htc : touch G ⟨sz, t, mks⟩ o.op = (match ev G ⟨sz, t, mks⟩ x with | some (.pointer (some ⟨k, _, _⟩)) => some (true, k) | _ => none) := by rw [ho]; rfl
        have hls : loadStore o.op = true := by rw [ho]; rfl
        have hno : drawOne P G call round all i o ⟨sz, t, mks⟩ h acc none = .fail := by unfold drawOne; rw [hls]; rfl
        have hoc : opC P G ⟨sz, t, mks⟩ h o = onlyV (opStore P G ⟨sz, t, mks⟩ h ty x z) := by unfold opC; rw [ho]; rfl
        cases he : ev G ⟨sz, t, mks⟩ x with
        | none =>
          rw [he] at htc
          rw [htc]
          simp only
          rw [hno]
        | some p =>
          rw [he] at htc
          simp only
          rcases ev_ptr p with ⟨k, off, rfl, hq⟩ | ⟨hq, hp2⟩
          · rw [hq, htc]
            simp only
            show (Bool.rec .fail (Bool.rec .fail (runOne P G call round all sz mks (comp P G all sz o) (goD P G call round all sz mks l (runMD P G call round all sz mks (compsD P G all sz l (i + 1))) (i + 1) ((i, .st k) :: acc)) t h) (barrierS all i)) (accOk all i true k acc) : Res) = _
            have hdr : drawOne P G call round all i o ⟨sz, t, mks⟩ h acc (some (true, k)) = cond (accOk all i true k acc && (false || barrierS all i)) (opDone call round h (opC P G ⟨sz, t, mks⟩ h o)) .fail := rfl
            rw [hdr]
            cases accOk all i true k acc with
            | false => rfl
            | true =>
              cases barrierS all i with
              | false => rfl
              | true =>
                show runOne P G call round all sz mks (comp P G all sz o) _ t h = _
                rw [one_eq call round all sz mks o hg hsp]
                simp only [Bool.false_or, Bool.and_self, cond_true]
                have hnp : ∀ v h2, opDone call round h (opC P G ⟨sz, t, mks⟩ h o) ≠ .panic v h2 := by
                  intro v h2; rw [hoc]
                  cases opStore P G ⟨sz, t, mks⟩ h ty x z <;> (intro hh; cases hh)
                cases hop : opDone call round h (opC P G ⟨sz, t, mks⟩ h o) with
                | fail => rfl
                | panic v h2 => exact absurd hop (hnp v h2)
                | ok v h2 =>
                  simp only
                  cases hp : putD ⟨sz, t, mks⟩ o.dst v with
                  | none => rfl
                  | some e =>
                    simp only
                    rw [goD_eq call round all sz mks (fun t h hl => ihx _ t h hl), ← putD_same sz mks hp]
                    rfl
          · rw [hq]
            rcases hp2 with ⟨k, off, sp, rfl⟩ | hp2
            · rw [htc]
              simp only
              have hdr : drawOne P G call round all i o ⟨sz, t, mks⟩ h acc (some (true, k)) = cond (accOk all i true k acc && (false || barrierS all i)) (opDone call round h (opC P G ⟨sz, t, mks⟩ h o)) .fail := rfl
              have hof : opC P G ⟨sz, t, mks⟩ h o = .fail := by
                rw [hoc]
                unfold opStore
                rw [he]
                cases ev G ⟨sz, t, mks⟩ z <;> rfl
              rw [hdr, hof]
              cases (accOk all i true k acc && (false || barrierS all i)) <;> rfl
            · have hn : (match some p with | some (.pointer (some ⟨k, _, _⟩)) => some (true, k) | _ => (none : Option (Bool × Nat))) = none := by
                split
                · rename_i k o2 s2 heq
                  simp only [Option.some.injEq] at heq
                  exact absurd heq (hp2 k o2 s2)
                · rfl
              rw [htc, hn]
              simp only
              rw [hno]
      · rename_i hnl hns
        have hls : loadStore o.op = false := by
          cases ho : o.op <;> first | rfl | exact absurd ho (hnl _ _) | exact absurd ho (hns _ _ _)
        have ht : touch G ⟨sz, t, mks⟩ o.op = none := by
          cases ho : o.op <;> first | rfl | exact absurd ho (hnl _ _) | exact absurd ho (hns _ _ _)
        cases hs : slotOp o.op with
        | true =>
          have hsp : isSpec o.op = false := by
            cases ho : o.op <;> first | rfl | (rw [ho] at hs; cases hs)
          exact hslot ht hls hs hsp
        | false =>
          cases hn : isNew o.op with
          | true =>
            have hsp : isSpec o.op = false := by
              cases ho : o.op <;> first | rfl | (rw [ho] at hn; cases hn)
            exact hnew ht hls hs hn hsp
          | false => exact hge
end
theorem callF_fun (ih : Option Nat → Code → En → Hp → Res) : callF P G ih = callC P G ih := by
  funext f args h; exact callF_eq ih f args h
theorem region_eq (ih : Option Nat → Code → En → Hp → Res) (ro : Option Nat) (ops : Array Oper) (draw : Bool) (e : En) (h : Hp) :
    aRegion P G ih ro ops draw e h = (match draw with
      | false => runOps P G ro (callC P G ih) (roundC ih) ops ops.toList e h
      | true => cond (drawOk ops) (runDrawn P G (callC P G ih) (roundC ih) ops ops.toList 0 [] e h) .fail) := by
  unfold aRegion
  rw [callF_fun]
  cases draw with
  | true =>
    obtain ⟨sz, t, mks⟩ := e
    show (Bool.rec .fail (goD P G (callC P G ih) (roundC ih) ops sz mks ops.toList (runMD P G (callC P G ih) (roundC ih) ops sz mks (compsD P G ops sz ops.toList 0)) 0 [] t h) (drawOk ops) : Res) = cond (drawOk ops) (runDrawn P G (callC P G ih) (roundC ih) ops ops.toList 0 [] ⟨sz, t, mks⟩ h) .fail
    rw [goD_eq _ _ _ _ _ fun t h hl => runMD_eq _ _ _ _ _ ops.toList 0 [] t h hl]
    cases drawOk ops <;> rfl
  | false =>
    obtain ⟨sz, t, mks⟩ := e
    show runF P G ro (callC P G ih) (roundC ih) ops ⟨sz, t, mks⟩ h = _
    unfold runF
    rw [anyDefR_eq]
    cases hd : anyDef ops.toList with
    | true => rfl
    | false => exact runM_eq _ _ _ _ _ ro _ hd _ _
theorem thenF_eq (ih : Option Nat → Code → En → Hp → Res) (ro : Option Nat) (b : Code) (r : Res) : thenF (ih ro b) r = thenC ih ro b r := by
  cases r with
  | fail => rfl
  | ok x e h => cases x <;> rfl
theorem cond_eq (ra rb : Cd) (ih : Option Nat → Code → En → Hp → Res) (ro : Option Nat) (x : Operand) (a b : Code) (e : En) (h : Hp) : cCond G x a b ra rb ih ro e h = condC ih ro a b e h (ev G e x) := by
  unfold cCond
  cases ev G e x with
  | none => rfl
  | some v =>
    show (Option.rec .fail (fun c => Bool.rec (ih ro b e h) (ih ro a e h) c) (isBool v) : Res) = _
    cases v with
    | bool c => cases c <;> rfl
    | _ => rfl
theorem step_eq (ih : Option Nat → Code → En → Hp → Res) (ro : Option Nat) (c : Code) (e : En) (h : Hp) : stepF P G ih ro c e h = stepC P G ih ro c e h := by
  cases c with
  | seq a b =>
    show (Option.rec (thenF (ih ro b) (ih ro a e h)) (fun m => mapC P G (callF P G ih) (roundC ih) ih ro m e h) (mapOf a b) : Res) = (match mapOf a b with
      | some m => mapC P G (callC P G ih) (roundC ih) ih ro m e h
      | none => thenC ih ro b (ih ro a e h))
    cases mapOf a b with
    | none => exact thenF_eq ih ro b _
    | some m =>
      have hcall : callF P G ih = callC P G ih := by funext f args h; exact callF_eq ih f args h
      show mapC P G (callF P G ih) (roundC ih) ih ro m e h = _
      rw [hcall]
  | cond x a b => exact cond_eq cSkip cSkip ih ro x a b e h
  | loop b => exact thenF_eq ih ro (.loop b) _
  | region id ops draw =>
    show aRegion P G ih ro ops draw e h = _
    rw [region_eq]
    cases draw <;> rfl
  | _ => rfl
theorem exF_eq : ∀ n, exF P G n = exec P G n
  | 0 => rfl
  | n + 1 => by
    funext ro c e h
    show stepF P G (exF P G n) ro c e h = stepC P G (exec P G n) ro c e h
    rw [exF_eq n, step_eq]
/-- THE FASTER EXECUTOR ANSWERS WHAT THE FIRST ONE ANSWERS. -/
theorem callNF_eq (n : Nat) (f : FuncId) (args : List Value) (h : Hp) : callNF P G n f args h = callN P G n f args h := by
  unfold callNF callN
  rw [exF_eq, callF_eq]
end
end Cx
end Go.Proofs.YtkljlbilhcdjhaaGreatDoor
