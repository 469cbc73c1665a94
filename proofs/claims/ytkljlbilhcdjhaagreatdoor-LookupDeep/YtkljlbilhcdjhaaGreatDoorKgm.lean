/- Closed runs: the fourth edition: operations. -/
import Derived.Test.YtkljlbilhcdjhaaGreatDoorKbm
namespace Go.Proofs.YtkljlbilhcdjhaaGreatDoor
set_option linter.unusedVariables false
namespace Cx
open Go
noncomputable def denA : KA → MA
  | .tmp n => .tmp (gfn Value n)
  | .val v => .val v
  | .bad => .bad
noncomputable def denP (p : Option Nat) : Option (PF (Option Value) (T Value)) := match p with
  | some p => some (pfn Value p)
  | none => none
noncomputable def denK2 : K2 → Hp → Value → Value → Option Value
  | .cmp f g => cmpF f g
  | .add g => addF g
  | .sub g => subF g
def lenS (_ : Hp) : Value → Option Value
  | .slice _ n _ => some (.int .i64 n)
  | _ => none
noncomputable def denM : KM → M
  | .mv x p => .mv (denA x) (pfn Value p)
  | .v1 x F p => .v1 (denA x) F (pfn Value p)
  | .l1 x p => .v1 (denA x) ld1F (pfn Value p)
  | .la n x p => .v1 (denA x) (ldAF n) (pfn Value p)
  | .v2 x y F p => .v2 (denA x) (denA y) F (pfn Value p)
  | .k2 f x y p => .v2 (denA x) (denA y) (denK2 f) (pfn Value p)
  | .fa off x p => .v1 (denA x) (fldF off) (pfn Value p)
  | .nl x p => .v1 (denA x) nilF (pfn Value p)
  | .ln x p => .v1 (denA x) lenS (pfn Value p)
  | .pk c x y p => .pk (denA c) (denA x) (denA y) (pfn Value p)
  | .nw z p => .nw z (pfn Value p)
  | .bx x p => .bx (denA x) (pfn Value p)
  | .st n x y => .st n (denA x) (denA y)
  | .cl f l p => .cl f (l.map denA) (denP p)
  | .bd l z p => .bd (l.map fun x => (denA x.1, x.2)) z (pfn Value p)
  | .mo l F p => .mo (l.map denA) F (pfn Value p)
  | .cv x l p => .cv (denA x) (l.map denA) (denP p)
  | .gen o => .gen o
  | .gd g w m p => .gd (gfn Value g) w (denM m) (denP p)
theorem ptrK_eq (z : Bool) (v : Value) (c : Nat → Nat → Bool) : ptrK z v c = Option.rec (motive := fun _ => Bool) z (fun q => c q.1 q.2) (ptrOf v) := by
  cases v with
  | pointer a =>
    cases a with
    | none => rfl
    | some ad =>
      obtain ⟨b, o, s⟩ := ad
      cases s <;> rfl
  | _ => rfl
theorem numN_eq (n : Nat) (c : Nat → Bool) : numN n c = c n := by cases n <;> rfl
theorem intC_eq (z : Bool) (v : Value) (c : IntKind → Nat → Bool) : intC z v c = (match v with | .int k (.ofNat n) => c k n | _ => z) := by
  cases v with
  | int k i => cases i <;> rfl
  | _ => rfl
theorem natsK_int (k k' : IntKind) (m n : Nat) (f : Nat → Nat → Nat → Option Value) (g : Option Value) : natsK (.int k (.ofNat m)) (.int k' (.ofNat n)) f g = Bool.rec g (f (kidx k) m n) (Nat.beq (kidx k) (kidx k')) := rfl
/-- what is said of two whole numbers, and of others -/
theorem nats_cases (a b : Value) : (∃ k k' m n, a = .int k (.ofNat m) ∧ b = .int k' (.ofNat n)) ∨ ((∀ (z : Bool) (c : IntKind → Nat → IntKind → Nat → Bool), intC z a (fun k m => intC z b (c k m)) = z) ∧ ∀ f g, natsK a b f g = g) := by
  cases a with
  | int k i =>
    cases i with
    | ofNat m =>
      cases b with
      | int k' i =>
        cases i with
        | ofNat n => exact .inl ⟨k, k', m, n, rfl, rfl⟩
        | negSucc n => exact .inr ⟨fun _ _ => rfl, fun _ _ => rfl⟩
      | _ => exact .inr ⟨fun _ _ => rfl, fun _ _ => rfl⟩
    | negSucc m => exact .inr ⟨fun _ _ => rfl, fun _ _ => rfl⟩
  | _ => exact .inr ⟨fun _ _ => rfl, fun _ _ => rfl⟩
theorem k2C_eq (z : Bool) (f : K2) (h : Hp) (a b : Value) (c : Value → Bool) : k2C z f a b c = Option.rec (motive := fun _ => Bool) z c (denK2 f h a b) := by
  have hi : ∀ (k r : Nat) (ok : Bool) (G : Option Value), i64C k r ok (optC z G c) c = Option.rec (motive := fun _ => Bool) z c (i64K k r ok G) := by
    intro k r ok G
    unfold i64C i64K
    rw [numN_eq]
    cases Nat.beq k 3 with
    | false => rfl
    | true => cases ok <;> rfl
  cases f with
  | cmp f g =>
    show cmpC z f g a b c = Option.rec (motive := fun _ => Bool) z c (natsK a b (fun _ m n => some (.bool (f m n))) (g a b))
    rcases nats_cases a b with ⟨k, k', m, n, rfl, rfl⟩ | ⟨h1, h2⟩
    · rw [natsK_int]
      show (Bool.rec (motive := fun _ => Bool) (optC z (g (.int k (.ofNat m)) (.int k' (.ofNat n))) c) (Bool.rec (motive := fun _ => Bool) (c (.bool false)) (c (.bool true)) (f m n)) (Nat.beq (kidx k) (kidx k')) : Bool) = _
      cases Nat.beq (kidx k) (kidx k') with
      | false => rfl
      | true =>
        show (Bool.rec (motive := fun _ => Bool) (c (.bool false)) (c (.bool true)) (f m n) : Bool) = c (.bool (f m n))
        cases f m n <;> rfl
    · rw [h2]; exact h1 (optC z (g a b) c) _
  | add g =>
    show addC z g a b c = Option.rec (motive := fun _ => Bool) z c (natsK a b (fun k m n => i64K k (Nat.add m n) (Nat.ble (Nat.add m n) 9223372036854775807) (g a b)) (g a b))
    rcases nats_cases a b with ⟨k, k', m, n, rfl, rfl⟩ | ⟨h1, h2⟩
    · rw [natsK_int]
      show (Bool.rec (motive := fun _ => Bool) (optC z (g (.int k (.ofNat m)) (.int k' (.ofNat n))) c) (i64C (kidx k) (Nat.add m n) (Nat.ble (Nat.add m n) 9223372036854775807) (optC z (g (.int k (.ofNat m)) (.int k' (.ofNat n))) c) c) (Nat.beq (kidx k) (kidx k')) : Bool) = _
      rw [hi]
      cases Nat.beq (kidx k) (kidx k') <;> rfl
    · rw [h2]; exact h1 (optC z (g a b) c) _
  | sub g =>
    show subC z g a b c = Option.rec (motive := fun _ => Bool) z c (natsK a b (fun k m n => i64K k (Nat.sub m n) (and (Nat.ble n m) (Nat.ble m 9223372036854775807)) (g a b)) (g a b))
    rcases nats_cases a b with ⟨k, k', m, n, rfl, rfl⟩ | ⟨h1, h2⟩
    · rw [natsK_int]
      show (Bool.rec (motive := fun _ => Bool) (optC z (g (.int k (.ofNat m)) (.int k' (.ofNat n))) c) (i64C (kidx k) (Nat.sub m n) (and (Nat.ble n m) (Nat.ble m 9223372036854775807)) (optC z (g (.int k (.ofNat m)) (.int k' (.ofNat n))) c) c) (Nat.beq (kidx k) (kidx k')) : Bool) = _
      rw [hi]
      cases Nat.beq (kidx k) (kidx k') <;> rfl
    · rw [h2]; exact h1 (optC z (g a b) c) _
theorem faC_eq (z : Bool) (off : Nat) (h : Hp) (a : Value) (c : Value → Bool) : faC z off a c = Option.rec (motive := fun _ => Bool) z c (fldF off h a) := by
  unfold faC fldF
  rw [ptrK_eq]
  cases ptrOf a with
  | none => rfl
  | some q => exact numN_eq _ _
theorem nlC_eq (z : Bool) (h : Hp) (a : Value) (c : Value → Bool) : nlC z a c = Option.rec (motive := fun _ => Bool) z c (nilF h a) := by
  cases a with
  | pointer p => cases p <;> rfl
  | func fn x y => cases fn <;> rfl
  | _ => rfl
theorem lnC_eq (z : Bool) (h : Hp) (a : Value) (c : Value → Bool) : lnC z a c = Option.rec (motive := fun _ => Bool) z c (lenS h a) := by
  cases a <;> rfl
theorem lenS_eq {P : Program} {ts : Array TypeId} (hr : isRow P ts = true) : lenF P ts = lenS := by
  funext h a
  unfold lenF opLen
  unfold isRow at hr
  cases ht : ts[0]? with
  | none => rw [ht] at hr; cases hr
  | some t =>
    rw [ht] at hr
    simp only at hr
    cases hu : P.underlying t with
    | none => rw [hu] at hr; cases hr
    | some d =>
      rw [hu] at hr
      cases d with
      | slice e =>
        cases a with
        | slice x n y => simp only; rw [hu]; rfl
        | string s => simp only; rw [hu]; rfl
        | _ => rfl
      | _ => cases hr
section
variable (k : Res → Bool)
theorem evN_eq (x : KA) (t : T Value) (c : Value → Bool) (c' : Value → Res) (hc : ∀ v, c v = k (c' v)) : evN k x t c = k (evK (denA x) t c') := by
  cases x with
  | tmp n =>
    show tget t n (fun o => Option.rec (motive := fun _ => Bool) (k .fail) c o) = k (Option.rec .fail c' (t.get n))
    rw [tget_eq]
    cases t.get n with
    | none => rfl
    | some v => exact hc v
  | val v => exact hc v
  | bad => rfl
theorem evNL_eq (t : T Value) : ∀ (l : List KA) (c : List Value → Bool) (c' : List Value → Res) (hc : ∀ v, c v = k (c' v)), evNL k t l c = k (evL t (l.map denA) c')
  | [], c, c', hc => hc []
  | x :: l, c, c', hc => by
    show evN k x t (fun v => evNL k t l fun l => c (v :: l)) = k (evK (denA x) t fun v => evL t (l.map denA) fun l => c' (v :: l))
    exact evN_eq k x t _ _ fun v => evNL_eq t l _ _ fun l => hc (v :: l)
theorem optN_eq (o : Option Value) (c : Value → Bool) (c' : Value → Res) (hc : ∀ v, c v = k (c' v)) : (Option.rec (motive := fun _ => Bool) (k .fail) c o : Bool) = k (optK o c') := by
  cases o with
  | none => rfl
  | some v => exact hc v
theorem ld1K_eq (h : Hp) (a : Value) (c : Value → Bool) : ld1K (k .fail) h a c = Option.rec (motive := fun _ => Bool) (k .fail) c (ld1F h a) := by
  unfold ld1K ld1F
  rw [ptrK_eq]
  cases ptrOf a with
  | none => rfl
  | some q =>
    show getB (k .fail) h q.1 _ = Option.rec (motive := fun _ => Bool) (k .fail) c (rd1F h q.1 q.2)
    rw [getB_eq]
    unfold rd1F
    have hn : ∀ (l : List Value) (o : Nat), rowAt (k .fail) l o c = Option.rec (motive := fun _ => Bool) (k .fail) c (nthF l o) := by
      intro l
      induction l with
      | nil => intro o; rfl
      | cons x l ih =>
        intro o
        cases o with
        | zero => rfl
        | succ o => exact ih o
    cases h.t.get q.1 with
    | none => rfl
    | some ob => cases ob <;> first | rfl | exact hn _ _
theorem ldAK_eq (n : Nat) (h : Hp) (a : Value) (c : Value → Bool) : ldAK (k .fail) n h a c = Option.rec (motive := fun _ => Bool) (k .fail) c (ldAF n h a) := by
  unfold ldAK ldAF
  rw [ptrK_eq]
  cases ptrOf a with
  | none => rfl
  | some q =>
    show getB (k .fail) h q.1 _ = Option.rec (motive := fun _ => Bool) (k .fail) c (Option.rec none (fun l => some (Value.agg ⟨l⟩)) (rdF h q.1 q.2 n))
    rw [getB_eq]
    unfold rdF
    cases h.t.get q.1 with
    | none => rfl
    | some ob =>
      cases ob with
      | cells vs =>
        show cutK (k .fail) vs q.2 n _ = Option.rec (motive := fun _ => Bool) (k .fail) c (Option.rec none (fun l => some (Value.agg ⟨l⟩)) (cutF vs q.2 n))
        rw [cutK_eq, cutF_eq]
        cases cut vs q.2 n <;> rfl
      | ro vs =>
        show cutK (k .fail) vs q.2 n _ = Option.rec (motive := fun _ => Bool) (k .fail) c (Option.rec none (fun l => some (Value.agg ⟨l⟩)) (cutF vs q.2 n))
        rw [cutK_eq, cutF_eq]
        cases cut vs q.2 n <;> rfl
      | _ => rfl
theorem okRow_eq (z : Bool) : ∀ (l : List Value) (n : Nat) (c : Bool), okRow z l n c = Bool.rec (motive := fun _ => Bool) z c (and (allOne l) (Nat.beq (lenN l) n)) := by
  intro l
  induction l with
  | nil => intro n c; cases n <;> rfl
  | cons x l ih =>
    intro n c
    show (Bool.rec (motive := fun _ => Bool) z (Nat.rec (motive := fun _ => Bool) z (fun m _ => okRow z l m c) n) (oneF x) : Bool) = Bool.rec (motive := fun _ => Bool) z c (and (Bool.rec false (allOne l) (oneF x)) (Nat.beq (Nat.succ (lenN l)) n))
    cases oneF x with
    | false => rfl
    | true =>
      cases n with
      | zero =>
        show z = Bool.rec (motive := fun _ => Bool) z c (and (allOne l) false)
        cases allOne l <;> rfl
      | succ n => exact ih n c
theorem overK_eq (z : Bool) : ∀ (l : List Value) (o : Nat) (r : List Value) (c : List Value → Bool), overK z l o r c = Option.rec (motive := fun _ => Bool) z c (over l o r) := by
  intro l
  induction l with
  | nil =>
    intro o r c
    cases o with
    | zero => cases r <;> rfl
    | succ o => rfl
  | cons x l ih =>
    intro o r c
    cases o with
    | zero =>
      cases r with
      | nil => rfl
      | cons y r =>
        show overK z l 0 r (fun q => c (y :: q)) = _
        rw [ih]
        have h1 : over (x :: l) 0 (y :: r) = (match over l 0 r with | some q => some (y :: q) | none => none) := by
          rw [← overF_eq, ← overF_eq]
          show overF (x :: l) 0 (y :: r) = _
          have h2 : ∀ (l : List Value) (r : List Value), overF l 0 r = Bool.rec none (some (appF r (dropF l r))) (fitsF l r) := by
            intro l r
            cases l with
            | nil => cases r <;> rfl
            | cons x l => rfl
          rw [h2, h2]
          show (Bool.rec none (some (y :: appF r (dropF l r))) (fitsF l r) : Option (List Value)) = _
          cases fitsF l r <;> rfl
        rw [h1]
        cases over l 0 r <;> rfl
    | succ o =>
      show overK z l o r (fun q => c (x :: q)) = _
      rw [ih]
      have h1 : over (x :: l) (o + 1) r = Option.rec none (fun q => some (x :: q)) (over l o r) := by
        rw [← overF_eq, ← overF_eq]
        rfl
      rw [h1]
      cases over l o r <;> rfl
theorem wrF_rec (h : Hp) (b o : Nat) (vs : List Value) : wrF h b o vs = (match h.t.get b with | some (.cells us) => cond (allOne vs) (match over us o vs with | some q => some (h.set b (.cells q)) | none => none) none | _ => none) := by
  rw [wrF_eq, allOne_eq]
  rfl
theorem lenC_eq (z : Bool) : ∀ (l : List Value) (n : Nat) (c : Bool), lenC z l n c = Bool.rec (motive := fun _ => Bool) z c (Nat.beq (lenN l) n) := by
  intro l
  induction l with
  | nil => intro n c; cases n <;> rfl
  | cons x l ih =>
    intro n c
    cases n with
    | zero => rfl
    | succ n => exact ih n c
variable {ih : Kb} {ihD : Kk} (hi : ∀ t h, ih t h = k (ihD t h))
include hi in
theorem putN_eq (p : Nat) (v : Value) (t : T Value) (h : Hp) : tput p v t (fun t => ih t h) = k (pK (pfn Value p) ihD v t h) := by
  rw [tput_eq, pK_eq]
  exact hi _ _
include hi in
theorem putO_eq (p : Option Nat) (v : Value) (t : T Value) (h : Hp) : (Option.rec (motive := fun _ => Bool) (ih t h) (fun p => tput p v t fun t => ih t h) p : Bool) = k (Option.rec (ihD t h) (fun p => pK p ihD v t h) (denP p)) := by
  cases p with
  | none => exact hi t h
  | some p => exact putN_eq k hi p v t h
include hi in
theorem nMv_eq (x : KA) (p : Nat) (t : T Value) (h : Hp) : nMv k x p ih t h = k (aMv (denA x) (pfn Value p) ihD t h) :=
  evN_eq k x t _ _ fun v => putN_eq k hi p v t h
include hi in
theorem nV1_eq (x : KA) (F : Hp → Value → Option Value) (p : Nat) (t : T Value) (h : Hp) : nV1 k x F p ih t h = k (aV1 (denA x) F (pfn Value p) ihD t h) :=
  evN_eq k x t _ _ fun a => optN_eq k _ _ _ fun v => putN_eq k hi p v t h
include hi in
theorem nV2_eq (x y : KA) (F : Hp → Value → Value → Option Value) (p : Nat) (t : T Value) (h : Hp) : nV2 k x y F p ih t h = k (aV2 (denA x) (denA y) F (pfn Value p) ihD t h) :=
  evN_eq k x t _ _ fun a => evN_eq k y t _ _ fun b => optN_eq k _ _ _ fun v => putN_eq k hi p v t h
include hi in
theorem nK2_eq (f : K2) (x y : KA) (p : Nat) (t : T Value) (h : Hp) : nK2 k f x y p ih t h = k (aV2 (denA x) (denA y) (denK2 f) (pfn Value p) ihD t h) :=
  evN_eq k x t _ _ fun a => evN_eq k y t _ _ fun b => by
    rw [k2C_eq (k .fail) f h]
    exact optN_eq k _ _ _ fun v => putN_eq k hi p v t h
include hi in
theorem nFa_eq (off : Nat) (x : KA) (p : Nat) (t : T Value) (h : Hp) : nFa k off x p ih t h = k (aV1 (denA x) (fldF off) (pfn Value p) ihD t h) :=
  evN_eq k x t _ _ fun a => by
    rw [faC_eq (k .fail) off h]
    exact optN_eq k _ _ _ fun v => putN_eq k hi p v t h
include hi in
theorem nNl_eq (x : KA) (p : Nat) (t : T Value) (h : Hp) : nNl k x p ih t h = k (aV1 (denA x) nilF (pfn Value p) ihD t h) :=
  evN_eq k x t _ _ fun a => by
    rw [nlC_eq (k .fail) h]
    exact optN_eq k _ _ _ fun v => putN_eq k hi p v t h
include hi in
theorem nLn_eq (x : KA) (p : Nat) (t : T Value) (h : Hp) : nLn k x p ih t h = k (aV1 (denA x) lenS (pfn Value p) ihD t h) :=
  evN_eq k x t _ _ fun a => by
    rw [lnC_eq (k .fail) h]
    exact optN_eq k _ _ _ fun v => putN_eq k hi p v t h
include hi in
theorem nPk_eq (c x y : KA) (p : Nat) (t : T Value) (h : Hp) : nPk k c x y p ih t h = k (aPk (denA c) (denA x) (denA y) (pfn Value p) ihD t h) :=
  evN_eq k c t _ _ fun c => by
    cases isBool c with
    | none => rfl
    | some b =>
      cases b with
      | true => exact evN_eq k x t _ _ fun v => putN_eq k hi p v t h
      | false => exact evN_eq k y t _ _ fun v => putN_eq k hi p v t h
include hi in
theorem nL1_eq (x : KA) (p : Nat) (t : T Value) (h : Hp) : nL1 k x p ih t h = k (aV1 (denA x) ld1F (pfn Value p) ihD t h) :=
  evN_eq k x t _ _ fun a => by
    rw [ld1K_eq k]
    exact optN_eq k _ _ _ fun v => putN_eq k hi p v t h
include hi in
theorem nLa_eq (n : Nat) (x : KA) (p : Nat) (t : T Value) (h : Hp) : nLa k n x p ih t h = k (aV1 (denA x) (ldAF n) (pfn Value p) ihD t h) :=
  evN_eq k x t _ _ fun a => by
    rw [ldAK_eq k]
    exact optN_eq k _ _ _ fun v => putN_eq k hi p v t h
include hi in
theorem newN_eq (p : Nat) (vs : List Value) (t : T Value) (h : Hp) : putNew p vs ih t h = k (newK vs (pfn Value p) ihD t h) := by
  unfold putNew
  rw [newB_eq, putN_eq k hi]
  obtain ⟨n, ht, low⟩ := h
  cases n <;> rfl
include hi in
theorem nBx_eq (x : KA) (p : Nat) (t : T Value) (h : Hp) : nBx k x p ih t h = k (aBx (denA x) (pfn Value p) ihD t h) :=
  evN_eq k x t _ _ fun v => newN_eq k hi p (cellsF v) t h
include hi in
theorem nSt_eq (n : Nat) (x y : KA) (t : T Value) (h : Hp) : nSt k n x y ih t h = k (aSt n (denA x) (denA y) ihD t h) :=
  evN_eq k x t _ _ fun a => evN_eq k y t _ _ fun v => by
    rw [ptrK_eq]
    cases ptrOf a with
    | none => rfl
    | some q =>
      show okRow (k .fail) (cellsF v) n (getB (k .fail) h q.1 fun ob => rowW (k .fail) ob fun us => overK (k .fail) us q.2 (cellsF v) fun r => setB h q.1 (.cells r) fun h => ih t h) = k (Bool.rec .fail (Option.rec .fail (fun h => ihD t h) (wrF h q.1 q.2 (cellsF v))) (Nat.beq (lenN (cellsF v)) n))
      rw [okRow_eq, getB_eq, wrF_rec]
      cases ha : allOne (cellsF v) with
      | false =>
        cases hl : Nat.beq (lenN (cellsF v)) n with
        | false => rfl
        | true =>
          show k .fail = k (Option.rec .fail (fun h => ihD t h) (match h.t.get q.1 with | some (.cells us) => cond false (match over us q.2 (cellsF v) with | some r => some (h.set q.1 (.cells r)) | none => none) none | _ => none))
          cases h.t.get q.1 with
          | none => rfl
          | some ob => cases ob <;> rfl
      | true =>
        cases hl : Nat.beq (lenN (cellsF v)) n with
        | false => rfl
        | true =>
          show (Option.rec (motive := fun _ => Bool) (k .fail) _ (h.t.get q.1) : Bool) = k (Option.rec .fail (fun h => ihD t h) (match h.t.get q.1 with | some (.cells us) => cond true (match over us q.2 (cellsF v) with | some r => some (h.set q.1 (.cells r)) | none => none) none | _ => none))
          cases h.t.get q.1 with
          | none => rfl
          | some ob =>
            cases ob with
            | cells us =>
              show overK (k .fail) us q.2 (cellsF v) _ = k (Option.rec .fail (fun h => ihD t h) (match over us q.2 (cellsF v) with | some r => some (h.set q.1 (.cells r)) | none => none))
              rw [overK_eq]
              cases over us q.2 (cellsF v) with
              | none => rfl
              | some r =>
                show setB h q.1 (.cells r) (fun h => ih t h) = k (ihD t (h.set q.1 (.cells r)))
                rw [setB_eq]
                exact hi _ _
            | _ => rfl
include hi in
theorem nBd_eq (l : List (KA × Nat × Nat)) (z : List Value) (p : Nat) (t : T Value) (h : Hp) : nBd k l z p ih t h = k (aBd (l.map fun x => (denA x.1, x.2)) z (pfn Value p) ihD t h) := by
  induction l generalizing z with
  | nil => exact putN_eq k hi p (.agg ⟨z⟩) t h
  | cons x l ihl =>
    show evN k x.1 t (fun v => lenC (k .fail) (cellsF v) x.2.2 (overK (k .fail) z x.2.1 (cellsF v) (fun z => nBd k l z p ih t h))) = k (evK (denA x.1) t fun v => Bool.rec .fail (Option.rec .fail (fun z => aBd (l.map fun x => (denA x.1, x.2)) z (pfn Value p) ihD t h) (overF z x.2.1 (cellsF v))) (Nat.beq (lenN (cellsF v)) x.2.2))
    refine evN_eq k x.1 t _ _ fun v => ?_
    rw [lenC_eq, overK_eq, overF_eq]
    cases Nat.beq (lenN (cellsF v)) x.2.2 with
    | false => rfl
    | true =>
      show (Option.rec (motive := fun _ => Bool) (k .fail) _ (over z x.2.1 (cellsF v)) : Bool) = k (Option.rec .fail _ (over z x.2.1 (cellsF v)))
      cases over z x.2.1 (cellsF v) with
      | none => rfl
      | some q => exact ihl q
include hi in
theorem nMo_eq (l : List KA) (F : List Value → Hp → Out) (p : Nat) (t : T Value) (h : Hp) : nMo k l F p ih t h = k (aMo (l.map denA) F (pfn Value p) ihD t h) := by
  refine evNL_eq k t l _ _ fun vs => ?_
  cases F vs h with
  | value v h2 =>
    obtain ⟨n, ht, low⟩ := h2
    show (Nat.rec (motive := fun _ => Bool) (tput p v t fun t => ih t ⟨n, ht, 0⟩) (fun m _ => tput p v t fun t => ih t ⟨n, ht, Nat.succ m⟩) low : Bool) = k (pK (pfn Value p) ihD v t (fl ⟨n, ht, low⟩))
    rw [fl_eq]
    cases low with
    | zero => exact putN_eq k hi p v t _
    | succ m => exact putN_eq k hi p v t _
  | _ => rfl
section
variable (P : Program) (G : GS) (call : FuncId → List Value → Hp → CRes) (callK : CK) (round : Nat → List Value → Hp → CRes) (roundK : RK) (all : Array Oper) (sz : Nat) (mks : List DI)
include hi in
theorem nAfter_eq (p : Option Nat) (t : T Value) (r : CRes) : nAfter k sz mks p ih t r = k (CRes.rec (fun v h => Option.rec (ihD t h) (fun p => pK p ihD v t h) (denP p)) .fail (fun v h => .ok (.pan v) ⟨sz, t, mks⟩ h) r) := by
  cases r with
  | ok v h => exact putO_eq k hi p v t h
  | _ => rfl
variable (hcall : ∀ f vs h c, callK f vs h c = c (call f vs h)) (hround : ∀ l vs h c, roundK l vs h c = c (round l vs h))
include hi hcall in
theorem nCl_eq (f : FuncId) (l : List KA) (p : Option Nat) (t : T Value) (h : Hp) : nCl k sz mks callK f l p ih t h = k (aCl sz mks call f (l.map denA) (denP p) ihD t h) := by
  refine evNL_eq k t l _ _ fun vs => ?_
  rw [hcall]
  exact nAfter_eq k hi sz mks p t _
include hcall hround in
theorem nDone_eq (h : Hp) (c : CRes → Bool) (o : Out) : nDone callK roundK h c o = c (opDone call round h o) := by
  cases o with
  | value v h => rfl
  | call f args => exact hcall f args h c
  | round l args => exact hround l args h c
  | fail => rfl
include hi hcall hround in
theorem nCv_eq (x : KA) (l : List KA) (p : Option Nat) (t : T Value) (h : Hp) : nCv k sz mks callK roundK x l p ih t h = k (aCv sz mks call round (denA x) (l.map denA) (denP p) ihD t h) := by
  refine evNL_eq k t l _ _ fun vs => ?_
  have hx : ∀ c : Value → Bool, evN k x t c = Option.rec (motive := fun _ => Bool) (k .fail) c (evO (denA x) t) := by
    intro c
    cases x with
    | tmp n => exact tget_eq t n _
    | val v => rfl
    | bad => rfl
  rw [hx]
  cases evO (denA x) t with
  | none => rfl
  | some f =>
    show nDone callK roundK h (nAfter k sz mks p ih t) (callV vs (some f)) = _
    rw [nDone_eq call callK round roundK hcall hround]
    exact nAfter_eq k hi sz mks p t _
include hi in
theorem nGen_eq (o : Oper) (t : T Value) (h : Hp) : nGen k P G call round all sz mks o ih t h = k (aGen P G call round all sz mks o ihD t h) := by
  unfold nGen aGen
  cases oneOp P G call round all o ⟨sz, t, mks⟩ h with
  | ok v h2 =>
    cases hd : o.dst with
    | none => exact hi t h2
    | some d =>
      show (Bool.rec (motive := fun _ => Bool) (k .fail) (tput d v t fun t => ih t h2) (Nat.blt d sz) : Bool) = k (match cond (Nat.blt d sz) (some (⟨sz, T.put v t d, mks⟩ : En)) none with | some e => ihD e.t h2 | none => .fail)
      cases Nat.blt d sz with
      | false => rfl
      | true =>
        show tput d v t (fun t => ih t h2) = k (ihD (T.put v t d) h2)
        rw [tput_eq]
        exact hi _ _
  | _ => rfl
include hi hcall hround in
theorem oneN_eq (m : KM) (t : T Value) (h : Hp) : oneN k P G call callK round roundK all sz mks m ih t h = k (runOne P G call round all sz mks (denM m) ihD t h) := by
  induction m generalizing t h with
  | mv x p => exact nMv_eq k hi x p t h
  | v1 x F p => exact nV1_eq k hi x F p t h
  | l1 x p => exact nL1_eq k hi x p t h
  | la n x p => exact nLa_eq k hi n x p t h
  | v2 x y F p => exact nV2_eq k hi x y F p t h
  | k2 f x y p => exact nK2_eq k hi f x y p t h
  | fa off x p => exact nFa_eq k hi off x p t h
  | nl x p => exact nNl_eq k hi x p t h
  | ln x p => exact nLn_eq k hi x p t h
  | pk c x y p => exact nPk_eq k hi c x y p t h
  | nw z p => exact newN_eq k hi p z t h
  | bx x p => exact nBx_eq k hi x p t h
  | st n x y => exact nSt_eq k hi n x y t h
  | cl f l p => exact nCl_eq k hi call callK sz mks hcall f l p t h
  | bd l z p => exact nBd_eq k hi l z p t h
  | mo l F p => exact nMo_eq k hi l F p t h
  | cv x l p => exact nCv_eq k hi call callK round roundK sz mks hcall hround x l p t h
  | gen o => exact nGen_eq k hi P G call round all sz mks o t h
  | gd g w m p ihm =>
    show tget t g _ = k (Option.rec .fail (fun v => Option.rec .fail (fun c => Bool.rec (Option.rec (ihD t h) (fun p => pK p ihD undef t h) (denP p)) (runOne P G call round all sz mks (denM m) ihD t h) c) (wantB v w)) (t.get g))
    rw [tget_eq]
    cases t.get g with
    | none => rfl
    | some v =>
      simp only
      cases wantB v w with
      | none => rfl
      | some c =>
        cases c with
        | true => exact ihm t h
        | false => exact putO_eq k hi p undef t h
end
end
end Cx
end Go.Proofs.YtkljlbilhcdjhaaGreatDoor
namespace Go.Proofs.YtkljlbilhcdjhaaGreatDoor
set_option linter.unusedVariables false
namespace Cx
open Go
section
variable (P : Program) (G : GS)
theorem denA_kA (x : Operand) : denA (kA G x) = compA G x := by
  cases x with
  | tmp t => rfl
  | const v =>
    show denA (Bool.rec .bad (.val v) (constOk v)) = (Bool.rec .bad (.val v) (constOk v) : MA)
    cases constOk v <;> rfl
  | global g =>
    show denA (Bool.rec .bad (.val (.pointer (some ⟨g, 0, none⟩))) (Nat.blt g G.n)) = (Bool.rec .bad (.val (.pointer (some ⟨g, 0, none⟩))) (Nat.blt g G.n) : MA)
    cases Nat.blt g G.n <;> rfl
  | func f => rfl
theorem map_kA (l : List Operand) : (l.map (kA G)).map denA = l.map (compA G) := by
  rw [List.map_map]
  exact List.map_congr_left fun x _ => denA_kA G x
theorem partsK_eq (fs : Array Field) : ∀ l : List (Nat × Operand), (match partsK P G fs l with | some r => some (r.map fun x => (denA x.1, x.2)) | none => none) = partsF P G fs l
  | [] => rfl
  | q :: l => by
    have ih := partsK_eq fs l
    show (match (match placeS P fs q.1, partsK P G fs l with | some a, some r => some ((kA G q.2, a) :: r) | _, _ => none : Option (List (KA × Nat × Nat))) with | some r => some (r.map fun x => (denA x.1, x.2)) | none => none) =
      (match placeS P fs q.1, partsF P G fs l with | some a, some r => some ((compA G q.2, a) :: r) | _, _ => none)
    rw [← ih]
    cases placeS P fs q.1 with
    | none => rfl
    | some a =>
      cases partsK P G fs l with
      | none => rfl
      | some r =>
        show some ((denA (kA G q.2), a) :: r.map fun x => (denA x.1, x.2)) = some ((compA G q.2, a) :: r.map fun x => (denA x.1, x.2))
        rw [denA_kA]
theorem kCall_eq (c : Call) (o : Oper) (p : Nat) : denM (kcCall P G c o p) = cCall P G c o (pfn Value p) := by
  unfold kcCall cCall
  cases callee c with
  | some f => show M.cl f ((c.args.toList.map (kA G)).map denA) (some (pfn Value p)) = _; rw [map_kA]
  | none =>
    simp only
    cases isLen c with
    | some x =>
      show denM (Bool.rec (.v1 (kA G x) (lenF P c.argTypes) p) (.ln (kA G x) p) (isRow P c.argTypes)) = M.v1 (compA G x) (lenF P c.argTypes) (pfn Value p)
      rw [← denA_kA]
      cases hr : isRow P c.argTypes with
      | false => rfl
      | true => rw [lenS_eq hr]; rfl
    | none =>
      simp only
      cases bltF P c with
      | some F => show M.mo ((c.args.toList.map (kA G)).map denA) F (pfn Value p) = _; rw [map_kA]
      | none =>
        simp only
        cases calleeV c with
        | some f => show M.cv (denA (kA G f)) ((c.args.toList.map (kA G)).map denA) (some (pfn Value p)) = _; rw [map_kA, denA_kA]
        | none => rfl
theorem kBin_eq (op : BinOp) (g : Value → Value → Option Value) (x y : KA) (p : Nat) : denM (kBin op g x y p) = .v2 (denA x) (denA y) (fastF op g) (pfn Value p) := by
  cases op <;> rfl
theorem kOp_eq (o : Oper) (p : Nat) : denM (kOp P G o p) = compOpR P G o (pfn Value p) := by
  obtain ⟨d, op, ty, ps, af, g⟩ := o
  cases op with
  | move x => show M.mv (denA (kA G x)) _ = _; rw [denA_kA]; rfl
  | assign x => show M.mv (denA (kA G x)) _ = _; rw [denA_kA]; rfl
  | pick c x y => show M.pk (denA (kA G c)) (denA (kA G x)) (denA (kA G y)) _ = _; rw [denA_kA, denA_kA, denA_kA]; rfl
  | binOp b t x y t2 =>
    show denM (kBin b (binV P (isConst x || isConst y) b t) (kA G x) (kA G y) p) = M.v2 (compA G x) (compA G y) (fastF b (binV P (isConst x || isConst y) b t)) (pfn Value p)
    rw [kBin_eq, denA_kA, denA_kA]
  | nilCheck x => show M.v1 (denA (kA G x)) _ _ = _; rw [denA_kA]; rfl
  | unOp u t x => show M.v1 (denA (kA G x)) _ _ = _; rw [denA_kA]; rfl
  | indexAddr t x y => show M.v2 (denA (kA G x)) (denA (kA G y)) _ _ = _; rw [denA_kA, denA_kA]; rfl
  | index t x y => show M.v2 (denA (kA G x)) (denA (kA G y)) _ _ = _; rw [denA_kA, denA_kA]; rfl
  | box t x => show M.bx (denA (kA G x)) _ = _; rw [denA_kA]; rfl
  | extract x i => show M.v1 (denA (kA G x)) _ _ = _; rw [denA_kA]; rfl
  | field s x f => show M.v1 (denA (kA G x)) _ _ = _; rw [denA_kA]; rfl
  | convert s t x => show M.mo [denA (kA G x)] _ _ = _; rw [denA_kA]; rfl
  | typeAssert x t u b => show M.mo [denA (kA G x)] _ _ = _; rw [denA_kA]; rfl
  | makeSlice t x y => show M.mo [denA (kA G x), denA (kA G y)] _ _ = _; rw [denA_kA, denA_kA]; rfl
  | call c => exact kCall_eq P G c _ p
  | load t x =>
    show denM (kcLoad P G t x _ p) = cLoad P G t x _ (pfn Value p)
    unfold kcLoad cLoad
    cases agg P t with
    | none => rfl
    | some b =>
      cases b with
      | false => show M.v1 (denA (kA G x)) _ _ = _; rw [denA_kA]
      | true =>
        cases size P t with
        | none => rfl
        | some n => show M.v1 (denA (kA G x)) _ _ = _; rw [denA_kA]
  | fieldAddr s x f =>
    show denM (kcFld P G s x f _ p) = cFld P G s x f _ (pfn Value p)
    unfold kcFld cFld
    cases fieldOff P s f with
    | none => rfl
    | some n => show M.v1 (denA (kA G x)) _ _ = _; rw [denA_kA]
  | alloc t =>
    show denM (kcAlloc P t _ p) = cAlloc P t _ (pfn Value p)
    unfold kcAlloc cAlloc
    cases zero P t <;> rfl
  | build t parts =>
    show denM (kcBuild P G t parts _ p) = cBuild P G t parts _ (pfn Value p)
    unfold kcBuild cBuild
    cases zero P t with
    | none => rfl
    | some z =>
      cases P.underlying t with
      | none => rfl
      | some d =>
        cases d with
        | struct fs =>
          simp only
          rw [← partsK_eq]
          cases sizesOk P fs with
          | false => rfl
          | true => cases partsK P G fs parts.toList <;> rfl
        | _ => rfl
  | makeInterface t x =>
    show denM (kcIface P G t x _ p) = cIface P G t x _ (pfn Value p)
    unfold kcIface cIface
    cases P.underlying t with
    | none => rfl
    | some d => cases d <;> first | rfl | (show M.v1 (denA (kA G x)) _ _ = _; rw [denA_kA])
  | makeFunc fn first cap =>
    show denM (kcFunc G fn first cap _ p) = cFunc G fn first cap _ (pfn Value p)
    unfold kcFunc cFunc
    cases fn with
    | func f => show M.mo (((first.toList ++ cap.toList).map (kA G)).map denA) _ _ = _; rw [map_kA]
    | _ => rfl
  | buildSlice t len parts =>
    show M.mo ((parts.toList.map fun q => kA G q.2).map denA) _ _ = M.mo (parts.toList.map fun q => compA G q.2) _ _
    have h1 : ∀ l : List (Nat × Operand), (l.map fun q => kA G q.2).map denA = l.map fun q => compA G q.2 := fun l => by
      rw [List.map_map]
      exact List.map_congr_left fun q _ => denA_kA G q.2
    rw [h1]
  | slice t x lo hi mx =>
    show denM (kcSlice P G t x lo hi mx _ p) = cSlice P G t x lo hi mx _ (pfn Value p)
    unfold kcSlice cSlice
    cases mx with
    | some m => rfl
    | none => show M.mo (((x :: (opL lo ++ opL hi)).map (kA G)).map denA) _ _ = _; rw [map_kA]
  | _ => rfl
theorem kNo_eq (o : Oper) : denM (kNo P G o) = compNoR P G o := by
  obtain ⟨d, op, ty, ps, af, g⟩ := o
  cases op with
  | store t x y =>
    show denM (knStore P G t x y _) = nStore P G t x y _
    unfold knStore nStore
    cases size P t with
    | none => rfl
    | some n => show M.st n (denA (kA G x)) (denA (kA G y)) = _; rw [denA_kA, denA_kA]
  | call c =>
    show denM (knCall G c _) = nCall G c _
    unfold knCall nCall
    cases callee c with
    | some f => show M.cl f ((c.args.toList.map (kA G)).map denA) none = _; rw [map_kA]
    | none =>
      simp only
      cases calleeV c with
      | some f => show M.cv (denA (kA G f)) ((c.args.toList.map (kA G)).map denA) none = _; rw [map_kA, denA_kA]
      | none => rfl
  | _ => rfl
theorem kOne_eq (o : Oper) (p : Option Nat) : denM (kOne P G o p) = comp0 P G o (denP p) := by
  cases p with
  | none => exact kNo_eq P G o
  | some p => exact kOp_eq P G o p
theorem kDst_eq (sz : Nat) (d : Option Nat) (c : Option Nat → KM) (c' : Option (PF (Option Value) (T Value)) → M) (no : KM) (no' : M) (hn : denM no = no') (hc : ∀ p, denM (c p) = c' (denP p)) : denM (kDst sz d c no) = dstF sz d c' no' := by
  cases d with
  | none => exact hc none
  | some d =>
    show denM (Bool.rec no (c (some d)) (Nat.blt d sz)) = Bool.rec no' (c' (some (pfn Value d))) (Nat.blt d sz)
    cases Nat.blt d sz with
    | false => exact hn
    | true => exact hc (some d)
theorem kComp_eq (all : Array Oper) (sz : Nat) (o : Oper) : denM (kComp P G all sz o) = comp P G all sz o := by
  unfold kComp comp
  cases o.guard with
  | none => exact kDst_eq sz o.dst _ _ _ _ rfl fun p => kOne_eq P G o p
  | some g =>
    show denM (Option.rec (.gen o) (fun d => Bool.rec (kDst sz o.dst (fun p => .gd d g.2 (kOne P G { o with guard := none } p) p) (.gen o)) (.gen o) (isSpecR o.op)) (guardAt all g.1)) = compG P G all sz o g
    unfold compG
    cases guardAt all g.1 with
    | none => rfl
    | some d =>
      show denM (Bool.rec (kDst sz o.dst (fun p => .gd d g.2 (kOne P G { o with guard := none } p) p) (.gen o)) (.gen o) (isSpecR o.op)) = Bool.rec (dstF sz o.dst (fun p => .gd (gfn Value d) g.2 (comp0 P G { o with guard := none } p) p) (.gen o)) (.gen o) (isSpecR o.op)
      cases isSpecR o.op with
      | true => rfl
      | false =>
        refine kDst_eq sz o.dst _ _ _ _ rfl fun p => ?_
        show M.gd (gfn Value d) g.2 (denM (kOne P G { o with guard := none } p)) (denP p) = _
        rw [kOne_eq]
section
variable (k : Res → Bool) (call : FuncId → List Value → Hp → CRes) (callK : CK) (round : Nat → List Value → Hp → CRes) (roundK : RK) (all : Array Oper) (sz : Nat) (mks : List DI)
  (hcall : ∀ f vs h c, callK f vs h c = c (call f vs h)) (hround : ∀ l vs h c, roundK l vs h c = c (round l vs h))
include hcall hround in
theorem runN_eq : ∀ (l : List Oper) (t : T Value) (h : Hp), runN k P G call callK round roundK all sz mks (kComps P G all sz l) t h = k (runM P G call round all sz mks (comps P G all sz l) t h)
  | [], t, h => rfl
  | o :: l, t, h => by
    show oneN k P G call callK round roundK all sz mks (kComp P G all sz o) (runN k P G call callK round roundK all sz mks (kComps P G all sz l)) t h = k (runOne P G call round all sz mks (comp P G all sz o) (runM P G call round all sz mks (comps P G all sz l)) t h)
    rw [oneN_eq k (fun t h => runN_eq l t h) P G call callK round roundK all sz mks hcall hround, kComp_eq]
end
end
end Cx
end Go.Proofs.YtkljlbilhcdjhaaGreatDoor
namespace Go.Proofs.YtkljlbilhcdjhaaGreatDoor
set_option linter.unusedVariables false
namespace Cx
open Go
section
variable (P : Program) (G : GS) (k : Res → Bool) (call : FuncId → List Value → Hp → CRes) (callK : CK) (round : Nat → List Value → Hp → CRes) (roundK : RK) (all : Array Oper) (sz : Nat) (mks : List DI)
  (hcall : ∀ f vs h c, callK f vs h c = c (call f vs h)) (hround : ∀ l vs h c, roundK l vs h c = c (round l vs h))
section
variable {rest : List Oper} {ih : KdN} {ihD : KdD} {i : Nat} (hi : ∀ acc t h, ih (Nat.succ i) acc t h = k (ihD (Nat.succ i) acc t h))
include hi in
theorem goN_eq (acc : List (Nat × AE)) (t : T Value) (h : Hp) : goN P G k call round all sz mks rest ih (Nat.succ i) acc t h = k (goD P G call round all sz mks rest ihD (Nat.succ i) acc t h) := by
  unfold goD
  rw [fl_eq]
  obtain ⟨n, ht, low⟩ := h
  cases low with
  | zero =>
    show (Bool.rec (motive := fun _ => Bool) (k (runDrawn P G call round all rest (Nat.succ i) acc ⟨sz, t, mks⟩ ⟨n, ht, 0⟩)) (ih (Nat.succ i) acc t ⟨n, ht, 0⟩) (Nat.ble 0 n) : Bool) = k (Bool.rec (runDrawn P G call round all rest (Nat.succ i) acc ⟨sz, t, mks⟩ ⟨n, ht, 0⟩) (ihD (Nat.succ i) acc t ⟨n, ht, 0⟩) (Nat.ble 0 n))
    cases Nat.ble 0 n with
    | false => rfl
    | true => exact hi _ _ _
  | succ m =>
    show (Bool.rec (motive := fun _ => Bool) (k (runDrawn P G call round all rest (Nat.succ i) acc ⟨sz, t, mks⟩ ⟨n, ht, m + 1⟩)) (ih (Nat.succ i) acc t ⟨n, ht, m + 1⟩) (Nat.ble (m + 1) n) : Bool) = k (Bool.rec (runDrawn P G call round all rest (Nat.succ i) acc ⟨sz, t, mks⟩ ⟨n, ht, m + 1⟩) (ihD (Nat.succ i) acc t ⟨n, ht, m + 1⟩) (Nat.ble (m + 1) n))
    cases Nat.ble (m + 1) n with
    | false => rfl
    | true => exact hi _ _ _
/-- a place filled, and on -/
theorem dstN_eq (d : Option Nat) (v : Value) (t : T Value) (c : T Value → Bool) (c' : T Value → Res) (hc : ∀ t, c t = k (c' t)) :
    (Option.rec (motive := fun _ => Bool) (c t) (fun d => Bool.rec (motive := fun _ => Bool) (k .fail) (tput d v t c) (Nat.blt d sz)) d : Bool) = k (match putD ⟨sz, t, mks⟩ d v with | some e => c' e.t | none => .fail) := by
  cases d with
  | none => exact hc t
  | some d =>
    show (Bool.rec (motive := fun _ => Bool) (k .fail) (tput d v t c) (Nat.blt d sz) : Bool) = k (match cond (Nat.blt d sz) (some (⟨sz, T.put v t d, mks⟩ : En)) none with | some e => c' e.t | none => .fail)
    cases Nat.blt d sz with
    | false => rfl
    | true =>
      show tput d v t c = k (c' (T.put v t d))
      rw [tput_eq]
      exact hc _
include hi in
theorem fGe_eq (o : Oper) (acc : List (Nat × AE)) (t : T Value) (h : Hp) : fGe P G k call round all sz mks o rest ih i acc t h = k (dGe P G call round all sz mks o rest ihD i acc t h) := by
  unfold fGe dGe
  cases wantedC all ⟨sz, t, mks⟩ o.guard with
  | none => rfl
  | some b =>
    cases b with
    | true =>
      simp only
      cases drawOne P G call round all i o ⟨sz, t, mks⟩ h acc (touch G ⟨sz, t, mks⟩ o.op) with
      | ok v h' => exact dstN_eq k sz mks o.dst v t _ _ fun t => goN_eq P G k call round all sz mks hi _ t h'
      | _ => rfl
    | false => exact dstN_eq k sz mks o.dst undef t _ _ fun t => hi _ t h
include hi hcall hround in
theorem fSl_eq (m : KM) (acc : List (Nat × AE)) (t : T Value) (h : Hp) : fSl P G k call callK round roundK all sz mks m rest ih i acc t h = k (dSl P G call round all sz mks (denM m) rest ihD i acc t h) :=
  oneN_eq k (fun t h => hi acc t h) P G call callK round roundK all sz mks hcall hround m t h
include hi hcall hround in
theorem fNw_eq (m : KM) (acc : List (Nat × AE)) (t : T Value) (h : Hp) : fNw P G k call callK round roundK all sz mks m rest ih i acc t h = k (dNw P G call round all sz mks (denM m) rest ihD i acc t h) := by
  unfold fNw dNw hN
  obtain ⟨n, ht, low⟩ := h
  exact oneN_eq k (fun t h => goN_eq P G k call round all sz mks hi _ t h) P G call callK round roundK all sz mks hcall hround m t _
include hi hcall hround in
theorem fLd_eq (x : KA) (m : KM) (acc : List (Nat × AE)) (t : T Value) (h : Hp) : fLd P G k call callK round roundK all sz mks x m rest ih i acc t h = k (dLd P G call round all sz mks (denA x) (denM m) rest ihD i acc t h) := by
  refine evN_eq k x t _ _ fun p => ?_
  rw [ptrK_eq]
  cases ptrOf p with
  | none => rfl
  | some q =>
    show (Bool.rec (motive := fun _ => Bool) (k .fail) _ (accOk all i false q.1 acc) : Bool) = k (Bool.rec .fail _ (accOk all i false q.1 acc))
    cases accOk all i false q.1 acc with
    | false => rfl
    | true => exact oneN_eq k (fun t h => goN_eq P G k call round all sz mks hi _ t h) P G call callK round roundK all sz mks hcall hround m t _
include hi hcall hround in
theorem fSt_eq (ok : Bool) (x : KA) (m : KM) (acc : List (Nat × AE)) (t : T Value) (h : Hp) : fSt P G k call callK round roundK all sz mks ok x m rest ih i acc t h = k (dSt P G call round all sz mks ok (denA x) (denM m) rest ihD i acc t h) := by
  refine evN_eq k x t _ _ fun p => ?_
  rw [ptrK_eq]
  cases ptrOf p with
  | none => rfl
  | some q =>
    show (Bool.rec (motive := fun _ => Bool) (k .fail) _ (accOk all i true q.1 acc) : Bool) = k (Bool.rec .fail _ (accOk all i true q.1 acc))
    cases accOk all i true q.1 acc with
    | false => rfl
    | true =>
      cases ok with
      | false => rfl
      | true => exact oneN_eq k (fun t h => goN_eq P G k call round all sz mks hi _ t h) P G call callK round roundK all sz mks hcall hround m t _
include hi in
theorem fRest_eq (p : Option Nat) (acc : List (Nat × AE)) (n : Nat) (ht : T LObj) (low : Nat) (t : T Value) (r : CRes) :
    fRest P G k call round all sz mks p rest ih i acc n ht low t r = k (match drawRest all i ⟨n, ht, low⟩ acc r with
      | .ok v h' => (match putD ⟨sz, t, mks⟩ p v with | some e' => goD P G call round all sz mks rest ihD (Nat.succ i) ((i, .ch ⟨n, ht, low⟩ h') :: acc) e'.t h' | none => .fail)
      | _ => .fail) := by
  cases r with
  | fail => rfl
  | panic v h => rfl
  | ok v h' =>
    obtain ⟨n', ht', low'⟩ := h'
    show (Bool.rec (motive := fun _ => Bool) (k .fail)
      (Option.rec (motive := fun _ => Bool) (goN P G k call round all sz mks rest ih (Nat.succ i) ((i, .ch ⟨n, ht, low⟩ ⟨n', ht', cond (Nat.ble low low') low low'⟩) :: acc) t ⟨n', ht', cond (Nat.ble low low') low low'⟩) (fun d => Bool.rec (motive := fun _ => Bool) (k .fail) (tput d v t fun t => goN P G k call round all sz mks rest ih (Nat.succ i) ((i, .ch ⟨n, ht, low⟩ ⟨n', ht', cond (Nat.ble low low') low low'⟩) :: acc) t ⟨n', ht', cond (Nat.ble low low') low low'⟩) (Nat.blt d sz)) p)
      (Nat.ble n low' || (barrier all i && accB all i ⟨n, ht, low⟩ ⟨n', ht', low'⟩ acc)) : Bool) = k (match cond (Nat.ble n low' || (barrier all i && accB all i ⟨n, ht, low⟩ ⟨n', ht', low'⟩ acc)) (CRes.ok v ⟨n', ht', cond (Nat.ble low low') low low'⟩) .fail with
      | .ok v h' => (match putD ⟨sz, t, mks⟩ p v with | some e' => goD P G call round all sz mks rest ihD (Nat.succ i) ((i, .ch ⟨n, ht, low⟩ h') :: acc) e'.t h' | none => .fail)
      | _ => .fail)
    cases (Nat.ble n low' || (barrier all i && accB all i ⟨n, ht, low⟩ ⟨n', ht', low'⟩ acc)) with
    | false => rfl
    | true => exact dstN_eq k sz mks p v t _ _ fun t => goN_eq P G k call round all sz mks hi _ t _
include hi hcall in
theorem fCl_eq {c : Call} {f : FuncId} (hc : callee c = some f) (o : Oper) (hg : o.guard = none) (ho : o.op = .call c) (hs : slotOp o.op = false) (acc : List (Nat × AE)) (t : T Value) (h : Hp) :
    fCl P G k call callK round all sz mks f (c.args.toList.map (kA G)) o.dst rest ih i acc t h = k (dGe P G call round all sz mks o rest ihD i acc t h) := by
  obtain ⟨n, ht, low⟩ := h
  unfold fCl
  have hw : wantedC all ⟨sz, t, mks⟩ o.guard = some true := by rw [hg]; rfl
  have ht0 : touch G ⟨sz, t, mks⟩ o.op = none := by rw [ho]; rfl
  have hl : loadStore o.op = false := by rw [ho]; rfl
  have hn : isNew o.op = false := by rw [ho]; rfl
  have hop : opC P G ⟨sz, t, mks⟩ ⟨n, ht, n⟩ o = (match evs G ⟨sz, t, mks⟩ c.args.toList with | some vs => .call f vs | none => .fail) := by
    have h1 : opC P G ⟨sz, t, mks⟩ ⟨n, ht, n⟩ o = opCall P G ⟨sz, t, mks⟩ ⟨n, ht, n⟩ c o.type := by unfold opC; rw [ho]
    rw [h1, opCall_fn hc]
    cases evs G ⟨sz, t, mks⟩ c.args.toList <;> rfl
  have hd : dGe P G call round all sz mks o rest ihD i acc t ⟨n, ht, low⟩ = evL t (c.args.toList.map (compA G)) fun vs => (match drawRest all i ⟨n, ht, low⟩ acc (call f vs ⟨n, ht, n⟩) with
      | .ok v h' => (match putD ⟨sz, t, mks⟩ o.dst v with | some e' => goD P G call round all sz mks rest ihD (Nat.succ i) ((i, .ch ⟨n, ht, low⟩ h') :: acc) e'.t h' | none => .fail)
      | _ => .fail) := by
    unfold dGe
    rw [hw, ht0]
    simp only
    unfold drawOne
    rw [hl, hs, hn]
    show (match drawRest all i ⟨n, ht, low⟩ acc (opDone call round ⟨n, ht, n⟩ (opC P G ⟨sz, t, mks⟩ ⟨n, ht, n⟩ o)) with
      | .ok v h' => (match putD ⟨sz, t, mks⟩ o.dst v with | some e' => goD P G call round all sz mks rest ihD (Nat.succ i) ((i, .ch ⟨n, ht, low⟩ h') :: acc) e'.t h' | none => .fail)
      | _ => .fail) = _
    rw [hop, evL_eq (sz := sz) (mks := mks)]
    cases evs G ⟨sz, t, mks⟩ c.args.toList <;> rfl
  rw [hd, ← map_kA]
  refine evNL_eq k t _ _ _ fun vs => ?_
  show callK f vs ⟨n, ht, n⟩ (fRest P G k call round all sz mks o.dst rest ih i acc n ht low t) = _
  rw [hcall]
  exact fRest_eq P G k call round all sz mks hi _ _ _ _ _ _ _
include hi hcall hround in
theorem fCv_eq {c : Call} {f : Operand} (hc : calleeV c = some f) (o : Oper) (hg : o.guard = none) (ho : o.op = .call c) (hs : slotOp o.op = false) (acc : List (Nat × AE)) (t : T Value) (h : Hp) :
    fCv P G k call callK round roundK all sz mks (kA G f) (c.args.toList.map (kA G)) o.dst rest ih i acc t h = k (dGe P G call round all sz mks o rest ihD i acc t h) := by
  obtain ⟨n, ht, low⟩ := h
  unfold fCv
  have hw : wantedC all ⟨sz, t, mks⟩ o.guard = some true := by rw [hg]; rfl
  have ht0 : touch G ⟨sz, t, mks⟩ o.op = none := by rw [ho]; rfl
  have hl : loadStore o.op = false := by rw [ho]; rfl
  have hn : isNew o.op = false := by rw [ho]; rfl
  have hop : opC P G ⟨sz, t, mks⟩ ⟨n, ht, n⟩ o = (match evs G ⟨sz, t, mks⟩ c.args.toList with | some vs => callV vs (ev G ⟨sz, t, mks⟩ f) | none => .fail) := by
    have h1 : opC P G ⟨sz, t, mks⟩ ⟨n, ht, n⟩ o = opCall P G ⟨sz, t, mks⟩ ⟨n, ht, n⟩ c o.type := by unfold opC; rw [ho]
    rw [h1, opCall_val hc]
    cases evs G ⟨sz, t, mks⟩ c.args.toList <;> rfl
  have hd : dGe P G call round all sz mks o rest ihD i acc t ⟨n, ht, low⟩ = evL t (c.args.toList.map (compA G)) fun vs => (match drawRest all i ⟨n, ht, low⟩ acc (opDone call round ⟨n, ht, n⟩ (callV vs (ev G ⟨sz, t, mks⟩ f))) with
      | .ok v h' => (match putD ⟨sz, t, mks⟩ o.dst v with | some e' => goD P G call round all sz mks rest ihD (Nat.succ i) ((i, .ch ⟨n, ht, low⟩ h') :: acc) e'.t h' | none => .fail)
      | _ => .fail) := by
    unfold dGe
    rw [hw, ht0]
    simp only
    unfold drawOne
    rw [hl, hs, hn]
    show (match drawRest all i ⟨n, ht, low⟩ acc (opDone call round ⟨n, ht, n⟩ (opC P G ⟨sz, t, mks⟩ ⟨n, ht, n⟩ o)) with
      | .ok v h' => (match putD ⟨sz, t, mks⟩ o.dst v with | some e' => goD P G call round all sz mks rest ihD (Nat.succ i) ((i, .ch ⟨n, ht, low⟩ h') :: acc) e'.t h' | none => .fail)
      | _ => .fail) = _
    rw [hop, evL_eq (sz := sz) (mks := mks)]
    cases evs G ⟨sz, t, mks⟩ c.args.toList <;> rfl
  rw [hd, ← map_kA]
  refine evNL_eq k t _ _ _ fun vs => ?_
  have hx : ∀ c : Value → Bool, evN k (kA G f) t c = Option.rec (motive := fun _ => Bool) (k .fail) c (ev G ⟨sz, t, mks⟩ f) := by
    intro c
    rw [← evO_eq sz t mks, ← denA_kA]
    cases kA G f with
    | tmp n => exact tget_eq t n _
    | val v => rfl
    | bad => rfl
  rw [hx]
  cases ev G ⟨sz, t, mks⟩ f with
  | none => rfl
  | some f =>
    show nDone callK roundK ⟨n, ht, n⟩ (fRest P G k call round all sz mks o.dst rest ih i acc n ht low t) (callV vs (some f)) = _
    rw [nDone_eq call callK round roundK hcall hround]
    exact fRest_eq P G k call round all sz mks hi _ _ _ _ _ _ _
include hi hcall hround in
/-- an operation without a guard -/
theorem free_eq (o : Oper) (hg : o.guard = none) (acc : List (Nat × AE)) (t : T Value) (h : Hp) :
    KD.rec (motive := fun _ => List Oper → KdN → KdN) (fSl P G k call callK round roundK all sz mks) (fLd P G k call callK round roundK all sz mks) (fNw P G k call callK round roundK all sz mks) (fSt P G k call callK round roundK all sz mks) (fCl P G k call callK round all sz mks) (fCv P G k call callK round roundK all sz mks) (fGe P G k call round all sz mks) (fGd P G k call round all sz mks) (GF.rec (fun g => g o.op i all (kComp P G all sz o) o o.dst) (opTabKD G)) rest ih i acc t h =
    k (MD.rec (motive := fun _ => List Oper → KdD → KdD) (dSl P G call round all sz mks) (dLd P G call round all sz mks) (dNw P G call round all sz mks) (dSt P G call round all sz mks) (dGe P G call round all sz mks) (compDR P G all sz i o) rest ihD i acc t h) := by
  have hsl := fun (m : KM) => fSl_eq P G k call callK round roundK all sz mks hcall hround (rest := rest) hi m acc t h
  have hnw := fun (m : KM) => fNw_eq P G k call callK round roundK all sz mks hcall hround (rest := rest) hi m acc t h
  have hge := fGe_eq P G k call round all sz mks (rest := rest) hi o acc t h
  have hcl := fun c f hc ho hs => fCl_eq P G k call callK round all sz mks hcall (rest := rest) hi (c := c) (f := f) hc o hg ho hs acc t h
  have hcv := fun c f hc ho hs => fCv_eq P G k call callK round roundK all sz mks hcall hround (rest := rest) hi (c := c) (f := f) hc o hg ho hs acc t h
  have hk := kComp_eq P G all sz o
  have hcd : compDR P G all sz i o = GF.rec (fun g => g o.op i all (comp P G all sz o) o) (opTabD G) := by unfold compDR; rw [hg]
  rw [hcd, ← hk]
  obtain ⟨d, op, ty, ps, af, g⟩ := o
  cases op with
  | load t2 x =>
    have h1 := fLd_eq P G k call callK round roundK all sz mks hcall hround (rest := rest) hi (kA G x) (kComp P G all sz ⟨d, .load t2 x, ty, ps, af, g⟩) acc t h
    rw [denA_kA] at h1
    exact h1
  | store t2 x y =>
    have h1 := fSt_eq P G k call callK round roundK all sz mks hcall hround (rest := rest) hi (barrierS all i) (kA G x) (kComp P G all sz ⟨d, .store t2 x y, ty, ps, af, g⟩) acc t h
    rw [denA_kA] at h1
    exact h1
  | call c =>
    show KD.rec (motive := fun _ => List Oper → KdN → KdN) (fSl P G k call callK round roundK all sz mks) (fLd P G k call callK round roundK all sz mks) (fNw P G k call callK round roundK all sz mks) (fSt P G k call callK round roundK all sz mks) (fCl P G k call callK round all sz mks) (fCv P G k call callK round roundK all sz mks) (fGe P G k call round all sz mks) (fGd P G k call round all sz mks) (Bool.rec (match callee c with | some f => .cl f (c.args.toList.map (kA G)) d | none => (match calleeV c with | some f => .cv (kA G f) (c.args.toList.map (kA G)) d | none => .ge ⟨d, .call c, ty, ps, af, g⟩)) (.sl (kComp P G all sz ⟨d, .call c, ty, ps, af, g⟩)) (slotOp (.call c))) rest ih i acc t h =
      k (MD.rec (motive := fun _ => List Oper → KdD → KdD) (dSl P G call round all sz mks) (dLd P G call round all sz mks) (dNw P G call round all sz mks) (dSt P G call round all sz mks) (dGe P G call round all sz mks) (Bool.rec (.ge ⟨d, .call c, ty, ps, af, g⟩) (.sl (denM (kComp P G all sz ⟨d, .call c, ty, ps, af, g⟩))) (slotOp (.call c))) rest ihD i acc t h)
    cases hs : slotOp (.call c) with
    | true => exact hsl _
    | false =>
      simp only
      cases hc : callee c with
      | some f => exact hcl c f hc rfl hs
      | none =>
        simp only
        cases hv : calleeV c with
        | some f => exact hcv c f hv rfl hs
        | none => exact hge
  | _ => first | exact hsl _ | exact hnw _ | exact hge
end
theorem kCompD_gd (o : Oper) {g : Nat × Bool} (hg : o.guard = some g) (i : Nat) : kCompD P G all sz i o = .ge o ∨ ∃ d p, guardAt all g.1 = some d ∧ ((o.dst = none ∧ p = none) ∨ ∃ q, o.dst = some q ∧ Nat.blt q sz = true ∧ p = some q) ∧
    kCompD P G all sz i o = .gd d g.2 (GF.rec (fun g => g o.op i all (kComp P G all sz { o with guard := none }) { o with guard := none } o.dst) (opTabKD G)) p o := by
  have h0 : kCompD P G all sz i o = Option.rec (.ge o) (fun d => Bool.rec (Option.rec (.gd d g.2 (GF.rec (fun g => g o.op i all (kComp P G all sz { o with guard := none }) { o with guard := none } o.dst) (opTabKD G)) none o) (fun q => Bool.rec (.ge o) (.gd d g.2 (GF.rec (fun g => g o.op i all (kComp P G all sz { o with guard := none }) { o with guard := none } o.dst) (opTabKD G)) (some q) o) (Nat.blt q sz)) o.dst) (.ge o) (isSpecR o.op)) (guardAt all g.1) := by
    unfold kCompD; rw [hg]
  rw [h0]
  generalize hT : ((GF.rec (fun g => g o.op i all (kComp P G all sz { o with guard := none }) { o with guard := none } o.dst) (opTabKD G)) : KD) = T0
  cases guardAt all g.1 with
  | none => exact .inl rfl
  | some d =>
    cases isSpecR o.op with
    | true => exact .inl rfl
    | false =>
      cases o.dst with
      | none => exact .inr ⟨d, none, rfl, .inl ⟨rfl, rfl⟩, rfl⟩
      | some q =>
        cases hq : Nat.blt q sz with
        | false => left; show (Bool.rec (KD.ge o) (KD.gd d g.2 T0 (some q) o) (Nat.blt q sz) : KD) = _; rw [hq]
        | true => right; exact ⟨d, some q, rfl, .inr ⟨q, rfl, hq, rfl⟩, by show (Bool.rec (KD.ge o) (KD.gd d g.2 T0 (some q) o) (Nat.blt q sz) : KD) = _; rw [hq]⟩
include hcall hround in
theorem runND_eq : ∀ (l : List Oper) (i : Nat) (acc : List (Nat × AE)) (t : T Value) (h : Hp), runND P G k call callK round roundK all sz mks (kCompsD P G all sz l i) i acc t h = k (runMD P G call round all sz mks (compsD P G all sz l i) i acc t h)
  | [], i, acc, t, h => rfl
  | o :: l, i, acc, t, h => by
    have hi : ∀ acc t h, runND P G k call callK round roundK all sz mks (kCompsD P G all sz l (Nat.succ i)) (Nat.succ i) acc t h = k (runMD P G call round all sz mks (compsD P G all sz l (Nat.succ i)) (Nat.succ i) acc t h) := fun acc t h => runND_eq l (Nat.succ i) acc t h
    show KD.rec (motive := fun _ => List Oper → KdN → KdN) (fSl P G k call callK round roundK all sz mks) (fLd P G k call callK round roundK all sz mks) (fNw P G k call callK round roundK all sz mks) (fSt P G k call callK round roundK all sz mks) (fCl P G k call callK round all sz mks) (fCv P G k call callK round roundK all sz mks) (fGe P G k call round all sz mks) (fGd P G k call round all sz mks) (kCompD P G all sz i o) l (runND P G k call callK round roundK all sz mks (kCompsD P G all sz l (Nat.succ i))) i acc t h = k (MD.rec (motive := fun _ => List Oper → KdD → KdD) (dSl P G call round all sz mks) (dLd P G call round all sz mks) (dNw P G call round all sz mks) (dSt P G call round all sz mks) (dGe P G call round all sz mks) (compDR P G all sz i o) l (runMD P G call round all sz mks (compsD P G all sz l (Nat.succ i))) i acc t h)
    cases hg : o.guard with
    | none =>
      have hk : kCompD P G all sz i o = GF.rec (fun g => g o.op i all (kComp P G all sz o) o o.dst) (opTabKD G) := by unfold kCompD; rw [hg]
      rw [hk]
      exact free_eq P G k call callK round roundK all sz mks hcall hround hi o hg acc t h
    | some g =>
      have hc : compDR P G all sz i o = .ge o := by unfold compDR; rw [hg]
      rw [hc]
      have hge := fGe_eq P G k call round all sz mks (rest := l) hi o acc t h
      rcases kCompD_gd P G all sz o hg i with hk | ⟨d, p, hga, hp, hk⟩
      · rw [hk]; exact hge
      · rw [hk]
        have hw : ∀ t, wantedC all ⟨sz, t, mks⟩ o.guard = (match t.get d with | some v => wantB v g.2 | none => none) := by
          intro t; rw [hg]; exact wanted_at all sz mks hga t
        show fGd P G k call round all sz mks d g.2 (GF.rec (fun g => g o.op i all (kComp P G all sz { o with guard := none }) { o with guard := none } o.dst) (opTabKD G)) p o (KD.rec (motive := fun _ => List Oper → KdN → KdN) (fSl P G k call callK round roundK all sz mks) (fLd P G k call callK round roundK all sz mks) (fNw P G k call callK round roundK all sz mks) (fSt P G k call callK round roundK all sz mks) (fCl P G k call callK round all sz mks) (fCv P G k call callK round roundK all sz mks) (fGe P G k call round all sz mks) (fGd P G k call round all sz mks) (GF.rec (fun g => g o.op i all (kComp P G all sz { o with guard := none }) { o with guard := none } o.dst) (opTabKD G))) l (runND P G k call callK round roundK all sz mks (kCompsD P G all sz l (Nat.succ i))) i acc t h = k (dGe P G call round all sz mks o l (runMD P G call round all sz mks (compsD P G all sz l (Nat.succ i))) i acc t h)
        unfold fGd
        rw [tget_eq]
        have hd0 : wantedC all ⟨sz, t, mks⟩ o.guard = none → dGe P G call round all sz mks o l (runMD P G call round all sz mks (compsD P G all sz l (Nat.succ i))) i acc t h = .fail := by
          intro h0; unfold dGe; rw [h0]
        have hw1 := hw t
        cases htd : t.get d with
        | none =>
          rw [htd] at hw1
          rw [hd0 hw1]
        | some v =>
          rw [htd] at hw1
          simp only at hw1 ⊢
          cases hb : wantB v g.2 with
          | none =>
            rw [hb] at hw1
            rw [hd0 hw1]
          | some c =>
            rw [hb] at hw1
            cases c with
            | false =>
              have hdf : dGe P G call round all sz mks o l (runMD P G call round all sz mks (compsD P G all sz l (Nat.succ i))) i acc t h = (match putD ⟨sz, t, mks⟩ o.dst undef with | some e' => runMD P G call round all sz mks (compsD P G all sz l (Nat.succ i)) (Nat.succ i) acc e'.t h | none => .fail) := by
                unfold dGe; rw [hw1]; rfl
              rw [hdf]
              rcases hp with ⟨h1, rfl⟩ | ⟨q, h1, h2, rfl⟩
              · rw [h1]; exact hi acc t h
              · rw [h1]
                show tput q undef t _ = k (match cond (Nat.blt q sz) (some (⟨sz, T.put undef t q, mks⟩ : En)) none with | some e' => runMD P G call round all sz mks (compsD P G all sz l (Nat.succ i)) (Nat.succ i) acc e'.t h | none => .fail)
                rw [h2, tput_eq]
                exact hi _ _ _
            | true =>
              obtain ⟨n, ht, low⟩ := h
              show (Bool.rec (motive := fun _ => Bool) (fGe P G k call round all sz mks o l (runND P G k call callK round roundK all sz mks (kCompsD P G all sz l (Nat.succ i))) i acc t ⟨n, ht, low⟩) _ (Nat.ble low n) : Bool) = _
              cases hl : Nat.ble low n with
              | false => exact hge
              | true =>
                simp only
                refine (free_eq P G k call callK round roundK all sz mks hcall hround hi { o with guard := none } rfl acc t ⟨n, ht, low⟩).trans ?_
                have e1 := runMD_eq (P := P) (G := G) call round all sz mks ({ o with guard := none } :: l) i acc t ⟨n, ht, low⟩ hl
                have e2 := runMD_eq (P := P) (G := G) call round all sz mks (o :: l) i acc t ⟨n, ht, low⟩ hl
                have e3 : runDrawn P G call round all ({ o with guard := none } :: l) i acc ⟨sz, t, mks⟩ ⟨n, ht, low⟩ = runDrawn P G call round all (o :: l) i acc ⟨sz, t, mks⟩ ⟨n, ht, low⟩ := by
                  rw [runDrawn_cons, runDrawn_cons, hw1]
                  rfl
                have e4 : runMD P G call round all sz mks (compsD P G all sz (o :: l) i) i acc t ⟨n, ht, low⟩ = dGe P G call round all sz mks o l (runMD P G call round all sz mks (compsD P G all sz l (Nat.succ i))) i acc t ⟨n, ht, low⟩ := by
                  show MD.rec (motive := fun _ => List Oper → KdD → KdD) (dSl P G call round all sz mks) (dLd P G call round all sz mks) (dNw P G call round all sz mks) (dSt P G call round all sz mks) (dGe P G call round all sz mks) (compDR P G all sz i o) l (runMD P G call round all sz mks (compsD P G all sz l (Nat.succ i))) i acc t ⟨n, ht, low⟩ = _
                  rw [hc]
                rw [← e4, e2, ← e3, ← e1]
                rfl
end
end Cx
end Go.Proofs.YtkljlbilhcdjhaaGreatDoor
namespace Go.Proofs.YtkljlbilhcdjhaaGreatDoor
set_option linter.unusedVariables false
namespace Cx
open Go
section
variable (P : Program) (G : GS)
theorem envN_eq : ∀ (l : List Value) (i : Nat) (t : T Value) (c : T Value → Bool), envN l i t c = c (envOf l i t)
  | [], i, t, c => rfl
  | v :: l, i, t, c => by
    show tput i v t (fun t => envN l (Nat.succ i) t c) = c (envOf l (Nat.succ i) (T.put v t i))
    rw [tput_eq, envN_eq l]
theorem ldTK_eq (z : Bool) (h : Hp) (ty : TypeId) (a : Value) (c : Value → Bool) : ldTK z P h ty a c = Option.rec (motive := fun _ => Bool) z c (ldF P h ty a) := by
  unfold ldTK ldF
  cases ha : agg P ty with
  | none => rfl
  | some b =>
    cases b with
    | false => exact ld1K_eq (fun _ => z) h a c
    | true =>
      cases size P ty with
      | none => rfl
      | some n => exact ldAK_eq (fun _ => z) n h a c
theorem resN_eq (z : Bool) (t : T Value) (h : Hp) : ∀ (l : List ResultVar) (c : List Value → Bool), resN P z t h l c = Option.rec (motive := fun _ => Bool) z c (resF P t h l)
  | [], c => rfl
  | r :: l, c => by
    have ih := resN_eq z t h l
    cases r with
    | tmp i =>
      show tget t i (fun o => Option.rec (motive := fun _ => Bool) z (fun v => resN P z t h l fun l => c (v :: l)) o) = Option.rec (motive := fun _ => Bool) z c (Option.rec none (fun v => Option.rec none (fun l => some (v :: l)) (resF P t h l)) (t.get i))
      rw [tget_eq]
      cases t.get i with
      | none => rfl
      | some v =>
        show resN P z t h l (fun l => c (v :: l)) = _
        rw [ih]
        cases resF P t h l <;> rfl
    | cell a ty =>
      show tget t a (fun o => Option.rec (motive := fun _ => Bool) z (fun p => ldTK z P h ty p fun v => resN P z t h l fun l => c (v :: l)) o) = Option.rec (motive := fun _ => Bool) z c (Option.rec none (fun v => Option.rec none (fun l => some (v :: l)) (resF P t h l)) (Option.rec none (fun p => ldF P h ty p) (t.get a)))
      rw [tget_eq]
      cases t.get a with
      | none => rfl
      | some p =>
        show ldTK z P h ty p (fun v => resN P z t h l fun l => c (v :: l)) = Option.rec (motive := fun _ => Bool) z c (Option.rec none (fun v => Option.rec none (fun l => some (v :: l)) (resF P t h l)) (ldF P h ty p))
        rw [ldTK_eq]
        cases ldF P h ty p with
        | none => rfl
        | some v =>
          show resN P z t h l (fun l => c (v :: l)) = _
          rw [ih]
          cases resF P t h l <;> rfl
theorem retN_eq (dc : FuncId → List Value → UM → Hp → Option (UM × Hp)) (rs : List ResultVar) (e : En) (h : Hp) (k : CRes → Bool) : retN P dc rs e h k = k (retE P dc rs e h) := by
  obtain ⟨sz, t, mks⟩ := e
  cases mks with
  | cons d ds => rfl
  | nil =>
    show resN P (k .fail) t h rs (fun l => k (.ok (tupOf l) h)) = k (Option.rec .fail (fun l => .ok (tupOf l) h) (resF P t h rs))
    rw [resN_eq]
    cases resF P t h rs <;> rfl
theorem endN_eq (dc : FuncId → List Value → UM → Hp → Option (UM × Hp)) (rs : List ResultVar) (k : CRes → Bool) (r : Res) : endN P dc rs k r = k (retF P dc rs r) := by
  cases r with
  | fail => rfl
  | ok x e h => cases x <;> first | exact retN_eq P dc rs e h k | rfl
section
variable (ihD : Ih) (ih : IhN) (hi : ∀ ro c e h k, ih ro c e h k = k (ihD ro c e h))
include hi in
theorem callN0_eq (f : FuncId) (args : List Value) (h : Hp) (k : CRes → Bool) : callN0 P G ihD ih f args h k = k (callF0 P G ihD f args h) := by
  unfold callN0 callF0
  cases finfo P f with
  | no => rfl
  | ext => rfl
  | go n c rs =>
    show (Bool.rec (motive := fun _ => Bool) (k .fail) (envN args 0 .nil fun t => ih none c ⟨n, t, []⟩ h (endN P (deferC P G ihD) rs k)) (Nat.ble args.length n) : Bool) = k (Bool.rec .fail (retF P (deferC P G ihD) rs (ihD none c ⟨n, envOf args 0 .nil, []⟩ h)) (Nat.ble args.length n))
    cases Nat.ble args.length n with
    | false => rfl
    | true =>
      show envN args 0 .nil (fun t => ih none c ⟨n, t, []⟩ h (endN P (deferC P G ihD) rs k)) = _
      rw [envN_eq, hi, endN_eq]
include hi in
theorem callN'_eq (f : FuncId) (args : List Value) (h : Hp) (k : CRes → Bool) : callN' P G ihD ih f args h k = k (callF P G ihD f args h) := by
  unfold callN' callF
  cases G.stub f with
  | none => exact callN0_eq P G ihD ih hi f args h k
  | some g =>
    show (Option.rec (motive := fun _ => Bool) (callN0 P G ihD ih f args h k) (fun r => k r) (g args h) : Bool) = k (Option.rec (callF0 P G ihD f args h) (fun r => r) (g args h))
    cases g args h with
    | none => exact callN0_eq P G ihD ih hi f args h k
    | some r => rfl
include hi in
theorem roundMidN_eq (l : Nat) (bd : Code) (k : CRes → Bool) (r : Res) : roundMidN ih l bd k r = k (roundMid ihD l bd r) := by
  unfold roundMidN roundMid
  cases r with
  | fail => rfl
  | ok x e h =>
    cases x with
    | normal =>
      simp only
      cases h.t.get l with
      | none => rfl
      | some o =>
        cases o with
        | loop b c e ps as bd' =>
          cases b with
          | false => exact hi _ _ _ _ _
          | true => rfl
        | _ => rfl
    | _ => rfl
include hi in
theorem roundN_eq (l : Nat) (args : List Value) (h : Hp) (k : CRes → Bool) : roundN ih l args h k = k (roundC ihD l args h) := by
  unfold roundN roundC
  cases h.t.get l with
  | none => rfl
  | some o =>
    cases o with
    | loop b c e ps as bd =>
      cases b with
      | false =>
        simp only
        cases putPs ps args ⟨e.sz, e.t, []⟩ with
        | none => rfl
        | some e1 =>
          simp only
          rw [hi, roundMidN_eq ihD ih hi]
      | true => rfl
    | _ => rfl
include hi in
theorem rangeEndN_eq (ro : Option Nat) (l : Nat) (e : En) (k : Res → Bool) (r : CRes) : rangeEndN ih ro l e k r = k (rangeEnd ihD ro l e r) := by
  unfold rangeEndN rangeEnd
  cases r with
  | ok v h =>
    simp only
    cases h.t.get l with
    | none => rfl
    | some o =>
      cases o with
      | loop b c e ps as bd =>
        cases b with
        | false => cases c <;> rfl
        | true =>
          cases c with
          | none => rfl
          | some c => exact hi _ _ _ _ _
      | _ => rfl
  | _ => rfl
include hi in
theorem rangeN_eq (ro : Option Nat) (f : Operand) (ps : List Tmp) (as bd : Code) (e : En) (h : Hp) (k : Res → Bool) : rangeN P G ihD ih ro f ps as bd e h k = k (rangeC P G ihD ro f ps as bd e h) := by
  unfold rangeN rangeC
  rw [← callF_fun]
  generalize ev G e f = ov
  cases ov with
  | none => rfl
  | some v =>
    cases v with
    | func fn first cap =>
      cases fn with
      | func g =>
        cases ro with
        | none =>
          simp only
          rw [callN'_eq P G ihD ih hi, rangeEndN_eq ihD ih hi]
        | some l =>
          simp only
          cases h.t.get l with
          | none => rfl
          | some o =>
            cases o with
            | loop b c e1 ps1 as1 bd1 =>
              simp only
              rw [callN'_eq P G ihD ih hi, rangeEndN_eq ihD ih hi]
            | _ => rfl
      | _ => rfl
    | _ => rfl
include hi in
theorem regN_eq (ro : Option Nat) (ops : Array Oper) (e : En) (h : Hp) (k : Res → Bool) : regN P G ihD ih ro ops e h k = k (runF P G ro (callF P G ihD) (roundC ihD) ops e h) := by
  obtain ⟨sz, t, mks⟩ := e
  unfold regN runF
  cases anyDefR ops.toList with
  | true => rfl
  | false => exact runN_eq P G k _ _ _ _ ops sz mks (callN'_eq P G ihD ih hi) (roundN_eq ihD ih hi) ops.toList t h
include hi in
theorem regND_eq (ops : Array Oper) (e : En) (h : Hp) (k : Res → Bool) : regND P G ihD ih ops e h k = k (runDF P G (callF P G ihD) (roundC ihD) ops e h) := by
  obtain ⟨sz, t, mks⟩ := e
  unfold regND runDF
  obtain ⟨n, ht, low⟩ := h
  have hr := fun t h => runND_eq P G k (callF P G ihD) (callN' P G ihD ih) (roundC ihD) (roundN ih) ops sz mks (callN'_eq P G ihD ih hi) (roundN_eq ihD ih hi) ops.toList 0 [] t h
  show goN P G k (callF P G ihD) (roundC ihD) ops sz mks ops.toList (runND P G k (callF P G ihD) (callN' P G ihD ih) (roundC ihD) (roundN ih) ops sz mks (kCompsD P G ops sz ops.toList 0)) 0 [] t ⟨n, ht, low⟩ = k (goD P G (callF P G ihD) (roundC ihD) ops sz mks ops.toList (runMD P G (callF P G ihD) (roundC ihD) ops sz mks (compsD P G ops sz ops.toList 0)) 0 [] t ⟨n, ht, low⟩)
  unfold goD
  rw [fl_eq]
  cases low with
  | zero =>
    show (Bool.rec (motive := fun _ => Bool) (k (runDrawn P G (callF P G ihD) (roundC ihD) ops ops.toList 0 [] ⟨sz, t, mks⟩ ⟨n, ht, 0⟩)) (runND P G k (callF P G ihD) (callN' P G ihD ih) (roundC ihD) (roundN ih) ops sz mks (kCompsD P G ops sz ops.toList 0) 0 [] t ⟨n, ht, 0⟩) (Nat.ble 0 n) : Bool) = k (Bool.rec (runDrawn P G (callF P G ihD) (roundC ihD) ops ops.toList 0 [] ⟨sz, t, mks⟩ ⟨n, ht, 0⟩) (runMD P G (callF P G ihD) (roundC ihD) ops sz mks (compsD P G ops sz ops.toList 0) 0 [] t ⟨n, ht, 0⟩) (Nat.ble 0 n))
    cases Nat.ble 0 n with
    | false => rfl
    | true => exact hr _ _
  | succ m =>
    show (Bool.rec (motive := fun _ => Bool) (k (runDrawn P G (callF P G ihD) (roundC ihD) ops ops.toList 0 [] ⟨sz, t, mks⟩ ⟨n, ht, m + 1⟩)) (runND P G k (callF P G ihD) (callN' P G ihD ih) (roundC ihD) (roundN ih) ops sz mks (kCompsD P G ops sz ops.toList 0) 0 [] t ⟨n, ht, m + 1⟩) (Nat.ble (m + 1) n) : Bool) = k (Bool.rec (runDrawn P G (callF P G ihD) (roundC ihD) ops ops.toList 0 [] ⟨sz, t, mks⟩ ⟨n, ht, m + 1⟩) (runMD P G (callF P G ihD) (roundC ihD) ops sz mks (compsD P G ops sz ops.toList 0) 0 [] t ⟨n, ht, m + 1⟩) (Nat.ble (m + 1) n))
    cases Nat.ble (m + 1) n with
    | false => rfl
    | true => exact hr _ _
include hi in
theorem thenN_eq (ro : Option Nat) (b : Code) (k : Res → Bool) (r : Res) : thenN (ih ro b) k r = k (thenF (ihD ro b) r) := by
  cases r with
  | fail => rfl
  | ok x e h => cases x <;> first | exact hi _ _ _ _ _ | rfl
theorem blockN_eq (id : Nat) (k : Res → Bool) (r : Res) : blockN id k r = k (blockC id r) := by
  cases r with
  | fail => rfl
  | ok x e h =>
    cases x with
    | exit i =>
      show (Bool.rec (motive := fun _ => Bool) (k (.ok (.exit i) e h)) (k (.ok .normal e h)) (Nat.beq i id) : Bool) = k (cond (Nat.beq i id) (.ok .normal e h) (.ok (.exit i) e h))
      cases Nat.beq i id <;> rfl
    | _ => rfl
theorem putMN_eq (sz d : Nat) (v : Value) (t : T Value) (mks : List DI) (z : Bool) (c : T Value → Bool) : putMN sz d v t z c = (match putD ⟨sz, t, mks⟩ (some d) v with | some e => c e.t | none => z) := by
  unfold putMN putD
  simp only
  cases Nat.blt d sz with
  | false => rfl
  | true => exact tput_eq d v t c
theorem putD_is {sz d : Nat} {v : Value} {t : T Value} {mks : List DI} {e : En} (h : putD ⟨sz, t, mks⟩ (some d) v = some e) : e = ⟨sz, e.t, mks⟩ := by
  unfold putD at h
  simp only at h
  cases hb : Nat.blt d sz with
  | false => rw [hb] at h; cases h
  | true => rw [hb] at h; simp only [cond_true, Option.some.injEq] at h; subst h; rfl
include hi in
theorem tailN_eq (ro : Option Nat) (m : MF) (l : List Oper) (e : En) (h : Hp) (k : Res → Bool) : tailN P G ihD ih ro m l e h k = k (runOps P G ro (callF P G ihD) (roundC ihD) m.asg l e h) := by
  obtain ⟨sz, t, mks⟩ := e
  unfold tailN
  cases hd : anyDef l with
  | true => rfl
  | false =>
    show runN k P G (callF P G ihD) (callN' P G ihD ih) (roundC ihD) (roundN ih) m.asg sz mks (kComps P G m.asg sz l) t h = _
    rw [runN_eq P G k _ _ _ _ m.asg sz mks (callN'_eq P G ihD ih hi) (roundN_eq ihD ih hi) l t h, runM_eq _ _ _ _ _ ro _ hd]
theorem rOutN_eq (m : MF) (ki : Nat) (e : En) (h : Hp) (k : Res → Bool) : rOutN m ki e h k = k (rOut m ki e h) := by
  obtain ⟨sz, t, mks⟩ := e
  show itN m ki t (k .fail) _ = _
  unfold itN rOut
  rw [tget_eq]
  show (Bool.rec (motive := fun _ => Bool) (k .fail) _ (itOk ki (t.get m.it)) : Bool) = k (cond (itOk ki (t.get m.it)) _ .fail)
  cases itOk ki (t.get m.it) with
  | false => rfl
  | true =>
    simp only [cond_true]
    rw [putMN_eq sz m.tn _ t mks]
    cases h1 : putD ⟨sz, t, mks⟩ (some m.tn) (.tuple #[.bool false]) with
    | none => rfl
    | some e1 =>
      simp only
      rw [putMN_eq sz m.tm _ e1.t mks, ← putD_is h1]
      cases h2 : putD e1 (some m.tm) (.bool false) with
      | none => rfl
      | some e2 =>
        rw [putD_is h1] at h2
        simp only
        rw [← putD_is h2]
include hi in
theorem rInN_eq (ro : Option Nat) (m : MF) (ki : Nat) (x v : Value) (e : En) (h : Hp) (k : Res → Bool) : rInN P G ihD ih ro m ki x v e h k = k (rIn P G (callF P G ihD) (roundC ihD) ihD ro m ki x v e h) := by
  obtain ⟨sz, t, mks⟩ := e
  show itN m ki t (k .fail) _ = _
  unfold itN rIn
  rw [tget_eq]
  show (Bool.rec (motive := fun _ => Bool) (k .fail) _ (itOk ki (t.get m.it)) : Bool) = k (cond (itOk ki (t.get m.it)) _ .fail)
  cases itOk ki (t.get m.it) with
  | false => rfl
  | true =>
    simp only [cond_true]
    rw [putMN_eq sz m.tn _ t mks]
    cases h1 : putD ⟨sz, t, mks⟩ (some m.tn) (.tuple #[.bool true, x, v]) with
    | none => rfl
    | some e1 =>
      simp only
      rw [putMN_eq sz m.tm _ e1.t mks, ← putD_is h1]
      cases h2 : putD e1 (some m.tm) (.bool true) with
      | none => rfl
      | some e2 =>
        rw [putD_is h1] at h2
        simp only
        rw [tget_eq]
        cases itOk ki (e2.t.get m.it) with
        | false => rfl
        | true =>
          simp only [cond_true]
          rw [putMN_eq sz m.te _ e2.t mks, ← putD_is h2]
          cases h3 : putD e2 (some m.te) (.tuple #[x, v]) with
          | none => rfl
          | some e3 =>
            rw [putD_is h2] at h3
            simp only
            rw [← putD_is h3, tailN_eq P G ihD ih hi, thenN_eq ihD ih hi, blockN_eq, thenF_eq]
include hi in
theorem explN_eq (ro : Option Nat) (m : MF) (ki : Nat) : ∀ (n : Nat) (l : List (Value × Value)) (e : En) (h : Hp) (c : List Res → Bool), explN P G ihD ih ro m ki n l e h c = c (expl (rIn P G (callF P G ihD) (roundC ihD) ihD ro m ki) (rOut m ki) n l e h)
  | 0, l, e, h, c => by
    show rOutN m ki e h (fun r => c [r]) = c [rOut m ki e h]
    rw [rOutN_eq]
  | n + 1, l, e, h, c => by
    show (List.rec (motive := fun _ => (List Res → Bool) → Bool) (fun c => c []) (fun p _ ihl c => rInN P G ihD ih ro m ki p.1.1 p.1.2 e h fun r =>
      Res.rec (motive := fun _ => Bool) (fun x e h => Ex.rec (motive := fun _ => Bool) (explN P G ihD ih ro m ki n p.2 e h fun l1 => ihl fun l2 => c (l1 ++ l2)) (fun i => ihl fun l2 => c (.ok (.exit i) e h :: l2)) (ihl fun l2 => c (.ok .ret e h :: l2)) (fun v => ihl fun l2 => c (.ok (.pan v) e h :: l2)) x) (ihl fun l2 => c (.fail :: l2)) r) (picks l) c : Bool) =
      c ((picks l).flatMap fun p => match rIn P G (callF P G ihD) (roundC ihD) ihD ro m ki p.1.1 p.1.2 e h with
        | .ok .normal e h => expl (rIn P G (callF P G ihD) (roundC ihD) ihD ro m ki) (rOut m ki) n p.2 e h
        | r => [r])
    generalize picks l = ps
    induction ps generalizing c with
    | nil => rfl
    | cons p ps ihp =>
      show rInN P G ihD ih ro m ki p.1.1 p.1.2 e h _ = _
      rw [rInN_eq P G ihD ih hi, List.flatMap_cons]
      cases rIn P G (callF P G ihD) (roundC ihD) ihD ro m ki p.1.1 p.1.2 e h with
      | fail => exact ihp fun l2 => c (.fail :: l2)
      | ok x e2 h2 =>
        cases x with
        | normal =>
          show explN P G ihD ih ro m ki n p.2 e2 h2 _ = _
          rw [explN_eq ro m ki n]
          exact ihp fun l2 => c (expl (rIn P G (callF P G ihD) (roundC ihD) ihD ro m ki) (rOut m ki) n p.2 e2 h2 ++ l2)
        | exit i => exact ihp fun l2 => c (.ok (.exit i) e2 h2 :: l2)
        | ret => exact ihp fun l2 => c (.ok .ret e2 h2 :: l2)
        | pan v => exact ihp fun l2 => c (.ok (.pan v) e2 h2 :: l2)
theorem endMN_eq (m : MF) (h0 : Hp) (r : Nat) (es : List (Value × Value)) (k : Res → Bool) (l : List Res) : endMN m h0 r es k l = k (mapEnd m.out r es (mergeL h0 l)) := by
  cases l with
  | nil => rfl
  | cons r0 rs =>
    cases rs with
    | cons r1 rs => rfl
    | nil =>
      cases r0 with
      | fail => rfl
      | ok x e h =>
        obtain ⟨n, ht, low⟩ := h
        show tput r (.map es) ht (fun ht => blockN m.out k (.ok x e ⟨n, ht, low⟩)) = k (blockC m.out (.ok x e ⟨n, T.put (.map es) ht r, low⟩))
        rw [tput_eq, blockN_eq]
include hi in
theorem mapN_eq (ro : Option Nat) (m : MF) (e : En) (h : Hp) (k : Res → Bool) : mapN P G ihD ih ro m e h k = k (mapC P G (callF P G ihD) (roundC ihD) ihD ro m e h) := by
  unfold mapN mapC
  cases preOps P G (callF P G ihD) (roundC ihD) m.all m.pre e h with
  | none => rfl
  | some p =>
    obtain ⟨e1, h1⟩ := p
    simp only
    have key : ∀ (r : Nat) (o : Option LObj), (match o with
        | some (.map es) => En.rec (motive := fun _ => Bool) (fun sz t mks => putMN sz m.it (.pointer (some ⟨h1.n, 0, none⟩)) t (k .fail) fun t => Hp.rec (motive := fun _ => Bool) (fun n ht low => tput r .other ht fun ht => mapGoN P G ihD ih ro m r es ⟨sz, t, mks⟩ ⟨n, ht, low⟩ k) h1) e1
        | _ => k .fail) = k (match o with
        | some (.map es) => (match putD e1 (some m.it) (.pointer (some ⟨h1.n, 0, none⟩)) with
          | some e => mapGo P G (callF P G ihD) (roundC ihD) ihD ro m r es e ⟨h1.n, T.put .other h1.t r, h1.low⟩
          | none => .fail)
        | _ => .fail) := by
      intro r o
      cases o with
      | none => rfl
      | some ob =>
        cases ob with
        | map es =>
          obtain ⟨sz, t, mks⟩ := e1
          obtain ⟨n, tt, low⟩ := h1
          show putMN sz m.it (.pointer (some ⟨n, 0, none⟩)) t (k .fail) _ = _
          rw [putMN_eq sz m.it _ t mks]
          simp only
          cases h2 : putD ⟨sz, t, mks⟩ (some m.it) (.pointer (some ⟨n, 0, none⟩)) with
          | none => rfl
          | some e2 =>
            simp only
            rw [tput_eq, ← putD_is h2]
            show newB _ _ _ = k (mapGo P G (callF P G ihD) (roundC ihD) ihD ro m r es e2 ⟨n, T.put .other tt r, low⟩)
            rw [newB_eq, explN_eq P G ihD ih hi, endMN_eq]
            rfl
        | _ => rfl
    generalize ev G e1 m.x = a
    generalize P.underlying m.t = b
    cases a with
    | none => rfl
    | some v =>
      cases v with
      | map o =>
        cases o with
        | none => cases b <;> rfl
        | some r =>
          cases b with
          | none => rfl
          | some d =>
            cases d with
            | map kt et => exact key r (h1.t.get r)
            | _ => rfl
      | _ => rfl
include hi in
theorem stepN_eq (ro : Option Nat) (c : Code) (e : En) (h : Hp) (k : Res → Bool) : stepN P G ihD ih ro c e h k = k (stepF P G ihD ro c e h) := by
  cases c with
  | seq a b =>
    show (Option.rec (motive := fun _ => Bool) (ih ro a e h (thenN (ih ro b) k)) (fun m => mapN P G ihD ih ro m e h k) (mapOf a b) : Bool) = k (Option.rec (thenF (ihD ro b) (ihD ro a e h)) (fun m => mapC P G (callF P G ihD) (roundC ihD) ihD ro m e h) (mapOf a b))
    cases mapOf a b with
    | some m => exact mapN_eq P G ihD ih hi ro m e h k
    | none =>
      show ih ro a e h (thenN (ih ro b) k) = k (thenF (ihD ro b) (ihD ro a e h))
      rw [hi, thenN_eq ihD ih hi]
  | loop b =>
    show ih ro b e h (thenN (ih ro (.loop b)) k) = k (thenF (ihD ro (.loop b)) (ihD ro b e h))
    rw [hi, thenN_eq ihD ih hi]
  | block id b =>
    show ih ro b e h (blockN id k) = k (blockC id (ihD ro b e h))
    rw [hi, blockN_eq]
  | rangeFunc f ps as bd => exact rangeN_eq P G ihD ih hi ro f ps.toList as bd e h k
  | region id ops draw =>
    cases draw with
    | false => exact regN_eq P G ihD ih hi ro ops e h k
    | true =>
      show (Bool.rec (motive := fun _ => Bool) (k .fail) (regND P G ihD ih ops e h k) (drawOk ops) : Bool) = k (Bool.rec .fail (runDF P G (callF P G ihD) (roundC ihD) ops e h) (drawOk ops))
      cases drawOk ops with
      | false => rfl
      | true => exact regND_eq P G ihD ih hi ops e h k
  | cond x a b =>
    obtain ⟨sz, t, mks⟩ := e
    show evN k (kA G x) t (fun v => Option.rec (motive := fun _ => Bool) (k .fail) (fun c => Bool.rec (motive := fun _ => Bool) (ih ro b ⟨sz, t, mks⟩ h k) (ih ro a ⟨sz, t, mks⟩ h k) c) (isBool v)) = k (Option.rec .fail (fun v => Option.rec .fail (fun c => Bool.rec (ihD ro b ⟨sz, t, mks⟩ h) (ihD ro a ⟨sz, t, mks⟩ h) c) (isBool v)) (ev G ⟨sz, t, mks⟩ x))
    rw [evN_eq k (kA G x) t _ (fun v => Option.rec .fail (fun c => Bool.rec (ihD ro b ⟨sz, t, mks⟩ h) (ihD ro a ⟨sz, t, mks⟩ h) c) (isBool v)) fun v => by
      cases isBool v with
      | none => rfl
      | some c => cases c <;> exact hi _ _ _ _ _, denA_kA, evK_eq sz t mks]
    cases ev G ⟨sz, t, mks⟩ x <;> rfl
  | _ => rfl
end
theorem exN_eq : ∀ (n : Nat) (ro : Option Nat) (c : Code) (e : En) (h : Hp) (k : Res → Bool), exN P G n ro c e h k = k (exF P G n ro c e h)
  | 0, ro, c, e, h, k => rfl
  | n + 1, ro, c, e, h, k => stepN_eq P G (exF P G n) (exN P G n) (exN_eq n) ro c e h k
theorem exNC_eq (n : Nat) (ro : Option Nat) (c : Code) (e : En) (h : Hp) (k : Res → Bool) : exN P G n ro c e h k = k (exec P G n ro c e h) := by
  rw [exN_eq, exF_eq]
/-- THE FOURTH EXECUTOR HANDS ON WHAT THE THIRD ONE ANSWERS. -/
theorem callNN_eq (n : Nat) (f : FuncId) (args : List Value) (h : Hp) (k : CRes → Bool) : callNN P G n f args h k = k (callN P G n f args h) := by
  unfold callNN
  rw [callN'_eq P G (exF P G n) (exN P G n) (exN_eq P G n), ← callNF_eq]
  rfl
end
end Cx
end Go.Proofs.YtkljlbilhcdjhaaGreatDoor
