/- A datagram in plain words: whether it may be, its bytes, and what bytes say. No function of the program is named here. -/
import Derived.Test.YtcmgghfjakphmaaK2a
import Derived.Test.YtcmgghfjakphmaaK7
set_option maxRecDepth 100000
namespace Go.Proofs.Ytcmgghfjakphmaa.Wp
open Cp Vp
set_option linter.unusedVariables false

/-- a command -/
structure Cc where
  fr : Int
  pe : Int
  sq : Int
  v : Int
  a : Int
  b : Int
  c : Int
/-- a datagram -/
structure Dg where
  kd : Int
  ss : Int
  fr : Int
  to : Int
  mrk : Int
  fi : Int
  cs : List Cc
  ak : Int
def zC : Cc := ⟨0, 0, 0, 0, 0, 0, 0⟩
def zD : Dg := ⟨0, 0, 0, 0, 0, 0, [], 0⟩
def cc (L : List Cc) (i : Nat) : Cc := L.getD i zC
theorem cc_at {L : List Cc} {i : Nat} (h : i < L.length) : cc L i = L[i] := by simp [cc, List.getD, h]
def okC (f fi : Int) (i : Nat) (x : Cc) : Bool := decide (x.pe = f) && (decide (x.sq = fi + i) && (decide (x.sq ≤ 1099511627776) && (decide (1 ≤ x.fr) && (decide (x.fr ≤ 1099511627776) && decide (chkO x.v x.a x.b x.c = 0)))))
def allC (f fi : Int) (L : List Cc) : Bool := (List.range L.length).all fun i => okC f fi i (cc L i)
theorem allC_iff {f fi : Int} {L : List Cc} : allC f fi L = true ↔ ∀ i, i < L.length → okC f fi i (cc L i) = true := by simp [allC]
def seatB (d : Dg) : Bool := decide (0 ≤ d.fr) && (decide (d.fr ≤ 5) && (decide (0 ≤ d.to) && (decide (d.to ≤ 5) && !decide (d.fr = d.to))))
def ackB (d : Dg) : Bool := decide (0 ≤ d.ak) && decide (d.ak ≤ 1099511627776)
def trnB (d : Dg) : Bool := decide (0 ≤ d.mrk) && (decide (d.mrk ≤ 1099511627776) && (decide (1 ≤ d.fi) && (decide (d.fi ≤ 1099511627776) && (decide (d.cs.length ≤ 336) && allC d.fr d.fi d.cs))))
def nonB (d : Dg) : Bool := decide (d.mrk = 0) && (decide (d.fi = 0) && decide (d.cs.length = 0))
def prtB (d : Dg) : Bool := if d.kd = 1 then trnB d else if d.kd = 2 then nonB d else false
/-- may it be? -/
def okD (d : Dg) : Bool := seatB d && (prtB d && ackB d)
def chkD (d : Dg) : Int := if okD d then 0 else 162

/-- a byte of a number -/
def by8 (n : Int) : UInt8 := UInt8.ofNat (n.toNat % 256)
theorem by8_nat (b : UInt8) : by8 (b.toNat : Int) = b := by
  unfold by8
  have := b.toNat_lt
  rw [show ((b.toNat : Int)).toNat = b.toNat from rfl, Nat.mod_eq_of_lt (by omega)]
  simp
theorem by8_to {n : Int} (h0 : 0 ≤ n) (h1 : n < 256) : ((by8 n).toNat : Int) = n := by
  unfold by8
  rw [ofNat_toNat (by omega)]
  omega
/-- so many bytes of a number, the lowest first -/
def sumF : Nat → Nat → List UInt8
  | 0, _ => []
  | k + 1, d => UInt8.ofNat (d % 256) :: sumF k (d / 256)
theorem sumF_len : ∀ k d, (sumF k d).length = k
  | 0, _ => rfl
  | k + 1, d => by simp [sumF, sumF_len k]
def sgB (n : Int) : List UInt8 := form (fold n)
/-- how many operands a verb has -/
def nOp (v : Int) : Nat := (opV v).length
theorem nOp_le (v : Int) : nOp v ≤ 2 := by
  unfold nOp opV
  split <;> (try split) <;> (try split) <;> simp
def argB (v a b c : Int) : List UInt8 := ([a, b, c].take (nOp v)).flatMap sgB
def cmB (mk : Int) (x : Cc) : List UInt8 := sgB (x.fr - mk) ++ (by8 x.v :: argB x.v x.a x.b x.c)
def csB (mk : Int) (L : List Cc) : List UInt8 := L.flatMap (cmB mk)
def hdB (d : Dg) : List UInt8 := 101 :: by8 d.kd :: (sumF 8 d.ss.toNat ++ [by8 d.fr, by8 d.to])
def tnB (d : Dg) : List UInt8 := if d.kd = 1 then form d.mrk.toNat ++ (form d.fi.toNat ++ (form d.cs.length ++ csB d.mrk d.cs)) else []
/-- the bytes ahead of the sum -/
def opnB (d : Dg) : List UInt8 := hdB d ++ (tnB d ++ form d.ak.toNat)

/-! ### what bytes say: a machine that goes on whatever comes, and a parser -/
/-- a reader: bytes, its error, and whether something was not as it must be -/
structure Rs where
  bs : List UInt8
  e : Int
  y : Bool
def Rs.bad (s : Rs) : Prop := s.e ≠ 0 ∨ s.y = true
abbrev Mch (α : Type) := Rs → α × Rs
abbrev Prs (α : Type) := List UInt8 → Option (α × List UInt8)
structure Par {α : Type} (f : Mch α) (p : Prs α) : Prop where
  bad : ∀ s, s.bad → (f s).2.bad
  ok : ∀ bs v r, p bs = some (v, r) → f ⟨bs, 0, false⟩ = (v, ⟨r, 0, false⟩)
  no : ∀ bs, p bs = none → (f ⟨bs, 0, false⟩).2.bad
section
variable {α β : Type}
def mR (v : α) : Mch α := fun s => (v, s)
def mB (f : Mch α) (g : α → Mch β) : Mch β := fun s => g (f s).1 (f s).2
def mG (b : Bool) : Mch Unit := fun s => ((), ⟨s.bs, s.e, s.y || !b⟩)
def pR (v : α) : Prs α := fun bs => some (v, bs)
def pB (p : Prs α) (q : α → Prs β) : Prs β := fun bs => match p bs with | none => none | some x => q x.1 x.2
def pN : Prs α := fun _ => none
def pG (b : Bool) : Prs Unit := fun bs => if b then some ((), bs) else none
theorem pB_some {p : Prs α} {q : α → Prs β} {bs r : List UInt8} {v : β} (h : pB p q bs = some (v, r)) : ∃ x t, p bs = some (x, t) ∧ q x t = some (v, r) := by
  unfold pB at h
  cases hp : p bs with
  | none => rw [hp] at h; cases h
  | some x => rw [hp] at h; exact ⟨x.1, x.2, rfl, h⟩
theorem pB_at {p : Prs α} {q : α → Prs β} {bs t : List UInt8} {x : α} (h : p bs = some (x, t)) : pB p q bs = q x t := by
  unfold pB
  rw [h]
theorem pB_no {p : Prs α} {q : α → Prs β} {bs : List UInt8} (h : p bs = none) : pB p q bs = none := by
  unfold pB
  rw [h]
theorem Par.ret (v : α) : Par (mR v) (pR v) := ⟨fun _ h => h, fun bs x r h => by cases h; rfl, fun bs h => by cases h⟩
theorem Par.bind {f : Mch α} {p : Prs α} {g : α → Mch β} {q : α → Prs β} (h : Par f p) (k : ∀ v, Par (g v) (q v)) : Par (mB f g) (pB p q) := by
  refine ⟨fun s hs => (k _).bad _ (h.bad s hs), fun bs v r e => ?_, fun bs e => ?_⟩
  · obtain ⟨x, t, e1, e2⟩ := pB_some e
    unfold mB
    rw [h.ok _ _ _ e1]
    exact (k x).ok _ _ _ e2
  · unfold mB
    cases hp : p bs with
    | none => exact (k _).bad _ (h.no _ hp)
    | some x =>
      obtain ⟨x, t⟩ := x
      rw [pB_at hp] at e
      rw [h.ok _ _ _ hp]
      exact (k x).no _ e
theorem Par.guard (b : Bool) : Par (mG b) (pG b) := by
  refine ⟨fun s hs => ?_, fun bs v r e => ?_, fun bs e => ?_⟩
  · rcases hs with h | h
    · exact .inl h
    · exact .inr (by simp [mG, h])
  · unfold pG at e
    cases b with
    | false => cases e
    | true => cases e; rfl
  · unfold pG at e
    cases b with
    | false => exact .inr (by simp [mG])
    | true => cases e
theorem Par.none {f : Mch α} (h : ∀ s, (f s).2.bad) : Par f pN := ⟨fun s _ => h s, fun _ _ _ e => (by cases e), fun _ _ => h _⟩
/-- a machine that is another one where nothing is wrong, and stays wrong -/
theorem Par.like {f g : Mch α} {p : Prs α} (h : Par f p) (hb : ∀ s, s.bad → (g s).2.bad) (hg : ∀ bs, f ⟨bs, 0, false⟩ = g ⟨bs, 0, false⟩ ∨ ((f ⟨bs, 0, false⟩).2.bad ∧ (g ⟨bs, 0, false⟩).2.bad)) : Par g p := by
  refine ⟨hb, fun bs v r e => ?_, fun bs e => ?_⟩
  · have h1 := h.ok _ _ _ e
    rcases hg bs with h2 | ⟨h2, _⟩
    · rw [← h2, h1]
    · rw [h1] at h2
      rcases h2 with h2 | h2
      · exact absurd rfl h2
      · cases h2
  · rcases hg bs with h2 | ⟨_, h2⟩
    · rw [← h2]; exact h.no _ e
    · exact h2
end
/-! the parts -/
def unM : Mch Nat := fun s => ((uintS s.bs s.e).1, ⟨(uintS s.bs s.e).2.1, (uintS s.bs s.e).2.2, s.y⟩)
def byM : Mch UInt8 := fun s => ((byteS s.bs s.e).1, ⟨(byteS s.bs s.e).2.1, (byteS s.bs s.e).2.2, s.y⟩)
def inM : Mch Int := mB unM fun n => mR (Cp.unfold n)
def pU : Prs Nat := fun bs => if (num 0 0 bs).2.2 = 0 then some ((num 0 0 bs).1, bs.drop (num 0 0 bs).2.1) else none
def pY : Prs UInt8 := fun bs => match bs with | [] => none | b :: r => some (b, r)
def pI : Prs Int := pB pU fun n => pR (Cp.unfold n)
theorem par_un : Par unM pU := by
  refine ⟨fun s hs => ?_, fun bs v r e => ?_, fun bs e => ?_⟩
  · rcases hs with h | h
    · left; simp [unM, uintS, h]
    · right; exact h
  · unfold pU at e
    by_cases h : (num 0 0 bs).2.2 = 0
    · rw [if_pos h] at e
      cases e
      simp [unM, uintS, h]
    · rw [if_neg h] at e; cases e
  · unfold pU at e
    by_cases h : (num 0 0 bs).2.2 = 0
    · rw [if_pos h] at e; cases e
    · left; simp [unM, uintS, h]
theorem par_by : Par byM pY := by
  refine ⟨fun s hs => ?_, fun bs v r e => ?_, fun bs e => ?_⟩
  · rcases hs with h | h
    · left; simp [byM, byteS, h]
    · right; exact h
  · cases bs with
    | nil => cases e
    | cons b t => cases e; simp [byM, byteS]
  · cases bs with
    | nil => left; simp [byM, byteS]
    | cons b t => cases e
theorem par_in : Par inM pI := par_un.bind fun _ => Par.ret _
theorem pU_form {n : Nat} (h : n < 18446744073709551616) (r : List UInt8) : pU (form n ++ r) = some (n, r) := by
  unfold pU
  rw [num_form0 h]
  simp
theorem pU_back {bs r : List UInt8} {n : Nat} (h : pU bs = some (n, r)) : bs = form n ++ r ∧ n < 18446744073709551616 := by
  unfold pU at h
  by_cases h0 : (num 0 0 bs).2.2 = 0
  · rw [if_pos h0] at h
    obtain ⟨rfl, rfl⟩ : (num 0 0 bs).1 = n ∧ bs.drop (num 0 0 bs).2.1 = r := by
      simp only [Option.some.injEq, Prod.mk.injEq] at h
      exact h
    have h2 := num_one0 (bs := bs) (n := (num 0 0 bs).1) (k := (num 0 0 bs).2.1) (by rw [← h0])
    refine ⟨?_, ?_⟩
    · rw [← h2.2, List.take_append_drop]
    · rcases num_err bs with h3 | h3
      · exact h3.2.1
      · rw [h3.1]; decide
  · rw [if_neg h0] at h; cases h
theorem pI_form {n : Int} (h : -9223372036854775808 ≤ n) (h2 : n ≤ 9223372036854775807) (r : List UInt8) : pI (sgB n ++ r) = some (n, r) := by
  unfold pI sgB
  rw [pB_at (pU_form (fold_lt h h2) r)]
  simp [pR, unfold_fold]
theorem pI_back {bs r : List UInt8} {n : Int} (h : pI bs = some (n, r)) : bs = sgB n ++ r ∧ -9223372036854775808 ≤ n ∧ n ≤ 9223372036854775807 := by
  obtain ⟨m, t, h1, h2⟩ := pB_some h
  obtain ⟨e1, e2⟩ := pU_back h1
  cases h2
  refine ⟨?_, unfold_lo e2, unfold_hi e2⟩
  unfold sgB
  rw [fold_unfold]
  exact e1
/-- a number without a sign, at most so great -/
def upM (m : Nat) : Mch Nat := mB unM fun n => if n ≤ m then mR n else mB (mG false) fun _ => mR 0
def pUp (m : Nat) : Prs Nat := pB pU fun n => if n ≤ m then pR n else pN
theorem bad_false {α : Type} (v : α) (s : Rs) : ((mB (mG false) fun _ => mR v) s).2.bad := .inr (by simp [mB, mG, mR])
theorem par_up (m : Nat) : Par (upM m) (pUp m) := par_un.bind fun n => by
  by_cases h : n ≤ m
  · rw [if_pos h, if_pos h]; exact Par.ret _
  · rw [if_neg h, if_neg h]; exact Par.none (bad_false _)
theorem pUp_form {m n : Nat} (h : n ≤ m) (hm : m < 18446744073709551616) (r : List UInt8) : pUp m (form n ++ r) = some (n, r) := by
  unfold pUp
  rw [pB_at (pU_form (by omega) r), if_pos h]
  rfl
theorem pUp_back {m n : Nat} {bs r : List UInt8} (h : pUp m bs = some (n, r)) : bs = form n ++ r ∧ n ≤ m := by
  obtain ⟨k, t, h1, h2⟩ := pB_some h
  by_cases hk : k ≤ m
  · rw [if_pos hk] at h2
    cases h2
    exact ⟨(pU_back h1).1, hk⟩
  · rw [if_neg hk] at h2; cases h2
theorem upM_le (m : Nat) (s : Rs) : (upM m s).1 ≤ m := by
  unfold upM mB
  dsimp only
  split
  · assumption
  · exact Nat.zero_le _
/-- eight bytes -/
def fuM : Nat → Nat → Nat → Mch Nat
  | 0, _, acc => mR acc
  | k + 1, i, acc => mB byM fun c => fuM k (i + 1) (acc + c.toNat * 256 ^ i)
def pF : Nat → Nat → Nat → Prs Nat
  | 0, _, acc => pR acc
  | k + 1, i, acc => pB pY fun c => pF k (i + 1) (acc + c.toNat * 256 ^ i)
theorem par_fu : ∀ k i acc, Par (fuM k i acc) (pF k i acc)
  | 0, _, _ => Par.ret _
  | k + 1, i, acc => par_by.bind fun c => par_fu k (i + 1) _
theorem pF_form : ∀ k i acc m r, m < 256 ^ k → pF k i acc (sumF k m ++ r) = some (acc + m * 256 ^ i, r)
  | 0, i, acc, m, r, h => by
    obtain rfl : m = 0 := by simpa using h
    simp [pF, sumF, pR]
  | k + 1, i, acc, m, r, h => by
    rw [show pF (k + 1) i acc = pB pY fun c => pF k (i + 1) (acc + c.toNat * 256 ^ i) from rfl, show sumF (k + 1) m = UInt8.ofNat (m % 256) :: sumF k (m / 256) from rfl, List.cons_append, pB_at (show pY _ = some (UInt8.ofNat (m % 256), sumF k (m / 256) ++ r) from rfl), ofNat_toNat (by omega),
      pF_form k (i + 1) _ (m / 256) r (by rw [Nat.pow_succ] at h; omega)]
    congr 2
    rw [Nat.pow_succ, Nat.mul_comm (256 ^ i) 256, ← Nat.mul_assoc, Nat.add_assoc, ← Nat.add_mul]
    congr 2
    omega
theorem pF_back : ∀ k i acc n bs r, pF k i acc bs = some (n, r) → ∃ m, m < 256 ^ k ∧ n = acc + m * 256 ^ i ∧ bs = sumF k m ++ r
  | 0, i, acc, n, bs, r, h => by
    cases h
    exact ⟨0, by simp, by simp, rfl⟩
  | k + 1, i, acc, n, bs, r, h => by
    obtain ⟨c, t, h1, h2⟩ := pB_some h
    obtain ⟨m, hm, e1, e2⟩ := pF_back k (i + 1) _ n t r h2
    cases bs with
    | nil => cases h1
    | cons b u =>
      cases h1
      have hc := c.toNat_lt
      refine ⟨c.toNat + m * 256, by rw [Nat.pow_succ]; omega, ?_, ?_⟩
      · rw [e1, Nat.pow_succ, Nat.mul_comm (256 ^ i) 256, ← Nat.mul_assoc, Nat.add_assoc, ← Nat.add_mul]
      · rw [show sumF (k + 1) (c.toNat + m * 256) = UInt8.ofNat ((c.toNat + m * 256) % 256) :: sumF k ((c.toNat + m * 256) / 256) from rfl, show (c.toNat + m * 256) % 256 = c.toNat by omega, show (c.toNat + m * 256) / 256 = m by omega, e2]
        simp
theorem fuM_lt : ∀ k i acc s, acc < 256 ^ i → (fuM k i acc s).1 < 256 ^ (i + k)
  | 0, i, acc, s, h => h
  | k + 1, i, acc, s, h => by
    have hc := (byM s).1.toNat_lt
    have := fuM_lt k (i + 1) (acc + (byM s).1.toNat * 256 ^ i) (byM s).2 (by
      rw [Nat.pow_succ]
      have : (byM s).1.toNat * 256 ^ i ≤ 255 * 256 ^ i := Nat.mul_le_mul_right _ (by omega)
      omega)
    rw [show i + (k + 1) = i + 1 + k by omega]
    exact this
/-- operands -/
def put3 (t : Int × Int × Int) (i : Nat) (x : Int) : Int × Int × Int := match i with | 0 => (x, t.2.1, t.2.2) | 1 => (t.1, x, t.2.2) | _ => (t.1, t.2.1, x)
def opM : Nat → Nat → Int × Int × Int → Mch (Int × Int × Int)
  | 0, _, t => mR t
  | k + 1, i, t => mB inM fun x => opM k (i + 1) (put3 t i x)
def pO : Nat → Nat → Int × Int × Int → Prs (Int × Int × Int)
  | 0, _, t => pR t
  | k + 1, i, t => pB pI fun x => pO k (i + 1) (put3 t i x)
theorem par_op : ∀ k i t, Par (opM k i t) (pO k i t)
  | 0, _, _ => Par.ret _
  | k + 1, i, t => par_in.bind fun x => par_op k (i + 1) _
def nm (b : UInt8) : Int := (b.toNat : Int)
def orM : Mch (Int × Int × Int × Int) := mB byM fun v => mB (mG (isV (nm v))) fun _ => mB (opM (nOp (nm v)) 0 (0, 0, 0)) fun t => mR (nm v, t)
def pOr : Prs (Int × Int × Int × Int) := pB pY fun v => pB (pG (isV (nm v))) fun _ => pB (pO (nOp (nm v)) 0 (0, 0, 0)) fun t => pR (nm v, t)
theorem par_or : Par orM pOr := par_by.bind fun v => (Par.guard _).bind fun _ => (par_op _ _ _).bind fun t => Par.ret _
/-- how far from the mark -/
def dsB (n : Int) : Bool := decide (-1099511627776 ≤ n) && decide (n ≤ 1099511627776)
def diM : Mch Int := mB inM fun n => mB (mG (dsB n)) fun _ => mR n
def pD : Prs Int := pB pI fun n => pB (pG (dsB n)) fun _ => pR n
theorem par_di : Par diM pD := par_in.bind fun n => (Par.guard _).bind fun _ => Par.ret _
/-- a command -/
def cmM (mk f sq : Int) : Mch Cc := mB diM fun far => mB orM fun o => mR ⟨IntKind.i64.wrap (mk + far), f, sq, o.1, o.2.1, o.2.2.1, o.2.2.2⟩
def pC (mk f sq : Int) : Prs Cc := pB pD fun far => pB pOr fun o => pR ⟨IntKind.i64.wrap (mk + far), f, sq, o.1, o.2.1, o.2.2.1, o.2.2.2⟩
theorem par_cm (mk f sq : Int) : Par (cmM mk f sq) (pC mk f sq) := par_di.bind fun far => par_or.bind fun o => Par.ret _
def csM (mk f fi : Int) : Nat → Nat → Mch (List Cc)
  | 0, _ => mR []
  | k + 1, i => mB (cmM mk f (fi + i)) fun x => mB (csM mk f fi k (i + 1)) fun l => mR (x :: l)
def pCs (mk f fi : Int) : Nat → Nat → Prs (List Cc)
  | 0, _ => pR []
  | k + 1, i => pB (pC mk f (fi + i)) fun x => pB (pCs mk f fi k (i + 1)) fun l => pR (x :: l)
theorem par_cs (mk f fi : Int) : ∀ k i, Par (csM mk f fi k i) (pCs mk f fi k i)
  | 0, _ => Par.ret _
  | k + 1, i => (par_cm _ _ _).bind fun x => (par_cs mk f fi k (i + 1)).bind fun l => Par.ret _
/-- a datagram, behind its head -/
def tlM (k : UInt8) (ss f t : Int) : Mch Dg :=
  if nm k = 1 then mB (upM 1099511627776) fun mk => mB (upM 1099511627776) fun fi => mB (upM 336) fun n => mB (csM mk f fi n 0) fun l => mB (upM 1099511627776) fun ak => mR ⟨1, ss, f, t, mk, fi, l, ak⟩
  else if nm k = 2 then mB (upM 1099511627776) fun ak => mR ⟨2, ss, f, t, 0, 0, [], ak⟩
  else mB (mG false) fun _ => mR ⟨nm k, ss, f, t, 0, 0, [], 0⟩
def pT (k : UInt8) (ss f t : Int) : Prs Dg :=
  if nm k = 1 then pB (pUp 1099511627776) fun mk => pB (pUp 1099511627776) fun fi => pB (pUp 336) fun n => pB (pCs mk f fi n 0) fun l => pB (pUp 1099511627776) fun ak => pR ⟨1, ss, f, t, mk, fi, l, ak⟩
  else if nm k = 2 then pB (pUp 1099511627776) fun ak => pR ⟨2, ss, f, t, 0, 0, [], ak⟩
  else pN
theorem par_tl (k : UInt8) (ss f t : Int) : Par (tlM k ss f t) (pT k ss f t) := by
  unfold tlM pT
  by_cases h1 : nm k = 1
  · rw [if_pos h1, if_pos h1]
    exact (par_up _).bind fun mk => (par_up _).bind fun fi => (par_up _).bind fun n => (par_cs _ _ _ _ _).bind fun l => (par_up _).bind fun ak => Par.ret _
  · rw [if_neg h1, if_neg h1]
    by_cases h2 : nm k = 2
    · rw [if_pos h2, if_pos h2]
      exact (par_up _).bind fun ak => Par.ret _
    · rw [if_neg h2, if_neg h2]
      exact Par.none (bad_false _)
def dgM : Mch Dg := mB byM fun c => mB (mG (c == 101)) fun _ => mB byM fun k => mB (fuM 8 0 0) fun ss => mB byM fun f => mB byM fun t => tlM k ss (nm f) (nm t)
def pDg : Prs Dg := pB pY fun c => pB (pG (c == 101)) fun _ => pB pY fun k => pB (pF 8 0 0) fun ss => pB pY fun f => pB pY fun t => pT k ss (nm f) (nm t)
theorem par_dg : Par dgM pDg := par_by.bind fun c => (Par.guard _).bind fun _ => par_by.bind fun k => (par_fu _ _ _).bind fun ss => par_by.bind fun f => par_by.bind fun t => par_tl _ _ _ _
/-- all bytes are taken up, without an error -/
def doB (s : Rs) : Bool := decide ((if s.e = 0 ∧ 0 < s.bs.length then (23 : Int) else s.e) = 0)
def enM : Mch Unit := fun s => ((), ⟨s.bs, s.e, s.y || !doB s⟩)
theorem doB_iff {s : Rs} : doB s = true ↔ s.e = 0 ∧ s.bs = [] := by
  unfold doB
  rw [decide_eq_true_iff]
  by_cases h : s.e = 0 ∧ 0 < s.bs.length
  · rw [if_pos h]
    constructor
    · intro h; cases h
    · rintro ⟨_, h2⟩
      rw [h2] at h
      exact absurd h.2 (by simp)
  · rw [if_neg h]
    constructor
    · intro h0
      refine ⟨h0, ?_⟩
      cases hb : s.bs with
      | nil => rfl
      | cons b r => exact absurd ⟨h0, by rw [hb]; simp⟩ h
    · exact fun h => h.1
/-- what bytes ahead of a sum say -/
def saysD (B : List UInt8) : Option Dg := match pDg B with | none => none | some x => if x.2 = [] then some x.1 else none
theorem says_yes {f : Mch Dg} (h : Par f pDg) {B : List UInt8} {d : Dg} (hd : saysD B = some d) : (f ⟨B, 0, false⟩).1 = d ∧ ((f ⟨B, 0, false⟩).2.y || !doB (f ⟨B, 0, false⟩).2) = false := by
  unfold saysD at hd
  cases hp : pDg B with
  | none => rw [hp] at hd; cases hd
  | some x =>
    obtain ⟨x, t⟩ := x
    rw [hp] at hd
    dsimp only at hd
    by_cases ht : t = []
    · rw [if_pos ht] at hd
      cases hd
      subst ht
      rw [h.ok _ _ _ hp]
      exact ⟨rfl, by simp [doB]⟩
    · rw [if_neg ht] at hd; cases hd
theorem says_no {f : Mch Dg} (h : Par f pDg) {B : List UInt8} (hd : saysD B = none) : ((f ⟨B, 0, false⟩).2.y || !doB (f ⟨B, 0, false⟩).2) = true := by
  unfold saysD at hd
  cases hp : pDg B with
  | none =>
    rcases h.no _ hp with h1 | h1
    · have : doB (f ⟨B, 0, false⟩).2 = false := by
        cases hb : doB (f ⟨B, 0, false⟩).2 with
        | false => rfl
        | true => exact absurd (doB_iff.1 hb).1 h1
      rw [this]; simp
    · rw [h1]; rfl
  | some x =>
    obtain ⟨x, t⟩ := x
    rw [hp] at hd
    dsimp only at hd
    by_cases ht : t = []
    · rw [if_pos ht] at hd; cases hd
    · rw [h.ok _ _ _ hp]
      have : doB ⟨t, 0, false⟩ = false := by
        cases hb : doB ⟨t, 0, false⟩ with
        | false => rfl
        | true => exact absurd (doB_iff.1 hb).2 ht
      rw [this]; rfl
end Go.Proofs.Ytcmgghfjakphmaa.Wp
