/- Parts of the proof, laid end to end. -/
import Derived.Test.YtnbofjaecchnaaaDoorZR00
import Derived.Test.YtnbofjaecchnaaaDoorZR03
set_option maxRecDepth 100000
namespace Go.Proofs.YtnbofjaecchnaaaDoor.Wp
open Cp Vp
set_option linter.unusedVariables false
structure Cc where
 fr : Int
 pe : Int
 sq : Int
 v : Int
 a : Int
 b : Int
 c : Int
structure Dg where
 kd : Int
 ss : Int
 fr : Int
 to : Int
 mrk : Int
 fi : Int
 cs : List Cc
 ak : Int
def zC : Cc := ⟨0, 0, 0, 0, 0, 0, 0⟩
def zD : Dg := ⟨0, 0, 0, 0, 0, 0, [], 0⟩
def cc (L : List Cc) (i : Nat) : Cc := L.getD i zC
theorem cc_at {L : List Cc} {i : Nat} (h : i < L.length) : cc L i = L[i] := by simp [cc, List.getD, h]
def okC (f fi : Int) (i : Nat) (x : Cc) : Bool := decide (x.pe = f) && (decide (x.sq = fi + i) && (decide (x.sq <= 1099511627776) && (decide (1 <= x.fr) && (decide (x.fr <= 1099511627776) && decide (chkO x.v x.a x.b x.c = 0)))))
def allC (f fi : Int) (L : List Cc) : Bool := (List.range L.length).all fun i => okC f fi i (cc L i)
theorem allC_iff {f fi : Int} {L : List Cc} : allC f fi L = true ↔ ∀ i, i < L.length -> okC f fi i (cc L i) = true := by simp [allC]
def seatB (d : Dg) : Bool := decide (0 <= d.fr) && (decide (d.fr <= 5) && (decide (0 <= d.to) && (decide (d.to <= 5) && !decide (d.fr = d.to))))
def ackB (d : Dg) : Bool := decide (0 <= d.ak) && decide (d.ak <= 1099511627776)
def trnB (d : Dg) : Bool := decide (0 <= d.mrk) && (decide (d.mrk <= 1099511627776) && (decide (1 <= d.fi) && (decide (d.fi <= 1099511627776) && (decide (d.cs.length <= 336) && allC d.fr d.fi d.cs))))
def nonB (d : Dg) : Bool := decide (d.mrk = 0) && (decide (d.fi = 0) && decide (d.cs.length = 0))
def prtB (d : Dg) : Bool := if d.kd = 1 then trnB d else if d.kd = 2 then nonB d else false
def okD (d : Dg) : Bool := seatB d && (prtB d && ackB d)
def chkD (d : Dg) : Int := if okD d then 0 else 162
def by8 (n : Int) : UInt8 := UInt8.ofNat (n.toNat % 256)
theorem by8_nat (b : UInt8) : by8 (b.toNat : Int) = b := by
 unfold by8
 have := b.toNat_lt
 rw [show ((b.toNat : Int)).toNat = b.toNat from rfl, Nat.mod_eq_of_lt (by omega)]
 simp
theorem by8_to {n : Int} (h0 : 0 <= n) (h1 : n < 256) : ((by8 n).toNat : Int) = n := by
 unfold by8
 rw [ofNat_toNat (by omega)]
 omega
def sumF : Nat -> Nat -> List UInt8
 | 0, _ => []
 | k + 1, d => UInt8.ofNat (d % 256) :: sumF k (d / 256)
theorem sumF_len : ∀ k d, (sumF k d).length = k
 | 0, _ => rfl
 | k + 1, d => by simp [sumF, sumF_len k]
def sgB (n : Int) : List UInt8 := form (fold n)
def nOp (v : Int) : Nat := (opV v).length
theorem nOp_le (v : Int) : nOp v <= 2 := by
 unfold nOp opV
 split <;> (try split) <;> (try split) <;> simp
def argB (v a b c : Int) : List UInt8 := ([a, b, c].take (nOp v)).flatMap sgB
def cmB (mk : Int) (x : Cc) : List UInt8 := sgB (x.fr - mk) ++ (by8 x.v :: argB x.v x.a x.b x.c)
def csB (mk : Int) (L : List Cc) : List UInt8 := L.flatMap (cmB mk)
def hdB (d : Dg) : List UInt8 := 101 :: by8 d.kd :: (sumF 8 d.ss.toNat ++ [by8 d.fr, by8 d.to])
def tnB (d : Dg) : List UInt8 := if d.kd = 1 then form d.mrk.toNat ++ (form d.fi.toNat ++ (form d.cs.length ++ csB d.mrk d.cs)) else []
def opnB (d : Dg) : List UInt8 := hdB d ++ (tnB d ++ form d.ak.toNat)
/-! ### what bytes say: a machine that goes on whatever comes, and a parser -/
structure Rs where
 bs : List UInt8
 e : Int
 y : Bool
def Rs.bad (s : Rs) : Prop := s.e ≠ 0 \/ s.y = true
abbrev Mch (α : Type) := Rs -> α × Rs
abbrev Prs (α : Type) := List UInt8 -> Option (α × List UInt8)
structure Par {α : Type} (f : Mch α) (p : Prs α) : Prop where
 bad : ∀ s, s.bad -> (f s).2.bad
 ok : ∀ bs v r, p bs = some (v, r) -> f ⟨bs, 0, false⟩ = (v, ⟨r, 0, false⟩)
 no : ∀ bs, p bs = none -> (f ⟨bs, 0, false⟩).2.bad
section
variable {α β : Type}
def mR (v : α) : Mch α := fun s => (v, s)
def mB (f : Mch α) (g : α -> Mch β) : Mch β := fun s => g (f s).1 (f s).2
def mG (b : Bool) : Mch Unit := fun s => ((), ⟨s.bs, s.e, s.y || !b⟩)
def pR (v : α) : Prs α := fun bs => some (v, bs)
def pB (p : Prs α) (q : α -> Prs β) : Prs β := fun bs => match p bs with | none => none | some x => q x.1 x.2
def pN : Prs α := fun _ => none
def pG (b : Bool) : Prs Unit := fun bs => if b then some ((), bs) else none
theorem pB_some {p : Prs α} {q : α -> Prs β} {bs r : List UInt8} {v : β} (h : pB p q bs = some (v, r)) : ∃ x t, p bs = some (x, t) /\ q x t = some (v, r) := by
 unfold pB at h
 cases hp : p bs with
 | none => rw [hp] at h; cases h
 | some x => rw [hp] at h; exact ⟨x.1, x.2, rfl, h⟩
theorem pB_at {p : Prs α} {q : α -> Prs β} {bs t : List UInt8} {x : α} (h : p bs = some (x, t)) : pB p q bs = q x t := by
 unfold pB
 rw [h]
theorem pB_no {p : Prs α} {q : α -> Prs β} {bs : List UInt8} (h : p bs = none) : pB p q bs = none := by
 unfold pB
 rw [h]
theorem Par.ret (v : α) : Par (mR v) (pR v) := ⟨fun _ h => h, fun bs x r h => by cases h; rfl, fun bs h => by cases h⟩
theorem Par.bind {f : Mch α} {p : Prs α} {g : α -> Mch β} {q : α -> Prs β} (h : Par f p) (k : ∀ v, Par (g v) (q v)) : Par (mB f g) (pB p q) := by
 refine ⟨fun s hs => (k _).bad _ (h.bad s hs), fun bs v r e => ?_, fun bs e => ?_⟩
 ·obtain ⟨x, t, e1, e2⟩ := pB_some e
  unfold mB
  rw [h.ok _ _ _ e1]
  exact (k x).ok _ _ _ e2
 ·unfold mB
  cases hp : p bs with
  | none => exact (k _).bad _ (h.no _ hp)
  | some x =>
   obtain ⟨x, t⟩ := x
   rw [pB_at hp] at e
   rw [h.ok _ _ _ hp]
   exact (k x).no _ e
theorem Par.guard (b : Bool) : Par (mG b) (pG b) := by
 refine ⟨fun s hs => ?_, fun bs v r e => ?_, fun bs e => ?_⟩
 ·rcases hs with h | h
  ·exact .inl h
  ·exact .inr (by simp [mG, h])
 ·unfold pG at e
  cases b with
  | false => cases e
  | true => cases e; rfl
 ·unfold pG at e
  cases b with
  | false => exact .inr (by simp [mG])
  | true => cases e
theorem Par.none {f : Mch α} (h : ∀ s, (f s).2.bad) : Par f pN := ⟨fun s _ => h s, fun _ _ _ e => (by cases e), fun _ _ => h _⟩
theorem Par.like {f g : Mch α} {p : Prs α} (h : Par f p) (hb : ∀ s, s.bad -> (g s).2.bad) (hg : ∀ bs, f ⟨bs, 0, false⟩ = g ⟨bs, 0, false⟩ \/ ((f ⟨bs, 0, false⟩).2.bad /\ (g ⟨bs, 0, false⟩).2.bad)) : Par g p := by
 refine ⟨hb, fun bs v r e => ?_, fun bs e => ?_⟩
 ·have h1 := h.ok _ _ _ e
  rcases hg bs with h2 | ⟨h2, _⟩
  ·rw [<- h2, h1]
  ·rw [h1] at h2
   rcases h2 with h2 | h2
   ·exact absurd rfl h2
   ·cases h2
 ·rcases hg bs with h2 | ⟨_, h2⟩
  ·rw [<- h2]; exact h.no _ e
  ·exact h2
end
/-! the parts -/
def unM : Mch Nat := fun s => ((uintS s.bs s.e).1, ⟨(uintS s.bs s.e).2.1, (uintS s.bs s.e).2.2, s.y⟩)
def byM : Mch UInt8 := fun s => ((byteS s.bs s.e).1, ⟨(byteS s.bs s.e).2.1, (byteS s.bs s.e).2.2, s.y⟩)
def inM : Mch Int := mB unM fun n => mR (Cp.unfold n)
def pU : Prs Nat := fun bs => if (num 0 0 bs).2.2 = 0 then some ((num 0 0 bs).1, bs.drop (num 0 0 bs).2.1) else none
def pY : Prs UInt8 := fun bs => match bs with | [] => none | b :: r => some (b, r)
def pI : Prs Int := pB pU fun n => pR (Cp.unfold n)
theorem par_un : Par unM pU := by
 refine ⟨fun s hs => ?_, fun bs v r e => ?_, fun bs e => ?_⟩
 ·rcases hs with h | h
  ·left; simp [unM, uintS, h]
  ·right; exact h
 ·unfold pU at e
  by_cases h : (num 0 0 bs).2.2 = 0
  ·rw [if_pos h] at e
   cases e
   simp [unM, uintS, h]
  ·rw [if_neg h] at e; cases e
 ·unfold pU at e
  by_cases h : (num 0 0 bs).2.2 = 0
  ·rw [if_pos h] at e; cases e
  ·left; simp [unM, uintS, h]
theorem par_by : Par byM pY := by
 refine ⟨fun s hs => ?_, fun bs v r e => ?_, fun bs e => ?_⟩
 ·rcases hs with h | h
  ·left; simp [byM, byteS, h]
  ·right; exact h
 ·cases bs with
  | nil => cases e
  | cons b t => cases e; simp [byM, byteS]
 ·cases bs with
  | nil => left; simp [byM, byteS]
  | cons b t => cases e
theorem par_in : Par inM pI := par_un.bind fun _ => Par.ret _
theorem pU_form {n : Nat} (h : n < 18446744073709551616) (r : List UInt8) : pU (form n ++ r) = some (n, r) := by
 unfold pU
 rw [num_form0 h]
 simp
theorem pU_back {bs r : List UInt8} {n : Nat} (h : pU bs = some (n, r)) : bs = form n ++ r /\ n < 18446744073709551616 := by
 unfold pU at h
 by_cases h0 : (num 0 0 bs).2.2 = 0
 ·rw [if_pos h0] at h
  obtain ⟨rfl, rfl⟩ : (num 0 0 bs).1 = n /\ bs.drop (num 0 0 bs).2.1 = r := by
   simp only [Option.some.injEq, Prod.mk.injEq] at h
   exact h
  have h2 := num_one0 (bs := bs) (n := (num 0 0 bs).1) (k := (num 0 0 bs).2.1) (by rw [<- h0])
  refine ⟨?_, ?_⟩
  ·rw [<- h2.2, List.take_append_drop]
  ·rcases num_err bs with h3 | h3
   ·exact h3.2.1
   ·rw [h3.1]; decide
 ·rw [if_neg h0] at h; cases h
theorem pI_form {n : Int} (h : -9223372036854775808 <= n) (h2 : n <= 9223372036854775807) (r : List UInt8) : pI (sgB n ++ r) = some (n, r) := by
 unfold pI sgB
 rw [pB_at (pU_form (fold_lt h h2) r)]
 simp [pR, unfold_fold]
theorem pI_back {bs r : List UInt8} {n : Int} (h : pI bs = some (n, r)) : bs = sgB n ++ r /\ -9223372036854775808 <= n /\ n <= 9223372036854775807 := by
 obtain ⟨m, t, h1, h2⟩ := pB_some h
 obtain ⟨e1, e2⟩ := pU_back h1
 cases h2
 refine ⟨?_, unfold_lo e2, unfold_hi e2⟩
 unfold sgB
 rw [fold_unfold]
 exact e1
def upM (m : Nat) : Mch Nat := mB unM fun n => if n <= m then mR n else mB (mG false) fun _ => mR 0
def pUp (m : Nat) : Prs Nat := pB pU fun n => if n <= m then pR n else pN
theorem bad_false {α : Type} (v : α) (s : Rs) : ((mB (mG false) fun _ => mR v) s).2.bad := .inr (by simp [mB, mG, mR])
theorem par_up (m : Nat) : Par (upM m) (pUp m) := par_un.bind fun n => by
 by_cases h : n <= m
 ·rw [if_pos h, if_pos h]; exact Par.ret _
 ·rw [if_neg h, if_neg h]; exact Par.none (bad_false _)
theorem pUp_form {m n : Nat} (h : n <= m) (hm : m < 18446744073709551616) (r : List UInt8) : pUp m (form n ++ r) = some (n, r) := by
 unfold pUp
 rw [pB_at (pU_form (by omega) r), if_pos h]
 rfl
theorem pUp_back {m n : Nat} {bs r : List UInt8} (h : pUp m bs = some (n, r)) : bs = form n ++ r /\ n <= m := by
 obtain ⟨k, t, h1, h2⟩ := pB_some h
 by_cases hk : k <= m
 ·rw [if_pos hk] at h2
  cases h2
  exact ⟨(pU_back h1).1, hk⟩
 ·rw [if_neg hk] at h2; cases h2
theorem upM_le (m : Nat) (s : Rs) : (upM m s).1 <= m := by
 unfold upM mB
 dsimp only
 split
 ·assumption
 ·exact Nat.zero_le _
def fuM : Nat -> Nat -> Nat -> Mch Nat
 | 0, _, acc => mR acc
 | k + 1, i, acc => mB byM fun c => fuM k (i + 1) (acc + c.toNat * 256 ^ i)
def pF : Nat -> Nat -> Nat -> Prs Nat
 | 0, _, acc => pR acc
 | k + 1, i, acc => pB pY fun c => pF k (i + 1) (acc + c.toNat * 256 ^ i)
theorem par_fu : ∀ k i acc, Par (fuM k i acc) (pF k i acc)
 | 0, _, _ => Par.ret _
 | k + 1, i, acc => par_by.bind fun c => par_fu k (i + 1) _
theorem pF_form : ∀ k i acc m r, m < 256 ^ k -> pF k i acc (sumF k m ++ r) = some (acc + m * 256 ^ i, r)
 | 0, i, acc, m, r, h => by
  obtain rfl : m = 0 := by simpa using h
  simp [pF, sumF, pR]
 | k + 1, i, acc, m, r, h => by
  rw [show pF (k + 1) i acc = pB pY fun c => pF k (i + 1) (acc + c.toNat * 256 ^ i) from rfl, show sumF (k + 1) m = UInt8.ofNat (m % 256) :: sumF k (m / 256) from rfl, List.cons_append, pB_at (show pY _ = some (UInt8.ofNat (m % 256), sumF k (m / 256) ++ r) from rfl), ofNat_toNat (by omega),
   pF_form k (i + 1) _ (m / 256) r (by rw [Nat.pow_succ] at h; omega)]
  congr 2
  rw [Nat.pow_succ, Nat.mul_comm (256 ^ i) 256, <- Nat.mul_assoc, Nat.add_assoc, <- Nat.add_mul]
  congr 2
  omega
theorem pF_back : ∀ k i acc n bs r, pF k i acc bs = some (n, r) -> ∃ m, m < 256 ^ k /\ n = acc + m * 256 ^ i /\ bs = sumF k m ++ r
 | 0, i, acc, n, bs, r, h => by
  cases h
  exact ⟨0, by simp, by simp, rfl⟩
 | k + 1, i, acc, n, bs, r, h => by
  obtain ⟨c, t, h1, h2⟩ := pB_some h
  obtain ⟨m, hm, e1, e2⟩ := pF_back k (i + 1) _ n t r h2
  cases bs with
  | nil => cases h1
  | cons b u =>
   cases h1
   have hc := c.toNat_lt
   refine ⟨c.toNat + m * 256, by rw [Nat.pow_succ]; omega, ?_, ?_⟩
   ·rw [e1, Nat.pow_succ, Nat.mul_comm (256 ^ i) 256, <- Nat.mul_assoc, Nat.add_assoc, <- Nat.add_mul]
   ·rw [show sumF (k + 1) (c.toNat + m * 256) = UInt8.ofNat ((c.toNat + m * 256) % 256) :: sumF k ((c.toNat + m * 256) / 256) from rfl, show (c.toNat + m * 256) % 256 = c.toNat by omega, show (c.toNat + m * 256) / 256 = m by omega, e2]
    simp
theorem fuM_lt : ∀ k i acc s, acc < 256 ^ i -> (fuM k i acc s).1 < 256 ^ (i + k)
 | 0, i, acc, s, h => h
 | k + 1, i, acc, s, h => by
  have hc := (byM s).1.toNat_lt
  have := fuM_lt k (i + 1) (acc + (byM s).1.toNat * 256 ^ i) (byM s).2 (by
   rw [Nat.pow_succ]
   have : (byM s).1.toNat * 256 ^ i <= 255 * 256 ^ i := Nat.mul_le_mul_right _ (by omega)
   omega)
  rw [show i + (k + 1) = i + 1 + k by omega]
  exact this
def put3 (t : Int × Int × Int) (i : Nat) (x : Int) : Int × Int × Int := match i with | 0 => (x, t.2.1, t.2.2) | 1 => (t.1, x, t.2.2) | _ => (t.1, t.2.1, x)
def opM : Nat -> Nat -> Int × Int × Int -> Mch (Int × Int × Int)
 | 0, _, t => mR t
 | k + 1, i, t => mB inM fun x => opM k (i + 1) (put3 t i x)
def pO : Nat -> Nat -> Int × Int × Int -> Prs (Int × Int × Int)
 | 0, _, t => pR t
 | k + 1, i, t => pB pI fun x => pO k (i + 1) (put3 t i x)
theorem par_op : ∀ k i t, Par (opM k i t) (pO k i t)
 | 0, _, _ => Par.ret _
 | k + 1, i, t => par_in.bind fun x => par_op k (i + 1) _
def nm (b : UInt8) : Int := (b.toNat : Int)
def orM : Mch (Int × Int × Int × Int) := mB byM fun v => mB (mG (isV (nm v))) fun _ => mB (opM (nOp (nm v)) 0 (0, 0, 0)) fun t => mR (nm v, t)
def pOr : Prs (Int × Int × Int × Int) := pB pY fun v => pB (pG (isV (nm v))) fun _ => pB (pO (nOp (nm v)) 0 (0, 0, 0)) fun t => pR (nm v, t)
theorem par_or : Par orM pOr := par_by.bind fun v => (Par.guard _).bind fun _ => (par_op _ _ _).bind fun t => Par.ret _
def dsB (n : Int) : Bool := decide (-1099511627776 <= n) && decide (n <= 1099511627776)
def diM : Mch Int := mB inM fun n => mB (mG (dsB n)) fun _ => mR n
def pD : Prs Int := pB pI fun n => pB (pG (dsB n)) fun _ => pR n
theorem par_di : Par diM pD := par_in.bind fun n => (Par.guard _).bind fun _ => Par.ret _
def cmM (mk f sq : Int) : Mch Cc := mB diM fun far => mB orM fun o => mR ⟨IntKind.i64.wrap (mk + far), f, sq, o.1, o.2.1, o.2.2.1, o.2.2.2⟩
def pC (mk f sq : Int) : Prs Cc := pB pD fun far => pB pOr fun o => pR ⟨IntKind.i64.wrap (mk + far), f, sq, o.1, o.2.1, o.2.2.1, o.2.2.2⟩
theorem par_cm (mk f sq : Int) : Par (cmM mk f sq) (pC mk f sq) := par_di.bind fun far => par_or.bind fun o => Par.ret _
def csM (mk f fi : Int) : Nat -> Nat -> Mch (List Cc)
 | 0, _ => mR []
 | k + 1, i => mB (cmM mk f (fi + i)) fun x => mB (csM mk f fi k (i + 1)) fun l => mR (x :: l)
def pCs (mk f fi : Int) : Nat -> Nat -> Prs (List Cc)
 | 0, _ => pR []
 | k + 1, i => pB (pC mk f (fi + i)) fun x => pB (pCs mk f fi k (i + 1)) fun l => pR (x :: l)
theorem par_cs (mk f fi : Int) : ∀ k i, Par (csM mk f fi k i) (pCs mk f fi k i)
 | 0, _ => Par.ret _
 | k + 1, i => (par_cm _ _ _).bind fun x => (par_cs mk f fi k (i + 1)).bind fun l => Par.ret _
def tlM (k : UInt8) (ss f t : Int) : Mch Dg :=
 if nm k = 1 then mB (upM 1099511627776) fun mk => mB (upM 1099511627776) fun fi => mB (upM 336) fun n => mB (csM mk f fi n 0) fun l => mB (upM 1099511627776) fun ak => mR ⟨1, ss, f, t, mk, fi, l, ak⟩
 else if nm k = 2 then mB (upM 1099511627776) fun ak => mR ⟨2, ss, f, t, 0, 0, [], ak⟩
 else mB (mG false) fun _ => mR ⟨nm k, ss, f, t, 0, 0, [], 0⟩
def pT (k : UInt8) (ss f t : Int) : Prs Dg :=
 if nm k = 1 then pB (pUp 1099511627776) fun mk => pB (pUp 1099511627776) fun fi => pB (pUp 336) fun n => pB (pCs mk f fi n 0) fun l => pB (pUp 1099511627776) fun ak => pR ⟨1, ss, f, t, mk, fi, l, ak⟩
 else if nm k = 2 then pB (pUp 1099511627776) fun ak => pR ⟨2, ss, f, t, 0, 0, [], ak⟩
 else pN
theorem par_tl (k : UInt8) (ss f t : Int) : Par (tlM k ss f t) (pT k ss f t) := by
 unfold tlM pT
 by_cases h1 : nm k = 1
 ·rw [if_pos h1, if_pos h1]
  exact (par_up _).bind fun mk => (par_up _).bind fun fi => (par_up _).bind fun n => (par_cs _ _ _ _ _).bind fun l => (par_up _).bind fun ak => Par.ret _
 ·rw [if_neg h1, if_neg h1]
  by_cases h2 : nm k = 2
  ·rw [if_pos h2, if_pos h2]
   exact (par_up _).bind fun ak => Par.ret _
  ·rw [if_neg h2, if_neg h2]
   exact Par.none (bad_false _)
def dgM : Mch Dg := mB byM fun c => mB (mG (c == 101)) fun _ => mB byM fun k => mB (fuM 8 0 0) fun ss => mB byM fun f => mB byM fun t => tlM k ss (nm f) (nm t)
def pDg : Prs Dg := pB pY fun c => pB (pG (c == 101)) fun _ => pB pY fun k => pB (pF 8 0 0) fun ss => pB pY fun f => pB pY fun t => pT k ss (nm f) (nm t)
theorem par_dg : Par dgM pDg := par_by.bind fun c => (Par.guard _).bind fun _ => par_by.bind fun k => (par_fu _ _ _).bind fun ss => par_by.bind fun f => par_by.bind fun t => par_tl _ _ _ _
def doB (s : Rs) : Bool := decide ((if s.e = 0 /\ 0 < s.bs.length then (23 : Int) else s.e) = 0)
def enM : Mch Unit := fun s => ((), ⟨s.bs, s.e, s.y || !doB s⟩)
theorem doB_iff {s : Rs} : doB s = true ↔ s.e = 0 /\ s.bs = [] := by
 unfold doB
 rw [decide_eq_true_iff]
 by_cases h : s.e = 0 /\ 0 < s.bs.length
 ·rw [if_pos h]
  constructor
  ·intro h; cases h
  ·rintro ⟨_, h2⟩
   rw [h2] at h
   exact absurd h.2 (by simp)
 ·rw [if_neg h]
  constructor
  ·intro h0
   refine ⟨h0, ?_⟩
   cases hb : s.bs with
   | nil => rfl
   | cons b r => exact absurd ⟨h0, by rw [hb]; simp⟩ h
  ·exact fun h => h.1
def saysD (B : List UInt8) : Option Dg := match pDg B with | none => none | some x => if x.2 = [] then some x.1 else none
theorem says_yes {f : Mch Dg} (h : Par f pDg) {B : List UInt8} {d : Dg} (hd : saysD B = some d) : (f ⟨B, 0, false⟩).1 = d /\ ((f ⟨B, 0, false⟩).2.y || !doB (f ⟨B, 0, false⟩).2) = false := by
 unfold saysD at hd
 cases hp : pDg B with
 | none => rw [hp] at hd; cases hd
 | some x =>
  obtain ⟨x, t⟩ := x
  rw [hp] at hd
  dsimp only at hd
  by_cases ht : t = []
  ·rw [if_pos ht] at hd
   cases hd
   subst ht
   rw [h.ok _ _ _ hp]
   exact ⟨rfl, by simp [doB]⟩
  ·rw [if_neg ht] at hd; cases hd
theorem says_no {f : Mch Dg} (h : Par f pDg) {B : List UInt8} (hd : saysD B = none) : ((f ⟨B, 0, false⟩).2.y || !doB (f ⟨B, 0, false⟩).2) = true := by
 unfold saysD at hd
 cases hp : pDg B with
 | none =>
  rcases h.no _ hp with h1 | h1
  ·have : doB (f ⟨B, 0, false⟩).2 = false := by
    cases hb : doB (f ⟨B, 0, false⟩).2 with
    | false => rfl
    | true => exact absurd (doB_iff.1 hb).1 h1
   rw [this]; simp
  ·rw [h1]; rfl
 | some x =>
  obtain ⟨x, t⟩ := x
  rw [hp] at hd
  dsimp only at hd
  by_cases ht : t = []
  ·rw [if_pos ht] at hd; cases hd
  ·rw [h.ok _ _ _ hp]
   have : doB ⟨t, 0, false⟩ = false := by
    cases hb : doB ⟨t, 0, false⟩ with
    | false => rfl
    | true => exact absurd (doB_iff.1 hb).2 ht
   rw [this]; rfl
end Go.Proofs.YtnbofjaecchnaaaDoor.Wp
set_option maxRecDepth 100000
namespace Go.Proofs.YtnbofjaecchnaaaDoor.Wp
open Cp Vp
set_option linter.unusedVariables false
theorem nOp_0 {v : Int} (h : isV v = false) : nOp v = 0 := by
 unfold nOp opV
 rw [h]
 rfl
theorem chk_is {v a b c : Int} (h : chkO v a b c = 0) : isV v = true /\ okO v a b c = true := by
 unfold chkO at h
 cases h1 : isV v with
 | false => rw [h1] at h; simp at h
 | true =>
  rw [h1] at h
  cases h2 : okO v a b c with
  | false => rw [h2] at h; simp at h
  | true => exact ⟨rfl, rfl⟩
theorem chk_args {v a b c : Int} (h : chkO v a b c = 0) : (1 <= v /\ v <= 7) /\ (-8 <= a /\ a <= 255) /\ (-8 <= b /\ b <= 8) /\ ((nOp v = 0 /\ a = 0 /\ b = 0 /\ c = 0) \/ (nOp v = 1 /\ b = 0 /\ c = 0) \/ (nOp v = 2 /\ c = 0)) := by
 obtain ⟨h1, h2⟩ := chk_is h
 refine ⟨isV_iff.1 h1, ?_⟩
 unfold okO at h2
 simp only [Bool.and_eq_true, decide_eq_true_eq] at h2
 obtain ⟨⟨⟨h3, h4⟩, h5⟩, h6⟩ := h2
 rcases verbs h1 with rfl | rfl | rfl | rfl | rfl | rfl | rfl
 ·rw [if_pos rfl] at h5
  simp only [Bool.and_eq_true, decide_eq_true_eq] at h5
  simp only [lo, hi, loL, hiL] at h3 h4
  simp at h3 h4
  exact ⟨by omega, by omega, .inr (.inr ⟨by decide, h6⟩)⟩
 ·rw [if_neg (by decide)] at h5
  simp only [decide_eq_true_eq] at h5
  simp only [lo, hi, loL, hiL] at h3 h4
  simp at h3 h4
  exact ⟨by omega, by omega, .inl ⟨by decide, by omega, h5, h6⟩⟩
 all_goals
  rw [if_neg (by decide)] at h5
  simp only [decide_eq_true_eq] at h5
  simp only [lo, hi, loL, hiL] at h3 h4
  simp at h3 h4
  exact ⟨by omega, by omega, .inr (.inl ⟨by decide, h5, h6⟩)⟩
theorem arg0 {v : Int} (h : nOp v = 0) (a b c : Int) : argB v a b c = [] := by unfold argB; rw [h]; rfl
theorem arg1 {v : Int} (h : nOp v = 1) (a b c : Int) : argB v a b c = sgB a := by unfold argB; rw [h]; simp
theorem arg2 {v : Int} (h : nOp v = 2) (a b c : Int) : argB v a b c = sgB a ++ sgB b := by unfold argB; rw [h]; simp
theorem pO_form {v a b c : Int} (h : chkO v a b c = 0) (r : List UInt8) : pO (nOp v) 0 (0, 0, 0) (argB v a b c ++ r) = some ((a, b, c), r) := by
 obtain ⟨_, ha, hb, h0 | h0 | h0⟩ := chk_args h
 ·obtain ⟨h0, rfl, rfl, rfl⟩ := h0
  rw [arg0 h0, h0]
  rfl
 ·obtain ⟨h0, rfl, rfl⟩ := h0
  rw [arg1 h0, h0]
  show pB pI (fun x => pO 0 1 (put3 (0, 0, 0) 0 x)) _ = _
  rw [pB_at (pI_form (by omega) (by omega) r)]
  rfl
 ·obtain ⟨h0, rfl⟩ := h0
  rw [arg2 h0, h0, List.append_assoc]
  show pB pI (fun x => pB pI fun y => pO 0 2 (put3 (put3 (0, 0, 0) 0 x) 1 y)) _ = _
  rw [pB_at (pI_form (by omega) (by omega) _), pB_at (pI_form (by omega) (by omega) r)]
  rfl
theorem pO_back {v : Int} {t : Int × Int × Int} {bs r : List UInt8} (h : pO (nOp v) 0 (0, 0, 0) bs = some (t, r)) : bs = argB v t.1 t.2.1 t.2.2 ++ r := by
 have hn := nOp_le v
 rcases (show nOp v = 0 \/ nOp v = 1 \/ nOp v = 2 by omega) with h0 | h0 | h0
 ·rw [arg0 h0]
  rw [h0] at h
  cases h
  rfl
 ·rw [arg1 h0]
  rw [h0] at h
  obtain ⟨x, u, h1, h2⟩ := pB_some (show pB pI (fun x => pO 0 1 (put3 (0, 0, 0) 0 x)) bs = some (t, r) from h)
  cases h2
  exact (pI_back h1).1
 ·rw [arg2 h0]
  rw [h0] at h
  obtain ⟨x, u, h1, h2⟩ := pB_some (show pB pI (fun x => pB pI fun y => pO 0 2 (put3 (put3 (0, 0, 0) 0 x) 1 y)) bs = some (t, r) from h)
  obtain ⟨y, u2, h3, h4⟩ := pB_some h2
  cases h4
  rw [(pI_back h1).1, (pI_back h3).1, List.append_assoc]
  rfl
theorem wr64 {n : Int} (h : -9223372036854775808 <= n) (h2 : n <= 9223372036854775807) : IntKind.i64.wrap n = n := by
 rw [IntKind.wrap_i64]
 omega
theorem dsB_iff {n : Int} : dsB n = true ↔ -1099511627776 <= n /\ n <= 1099511627776 := by simp [dsB]
theorem pG_at {b : Bool} (h : b = true) (bs : List UInt8) : pG b bs = some ((), bs) := by subst h; rfl
theorem pG_some {b : Bool} {bs r : List UInt8} {u : Unit} (h : pG b bs = some (u, r)) : b = true /\ bs = r := by
 cases b with
 | false => cases h
 | true => cases h; exact ⟨rfl, rfl⟩
theorem pC_form {mk f sq : Int} (hm : 0 <= mk /\ mk <= 1099511627776) {x : Cc} (h1 : x.pe = f) (h2 : x.sq = sq) (h3 : 1 <= x.fr /\ x.fr <= 1099511627776) (h4 : chkO x.v x.a x.b x.c = 0) (r : List UInt8) : pC mk f sq (cmB mk x ++ r) = some (x, r) := by
 obtain ⟨fr, pe, s, v, a, b, c⟩ := x
 dsimp only at h1 h2 h3 h4
 subst h1 h2
 have hv := (chk_args h4).1
 have hnm : nm (by8 v) = v := by unfold nm; exact by8_to (by omega) (by omega)
 unfold pC cmB
 rw [List.append_assoc, List.cons_append]
 have e1 : pD (sgB (fr - mk) ++ (by8 v :: (argB v a b c ++ r))) = some (fr - mk, by8 v :: (argB v a b c ++ r)) := by
  unfold pD
  rw [pB_at (pI_form (by omega) (by omega) _), pB_at (pG_at (dsB_iff.2 (by omega)) _)]
  rfl
 have e2 : pOr (by8 v :: (argB v a b c ++ r)) = some ((v, a, b, c), r) := by
  unfold pOr
  rw [pB_at (show pY (by8 v :: (argB v a b c ++ r)) = some (by8 v, argB v a b c ++ r) from rfl), pB_at (pG_at (by rw [hnm]; exact (chk_is h4).1) _), hnm, pB_at (pO_form h4 r)]
  rfl
 rw [pB_at e1, pB_at e2]
 show some (_, r) = some (_, r)
 rw [show mk + (fr - mk) = fr by omega, wr64 (by omega) (by omega)]
theorem pC_back {mk f sq : Int} (hm : 0 <= mk /\ mk <= 1099511627776) {x : Cc} {bs r : List UInt8} (h : pC mk f sq bs = some (x, r)) : bs = cmB mk x ++ r := by
 obtain ⟨far, t1, h1, h2⟩ := pB_some h
 obtain ⟨o, t2, h3, h4⟩ := pB_some h2
 cases h4
 obtain ⟨far', t3, h5, h6⟩ := pB_some h1
 obtain ⟨_, t4, h7, h8⟩ := pB_some h6
 cases h8
 obtain ⟨h9, rfl⟩ := pG_some h7
 have h9 := dsB_iff.1 h9
 obtain ⟨b, t5, g1, g2⟩ := pB_some h3
 obtain ⟨_, t6, g3, g4⟩ := pB_some g2
 obtain ⟨t, t7, g5, g6⟩ := pB_some g4
 cases g6
 obtain ⟨_, rfl⟩ := pG_some g3
 cases t3 with
 | nil => cases g1
 | cons b' u =>
  cases g1
  unfold cmB
  dsimp only
  rw [wr64 (by omega) (by omega), show mk + far - mk = far by omega, List.append_assoc, List.cons_append, (pI_back h5).1, show by8 (nm b) = b from by8_nat b, <- pO_back g5]
theorem pCs_form {mk f fi : Int} (hm : 0 <= mk /\ mk <= 1099511627776) : ∀ (L : List Cc) (i : Nat) (r : List UInt8), (∀ j, j < L.length -> okC f fi (i + j) (cc L j) = true) -> pCs mk f fi L.length i (csB mk L ++ r) = some (L, r)
 | [], i, r, _ => rfl
 | x :: L, i, r, h => by
  have h0 := h 0 (by simp)
  simp only [okC, Bool.and_eq_true, decide_eq_true_eq, cc, List.getD_cons_zero, Nat.add_zero] at h0
  obtain ⟨h1, h2, h3, h4, h5, h6⟩ := h0
  show pB (pC mk f (fi + i)) (fun x => pB (pCs mk f fi L.length (i + 1)) fun l => pR (x :: l)) _ = _
  rw [show csB mk (x :: L) = cmB mk x ++ csB mk L from rfl, List.append_assoc, pB_at (pC_form hm h1 h2 ⟨h4, h5⟩ h6 _), pB_at (pCs_form hm L (i + 1) r (fun j hj => by
   have := h (j + 1) (by simp; omega)
   rw [show i + 1 + j = i + (j + 1) by omega]
   simpa [cc] using this))]
  rfl
theorem pCs_back {mk f fi : Int} (hm : 0 <= mk /\ mk <= 1099511627776) : ∀ (k i : Nat) (L : List Cc) (bs r : List UInt8), pCs mk f fi k i bs = some (L, r) -> L.length = k /\ bs = csB mk L ++ r
 | 0, i, L, bs, r, h => by cases h; exact ⟨rfl, rfl⟩
 | k + 1, i, L, bs, r, h => by
  obtain ⟨x, t, h1, h2⟩ := pB_some (show pB (pC mk f (fi + i)) (fun x => pB (pCs mk f fi k (i + 1)) fun l => pR (x :: l)) bs = some (L, r) from h)
  obtain ⟨l, t2, h3, h4⟩ := pB_some h2
  cases h4
  obtain ⟨e1, e2⟩ := pCs_back hm k (i + 1) l t r h3
  refine ⟨by simp [e1], ?_⟩
  rw [pC_back hm h1, e2, <- List.append_assoc]
  rfl
theorem okD_parts {d : Dg} (h : okD d = true) : (0 <= d.fr /\ d.fr <= 5 /\ 0 <= d.to /\ d.to <= 5 /\ d.fr ≠ d.to) /\ (0 <= d.ak /\ d.ak <= 1099511627776) /\ ((d.kd = 1 /\ (0 <= d.mrk /\ d.mrk <= 1099511627776) /\ (1 <= d.fi /\ d.fi <= 1099511627776) /\ d.cs.length <= 336 /\ allC d.fr d.fi d.cs = true) \/ (d.kd = 2 /\ d.mrk = 0 /\ d.fi = 0 /\ d.cs = [])) := by
 unfold okD seatB ackB at h
 simp only [Bool.and_eq_true, decide_eq_true_eq, Bool.not_eq_true', decide_eq_false_iff_not] at h
 obtain ⟨⟨h1, h2, h3, h4, h5⟩, h6, h7, h8⟩ := h
 refine ⟨⟨h1, h2, h3, h4, h5⟩, ⟨h7, h8⟩, ?_⟩
 unfold prtB at h6
 by_cases k1 : d.kd = 1
 ·rw [if_pos k1] at h6
  unfold trnB at h6
  simp only [Bool.and_eq_true, decide_eq_true_eq] at h6
  obtain ⟨g1, g2, g3, g4, g5, g6⟩ := h6
  exact .inl ⟨k1, ⟨g1, g2⟩, ⟨g3, g4⟩, g5, g6⟩
 ·rw [if_neg k1] at h6
  by_cases k2 : d.kd = 2
  ·rw [if_pos k2] at h6
   unfold nonB at h6
   simp only [Bool.and_eq_true, decide_eq_true_eq] at h6
   exact .inr ⟨k2, h6.1, h6.2.1, List.length_eq_zero_iff.1 h6.2.2⟩
  ·rw [if_neg k2] at h6; cases h6
theorem pDg_form {d : Dg} (h : okD d = true) (hs : 0 <= d.ss /\ d.ss < 18446744073709551616) (r : List UInt8) : pDg (opnB d ++ r) = some (d, r) := by
 obtain ⟨h1, h2, h3⟩ := okD_parts h
 obtain ⟨kd, ss, fr, to, mk, fi, cs, ak⟩ := d
 dsimp only at h1 h2 h3 hs
 have ess : ((ss.toNat : Nat) : Int) = ss := by omega
 have eak : ((ak.toNat : Nat) : Int) = ak := by omega
 have n1 : nm (by8 fr) = fr := by unfold nm; exact by8_to (by omega) (by omega)
 have n2 : nm (by8 to) = to := by unfold nm; exact by8_to (by omega) (by omega)
 have n3 : nm (by8 kd) = kd := by unfold nm; rcases h3 with h3 | h3 <;> exact by8_to (by omega) (by omega)
 unfold opnB hdB pDg
 dsimp only
 simp only [List.cons_append, List.append_assoc]
 rw [pB_at (show pY (101 :: _) = some (101, _) from rfl), pB_at (pG_at (by decide) _), pB_at (show pY (by8 kd :: _) = some (by8 kd, _) from rfl), pB_at (pF_form 8 0 0 ss.toNat _ (by omega))]
 simp only [List.nil_append, Nat.zero_add, Nat.pow_zero, Nat.mul_one]
 rw [pB_at (show pY (by8 fr :: _) = some (by8 fr, _) from rfl), pB_at (show pY (by8 to :: _) = some (by8 to, _) from rfl), n1, n2, ess]
 unfold pT tnB
 rw [n3]
 dsimp only
 rcases h3 with ⟨rfl, hm, hf, hl, ha⟩ | ⟨rfl, rfl, rfl, rfl⟩
 ·have emk : ((mk.toNat : Nat) : Int) = mk := by omega
  have efi : ((fi.toNat : Nat) : Int) = fi := by omega
  rw [if_pos rfl, if_pos rfl]
  simp only [List.append_assoc]
  rw [pB_at (pUp_form (by omega) (by omega) _), pB_at (pUp_form (by omega) (by omega) _), pB_at (pUp_form hl (by omega) _), emk, efi, pB_at (pCs_form hm cs 0 _ (fun j hj => by rw [Nat.zero_add]; exact allC_iff.1 ha j hj)), pB_at (pUp_form (by omega) (by omega) _)]
  show some (_, r) = some (_, r)
  rw [eak]
 ·rw [if_neg (by decide), if_pos rfl, if_neg (by decide), List.nil_append, pB_at (pUp_form (by omega) (by omega) _)]
  show some (_, r) = some (_, r)
  rw [eak]
theorem pDg_back {d : Dg} {bs r : List UInt8} (h : pDg bs = some (d, r)) : bs = opnB d ++ r /\ 0 <= d.ss /\ d.ss < 18446744073709551616 := by
 obtain ⟨c, t1, h1, h2⟩ := pB_some h
 obtain ⟨_, t2, h3, h4⟩ := pB_some h2
 obtain ⟨e1, rfl⟩ := pG_some h3
 obtain ⟨k, t3, h5, h6⟩ := pB_some h4
 obtain ⟨ss, t4, h7, h8⟩ := pB_some h6
 obtain ⟨f, t5, h9, h10⟩ := pB_some h8
 obtain ⟨t, t6, h11, h12⟩ := pB_some h10
 obtain ⟨m, hm, e2, e3⟩ := pF_back 8 0 0 ss t3 t4 h7
 simp only [Nat.zero_add, Nat.pow_zero, Nat.mul_one] at e2
 subst e2
 have e1 : c = 101 := by simpa using e1
 subst e1
 cases bs with
 | nil => cases h1
 | cons b1 u1 =>
  cases h1
  cases t1 with
  | nil => cases h5
  | cons b2 u2 =>
   cases h5
   cases t4 with
   | nil => cases h9
   | cons b3 u3 =>
    cases h9
    cases t5 with
    | nil => cases h11
    | cons b4 u4 =>
     cases h11
     have hms : ss < 18446744073709551616 := by omega
     rw [e3]
     unfold pT at h12
     by_cases k1 : nm k = 1
     ·rw [if_pos k1] at h12
      obtain ⟨mk, u1, g1, g2⟩ := pB_some h12
      obtain ⟨fi, u2, g3, g4⟩ := pB_some g2
      obtain ⟨n, u3, g5, g6⟩ := pB_some g4
      obtain ⟨l, u4, g7, g8⟩ := pB_some g6
      obtain ⟨ak, u5, g9, g10⟩ := pB_some g8
      cases g10
      obtain ⟨i1, i2⟩ := pUp_back g1
      obtain ⟨i3, i4⟩ := pUp_back g3
      obtain ⟨i5, i6⟩ := pUp_back g5
      obtain ⟨i7, i8⟩ := pCs_back (by omega) _ _ _ _ _ g7
      obtain ⟨i9, i10⟩ := pUp_back g9
      refine ⟨?_, by dsimp only; omega, by dsimp only; omega⟩
      unfold opnB hdB tnB
      dsimp only
      rw [if_pos rfl, i1, i3, i5, i8, i9, i7, show by8 1 = k by rw [<- k1]; exact by8_nat k, show by8 (nm f) = f from by8_nat f, show by8 (nm t) = t from by8_nat t]
      simp
     ·rw [if_neg k1] at h12
      by_cases k2 : nm k = 2
      ·rw [if_pos k2] at h12
       obtain ⟨ak, u5, g9, g10⟩ := pB_some h12
       cases g10
       obtain ⟨i9, i10⟩ := pUp_back g9
       refine ⟨?_, by dsimp only; omega, by dsimp only; omega⟩
       unfold opnB hdB tnB
       dsimp only
       rw [if_neg (by decide), i9, show by8 2 = k by rw [<- k2]; exact by8_nat k, show by8 (nm f) = f from by8_nat f, show by8 (nm t) = t from by8_nat t]
       simp
      ·rw [if_neg k2] at h12; cases h12
theorem says_form {d : Dg} (h : okD d = true) (hs : 0 <= d.ss /\ d.ss < 18446744073709551616) : saysD (opnB d) = some d := by
 have := pDg_form h hs []
 rw [List.append_nil] at this
 unfold saysD
 rw [this]
 rfl
theorem says_back {d : Dg} {B : List UInt8} (h : saysD B = some d) : B = opnB d /\ 0 <= d.ss /\ d.ss < 18446744073709551616 := by
 unfold saysD at h
 cases hp : pDg B with
 | none => rw [hp] at h; cases h
 | some x =>
  obtain ⟨x, t⟩ := x
  rw [hp] at h
  dsimp only at h
  by_cases ht : t = []
  ·rw [if_pos ht] at h
   cases h
   have := pDg_back hp
   rw [ht, List.append_nil] at this
   exact this
  ·rw [if_neg ht] at h; cases h
theorem sgB_le {n : Int} (h : -9223372036854775808 <= n) (h2 : n <= 9223372036854775807) : (sgB n).length <= 10 := form_ten (fold_lt h h2)
theorem argB_le {v a b c : Int} (h : chkO v a b c = 0) : (argB v a b c).length <= 20 := by
 obtain ⟨_, ha, hb, h0 | h0 | h0⟩ := chk_args h
 ·rw [arg0 h0.1]; simp
 ·rw [arg1 h0.1]
  have := sgB_le (n := a) (by omega) (by omega)
  omega
 ·rw [arg2 h0.1, List.length_append]
  have := sgB_le (n := a) (by omega) (by omega)
  have := sgB_le (n := b) (by omega) (by omega)
  omega
theorem cmB_le {mk : Int} (hm : 0 <= mk /\ mk <= 1099511627776) {x : Cc} (h3 : 1 <= x.fr /\ x.fr <= 1099511627776) (h4 : chkO x.v x.a x.b x.c = 0) : (cmB mk x).length <= 31 := by
 unfold cmB
 rw [List.length_append, List.length_cons]
 have := sgB_le (n := x.fr - mk) (by omega) (by omega)
 have := argB_le h4
 omega
theorem csB_le {mk : Int} (hm : 0 <= mk /\ mk <= 1099511627776) : ∀ (L : List Cc), (∀ x ∈ L, (1 <= x.fr /\ x.fr <= 1099511627776) /\ chkO x.v x.a x.b x.c = 0) -> (csB mk L).length <= 31 * L.length
 | [], _ => by simp [csB]
 | x :: L, h => by
  have h1 := csB_le hm L (fun y hy => h y (List.mem_cons_of_mem _ hy))
  have h2 := cmB_le hm (h x (List.mem_cons_self ..)).1 (h x (List.mem_cons_self ..)).2
  rw [show csB mk (x :: L) = cmB mk x ++ csB mk L from rfl, List.length_append, List.length_cons]
  omega
theorem allC_mem {f fi : Int} {L : List Cc} (h : allC f fi L = true) : ∀ x ∈ L, (1 <= x.fr /\ x.fr <= 1099511627776) /\ chkO x.v x.a x.b x.c = 0 := by
 intro x hx
 obtain ⟨i, hi, e⟩ := List.mem_iff_getElem.1 hx
 have h1 := allC_iff.1 h i hi
 rw [cc_at hi, e] at h1
 simp only [okC, Bool.and_eq_true, decide_eq_true_eq] at h1
 exact ⟨⟨h1.2.2.2.1, h1.2.2.2.2.1⟩, h1.2.2.2.2.2⟩
end Go.Proofs.YtnbofjaecchnaaaDoor.Wp
namespace Go.Proofs.YtnbofjaecchnaaaDoor
open Go.RowKit
open Wp Vp
set_option maxRecDepth 100000
set_option linter.unusedVariables false
namespace Lp
structure Ln where
 ss : Int
 se : Int
 ot : Int
 O : List Cc
 ak : Nat
 G : List Cc
 mq : Int
 mt : Bool
def zLn (ss se ot : Int) : Ln := ⟨ss, se, ot, [], 0, [], 0, false⟩
def onN (L : List Cc) (f : Int) : Nat := L.countP (fun c => c.fr == f)
theorem onN_snoc (L : List Cc) (c : Cc) (f : Int) : onN (L ++ [c]) f = onN L f + if c.fr = f then 1 else 0 := by
 unfold onN
 rw [List.countP_append, List.countP_singleton]
 by_cases h : c.fr = f <;> simp [h]
def chC (c : Cc) : Int := chkO c.v c.a c.b c.c
def okL (se : Int) (n : Nat) (c : Cc) : Bool := (c.pe == se) && ((c.sq == (n : Int) + 1) && (decide (1 <= c.fr) && (decide (c.fr <= 1099511627776) && (chC c == 0))))
def layE (s : Ln) (c : Cc) : Int := if okL s.se s.O.length c = true then (if 336 <= s.O.length - s.ak then 2 else 0) else 1
def layS (s : Ln) (c : Cc) : Ln := if layE s c = 0 then ⟨s.ss, s.se, s.ot, s.O ++ [c], s.ak, s.G, s.mq, s.mt⟩ else s
def clp (m : Int) : Int := if m < 0 then 0 else if 1099511627776 < m then 1099511627776 else m
theorem clp_in (m : Int) : 0 <= clp m /\ clp m <= 1099511627776 := by
 unfold clp
 split
 ·omega
 ·split <;> omega
def turD (s : Ln) (m : Int) : Dg := ⟨1, s.ss, s.se, s.ot, clp m, (s.ak : Int) + 1, s.O.drop s.ak, (s.G.length : Int)⟩
def ackD (s : Ln) : Dg := ⟨2, s.ss, s.se, s.ot, 0, 0, [], (s.G.length : Int)⟩
def frs (s : Ln) (d : Dg) : List Cc := d.cs.drop ((s.G.length : Int) + 1 - d.fi).toNat
def latB (s : Ln) (d : Dg) : Bool := (s.O.drop (max s.ak d.ak.toNat)).any (fun c => decide (c.fr <= d.mrk - 48))
def misB (mk dm : Int) : List Cc -> List Cc -> Bool
 | _, [] => false
 | G, c :: F => (decide (c.fr <= mk) || (decide (dm + 16 < c.fr) || decide (3 <= onN G c.fr))) || misB mk dm (G ++ [c]) F
def brkB (s : Ln) (d : Dg) (lead : Int) : Bool := decide ((s.O.length : Int) < d.ak) || ((d.kd == 1) && (decide (lead < d.mrk - 48) || (latB s d || misB s.mq d.mrk s.G (frs s d))))
def refE (s : Ln) (d : Dg) (lead : Int) : Int :=
 if okD d = true then
  if d.ss = s.ss then
   if d.fr = s.ot /\ d.to = s.se then
    if d.kd = 1 /\ (s.G.length : Int) + 1 < d.fi then 182
    else if brkB s d lead = true then 183 else 0
   else 181
  else 180
 else 162
def broB (s : Ln) (d : Dg) : Bool := decide ((s.ak : Int) < d.ak) || (decide (0 < (frs s d).length) || decide (s.mq < d.mrk))
def takS (s : Ln) (d : Dg) : Ln := ⟨s.ss, s.se, s.ot, s.O, max s.ak d.ak.toNat, s.G ++ frs s d, max s.mq d.mrk, true⟩
structure Fits (s : Ln) : Prop where
 a1 : s.ak <= s.O.length
 a2 : s.O.length - s.ak <= 336
 m0 : 0 <= s.mq /\ s.mq <= 1099511627776
 se : 0 <= s.se /\ s.se <= 5
 ot : 0 <= s.ot /\ s.ot <= 5
 ne : s.se ≠ s.ot
 ss : 0 <= s.ss /\ s.ss < 18446744073709551616
 o : ∀ i, i < s.O.length -> okL s.se i (cc s.O i) = true
 g : s.G.length <= 1099511627776
 gf : ∀ c ∈ s.G, 1 <= c.fr /\ c.fr <= 1099511627776
 gn : ∀ f, onN s.G f <= 3
theorem Fits.new {ss se ot : Int} (h1 : 0 <= se /\ se <= 5) (h2 : 0 <= ot /\ ot <= 5) (h3 : se ≠ ot) (h4 : 0 <= ss /\ ss < 18446744073709551616) : Fits (zLn ss se ot) :=
 ⟨Nat.le_refl _, by simp [zLn], ⟨by simp [zLn], by simp [zLn]⟩, h1, h2, h3, h4, fun i hi => by simp [zLn] at hi, by simp [zLn], fun c hc => by simp [zLn] at hc, fun f => by simp [zLn, onN]⟩
theorem okL_iff {se : Int} {n : Nat} {c : Cc} : okL se n c = true ↔ c.pe = se /\ c.sq = (n : Int) + 1 /\ 1 <= c.fr /\ c.fr <= 1099511627776 /\ chC c = 0 := by
 unfold okL
 simp only [Bool.and_eq_true, beq_iff_eq, decide_eq_true_eq]
theorem Fits.lay {s : Ln} (h : Fits s) (c : Cc) : Fits (layS s c) := by
 unfold layS
 by_cases he : layE s c = 0
 ·rw [if_pos he]
  unfold layE at he
  by_cases hk : okL s.se s.O.length c = true
  ·rw [if_pos hk] at he
   have hl : ¬ 336 <= s.O.length - s.ak := fun e => by rw [if_pos e] at he; cases he
   refine ⟨?_, ?_, h.m0, h.se, h.ot, h.ne, h.ss, ?_, h.g, h.gf, h.gn⟩
   ·have := h.a1; simp only [List.length_append, List.length_singleton]; omega
   ·simp only [List.length_append, List.length_singleton]; have := h.a1; omega
   ·intro i hi
    simp only [List.length_append, List.length_singleton] at hi
    by_cases e : i < s.O.length
    ·have := h.o i e
     unfold cc at this ⊢
     rw [List.getD_eq_getElem?_getD, List.getElem?_append_left e, <- List.getD_eq_getElem?_getD]
     exact this
    ·have : i = s.O.length := by omega
     subst this
     unfold cc
     rw [List.getD_eq_getElem?_getD, List.getElem?_append_right (Nat.le_refl _)]
     simpa using hk
  ·rw [if_neg hk] at he; cases he
 ·rw [if_neg he]; exact h
theorem okD_cs {d : Dg} (h : okD d = true) : ∀ i, i < d.cs.length -> (cc d.cs i).sq = d.fi + i /\ (cc d.cs i).sq <= 1099511627776 /\ 1 <= (cc d.cs i).fr /\ (cc d.cs i).fr <= 1099511627776 := by
 intro i hi
 obtain ⟨_, _, h3⟩ := okD_parts h
 rcases h3 with ⟨_, _, _, _, ha⟩ | ⟨_, _, _, hc⟩
 ·have h1 := allC_iff.1 ha i hi
  simp only [okC, Bool.and_eq_true, decide_eq_true_eq] at h1
  exact ⟨h1.2.1, h1.2.2.1, h1.2.2.2.1, h1.2.2.2.2.1⟩
 ·rw [hc] at hi; simp at hi
theorem mem_cc {L : List Cc} {c : Cc} (h : c ∈ L) : ∃ i, i < L.length /\ cc L i = c := by
 obtain ⟨i, hi, e⟩ := List.getElem_of_mem h
 exact ⟨i, hi, by rw [cc_at hi]; exact e⟩
theorem misB_no {mk dm : Int} : ∀ (F G : List Cc), (∀ f, onN G f <= 3) -> misB mk dm G F = false -> ∀ f, onN (G ++ F) f <= 3
 | [], G, h, _ => by simpa using h
 | c :: F, G, h, hm => by
  unfold misB at hm
  simp only [Bool.or_eq_false_iff, decide_eq_false_iff_not] at hm
  have := misB_no F (G ++ [c]) (fun f => by
   rw [onN_snoc]
   have := h f
   by_cases e : c.fr = f
   ·rw [if_pos e]; rw [e] at hm; omega
   ·rw [if_neg e]; omega) hm.2
  simpa using this
theorem refE_ok {s : Ln} {d : Dg} {lead : Int} (h : refE s d lead = 0) : okD d = true /\ d.ss = s.ss /\ d.fr = s.ot /\ d.to = s.se /\ (d.kd = 1 -> d.fi <= (s.G.length : Int) + 1) /\ brkB s d lead = false := by
 unfold refE at h
 by_cases h1 : okD d = true
 ·rw [if_pos h1] at h
  by_cases h2 : d.ss = s.ss
  ·rw [if_pos h2] at h
   by_cases h3 : d.fr = s.ot /\ d.to = s.se
   ·rw [if_pos h3] at h
    by_cases h4 : d.kd = 1 /\ (s.G.length : Int) + 1 < d.fi
    ·rw [if_pos h4] at h; cases h
    ·rw [if_neg h4] at h
     refine ⟨h1, h2, h3.1, h3.2, fun e => by omega, ?_⟩
     cases hb : brkB s d lead with
     | false => rfl
     | true => rw [hb] at h; cases h
   ·rw [if_neg h3] at h; cases h
  ·rw [if_neg h2] at h; cases h
 ·rw [if_neg h1] at h; cases h
theorem frs_len {s : Ln} {d : Dg} (hg : s.G.length <= 1099511627776) (h : okD d = true) (hf : d.kd = 1 -> d.fi <= (s.G.length : Int) + 1) : s.G.length + (frs s d).length <= 1099511627776 := by
 obtain ⟨_, _, h3⟩ := okD_parts h
 by_cases h0 : (frs s d).length = 0
 ·omega
 ·unfold frs at h0 ⊢
  rw [List.length_drop] at h0 ⊢
  rcases h3 with ⟨k1, _, hfi, _, ha⟩ | ⟨_, _, _, hc⟩
  ·have := okD_cs h (d.cs.length - 1) (by omega)
   have := hf k1
   omega
  ·rw [hc] at h0; simp at h0
theorem Fits.take {s : Ln} (h : Fits s) {d : Dg} {lead : Int} (hr : refE s d lead = 0) : Fits (takS s d) := by
 obtain ⟨h1, h2, h3, h4, h5, h6⟩ := refE_ok hr
 obtain ⟨p1, p2, p3⟩ := okD_parts h1
 unfold brkB at h6
 simp only [Bool.or_eq_false_iff, decide_eq_false_iff_not] at h6
 have ha1 := h.a1
 have ha2 := h.a2
 have hm0 := h.m0
 have hmk : 0 <= d.mrk /\ d.mrk <= 1099511627776 := by rcases p3 with ⟨_, q, _⟩ | ⟨_, q, _⟩ <;> omega
 refine ⟨?_, ?_, ?_, h.se, h.ot, h.ne, h.ss, h.o, ?_, ?_, ?_⟩
 ·show max s.ak d.ak.toNat <= s.O.length
  omega
 ·show s.O.length - max s.ak d.ak.toNat <= 336
  omega
 ·show 0 <= max s.mq d.mrk /\ max s.mq d.mrk <= 1099511627776
  omega
 ·show (s.G ++ frs s d).length <= _
  rw [List.length_append]
  exact frs_len h.g h1 h5
 ·intro c hc
  rcases List.mem_append.1 (show c ∈ s.G ++ frs s d from hc) with e | e
  ·exact h.gf c e
  ·obtain ⟨i, hi, rfl⟩ := mem_cc (List.mem_of_mem_drop e)
   have := okD_cs h1 i hi
   omega
 ·show ∀ f, onN (s.G ++ frs s d) f <= 3
  rcases p3 with ⟨k1, _⟩ | ⟨_, _, _, hc⟩
  ·refine misB_no (mk := s.mq) (dm := d.mrk) _ _ h.gn ?_
   have := h6.2
   rw [show (d.kd == 1) = true by simpa using k1] at this
   simp only [Bool.true_and, Bool.or_eq_false_iff] at this
   exact this.2.2
  ·unfold frs
   rw [hc]
   simpa using h.gn
end Lp
end Go.Proofs.YtnbofjaecchnaaaDoor
