/- Parts of the proof, laid end to end. -/
import Derived.Laws.DeepNot64
import Derived.Laws.BitsLemmas
import Derived.Lib.EndianBits
set_option maxRecDepth 100000
namespace Go.Proofs.YtkgbmefaphhcnaaGreatDoor.Cp
def formF : Nat -> Nat -> List UInt8
 | 0, n => [UInt8.ofNat n]
 | f + 1, n => if n < 128 then [UInt8.ofNat n] else UInt8.ofNat (n % 128 + 128) :: formF f (n / 128)
theorem formF_eq : ∀ (f g n : Nat), n <= f -> n <= g -> formF f n = formF g n
 | 0, 0, _, _, _ => rfl
 | 0, g + 1, n, h, _ => by
  obtain rfl : n = 0 := by omega
  simp [formF]
 | f + 1, 0, n, _, h => by
  obtain rfl : n = 0 := by omega
  simp [formF]
 | f + 1, g + 1, n, h, k => by
  simp only [formF]
  by_cases hn : n < 128
  ·rw [if_pos hn, if_pos hn]
  ·rw [if_neg hn, if_neg hn, formF_eq f g (n / 128) (by omega) (by omega)]
def form (n : Nat) : List UInt8 := formF n n
theorem form_small {n : Nat} (h : n < 128) : form n = [UInt8.ofNat n] := by
 unfold form
 cases n with
 | zero => rfl
 | succ k => simp only [formF]; rw [if_pos h]
theorem form_great {n : Nat} (h : ¬ n < 128) : form n = UInt8.ofNat (n % 128 + 128) :: form (n / 128) := by
 unfold form
 cases n with
 | zero => omega
 | succ k =>
  simp only [formF]
  rw [if_neg h, formF_eq k ((k + 1) / 128) ((k + 1) / 128) (by omega) (Nat.le_refl _)]
theorem form_pos (n : Nat) : 1 <= (form n).length := by
 by_cases h : n < 128
 ·rw [form_small h]; simp
 ·rw [form_great h]; simp
theorem form_le : ∀ (k n : Nat), 1 <= k -> n < 128 ^ k -> (form n).length <= k
 | 0, n, h1, _ => by omega
 | k + 1, n, _, h => by
  by_cases hn : n < 128
  ·rw [form_small hn]; simp
  ·rw [form_great hn]
   have hk : 1 <= k := by
    rcases Nat.eq_zero_or_pos k with rfl | hk
    ·simp at h; omega
    ·exact hk
   have h2 : n / 128 < 128 ^ k := by
    rw [Nat.pow_succ] at h
    exact Nat.div_lt_of_lt_mul (by rw [Nat.mul_comm]; exact h)
   have := form_le k (n / 128) hk h2
   simp only [List.length_cons]
   omega
theorem form_ten {n : Nat} (h : n < 18446744073709551616) : (form n).length <= 10 := form_le 10 n (by omega) (by omega)
def num : Nat -> Nat -> List UInt8 -> Nat × Nat × Int
 | _, _, [] => (0, 0, 20)
 | i, acc, c :: r =>
  if (i = 9 /\ 1 < c.toNat) \/ (c.toNat = 0 /\ 0 < i) then (0, 0, 21)
  else if c.toNat < 128 then (acc + c.toNat % 128 * 128 ^ i, i + 1, 0)
  else num (i + 1) (acc + c.toNat % 128 * 128 ^ i) r
theorem num_nil (i acc : Nat) : num i acc [] = (0, 0, 20) := rfl
theorem num_bad {i acc : Nat} {c : UInt8} {r : List UInt8} (h : (i = 9 /\ 1 < c.toNat) \/ (c.toNat = 0 /\ 0 < i)) : num i acc (c :: r) = (0, 0, 21) := by
 rw [num, if_pos h]
theorem num_end {i acc : Nat} {c : UInt8} {r : List UInt8} (h : ¬ ((i = 9 /\ 1 < c.toNat) \/ (c.toNat = 0 /\ 0 < i))) (h2 : c.toNat < 128) : num i acc (c :: r) = (acc + c.toNat % 128 * 128 ^ i, i + 1, 0) := by
 rw [num, if_neg h, if_pos h2]
theorem num_more {i acc : Nat} {c : UInt8} {r : List UInt8} (h : ¬ ((i = 9 /\ 1 < c.toNat) \/ (c.toNat = 0 /\ 0 < i))) (h2 : ¬ c.toNat < 128) : num i acc (c :: r) = num (i + 1) (acc + c.toNat % 128 * 128 ^ i) r := by
 rw [num, if_neg h, if_neg h2]
theorem pow9 (i : Nat) (h : i <= 9) : 128 ^ i <= 9223372036854775808 := by
 have : 128 ^ i <= 128 ^ 9 := Nat.pow_le_pow_right (by omega) h
 omega
theorem num_facts : ∀ (bs : List UInt8) (i acc : Nat), i <= 9 -> acc < 128 ^ i ->
  ((num i acc bs).2.2 = 0 /\ (num i acc bs).1 < 18446744073709551616 /\ i < (num i acc bs).2.1 /\ (num i acc bs).2.1 <= i + bs.length /\ (num i acc bs).2.1 <= 10) \/
  ((num i acc bs).1 = 0 /\ (num i acc bs).2.1 = 0 /\ ((num i acc bs).2.2 = 20 \/ (num i acc bs).2.2 = 21))
 | [], i, acc, _, _ => by right; rw [num_nil]; simp
 | c :: r, i, acc, hi, ha => by
  by_cases hb : (i = 9 /\ 1 < c.toNat) \/ (c.toNat = 0 /\ 0 < i)
  ·right; rw [num_bad hb]; simp
  ·have hp := pow9 i hi
   have hm : c.toNat % 128 < 128 := Nat.mod_lt _ (by omega)
   have hacc : acc + c.toNat % 128 * 128 ^ i < 128 ^ (i + 1) := by
    rw [Nat.pow_succ]
    have : c.toNat % 128 * 128 ^ i <= 127 * 128 ^ i := Nat.mul_le_mul_right _ (by omega)
    omega
   by_cases he : c.toNat < 128
   ·left
    rw [num_end hb he]
    refine ⟨rfl, ?_, by simp, by simp, by simp; omega⟩
    show acc + c.toNat % 128 * 128 ^ i < 18446744073709551616
    by_cases h9 : i = 9
    ·subst h9
     have : c.toNat <= 1 := by omega
     have h1 : c.toNat % 128 * 128 ^ 9 <= 1 * 128 ^ 9 := Nat.mul_le_mul_right _ (by omega)
     omega
    ·have : 128 ^ (i + 1) <= 9223372036854775808 := pow9 (i + 1) (by omega)
     omega
   ·have h9 : i ≠ 9 := by omega
    have ih := num_facts r (i + 1) (acc + c.toNat % 128 * 128 ^ i) (by omega) hacc
    rw [num_more hb he]
    rcases ih with ⟨a1, a2, a3, a4, a5⟩ | h
    ·left
     refine ⟨a1, a2, by omega, ?_, a5⟩
     simp only [List.length_cons]; omega
    ·right; exact h
theorem ofNat_toNat {n : Nat} (h : n < 256) : (UInt8.ofNat n).toNat = n := by simp [Nat.mod_eq_of_lt h]
theorem num_form : ∀ (k n i acc : Nat) (rest : List UInt8), i + k = 10 -> (n = 0 -> i = 0) -> (i = 9 -> n <= 1) -> n * 128 ^ i < 18446744073709551616 -> num i acc (form n ++ rest) = (acc + n * 128 ^ i, i + (form n).length, 0)
 | 0, n, i, acc, rest, hk, h0, h9, hn => by
  have hi : i = 10 := by omega
  subst hi
  have : n = 0 := by
   rcases Nat.eq_zero_or_pos n with h | h
   ·exact h
   ·have : 1 * 128 ^ 10 <= n * 128 ^ 10 := Nat.mul_le_mul_right _ h
    omega
  have := h0 this
  omega
 | k + 1, n, i, acc, rest, hk, h0, h9, hn => by
  by_cases hs : n < 128
  ·rw [form_small hs]
   have e : (UInt8.ofNat n).toNat = n := ofNat_toNat (by omega)
   have hb : ¬ ((i = 9 /\ 1 < (UInt8.ofNat n).toNat) \/ ((UInt8.ofNat n).toNat = 0 /\ 0 < i)) := by
    rw [e]
    intro h
    rcases h with ⟨h, h'⟩ | ⟨h, h'⟩
    ·have := h9 h; omega
    ·have := h0 h; omega
   rw [List.singleton_append, num_end hb (by rw [e]; exact hs), e, Nat.mod_eq_of_lt hs]
   rfl
  ·have hi9 : i ≠ 9 := fun h => by have := h9 h; omega
   rw [form_great hs]
   have e : (UInt8.ofNat (n % 128 + 128)).toNat = n % 128 + 128 := ofNat_toNat (by omega)
   have hb : ¬ ((i = 9 /\ 1 < (UInt8.ofNat (n % 128 + 128)).toNat) \/ ((UInt8.ofNat (n % 128 + 128)).toNat = 0 /\ 0 < i)) := by rw [e]; omega
   rw [List.cons_append, num_more hb (by rw [e]; omega), e]
   have hp : 128 ^ (i + 1) = 128 * 128 ^ i := by rw [Nat.pow_succ, Nat.mul_comm]
   have hd : n = 128 * (n / 128) + n % 128 := (Nat.div_add_mod n 128).symm
   have hmul : n * 128 ^ i = n / 128 * 128 ^ (i + 1) + n % 128 * 128 ^ i := by
    rw [hp]
    conv => lhs; rw [hd]
    rw [Nat.add_mul, Nat.mul_comm 128 (n / 128), Nat.mul_assoc]
   have hn' : n / 128 * 128 ^ (i + 1) < 18446744073709551616 := by omega
   have ih := num_form k (n / 128) (i + 1) (acc + (n % 128 + 128) % 128 * 128 ^ i) rest (by omega) (fun h => by omega) (fun h => by
    have hi8 : i = 8 := by omega
    subst hi8
    rcases Nat.lt_or_ge (n / 128) 2 with h2 | h2
    ·omega
    ·have : 2 * 128 ^ 9 <= n / 128 * 128 ^ 9 := Nat.mul_le_mul_right _ h2
     omega) hn'
   rw [ih, show (n % 128 + 128) % 128 = n % 128 by omega]
   simp only [List.length_cons, Prod.mk.injEq]
   refine ⟨by omega, by omega, trivial⟩
theorem num_form0 {n : Nat} (h : n < 18446744073709551616) (rest : List UInt8) : num 0 0 (form n ++ rest) = (n, (form n).length, 0) := by
 have := num_form 10 n 0 0 rest rfl (fun _ => rfl) (fun h => by omega) (by simpa using h)
 simpa using this
theorem num_one : ∀ (bs : List UInt8) (i acc n k : Nat), i <= 9 -> acc < 128 ^ i -> num i acc bs = (n, k, 0) -> ∃ m, n = acc + m * 128 ^ i /\ k = i + (form m).length /\ bs.take (form m).length = form m /\ (0 < i -> 0 < m)
 | [], i, acc, n, k, _, _, h => by rw [num_nil] at h; simp at h
 | c :: r, i, acc, n, k, hi, ha, h => by
  by_cases hb : (i = 9 /\ 1 < c.toNat) \/ (c.toNat = 0 /\ 0 < i)
  ·rw [num_bad hb] at h; simp at h
  ·have hc : c.toNat < 256 := c.toNat_lt
   have hm : c.toNat % 128 < 128 := Nat.mod_lt _ (by omega)
   by_cases he : c.toNat < 128
   ·rw [num_end hb he] at h
    simp only [Prod.mk.injEq] at h
    obtain ⟨h1, h2, _⟩ := h
    refine ⟨c.toNat, by rw [<- h1, Nat.mod_eq_of_lt he], by rw [form_small he, <- h2]; rfl, by rw [form_small he]; simp, fun h => by omega⟩
   ·have h9 : i ≠ 9 := by omega
    have hacc : acc + c.toNat % 128 * 128 ^ i < 128 ^ (i + 1) := by
     rw [Nat.pow_succ]
     have : c.toNat % 128 * 128 ^ i <= 127 * 128 ^ i := Nat.mul_le_mul_right _ (by omega)
     omega
    rw [num_more hb he] at h
    obtain ⟨m, e1, e2, e3, e4⟩ := num_one r (i + 1) _ n k (by omega) hacc h
    have hm0 := e4 (by omega)
    have hp : 128 ^ (i + 1) = 128 * 128 ^ i := by rw [Nat.pow_succ, Nat.mul_comm]
    have hf : form (c.toNat % 128 + m * 128) = c :: form m := by
     rw [form_great (by omega), show (c.toNat % 128 + m * 128) % 128 + 128 = c.toNat by omega, show (c.toNat % 128 + m * 128) / 128 = m by omega]
     simp
    refine ⟨c.toNat % 128 + m * 128, ?_, ?_, ?_, fun _ => by omega⟩
    ·rw [e1, hp, Nat.add_mul, Nat.mul_assoc]; omega
    ·rw [hf, e2]; simp only [List.length_cons]; omega
    ·rw [hf]; simp only [List.length_cons, List.take_succ_cons, e3]
theorem num_one0 {bs : List UInt8} {n k : Nat} (h : num 0 0 bs = (n, k, 0)) : k = (form n).length /\ bs.take k = form n := by
 obtain ⟨m, e1, e2, e3, _⟩ := num_one bs 0 0 n k (by omega) (by simp) h
 have : n = m := by simpa using e1
 subst this
 refine ⟨by omega, by rw [e2, Nat.zero_add]; exact e3⟩
def fold (n : Int) : Nat := if n < 0 then (-2 * n - 1).toNat else (2 * n).toNat
def unfold (n : Nat) : Int := if n % 2 = 1 then -((n / 2 : Nat) : Int) - 1 else ((n / 2 : Nat) : Int)
theorem fold_lt {n : Int} (h : -9223372036854775808 <= n) (h2 : n <= 9223372036854775807) : fold n < 18446744073709551616 := by
 unfold fold; split <;> omega
theorem unfold_lo {n : Nat} (h : n < 18446744073709551616) : -9223372036854775808 <= Cp.unfold n := by
 unfold Cp.unfold; split <;> omega
theorem unfold_hi {n : Nat} (h : n < 18446744073709551616) : Cp.unfold n <= 9223372036854775807 := by
 unfold Cp.unfold; split <;> omega
theorem unfold_fold (n : Int) : Cp.unfold (fold n) = n := by
 unfold Cp.unfold fold; split <;> split <;> omega
theorem fold_unfold (n : Nat) : fold (Cp.unfold n) = n := by
 unfold Cp.unfold fold; split <;> split <;> omega
def counted (b : List UInt8) : List UInt8 := form b.length ++ b
def pick (c n : Int) : Int := (if c < 0 then -(c + 1) else c) % n
end Go.Proofs.YtkgbmefaphhcnaaGreatDoor.Cp
namespace Go.Proofs.YtkgbmefaphhcnaaGreatDoor
theorem not64 (n : Int) (h1 : -9223372036854775808 <= n) (h2 : n <= 9223372036854775807) : bits .xor .i64 (-1) n = -1 - n := by
 show IntKind.i64.wrap ((BitVec.ofInt 64 (-1) ^^^ BitVec.ofInt 64 n).toNat : Int) = _
 have h : BitVec.ofInt 64 (-1) = BitVec.allOnes 64 := by decide
 rw [h, BitVec.allOnes_xor, BitVec.toNat_not, BitVec.toNat_ofInt]
 simp [IntKind.wrap, IntKind.bits, IntKind.signed]
 omega
theorem and127_u64 (n : Int) (h0 : 0 <= n) (h1 : n < 18446744073709551616) : bits .and .u64 n 127 = n % 128 := bits_mask .u64 64 (by decide) wraps_u64 7 (by decide) n h0 h1
theorem and127_u8 (n : Int) (h0 : 0 <= n) (h1 : n < 256) : bits .and .u8 n 127 = n % 128 := bits_mask .u8 8 (by decide) wraps_u8 7 (by decide) n h0 h1
theorem or128_u8 (n : Int) (h0 : 0 <= n) (h1 : n < 128) : bits .or .u8 n 128 = n + 128 := bits_join_low .u8 8 (by decide) wraps_u8 7 n 128 h0 h1 (by omega) (by decide) (by decide) (by decide)
theorem or_group (a g i : Nat) (ha : a < 128 ^ i) (hs : g * 128 ^ i < 18446744073709551616) (hi : i <= 9) : bits .or .u64 (a : Int) (IntKind.u64.wrap ((g : Int) * 2 ^ (7 * i))) = ((a + g * 128 ^ i : Nat) : Int) := by
 have hp : (2 : Nat) ^ (7 * i) = 128 ^ i := by rw [Nat.pow_mul]
 have hpi : (2 : Int) ^ (7 * i) = ((128 ^ i : Nat) : Int) := by rw [<- hp]; simp
 have hle := Cp.pow9 i hi
 have hw : IntKind.u64.wrap ((g : Int) * 2 ^ (7 * i)) = ((g * 128 ^ i : Nat) : Int) := by
  rw [hpi, <- Int.natCast_mul]
  exact wraps_u64 _ (by omega) (by omega)
 rw [hw]
 have h := bits_join_low .u64 64 (by decide) wraps_u64 (7 * i) (a : Int) ((g * 128 ^ i : Nat) : Int) (by omega) (by rw [hpi]; omega) (by omega) (by omega)
  (by rw [hpi, <- Int.natCast_emod, Nat.mul_mod_left]; rfl) (by omega)
 rw [h]
 omega
end Go.Proofs.YtkgbmefaphhcnaaGreatDoor
namespace Go.Proofs.YtkgbmefaphhcnaaGreatDoor.Cp
def uintS (bs : List UInt8) (e : Int) : Nat × List UInt8 × Int :=
 if e ≠ 0 then (0, bs, e) else if (num 0 0 bs).2.2 ≠ 0 then (0, bs, (num 0 0 bs).2.2) else ((num 0 0 bs).1, bs.drop (num 0 0 bs).2.1, 0)
def byteS (bs : List UInt8) (e : Int) : UInt8 × List UInt8 × Int :=
 if e ≠ 0 then (0, bs, e) else match bs with | [] => (0, [], 20) | b :: r => (b, r, 0)
theorem num_err (bs : List UInt8) : ((num 0 0 bs).2.2 = 0 /\ (num 0 0 bs).1 < 18446744073709551616 /\ (num 0 0 bs).2.1 <= bs.length /\ (num 0 0 bs).2.1 <= 10 /\ 0 < (num 0 0 bs).2.1) \/
  ((num 0 0 bs).1 = 0 /\ (num 0 0 bs).2.1 = 0 /\ ((num 0 0 bs).2.2 = 20 \/ (num 0 0 bs).2.2 = 21)) := by
 rcases num_facts bs 0 0 (by omega) (by simp) with ⟨h1, h2, h3, h4, h5⟩ | h
 ·exact .inl ⟨h1, h2, by omega, h5, h3⟩
 ·exact .inr h
end Go.Proofs.YtkgbmefaphhcnaaGreatDoor.Cp
namespace Go.Proofs.YtkgbmefaphhcnaaGreatDoor.Cp
def enc (k : Int) (n : Nat) (i : Int) (b : List UInt8) : List UInt8 :=
 if k = 0 then form n else if k = 1 then form (fold i) else if k = 2 then [UInt8.ofNat (n % 256)] else counted b
end Go.Proofs.YtkgbmefaphhcnaaGreatDoor.Cp
namespace Go.Proofs.YtkgbmefaphhcnaaGreatDoor.Cp
end Go.Proofs.YtkgbmefaphhcnaaGreatDoor.Cp
set_option maxRecDepth 100000
namespace Go.Proofs.YtkgbmefaphhcnaaGreatDoor.Wp
open Cp
set_option linter.unusedVariables false
def sgB (n : Int) : List UInt8 := form (fold n)
/-! ### what bytes say: a machine that goes on whatever comes, and a parser -/
structure Rs where
 bs : List UInt8
 e : Int
 y : Bool
def Rs.bad (s : Rs) : Prop := s.e ≠ 0 \/ s.y = true
abbrev Mch (α : Type) := Rs -> α × Rs
abbrev Prs (α : Type) := List UInt8 -> Option (α × List UInt8)
structure Par {α : Type} (f : Mch α) (p : Prs α) : Prop where
 bad : ∀ s, s.bad -> (f s).2.bad
 ok : ∀ bs v r, p bs = some (v, r) -> f ⟨bs, 0, false⟩ = (v, ⟨r, 0, false⟩)
 no : ∀ bs, p bs = none -> (f ⟨bs, 0, false⟩).2.bad
section
variable {α β : Type}
def mR (v : α) : Mch α := fun s => (v, s)
def mB (f : Mch α) (g : α -> Mch β) : Mch β := fun s => g (f s).1 (f s).2
def mG (b : Bool) : Mch Unit := fun s => ((), ⟨s.bs, s.e, s.y || !b⟩)
def pR (v : α) : Prs α := fun bs => some (v, bs)
def pB (p : Prs α) (q : α -> Prs β) : Prs β := fun bs => match p bs with | none => none | some x => q x.1 x.2
def pG (b : Bool) : Prs Unit := fun bs => if b then some ((), bs) else none
theorem pB_some {p : Prs α} {q : α -> Prs β} {bs r : List UInt8} {v : β} (h : pB p q bs = some (v, r)) : ∃ x t, p bs = some (x, t) /\ q x t = some (v, r) := by
 unfold pB at h
 cases hp : p bs with
 | none => rw [hp] at h; cases h
 | some x => rw [hp] at h; exact ⟨x.1, x.2, rfl, h⟩
theorem pB_at {p : Prs α} {q : α -> Prs β} {bs t : List UInt8} {x : α} (h : p bs = some (x, t)) : pB p q bs = q x t := by
 unfold pB
 rw [h]
theorem Par.ret (v : α) : Par (mR v) (pR v) := ⟨fun _ h => h, fun bs x r h => by cases h; rfl, fun bs h => by cases h⟩
theorem Par.bind {f : Mch α} {p : Prs α} {g : α -> Mch β} {q : α -> Prs β} (h : Par f p) (k : ∀ v, Par (g v) (q v)) : Par (mB f g) (pB p q) := by
 refine ⟨fun s hs => (k _).bad _ (h.bad s hs), fun bs v r e => ?_, fun bs e => ?_⟩
 ·obtain ⟨x, t, e1, e2⟩ := pB_some e
  unfold mB
  rw [h.ok _ _ _ e1]
  exact (k x).ok _ _ _ e2
 ·unfold mB
  cases hp : p bs with
  | none => exact (k _).bad _ (h.no _ hp)
  | some x =>
   obtain ⟨x, t⟩ := x
   rw [pB_at hp] at e
   rw [h.ok _ _ _ hp]
   exact (k x).no _ e
theorem Par.guard (b : Bool) : Par (mG b) (pG b) := by
 refine ⟨fun s hs => ?_, fun bs v r e => ?_, fun bs e => ?_⟩
 ·rcases hs with h | h
  ·exact .inl h
  ·exact .inr (by simp [mG, h])
 ·unfold pG at e
  cases b with
  | false => cases e
  | true => cases e; rfl
 ·unfold pG at e
  cases b with
  | false => exact .inr (by simp [mG])
  | true => cases e
end
/-! the parts -/
def unM : Mch Nat := fun s => ((uintS s.bs s.e).1, ⟨(uintS s.bs s.e).2.1, (uintS s.bs s.e).2.2, s.y⟩)
def byM : Mch UInt8 := fun s => ((byteS s.bs s.e).1, ⟨(byteS s.bs s.e).2.1, (byteS s.bs s.e).2.2, s.y⟩)
def inM : Mch Int := mB unM fun n => mR (Cp.unfold n)
def pU : Prs Nat := fun bs => if (num 0 0 bs).2.2 = 0 then some ((num 0 0 bs).1, bs.drop (num 0 0 bs).2.1) else none
def pY : Prs UInt8 := fun bs => match bs with | [] => none | b :: r => some (b, r)
def pI : Prs Int := pB pU fun n => pR (Cp.unfold n)
theorem par_un : Par unM pU := by
 refine ⟨fun s hs => ?_, fun bs v r e => ?_, fun bs e => ?_⟩
 ·rcases hs with h | h
  ·left; simp [unM, uintS, h]
  ·right; exact h
 ·unfold pU at e
  by_cases h : (num 0 0 bs).2.2 = 0
  ·rw [if_pos h] at e
   cases e
   simp [unM, uintS, h]
  ·rw [if_neg h] at e; cases e
 ·unfold pU at e
  by_cases h : (num 0 0 bs).2.2 = 0
  ·rw [if_pos h] at e; cases e
  ·left; simp [unM, uintS, h]
theorem par_by : Par byM pY := by
 refine ⟨fun s hs => ?_, fun bs v r e => ?_, fun bs e => ?_⟩
 ·rcases hs with h | h
  ·left; simp [byM, byteS, h]
  ·right; exact h
 ·cases bs with
  | nil => cases e
  | cons b t => cases e; simp [byM, byteS]
 ·cases bs with
  | nil => left; simp [byM, byteS]
  | cons b t => cases e
theorem par_in : Par inM pI := par_un.bind fun _ => Par.ret _
theorem pU_form {n : Nat} (h : n < 18446744073709551616) (r : List UInt8) : pU (form n ++ r) = some (n, r) := by
 unfold pU
 rw [num_form0 h]
 simp
theorem pU_back {bs r : List UInt8} {n : Nat} (h : pU bs = some (n, r)) : bs = form n ++ r /\ n < 18446744073709551616 := by
 unfold pU at h
 by_cases h0 : (num 0 0 bs).2.2 = 0
 ·rw [if_pos h0] at h
  obtain ⟨rfl, rfl⟩ : (num 0 0 bs).1 = n /\ bs.drop (num 0 0 bs).2.1 = r := by
   simp only [Option.some.injEq, Prod.mk.injEq] at h
   exact h
  have h2 := num_one0 (bs := bs) (n := (num 0 0 bs).1) (k := (num 0 0 bs).2.1) (by rw [<- h0])
  refine ⟨?_, ?_⟩
  ·rw [<- h2.2, List.take_append_drop]
  ·rcases num_err bs with h3 | h3
   ·exact h3.2.1
   ·rw [h3.1]; decide
 ·rw [if_neg h0] at h; cases h
theorem pI_form {n : Int} (h : -9223372036854775808 <= n) (h2 : n <= 9223372036854775807) (r : List UInt8) : pI (sgB n ++ r) = some (n, r) := by
 unfold pI sgB
 rw [pB_at (pU_form (fold_lt h h2) r)]
 simp [pR, unfold_fold]
theorem pI_back {bs r : List UInt8} {n : Int} (h : pI bs = some (n, r)) : bs = sgB n ++ r /\ -9223372036854775808 <= n /\ n <= 9223372036854775807 := by
 obtain ⟨m, t, h1, h2⟩ := pB_some h
 obtain ⟨e1, e2⟩ := pU_back h1
 cases h2
 refine ⟨?_, unfold_lo e2, unfold_hi e2⟩
 unfold sgB
 rw [fold_unfold]
 exact e1
def nm (b : UInt8) : Int := (b.toNat : Int)
def doB (s : Rs) : Bool := decide ((if s.e = 0 /\ 0 < s.bs.length then (23 : Int) else s.e) = 0)
theorem doB_iff {s : Rs} : doB s = true ↔ s.e = 0 /\ s.bs = [] := by
 unfold doB
 rw [decide_eq_true_iff]
 by_cases h : s.e = 0 /\ 0 < s.bs.length
 ·rw [if_pos h]
  constructor
  ·intro h; cases h
  ·rintro ⟨_, h2⟩
   rw [h2] at h
   exact absurd h.2 (by simp)
 ·rw [if_neg h]
  constructor
  ·intro h0
   refine ⟨h0, ?_⟩
   cases hb : s.bs with
   | nil => rfl
   | cons b r => exact absurd ⟨h0, by rw [hb]; simp⟩ h
  ·exact fun h => h.1
theorem pG_at {b : Bool} (h : b = true) (bs : List UInt8) : pG b bs = some ((), bs) := by subst h; rfl
theorem pG_some {b : Bool} {bs r : List UInt8} {u : Unit} (h : pG b bs = some (u, r)) : b = true /\ bs = r := by
 cases b with
 | false => cases h
 | true => cases h; exact ⟨rfl, rfl⟩
end Go.Proofs.YtkgbmefaphhcnaaGreatDoor.Wp
