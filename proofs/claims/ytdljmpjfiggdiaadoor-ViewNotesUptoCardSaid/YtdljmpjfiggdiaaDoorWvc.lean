/- The document's letter, seat, kind, thing; a note in plain words. -/
import Derived.Test.YtdljmpjfiggdiaaDoorWva
namespace Go.Proofs.YtdljmpjfiggdiaaDoor
open Go.RowKit
set_option maxRecDepth 100000

/-- a seat's letter -/
def ltS (s : Nat) : ByteArray := ⟨#[UInt8.ofNat (65 + s)]⟩
def seatB (n : Int) : Bool := decide (0 ≤ n ∧ n ≤ 5)
def kindB (n : Int) : Bool := decide (1 ≤ n ∧ n ≤ 3)
/-- what a pickup is called -/
def thgS (n : Int) : ByteArray := if n = 1 then ⟨#[104, 101, 97, 108]⟩ else if n = 2 then ⟨#[99, 104, 97, 114, 103, 101]⟩ else ⟨#[112, 114, 105, 122, 101]⟩
theorem ltS_sz (s : Nat) : (ltS s).size ≤ 1 := Nat.le_refl 1
theorem thgS_sz (n : Int) : (thgS n).size ≤ 6 := by
  unfold thgS
  split
  · decide
  · split <;> decide
theorem seatB_iff {n : Int} : seatB n = true ↔ 0 ≤ n ∧ n ≤ 5 := decide_eq_true_iff
theorem kindB_iff {n : Int} : kindB n = true ↔ 1 ≤ n ∧ n ≤ 3 := decide_eq_true_iff
theorem rletter_any (n : Int) (h : seatB n = true) (w : World) : Calls Tryd.prog 29 #[.int .i64 n] w fun e w' => e = .returned (.string (ltS n.toNat)) ∧ Still w w' := by
  have h1 := seatB_iff.1 h
  obtain ⟨k, rfl⟩ : ∃ k : Nat, n = (k : Int) := ⟨n.toNat, by omega⟩
  have hk : k < 6 := by omega
  clear h h1
  match k, hk with
  | 0, _ | 1, _ | 2, _ | 3, _ | 4, _ | 5, _ =>
    go_enter Tryd.func29, Tryd.ntmps29
    go_wp2_with fail
    go_ret
    exact ⟨rfl, Fr.refl _ _⟩
theorem rseat_any (n : Int) (w : World) : Calls Tryd.prog 44 #[.int .i64 n] w fun e w' => e = .returned (.bool (seatB n)) ∧ w' = w := by
  by_cases h1 : 0 ≤ n
  · by_cases h2 : n ≤ 5
    · have e : seatB n = true := seatB_iff.2 ⟨h1, h2⟩
      go_enter Tryd.func44, Tryd.ntmps44
      go_wp2_with fail
      go_ret
      exact ⟨by first | rfl | (rw [e]; rfl), rfl⟩
    · have e : seatB n = false := by unfold seatB; simp; omega
      go_enter Tryd.func44, Tryd.ntmps44
      go_wp2_with fail
      go_ret
      exact ⟨by first | rfl | (rw [e]; rfl), rfl⟩
  · have e : seatB n = false := by unfold seatB; simp; omega
    go_enter Tryd.func44, Tryd.ntmps44
    go_wp2_with fail
    go_ret
    exact ⟨by first | rfl | (rw [e]; rfl), rfl⟩
theorem rkind_any (n : Int) (w : World) : Calls Tryd.prog 45 #[.int .i64 n] w fun e w' => e = .returned (.bool (kindB n)) ∧ w' = w := by
  by_cases h1 : 1 ≤ n
  · by_cases h2 : n ≤ 3
    · have e : kindB n = true := kindB_iff.2 ⟨h1, h2⟩
      go_enter Tryd.func45, Tryd.ntmps45
      go_wp2_with fail
      go_ret
      exact ⟨by first | rfl | (rw [e]; rfl), rfl⟩
    · have e : kindB n = false := by unfold kindB; simp; omega
      go_enter Tryd.func45, Tryd.ntmps45
      go_wp2_with fail
      go_ret
      exact ⟨by first | rfl | (rw [e]; rfl), rfl⟩
  · have e : kindB n = false := by unfold kindB; simp; omega
    go_enter Tryd.func45, Tryd.ntmps45
    go_wp2_with fail
    go_ret
    exact ⟨by first | rfl | (rw [e]; rfl), rfl⟩
theorem rthing_any (n : Int) (w : World) : Calls Tryd.prog 46 #[.int .i64 n] w fun e w' => e = .returned (.string (thgS n)) ∧ Still w w' := by
  by_cases h1 : n = 1
  · subst h1
    go_enter Tryd.func46, Tryd.ntmps46
    go_wp2_with fail
    go_ret
    exact ⟨rfl, Fr.refl _ _⟩
  · by_cases h2 : n = 2
    · subst h2
      go_enter Tryd.func46, Tryd.ntmps46
      go_wp2_with fail
      go_ret
      exact ⟨rfl, Fr.refl _ _⟩
    · have b1 : (n == 1) = false := by simpa using h1
      have b2 : (n == 2) = false := by simpa using h2
      have e : thgS n = ⟨#[112, 114, 105, 122, 101]⟩ := by unfold thgS; rw [if_neg h1, if_neg h2]
      rw [e]
      clear e h1 h2
      go_enter Tryd.func46, Tryd.ntmps46
      go_wp2_with fail
      go_ret
      exact ⟨rfl, Fr.refl _ _⟩
/-- a note -/
structure Nv where
  k : Int
  a : Int
  b : Int
/-- may it be told -/
def okN (x : Nv) : Bool := (x.k == 1 && seatB x.a) || (x.k == 2 && (seatB x.a && seatB x.b)) || (x.k == 3 && (seatB x.a && seatB x.b)) || (x.k == 4 && seatB x.a) || (x.k == 5 && (seatB x.a && kindB x.b)) || (x.k == 6 && kindB x.b) || (x.k == 7 && (seatB x.a && seatB x.b)) || (x.k == 8 && seatB x.a)
/-- its line -/
def lnS (x : Nv) : ByteArray :=
  if x.k = 1 then (ltS x.a.toNat ++ ⟨#[32, 102, 105, 114, 101, 100, 32]⟩) ++ itS x.b
  else if x.k = 2 then (ltS x.a.toNat ++ ⟨#[32, 104, 105, 116, 32, 98, 121, 32]⟩) ++ ltS x.b.toNat
  else if x.k = 3 then (ltS x.a.toNat ++ ⟨#[32, 111, 117, 116, 32, 98, 121, 32]⟩) ++ ltS x.b.toNat
  else if x.k = 4 then ltS x.a.toNat ++ ⟨#[32, 98, 97, 99, 107]⟩
  else if x.k = 5 then (ltS x.a.toNat ++ ⟨#[32, 116, 111, 111, 107, 32]⟩) ++ thgS x.b
  else if x.k = 6 then ((⟨#[115, 112, 111, 116, 32]⟩ ++ itS x.a) ++ ⟨#[32]⟩) ++ thgS x.b
  else if x.k = 7 then (ltS x.a.toNat ++ ⟨#[32, 98, 111, 117, 110, 99, 101, 115, 32]⟩) ++ ltS x.b.toNat
  else (ltS x.a.toNat ++ ⟨#[32, 115, 97, 121, 115, 32]⟩) ++ itS x.b
abbrev nvcs (x : Nv) : Array Value := #[.int .i64 x.k, .int .i64 x.a, .int .i64 x.b]
def Nvb (w : World) (g : Nat) (x : Nv) : Prop := w.heap[g]? = some (.cells (nvcs x) 50 (0, 0))
theorem Nvb.still {w w' : World} {g : Nat} {x : Nv} (h : Nvb w g x) (hs : Still w w') : Nvb w' g x := hs.kept_still h
theorem Nvb.cells {w : World} {g : Nat} {x : Nv} (h : Nvb w g x) : w.cell? ⟨g, 0, none⟩ = some (.int .i64 x.k) ∧ w.cell? ⟨g, 1, none⟩ = some (.int .i64 x.a) ∧ w.cell? ⟨g, 2, none⟩ = some (.int .i64 x.b) ∧ ∀ o, w.frozen? ⟨g, o, none⟩ = false := by
  refine ⟨?_, ?_, ?_, fun o => frozen_of_row w g o _ _ h⟩ <;> (rw [cell_of_row _ _ _ _ _ _ h]; rfl)
end Go.Proofs.YtdljmpjfiggdiaaDoor
