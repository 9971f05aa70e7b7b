/- Texts of maps: the document's row, Print. -/
import Derived.Test.YtnoaomocdmkigabSd
namespace Go.Proofs.Ytnoaomocdmkigab
open Go.RowKit
open Pu Gp Ap

/-- the text of the first rows -/
def prtB (s : ByteArray) (C : Nat) : Nat → ByteArray
  | 0 => ByteArray.empty
  | i + 1 => prtB s C i ++ s.extract (i * C) ((i + 1) * C) ++ ⟨#[10]⟩
theorem prtB_size {s : ByteArray} {C : Nat} : ∀ {i : Nat}, i * C ≤ s.size → (prtB s C i).size = i * (C + 1)
  | 0, _ => by simp [prtB]
  | i + 1, h => by
    have e : (i + 1) * C = i * C + C := Nat.succ_mul i C
    have e2 : (i + 1) * (C + 1) = i * (C + 1) + (C + 1) := Nat.succ_mul i (C + 1)
    have := prtB_size (s := s) (C := C) (i := i) (by omega)
    rw [prtB, ByteArray.size_append, ByteArray.size_append, this, ByteArray.size_extract]
    rw [show (⟨#[10]⟩ : ByteArray).size = 1 from rfl]
    omega
theorem chkV_ok {C R : Int} {s : ByteArray} (h : ChkV C R s 0) : forB C R s = true := by
  rcases h with ⟨_, e⟩ | ⟨_, _, e⟩ | ⟨h, _⟩
  · cases e
  · cases e
  · exact h
theorem chkV_in {C R : Int} {s : ByteArray} {v : Int} (h : ChkV C R s v) : v = 0 ∨ v = 61 ∨ v = 62 := by
  rcases h with ⟨_, e⟩ | ⟨_, _, e⟩ | ⟨_, _, f, I, _, _, e⟩
  · exact .inr (.inl e)
  · exact .inr (.inr e)
  · rw [e]
    split
    · exact .inl rfl
    · exact .inr (.inr rfl)
def prtT (C R : Int) (s : ByteArray) (v : Int) : ByteArray := if v = 0 then prtB s C.toNat R.toNat else ByteArray.empty
end Go.Proofs.Ytnoaomocdmkigab
