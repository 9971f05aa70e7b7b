/- The program's isRow; strings.Cut at a line feed; the deferred closure of read. -/
import Derived.Test.YtnoaomocdmkigabFw
import Derived.Test.YtnoaomocdmkigabBp
import Derived.Test.YtnoaomocdmkigabPs
import Derived.Recover
import Derived.Laws.Pointers
namespace Go.Proofs.Ytnoaomocdmkigab
open Go.RowKit
open Pu Gp Ap

/-- what lies behind the first line -/
def rstB (t : ByteArray) : ByteArray := if fnd t 10 0 < 0 then ByteArray.empty else t.extract ((fnd t 10 0).toNat + 1) t.size
theorem index_nl (t : ByteArray) (w : World) : Calls Try.prog 72 #[.string t, .string ⟨#[10]⟩] w fun e w' => e = .returned (.int .i64 (fnd t 10 0)) ∧ w' = w := by
  have h := Try.stringslite_Index_one t 10 w
  have e := index_is t 10 (by omega) (by omega)
  rw [show ((10 : Int).toNat.toUInt8) = 10 from rfl] at e
  rw [e] at h
  exact h
theorem cut_lite (t : ByteArray) (hz : t.size ≤ 281474976710656) (w : World) : Calls Try.prog 61 #[.string t, .string ⟨#[10]⟩] w fun e w' => e = .returned (.tuple #[.string (linB t), .string (rstB t), .bool (decide (0 ≤ fnd t 10 0))]) ∧ Still w w' := by
  have HI := hid (fun u => index_nl t u)
  unfold linB rstB
  rcases fnd_spec t 10 0 (by omega) with ⟨e, _⟩ | ⟨k, e, _, h2, _⟩
  · rw [e] at HI ⊢
    rw [if_pos (by omega), if_pos (by omega), decide_eq_false (by omega)]
    go_enter Try.func61, Try.ntmps61
    go_wp2_with (go_at_call 72; refine (HI.out _).mono ?_; rintro e w' ⟨he, hw⟩; rw [he, hw]; clear he hw w')
    go_ret3
    exact ⟨rfl, Fr.refl _ _⟩
  · rw [e] at HI ⊢
    rw [if_neg (by omega), if_neg (by omega), decide_eq_true (by omega)]
    have c1 : (k : Int) ≤ (t.size : Int) := by omega
    have c2 : (k : Int) + 1 ≤ (t.size : Int) := by omega
    simp only [Int.toNat_natCast]
    clear e
    go_enter Try.func61, Try.ntmps61
    go_wp2_with (go_at_call 72; refine (HI.out _).mono ?_; rintro e w' ⟨he, hw⟩; rw [he, hw]; clear he hw w')
    go_region
    go_wp2_with fail
    go_ret3
    exact ⟨rfl, (Fr.refl _ w).drew⟩
theorem cut_any (t : ByteArray) (hz : t.size ≤ 281474976710656) (w : World) : Calls Try.prog 43 #[.string t, .string ⟨#[10]⟩] w fun e w' => e = .returned (.tuple #[.string (linB t), .string (rstB t), .bool (decide (0 ≤ fnd t 10 0))]) ∧ Still w w' := by
  go_enter Try.func43, Try.ntmps43
  go_wp2_with fail
  refine (cut_lite t hz _).mono ?_
  rintro e w1 ⟨rfl, h1⟩
  go_wp2_with fail
  go_ret3
  exact ⟨rfl, h1⟩
/-- may a line be the R-th of a map of C columns -/
def rowOk (C R : Nat) (L : ByteArray) : Bool := decide (R ≤ 24) && ((decide (3 ≤ C) && decide (C ≤ 32)) && (decide (L.size = C) && sgnsB L L.size))
set_option maxHeartbeats 2000000 in
theorem isRow_any (C R : Nat) (S L : ByteArray) (hz : L.size ≤ 65536) (w : World) : Calls Try.prog 44 #[ar (C : Int) (R : Int) S, .string L] w fun e w' => e = .returned (.bool (rowOk C R L)) ∧ Still w w' := by
  have p := newA_ab w (C : Int) (R : Int) S
  obtain ⟨c0, c1, c2, cf⟩ := p.cells
  unfold rowOk
  obtain ⟨b1, e1⟩ : ∃ b, (decide (3 ≤ C) && decide (C ≤ 32)) = b := ⟨_, rfl⟩
  obtain ⟨b2, e2⟩ : ∃ b, sgnsB L L.size = b := ⟨_, rfl⟩
  have H1 : Hid (∀ u : World, Calls Try.prog 53 #[.int .i64 (C : Int), .int .i64 3, .int .i64 32] u fun e w' => e = .returned (.bool b1) ∧ w' = u) := hid (fun u => by
    have k := within_any (C : Int) 3 32 u
    rw [show (decide (3 ≤ (C : Int)) && decide ((C : Int) ≤ 32)) = b1 by rw [← e1]; congr 1 <;> exact decide_eq_decide.mpr (by omega)] at k
    exact k)
  have H2 : Hid (∀ u : World, Calls Try.prog 54 #[.string L] u fun e w' => e = .returned (.bool b2) ∧ w' = u) := hid (fun u => by
    have k := allSigns_any L (by omega) u
    rw [e2] at k
    exact k)
  rw [e1, e2]
  clear e1 e2
  have HS0 := hid (Still.alloc w (.cells #[.int .i64 (C : Int), .int .i64 (R : Int), .string S] 23))
  by_cases h1 : R ≤ 24
  · have h1' : (R : Int) ≤ 24 := by omega
    rw [decide_eq_true h1, Bool.true_and]
    cases b1 with
    | false =>
      go_enter Try.func44, Try.ntmps44
      go_wp2_with (go_at_call 53; refine (H1.out _).mono ?_; rintro e w' ⟨he, hw⟩; rw [he, hw]; clear he hw w')
      go_ret
      exact ⟨rfl, HS0.out⟩
    | true =>
      rw [Bool.true_and]
      by_cases h2 : L.size = C
      · have h2' : ((L.size : Int) == (C : Int)) = true := by rw [h2]; simp
        rw [decide_eq_true h2, Bool.true_and]
        clear h2
        go_enter Try.func44, Try.ntmps44
        go_wp2_with (first | (go_at_call 53; refine (H1.out _).mono ?_; rintro e w' ⟨he, hw⟩; rw [he, hw]; clear he hw w') | (go_at_call 54; refine (H2.out _).mono ?_; rintro e w' ⟨he, hw⟩; rw [he, hw]; clear he hw w'))
        go_ret
        exact ⟨rfl, HS0.out⟩
      · have h2' : ((L.size : Int) == (C : Int)) = false := by simp; omega
        rw [decide_eq_false h2, Bool.false_and]
        clear h2
        go_enter Try.func44, Try.ntmps44
        go_wp2_with (go_at_call 53; refine (H1.out _).mono ?_; rintro e w' ⟨he, hw⟩; rw [he, hw]; clear he hw w')
        go_ret
        exact ⟨rfl, HS0.out⟩
  · have h1' : decide ((R : Int) ≤ 24) = false := decide_eq_false (by omega)
    rw [decide_eq_false h1, Bool.false_and]
    clear h1
    go_enter Try.func44, Try.ntmps44
    go_wp2_with fail
    go_ret
    exact ⟨rfl, HS0.out⟩
theorem catch_idle (a b : Addr) (w : World) :
    CallsD Try.prog 42 #[.pointer (some a), .pointer (some b)] .returning w fun e u' w' => e = .returned (.tuple #[]) ∧ u' = .returning ∧ w' = w := by
  refine callsD_of_wpS Try.func42 rfl fun c₀ cs hu => ?_
  have hta : ∀ u : World, (Instr.typeAssert .nilIface 20 77 true).run Try.prog u = .ok (.tuple #[.int .i64 0, .bool false]) u := fun u => by kernel_rfl
  apply wpS_seq
  apply wpS_region
  simp [wpOpsS, go_sem, recoverD, hu, Try.ntmps42, Exit.thenS, hta]
  apply wpS_seq
  apply wpS_region
  simp [wpOpsS, go_sem, Exit.thenS, Array.replicate]
  refine wpS_cond (t := false) (by simp [Act.eval]) ?_
  simp only [Bool.false_eq_true, if_false]
  refine wpS_of_wp (wp_skip ?_)
  cases c₀
  simp_all [bodyPostS, results, Try.results42]
theorem catch_panicking (A D : Nat) (C R x n : Int) (S : ByteArray) (older : List PanicEntry) (w : World) (ha : Ab w A C R S) (hd : w.cell? ⟨D, 0, none⟩ = some (.int .i64 x)) (hz : w.frozen? ⟨D, 0, none⟩ = false) (hne : A ≠ D) :
    CallsD Try.prog 42 #[.pointer (some ⟨A, 0, none⟩), .pointer (some ⟨D, 0, none⟩)] (.panicking ({ v := .iface 77 (.int .i64 n), recovered := false } :: older)) w fun e u' w' =>
      e = .returned (.tuple #[]) ∧ u' = .panicking ({ v := .iface 77 (.int .i64 n), recovered := true } :: older) ∧ w' = (setA w A 0 0 ByteArray.empty).setCell ⟨D, 0, none⟩ (.int .i64 n) := by
  obtain ⟨c0, c1, c2, cf⟩ := ha.cells
  refine callsD_of_wpS Try.func42 rfl fun c₀ cs hu => ?_
  have hta : ∀ u : World, (Instr.typeAssert (.iface 77 (.int .i64 n)) 20 77 true).run Try.prog u = .ok (.tuple #[.int .i64 n, .bool true]) u := fun u => by kernel_rfl
  apply wpS_seq
  apply wpS_region
  simp [wpOpsS, go_sem, recoverD, hu, Try.ntmps42, Exit.thenS, hta]
  apply wpS_seq
  apply wpS_region
  simp [wpOpsS, go_sem, Exit.thenS, Array.replicate]
  refine wpS_cond (t := true) (by simp [Act.eval]) ?_
  simp only [if_true]
  apply wpS_region
  simp [wpOpsS, go_sem, c0, c1, c2, cf, hd, hz, bodyPostS, results, Try.results42]
  rfl
end Go.Proofs.Ytnoaomocdmkigab
