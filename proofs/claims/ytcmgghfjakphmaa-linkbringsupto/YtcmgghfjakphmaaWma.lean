/- Commands and datagrams in memory; the program's Check. -/
import Derived.Test.YtcmgghfjakphmaaWpc
import Derived.Test.YtcmgghfjakphmaaGa
import Derived.Test.YtcmgghfjakphmaaK7
import Derived.Test.YtcmgghfjakphmaaK5b
import Derived.Deep.DeepCutAuto
import Derived.Deep.RegionHeld3
import Derived.BigRegion
namespace Go.Proofs.Ytcmgghfjakphmaa
open Go.RowKit
open Wp Vp
set_option maxRecDepth 100000
set_option linter.unusedVariables false

abbrev kmc (x : Cc) : Array Value := #[.int .i64 x.fr, .int .i64 x.pe, .int .i64 x.sq, .int .i64 x.v, .int .i64 x.a, .int .i64 x.b, .int .i64 x.c]
abbrev kmv (x : Cc) : Value := .agg (kmc x)
def KCc : Kd Cc := ⟨fun x => (kmc x).toList, 7, zC, fun _ => rfl, fun m u hu => by
  simp at hu
  rcases hu with rfl | rfl | rfl | rfl | rfl | rfl | rfl <;> rfl, by decide⟩
theorem infoCc : ∃ i, Try.prog.info? 47 = some i ∧ i.zero = some (.agg (KCc.f KCc.d).toArray) ∧ i.size = KCc.k ∧ i.bytes = 56 := ⟨_, rfl, rfl, rfl, rfl⟩
theorem rdCc {w : World} {B o n : Nat} {L : List Cc} (h : RdG KCc w (some ⟨B, o, none⟩) n L) {i : Nat} (hi : i < n) : w.cell? ⟨B, o + i * 7, none⟩ = some (.int .i64 (cc L i).fr) ∧ w.cell? ⟨B, o + i * 7 + 1, none⟩ = some (.int .i64 (cc L i).pe) ∧ w.cell? ⟨B, o + i * 7 + 2, none⟩ = some (.int .i64 (cc L i).sq) ∧ w.cell? ⟨B, o + i * 7 + 3, none⟩ = some (.int .i64 (cc L i).v) ∧ w.cell? ⟨B, o + i * 7 + 4, none⟩ = some (.int .i64 (cc L i).a) ∧ w.cell? ⟨B, o + i * 7 + 5, none⟩ = some (.int .i64 (cc L i).b) ∧ w.cell? ⟨B, o + i * 7 + 6, none⟩ = some (.int .i64 (cc L i).c) :=
  ⟨h.get hi 0 _ rfl, h.get hi 1 _ rfl, h.get hi 2 _ rfl, h.get hi 3 _ rfl, h.get hi 4 _ rfl, h.get hi 5 _ rfl, h.get hi 6 _ rfl⟩
theorem owCc {e : TypeId} {w : World} {B g n cap : Nat} {L : List Cc} (h : OwG KCc e w B (.slice (some ⟨g, 0, none⟩) n cap) L) {i : Nat} (hi : i < L.length) : w.cell? ⟨g, i * 7, none⟩ = some (.int .i64 (cc L i).fr) ∧ w.cell? ⟨g, i * 7 + 1, none⟩ = some (.int .i64 (cc L i).pe) ∧ w.cell? ⟨g, i * 7 + 2, none⟩ = some (.int .i64 (cc L i).sq) ∧ w.cell? ⟨g, i * 7 + 3, none⟩ = some (.int .i64 (cc L i).v) ∧ w.cell? ⟨g, i * 7 + 4, none⟩ = some (.int .i64 (cc L i).a) ∧ w.cell? ⟨g, i * 7 + 5, none⟩ = some (.int .i64 (cc L i).b) ∧ w.cell? ⟨g, i * 7 + 6, none⟩ = some (.int .i64 (cc L i).c) ∧ ∀ o, w.frozen? ⟨g, o, none⟩ = false :=
  ⟨h.get hi 0 _ rfl, h.get hi 1 _ rfl, h.get hi 2 _ rfl, h.get hi 3 _ rfl, h.get hi 4 _ rfl, h.get hi 5 _ rfl, h.get hi 6 _ rfl, h.frozen⟩
/-- block g holds a command -/
def Ccb (w : World) (g : Nat) (x : Cc) : Prop := w.heap[g]? = some (.cells (kmc x) 47 (0, 0))
theorem Ccb.still {w w' : World} {g : Nat} {x : Cc} (h : Ccb w g x) (hs : Still w w') : Ccb w' g x := hs.kept_still h
theorem Ccb.cells {w : World} {g : Nat} {x : Cc} (h : Ccb w g x) : w.cell? ⟨g, 0, none⟩ = some (.int .i64 x.fr) ∧ w.cell? ⟨g, 1, none⟩ = some (.int .i64 x.pe) ∧ w.cell? ⟨g, 2, none⟩ = some (.int .i64 x.sq) ∧ w.cell? ⟨g, 3, none⟩ = some (.int .i64 x.v) ∧ w.cell? ⟨g, 4, none⟩ = some (.int .i64 x.a) ∧ w.cell? ⟨g, 5, none⟩ = some (.int .i64 x.b) ∧ w.cell? ⟨g, 6, none⟩ = some (.int .i64 x.c) ∧ ∀ o, w.frozen? ⟨g, o, none⟩ = false := by
  refine ⟨?_, ?_, ?_, ?_, ?_, ?_, ?_, fun o => frozen_of_row w g o _ _ h⟩ <;> (rw [cell_of_row _ _ _ _ _ _ h]; rfl)
abbrev newCc (w : World) (x : Cc) : World := w.alloc (.cells (kmc x) 47)
theorem newCc_b (w : World) (x : Cc) : Ccb (newCc w x) w.heap.size x := heap_alloc_new w _
/-- a datagram's cells; its commands: a slice -/
abbrev dgc (d : Dg) (co : Option Addr) (cn cp : Nat) : Array Value := #[.int .i64 d.kd, .int .u64 d.ss, .int .i64 d.fr, .int .i64 d.to, .int .i64 d.mrk, .int .i64 d.fi, .slice co cn cp, .int .i64 d.ak]
abbrev dgv (d : Dg) (co : Option Addr) (cn cp : Nat) : Value := .agg (dgc d co cn cp)
def Dgb (w : World) (g : Nat) (d : Dg) (co : Option Addr) (cn cp : Nat) : Prop := w.heap[g]? = some (.cells (dgc d co cn cp) 51 (0, 0))
theorem Dgb.still {w w' : World} {g : Nat} {d : Dg} {co : Option Addr} {cn cp : Nat} (h : Dgb w g d co cn cp) (hs : Still w w') : Dgb w' g d co cn cp := hs.kept_still h
theorem Dgb.cells {w : World} {g : Nat} {d : Dg} {co : Option Addr} {cn cp : Nat} (h : Dgb w g d co cn cp) : w.cell? ⟨g, 0, none⟩ = some (.int .i64 d.kd) ∧ w.cell? ⟨g, 1, none⟩ = some (.int .u64 d.ss) ∧ w.cell? ⟨g, 2, none⟩ = some (.int .i64 d.fr) ∧ w.cell? ⟨g, 3, none⟩ = some (.int .i64 d.to) ∧ w.cell? ⟨g, 4, none⟩ = some (.int .i64 d.mrk) ∧ w.cell? ⟨g, 5, none⟩ = some (.int .i64 d.fi) ∧ w.cell? ⟨g, 6, none⟩ = some (.slice co cn cp) ∧ w.cell? ⟨g, 7, none⟩ = some (.int .i64 d.ak) ∧ ∀ o, w.frozen? ⟨g, o, none⟩ = false := by
  refine ⟨?_, ?_, ?_, ?_, ?_, ?_, ?_, ?_, fun o => frozen_of_row w g o _ _ h⟩ <;> (rw [cell_of_row _ _ _ _ _ _ h]; rfl)
abbrev newDg (w : World) (d : Dg) (co : Option Addr) (cn cp : Nat) : World := w.alloc (.cells (dgc d co cn cp) 51)
theorem newDg_b (w : World) (d : Dg) (co : Option Addr) (cn cp : Nat) : Dgb (newDg w d co cn cp) w.heap.size d co cn cp := heap_alloc_new w _

def wiB (n a b : Int) : Bool := decide (a ≤ n ∧ n ≤ b)
theorem wiI_any (n a b : Int) (w : World) : Calls Try.prog 38 #[.int .i64 n, .int .i64 a, .int .i64 b] w fun e w' => e = .returned (.bool (wiB n a b)) ∧ w' = w := by
  by_cases h1 : a ≤ n
  · by_cases h2 : n ≤ b
    · rw [show wiB n a b = true by simp [wiB]; omega]
      go_enter Try.func38, Try.ntmps38
      go_wp2_with fail
      go_ret
      exact ⟨rfl, rfl⟩
    · rw [show wiB n a b = false by simp [wiB]; omega]
      go_enter Try.func38, Try.ntmps38
      go_wp2_with fail
      go_ret
      exact ⟨rfl, rfl⟩
  · rw [show wiB n a b = false by simp [wiB]; omega]
    go_enter Try.func38, Try.ntmps38
    go_wp2_with fail
    go_ret
    exact ⟨rfl, rfl⟩
theorem wi6_any (n a b : Int) (w : World) : Calls Try.prog 53 #[.int .i64 n, .int .i64 a, .int .i64 b] w fun e w' => e = .returned (.bool (wiB n a b)) ∧ w' = w := by
  by_cases h1 : a ≤ n
  · by_cases h2 : n ≤ b
    · rw [show wiB n a b = true by simp [wiB]; omega]
      go_enter Try.func53, Try.ntmps53
      go_wp2_with fail
      go_ret
      exact ⟨rfl, rfl⟩
    · rw [show wiB n a b = false by simp [wiB]; omega]
      go_enter Try.func53, Try.ntmps53
      go_wp2_with fail
      go_ret
      exact ⟨rfl, rfl⟩
  · rw [show wiB n a b = false by simp [wiB]; omega]
    go_enter Try.func53, Try.ntmps53
    go_wp2_with fail
    go_ret
    exact ⟨rfl, rfl⟩
theorem wiB_and (n a b : Int) : wiB n a b = (decide (a ≤ n) && decide (n ≤ b)) := by
  unfold wiB
  rw [Bool.eq_iff_iff]
  simp
/-! seatsMay -/
theorem seat_three (d : Dg) : seatB d = (wiB d.fr 0 5 && (wiB d.to 0 5 && !(d.fr == d.to))) := by
  unfold seatB
  rw [wiB_and, wiB_and, Bool.eq_iff_iff]
  simp only [Bool.and_eq_true, decide_eq_true_eq, Bool.not_eq_true', decide_eq_false_iff_not, beq_eq_false_iff_ne]
  constructor
  · rintro ⟨h1, h2, h3, h4, h5⟩
    exact ⟨⟨h1, h2⟩, ⟨h3, h4⟩, h5⟩
  · rintro ⟨⟨h1, h2⟩, ⟨h3, h4⟩, h5⟩
    exact ⟨h1, h2, h3, h4, h5⟩
theorem seat16_any (d : Dg) (co : Option Addr) (cn cp : Nat) (w : World) : Calls Try.prog 36 #[dgv d co cn cp] w fun e w' => e = .returned (.bool (seatB d)) ∧ Still w w' := by
  have p := newDg_b w d co cn cp
  have HS := hid (Still.alloc w (.cells (dgc d co cn cp) 51))
  obtain ⟨_, _, c2, c3, _, _, _, _, cf⟩ := p.cells
  clear p
  have H0 := hid (fun w => wiI_any d.fr 0 5 w)
  have H1 := hid (fun w => wiI_any d.to 0 5 w)
  have HE := hid (seat_three d)
  obtain ⟨M, eM⟩ : ∃ b, seatB d = b := ⟨_, rfl⟩
  obtain ⟨b0, e0⟩ : ∃ b, wiB d.fr 0 5 = b := ⟨_, rfl⟩
  obtain ⟨b1, e1⟩ : ∃ b, wiB d.to 0 5 = b := ⟨_, rfl⟩
  rw [eM, e0, e1] at HE
  rw [eM]
  rw [e0] at H0
  rw [e1] at H1
  clear eM e0 e1
  cases b0 with
  | false =>
    go_enter Try.func36, Try.ntmps36
    go_wp2_with fail
    refine (H0.out _).mono ?_
    rintro e w1 ⟨rfl, rfl⟩
    go_wp2_with fail
    go_ret
    exact ⟨by rw [HE.out]; rfl, HS.out⟩
  | true =>
    cases b1 with
    | false =>
      go_enter Try.func36, Try.ntmps36
      go_wp2_with fail
      refine (H0.out _).mono ?_
      rintro e w1 ⟨rfl, rfl⟩
      go_wp2_with fail
      refine (H1.out _).mono ?_
      rintro e w2 ⟨rfl, rfl⟩
      go_wp2_with fail
      go_ret
      exact ⟨by rw [HE.out]; rfl, HS.out⟩
    | true =>
      go_enter Try.func36, Try.ntmps36
      go_wp2_with fail
      refine (H0.out _).mono ?_
      rintro e w1 ⟨rfl, rfl⟩
      go_wp2_with fail
      refine (H1.out _).mono ?_
      rintro e w2 ⟨rfl, rfl⟩
      go_wp2_with fail
      go_ret
      exact ⟨by rw [HE.out]; rfl, HS.out⟩
/-! commandMay -/
def cmOk (x : Cc) : Bool := decide (x.sq ≤ 1099511627776) && (wiB x.fr 1 1099511627776 && (chkO x.v x.a x.b x.c == 0))
theorem cmay16_any (x : Cc) (w : World) : Calls Try.prog 54 #[kmv x] w fun e w' => e = .returned (.bool (cmOk x)) ∧ Still w w' := by
  have p := newCc_b w x
  have HS := hid (Still.alloc w (.cells (kmc x) 47))
  obtain ⟨c0, _, c2, c3, c4, c5, c6, cf⟩ := p.cells
  clear p
  have H0 := hid (fun w => wi6_any x.fr 1 1099511627776 w)
  have H1 := hid (fun w => vcheck_any x.v x.a x.b x.c w)
  have HE := hid (show cmOk x = (decide (x.sq ≤ 1099511627776) && (wiB x.fr 1 1099511627776 && (chkO x.v x.a x.b x.c == 0))) from rfl)
  obtain ⟨M, eM⟩ : ∃ b, cmOk x = b := ⟨_, rfl⟩
  obtain ⟨b0, e0⟩ : ∃ b, wiB x.fr 1 1099511627776 = b := ⟨_, rfl⟩
  obtain ⟨r, er⟩ : ∃ r, chkO x.v x.a x.b x.c = r := ⟨_, rfl⟩
  rw [eM, e0, er] at HE
  rw [eM]
  rw [e0] at H0
  rw [er] at H1
  clear eM e0 er
  by_cases hs : x.sq ≤ 1099511627776
  · cases b0 with
    | false =>
      go_enter Try.func54, Try.ntmps54
      go_wp2_with fail
      refine (H0.out _).mono ?_
      rintro e w1 ⟨rfl, rfl⟩
      go_wp2_with fail
      go_ret
      exact ⟨by rw [HE.out]; simp, HS.out⟩
    | true =>
      go_enter Try.func54, Try.ntmps54
      go_wp2_with fail
      refine (H0.out _).mono ?_
      rintro e w1 ⟨rfl, rfl⟩
      go_wp2_with fail
      refine (H1.out _).mono ?_
      rintro e w2 ⟨rfl, h2⟩
      have HS2 := hid (HS.out.trans h2)
      clear h2
      go_wp2_with fail
      go_ret
      exact ⟨by rw [HE.out]; simp [hs], HS2.out⟩
  · have HD := hid (show decide (x.sq ≤ 1099511627776) = false by simpa using hs)
    go_enter Try.func54, Try.ntmps54
    go_wp2_with fail
    go_ret
    exact ⟨by rw [HE.out, HD.out]; rfl, HS.out⟩
theorem okC_three (f fi : Int) (i : Nat) (x : Cc) : okC f fi i x = ((x.pe == f) && ((x.sq == fi + i) && cmOk x)) := by
  unfold okC cmOk
  rw [wiB_and, Bool.eq_iff_iff]
  simp only [Bool.and_eq_true, decide_eq_true_eq, beq_iff_eq]
  constructor
  · rintro ⟨h1, h2, h3, h4, h5, h6⟩
    exact ⟨h1, h2, h3, ⟨h4, h5⟩, h6⟩
  · rintro ⟨h1, h2, h3, ⟨h4, h5⟩, h6⟩
    exact ⟨h1, h2, h3, h4, h5, h6⟩
end Go.Proofs.Ytcmgghfjakphmaa
