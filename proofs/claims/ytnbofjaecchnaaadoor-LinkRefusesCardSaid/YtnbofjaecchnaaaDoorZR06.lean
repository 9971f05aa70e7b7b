/- Parts of the proof, laid end to end. -/
import Derived.Test.YtnbofjaecchnaaaDoorZR04
import Derived.Test.YtnbofjaecchnaaaDoorZR05
import Derived.Test.YtnbofjaecchnaaaDoorZR03
import Derived.Test.YtnbofjaecchnaaaDoorZR02
import Derived.Deep.DeepCutAuto
import Derived.Deep.RegionHeld3
import Derived.BigRegion
namespace Go.Proofs.YtnbofjaecchnaaaDoor
open Go.RowKit
open Wp Vp
set_option maxRecDepth 100000
set_option linter.unusedVariables false
abbrev kmc (x : Cc) : Array Value := #[.int .i64 x.fr, .int .i64 x.pe, .int .i64 x.sq, .int .i64 x.v, .int .i64 x.a, .int .i64 x.b, .int .i64 x.c]
abbrev kmv (x : Cc) : Value := .agg (kmc x)
def KCc : Kd Cc := ⟨fun x => (kmc x).toList, 7, zC, fun _ => rfl, fun m u hu => by
 simp at hu
 rcases hu with rfl | rfl | rfl | rfl | rfl | rfl | rfl <;> rfl, by decide⟩
theorem infoCc : ∃ i, Tryd.prog.info? 36 = some i /\ i.zero = some (.agg (KCc.f KCc.d).toArray) /\ i.size = KCc.k /\ i.bytes = 56 := ⟨_, rfl, rfl, rfl, rfl⟩
theorem rdCc {w : World} {B o n : Nat} {L : List Cc} (h : RdG KCc w (some ⟨B, o, none⟩) n L) {i : Nat} (hi : i < n) : w.cell? ⟨B, o + i * 7, none⟩ = some (.int .i64 (cc L i).fr) /\ w.cell? ⟨B, o + i * 7 + 1, none⟩ = some (.int .i64 (cc L i).pe) /\ w.cell? ⟨B, o + i * 7 + 2, none⟩ = some (.int .i64 (cc L i).sq) /\ w.cell? ⟨B, o + i * 7 + 3, none⟩ = some (.int .i64 (cc L i).v) /\ w.cell? ⟨B, o + i * 7 + 4, none⟩ = some (.int .i64 (cc L i).a) /\ w.cell? ⟨B, o + i * 7 + 5, none⟩ = some (.int .i64 (cc L i).b) /\ w.cell? ⟨B, o + i * 7 + 6, none⟩ = some (.int .i64 (cc L i).c) :=
 ⟨h.get hi 0 _ rfl, h.get hi 1 _ rfl, h.get hi 2 _ rfl, h.get hi 3 _ rfl, h.get hi 4 _ rfl, h.get hi 5 _ rfl, h.get hi 6 _ rfl⟩
theorem owCc {e : TypeId} {w : World} {B g n cap : Nat} {L : List Cc} (h : OwG KCc e w B (.slice (some ⟨g, 0, none⟩) n cap) L) {i : Nat} (hi : i < L.length) : w.cell? ⟨g, i * 7, none⟩ = some (.int .i64 (cc L i).fr) /\ w.cell? ⟨g, i * 7 + 1, none⟩ = some (.int .i64 (cc L i).pe) /\ w.cell? ⟨g, i * 7 + 2, none⟩ = some (.int .i64 (cc L i).sq) /\ w.cell? ⟨g, i * 7 + 3, none⟩ = some (.int .i64 (cc L i).v) /\ w.cell? ⟨g, i * 7 + 4, none⟩ = some (.int .i64 (cc L i).a) /\ w.cell? ⟨g, i * 7 + 5, none⟩ = some (.int .i64 (cc L i).b) /\ w.cell? ⟨g, i * 7 + 6, none⟩ = some (.int .i64 (cc L i).c) /\ ∀ o, w.frozen? ⟨g, o, none⟩ = false :=
 ⟨h.get hi 0 _ rfl, h.get hi 1 _ rfl, h.get hi 2 _ rfl, h.get hi 3 _ rfl, h.get hi 4 _ rfl, h.get hi 5 _ rfl, h.get hi 6 _ rfl, h.frozen⟩
def Ccb (w : World) (g : Nat) (x : Cc) : Prop := w.heap[g]? = some (.cells (kmc x) 36 (0, 0))
theorem Ccb.still {w w' : World} {g : Nat} {x : Cc} (h : Ccb w g x) (hs : Still w w') : Ccb w' g x := hs.kept_still h
theorem Ccb.cells {w : World} {g : Nat} {x : Cc} (h : Ccb w g x) : w.cell? ⟨g, 0, none⟩ = some (.int .i64 x.fr) /\ w.cell? ⟨g, 1, none⟩ = some (.int .i64 x.pe) /\ w.cell? ⟨g, 2, none⟩ = some (.int .i64 x.sq) /\ w.cell? ⟨g, 3, none⟩ = some (.int .i64 x.v) /\ w.cell? ⟨g, 4, none⟩ = some (.int .i64 x.a) /\ w.cell? ⟨g, 5, none⟩ = some (.int .i64 x.b) /\ w.cell? ⟨g, 6, none⟩ = some (.int .i64 x.c) /\ ∀ o, w.frozen? ⟨g, o, none⟩ = false := by
 refine ⟨?_, ?_, ?_, ?_, ?_, ?_, ?_, fun o => frozen_of_row w g o _ _ h⟩ <;> (rw [cell_of_row _ _ _ _ _ _ h]; rfl)
abbrev newCc (w : World) (x : Cc) : World := w.alloc (.cells (kmc x) 36)
theorem newCc_b (w : World) (x : Cc) : Ccb (newCc w x) w.heap.size x := heap_alloc_new w _
abbrev dgc (d : Dg) (co : Option Addr) (cn cp : Nat) : Array Value := #[.int .i64 d.kd, .int .u64 d.ss, .int .i64 d.fr, .int .i64 d.to, .int .i64 d.mrk, .int .i64 d.fi, .slice co cn cp, .int .i64 d.ak]
abbrev dgv (d : Dg) (co : Option Addr) (cn cp : Nat) : Value := .agg (dgc d co cn cp)
def Dgb (w : World) (g : Nat) (d : Dg) (co : Option Addr) (cn cp : Nat) : Prop := w.heap[g]? = some (.cells (dgc d co cn cp) 39 (0, 0))
theorem Dgb.still {w w' : World} {g : Nat} {d : Dg} {co : Option Addr} {cn cp : Nat} (h : Dgb w g d co cn cp) (hs : Still w w') : Dgb w' g d co cn cp := hs.kept_still h
theorem Dgb.cells {w : World} {g : Nat} {d : Dg} {co : Option Addr} {cn cp : Nat} (h : Dgb w g d co cn cp) : w.cell? ⟨g, 0, none⟩ = some (.int .i64 d.kd) /\ w.cell? ⟨g, 1, none⟩ = some (.int .u64 d.ss) /\ w.cell? ⟨g, 2, none⟩ = some (.int .i64 d.fr) /\ w.cell? ⟨g, 3, none⟩ = some (.int .i64 d.to) /\ w.cell? ⟨g, 4, none⟩ = some (.int .i64 d.mrk) /\ w.cell? ⟨g, 5, none⟩ = some (.int .i64 d.fi) /\ w.cell? ⟨g, 6, none⟩ = some (.slice co cn cp) /\ w.cell? ⟨g, 7, none⟩ = some (.int .i64 d.ak) /\ ∀ o, w.frozen? ⟨g, o, none⟩ = false := by
 refine ⟨?_, ?_, ?_, ?_, ?_, ?_, ?_, ?_, fun o => frozen_of_row w g o _ _ h⟩ <;> (rw [cell_of_row _ _ _ _ _ _ h]; rfl)
abbrev newDg (w : World) (d : Dg) (co : Option Addr) (cn cp : Nat) : World := w.alloc (.cells (dgc d co cn cp) 39)
theorem newDg_b (w : World) (d : Dg) (co : Option Addr) (cn cp : Nat) : Dgb (newDg w d co cn cp) w.heap.size d co cn cp := heap_alloc_new w _
def wiB (n a b : Int) : Bool := decide (a <= n /\ n <= b)
theorem wiI_any (n a b : Int) (w : World) : Calls Tryd.prog 53 #[.int .i64 n, .int .i64 a, .int .i64 b] w fun e w' => e = .returned (.bool (wiB n a b)) /\ w' = w := by
 by_cases h1 : a <= n
 ·by_cases h2 : n <= b
  ·rw [show wiB n a b = true by simp [wiB]; omega]
   go_enter Tryd.func53, Tryd.ntmps53
   go_wp2_with fail
   go_ret
   exact ⟨rfl, rfl⟩
  ·rw [show wiB n a b = false by simp [wiB]; omega]
   go_enter Tryd.func53, Tryd.ntmps53
   go_wp2_with fail
   go_ret
   exact ⟨rfl, rfl⟩
 ·rw [show wiB n a b = false by simp [wiB]; omega]
  go_enter Tryd.func53, Tryd.ntmps53
  go_wp2_with fail
  go_ret
  exact ⟨rfl, rfl⟩
theorem wi6_any (n a b : Int) (w : World) : Calls Tryd.prog 64 #[.int .i64 n, .int .i64 a, .int .i64 b] w fun e w' => e = .returned (.bool (wiB n a b)) /\ w' = w := by
 by_cases h1 : a <= n
 ·by_cases h2 : n <= b
  ·rw [show wiB n a b = true by simp [wiB]; omega]
   go_enter Tryd.func64, Tryd.ntmps64
   go_wp2_with fail
   go_ret
   exact ⟨rfl, rfl⟩
  ·rw [show wiB n a b = false by simp [wiB]; omega]
   go_enter Tryd.func64, Tryd.ntmps64
   go_wp2_with fail
   go_ret
   exact ⟨rfl, rfl⟩
 ·rw [show wiB n a b = false by simp [wiB]; omega]
  go_enter Tryd.func64, Tryd.ntmps64
  go_wp2_with fail
  go_ret
  exact ⟨rfl, rfl⟩
theorem wiB_and (n a b : Int) : wiB n a b = (decide (a <= n) && decide (n <= b)) := by
 unfold wiB
 rw [Bool.eq_iff_iff]
 simp
/-! seatsMay -/
theorem seat_three (d : Dg) : seatB d = (wiB d.fr 0 5 && (wiB d.to 0 5 && !(d.fr == d.to))) := by
 unfold seatB
 rw [wiB_and, wiB_and, Bool.eq_iff_iff]
 simp only [Bool.and_eq_true, decide_eq_true_eq, Bool.not_eq_true', decide_eq_false_iff_not, beq_eq_false_iff_ne]
 constructor
 ·rintro ⟨h1, h2, h3, h4, h5⟩
  exact ⟨⟨h1, h2⟩, ⟨h3, h4⟩, h5⟩
 ·rintro ⟨⟨h1, h2⟩, ⟨h3, h4⟩, h5⟩
  exact ⟨h1, h2, h3, h4, h5⟩
theorem seat16_any (d : Dg) (co : Option Addr) (cn cp : Nat) (w : World) : Calls Tryd.prog 51 #[dgv d co cn cp] w fun e w' => e = .returned (.bool (seatB d)) /\ Still w w' := by
 have p := newDg_b w d co cn cp
 have HS := hid (Still.alloc w (.cells (dgc d co cn cp) 39))
 obtain ⟨_, _, c2, c3, _, _, _, _, cf⟩ := p.cells
 clear p
 have H0 := hid (fun w => wiI_any d.fr 0 5 w)
 have H1 := hid (fun w => wiI_any d.to 0 5 w)
 have HE := hid (seat_three d)
 obtain ⟨M, eM⟩ : ∃ b, seatB d = b := ⟨_, rfl⟩
 obtain ⟨b0, e0⟩ : ∃ b, wiB d.fr 0 5 = b := ⟨_, rfl⟩
 obtain ⟨b1, e1⟩ : ∃ b, wiB d.to 0 5 = b := ⟨_, rfl⟩
 rw [eM, e0, e1] at HE
 rw [eM]
 rw [e0] at H0
 rw [e1] at H1
 clear eM e0 e1
 cases b0 with
 | false =>
  go_enter Tryd.func51, Tryd.ntmps51
  go_wp2_with fail
  refine (H0.out _).mono ?_
  rintro e w1 ⟨rfl, rfl⟩
  go_wp2_with fail
  go_ret
  exact ⟨by rw [HE.out]; rfl, HS.out⟩
 | true =>
  cases b1 with
  | false =>
   go_enter Tryd.func51, Tryd.ntmps51
   go_wp2_with fail
   refine (H0.out _).mono ?_
   rintro e w1 ⟨rfl, rfl⟩
   go_wp2_with fail
   refine (H1.out _).mono ?_
   rintro e w2 ⟨rfl, rfl⟩
   go_wp2_with fail
   go_ret
   exact ⟨by rw [HE.out]; rfl, HS.out⟩
  | true =>
   go_enter Tryd.func51, Tryd.ntmps51
   go_wp2_with fail
   refine (H0.out _).mono ?_
   rintro e w1 ⟨rfl, rfl⟩
   go_wp2_with fail
   refine (H1.out _).mono ?_
   rintro e w2 ⟨rfl, rfl⟩
   go_wp2_with fail
   go_ret
   exact ⟨by rw [HE.out]; rfl, HS.out⟩
/-! commandMay -/
def cmOk (x : Cc) : Bool := decide (x.sq <= 1099511627776) && (wiB x.fr 1 1099511627776 && (chkO x.v x.a x.b x.c == 0))
theorem cmay16_any (x : Cc) (w : World) : Calls Tryd.prog 65 #[kmv x] w fun e w' => e = .returned (.bool (cmOk x)) /\ Still w w' := by
 have p := newCc_b w x
 have HS := hid (Still.alloc w (.cells (kmc x) 36))
 obtain ⟨c0, _, c2, c3, c4, c5, c6, cf⟩ := p.cells
 clear p
 have H0 := hid (fun w => wi6_any x.fr 1 1099511627776 w)
 have H1 := hid (fun w => vcheck_any x.v x.a x.b x.c w)
 have HE := hid (show cmOk x = (decide (x.sq <= 1099511627776) && (wiB x.fr 1 1099511627776 && (chkO x.v x.a x.b x.c == 0))) from rfl)
 obtain ⟨M, eM⟩ : ∃ b, cmOk x = b := ⟨_, rfl⟩
 obtain ⟨b0, e0⟩ : ∃ b, wiB x.fr 1 1099511627776 = b := ⟨_, rfl⟩
 obtain ⟨r, er⟩ : ∃ r, chkO x.v x.a x.b x.c = r := ⟨_, rfl⟩
 rw [eM, e0, er] at HE
 rw [eM]
 rw [e0] at H0
 rw [er] at H1
 clear eM e0 er
 by_cases hs : x.sq <= 1099511627776
 ·cases b0 with
  | false =>
   go_enter Tryd.func65, Tryd.ntmps65
   go_wp2_with fail
   refine (H0.out _).mono ?_
   rintro e w1 ⟨rfl, rfl⟩
   go_wp2_with fail
   go_ret
   exact ⟨by rw [HE.out]; simp, HS.out⟩
  | true =>
   go_enter Tryd.func65, Tryd.ntmps65
   go_wp2_with fail
   refine (H0.out _).mono ?_
   rintro e w1 ⟨rfl, rfl⟩
   go_wp2_with fail
   refine (H1.out _).mono ?_
   rintro e w2 ⟨rfl, h2⟩
   have HS2 := hid (HS.out.trans h2)
   clear h2
   go_wp2_with fail
   go_ret
   exact ⟨by rw [HE.out]; simp [hs], HS2.out⟩
 ·have HD := hid (show decide (x.sq <= 1099511627776) = false by simpa using hs)
  go_enter Tryd.func65, Tryd.ntmps65
  go_wp2_with fail
  go_ret
  exact ⟨by rw [HE.out, HD.out]; rfl, HS.out⟩
theorem okC_three (f fi : Int) (i : Nat) (x : Cc) : okC f fi i x = ((x.pe == f) && ((x.sq == fi + i) && cmOk x)) := by
 unfold okC cmOk
 rw [wiB_and, Bool.eq_iff_iff]
 simp only [Bool.and_eq_true, decide_eq_true_eq, beq_iff_eq]
 constructor
 ·rintro ⟨h1, h2, h3, h4, h5, h6⟩
  exact ⟨h1, h2, h3, ⟨h4, h5⟩, h6⟩
 ·rintro ⟨h1, h2, h3, ⟨h4, h5⟩, h6⟩
  exact ⟨h1, h2, h3, h4, h5, h6⟩
end Go.Proofs.YtnbofjaecchnaaaDoor
namespace Go.Proofs.YtnbofjaecchnaaaDoor
open Go.RowKit
open Wp Vp
set_option maxRecDepth 100000
set_option linter.unusedVariables false
theorem trn_four (d : Dg) : trnB d = (wiB d.mrk 0 1099511627776 && (wiB d.fi 1 1099511627776 && (decide (d.cs.length <= 336) && allC d.fr d.fi d.cs))) := by
 unfold trnB
 rw [wiB_and, wiB_and, Bool.eq_iff_iff]
 simp only [Bool.and_eq_true, decide_eq_true_eq]
 constructor
 ·rintro ⟨h1, h2, h3, h4, h5, h6⟩
  exact ⟨⟨h1, h2⟩, ⟨h3, h4⟩, h5, h6⟩
 ·rintro ⟨⟨h1, h2⟩, ⟨h3, h4⟩, h5, h6⟩
  exact ⟨h1, h2, h3, h4, h5, h6⟩
theorem all_no {f fi : Int} {L : List Cc} {i : Nat} (hi : i < L.length) (h : okC f fi i (cc L i) = false) : allC f fi L = false := by
 cases hb : allC f fi L with
 | false => rfl
 | true => rw [allC_iff.1 hb i hi] at h; cases h
set_option maxHeartbeats 2000000 in
theorem turn16_any (d : Dg) (co : Option Addr) (cn cp : Nat) (w : World) (hr : RdG KCc w co cn d.cs) : Calls Tryd.prog 60 #[dgv d co cn cp] w fun e w' => e = .returned (.bool (trnB d)) /\ Still w w' := by
 have A0 := Still.alloc w (.cells (dgc d co cn cp) 39)
 have p := newDg_b w d co cn cp
 have hr0 := hr.still A0
 obtain ⟨W, eW⟩ : ∃ W, w.alloc (.cells (dgc d co cn cp) 39) = W := ⟨_, rfl⟩
 obtain ⟨g, eg⟩ : ∃ g, w.heap.size = g := ⟨_, rfl⟩
 unfold newDg at p
 rw [eW] at A0 p hr0
 rw [eg] at p
 have HS := hid A0
 have HP := hid p
 have HR := hid hr0
 have hln := hr.1
 have HE := hid (trn_four d)
 have H0 := hid (fun w => wi6_any d.mrk 0 1099511627776 w)
 have H1 := hid (fun w => wiI_any d.fi 1 1099511627776 w)
 obtain ⟨_, _, c2, _, c4, c5, c6, _, cf⟩ := p.cells
 clear p hr hr0 A0 cf
 have HF : Hid (wiB d.fi 1 1099511627776 = true -> 1 <= d.fi /\ d.fi <= 1099511627776) := hid (fun h => by unfold wiB at h; simpa using h)
 obtain ⟨M, eM⟩ : ∃ b, trnB d = b := ⟨_, rfl⟩
 obtain ⟨b0, e0⟩ : ∃ b, wiB d.mrk 0 1099511627776 = b := ⟨_, rfl⟩
 obtain ⟨b1, e1⟩ : ∃ b, wiB d.fi 1 1099511627776 = b := ⟨_, rfl⟩
 rw [eM, e0, e1] at HE
 rw [eM]
 rw [e0] at H0
 rw [e1] at H1 HF
 clear eM e0 e1
 cases b0 with
 | false =>
  go_enter Tryd.func60, Tryd.ntmps60
  go_wp2_with fail
  refine (H0.out _).mono ?_
  rintro e w1 ⟨rfl, rfl⟩
  go_wp2_with fail
  go_ret
  exact ⟨by rw [HE.out]; rfl, HS.out⟩
 | true =>
  cases b1 with
  | false =>
   go_enter Tryd.func60, Tryd.ntmps60
   go_wp2_with fail
   refine (H0.out _).mono ?_
   rintro e w1 ⟨rfl, rfl⟩
   go_wp2_with fail
   refine (H1.out _).mono ?_
   rintro e w2 ⟨rfl, rfl⟩
   go_wp2_with fail
   go_ret
   exact ⟨by rw [HE.out]; rfl, HS.out⟩
  | true =>
   by_cases h3 : 336 < cn
   ·have h3' : (336 : Int) < (cn : Int) := by omega
    have HD := hid (show decide (d.cs.length <= 336) = false by simp; omega)
    clear hln
    go_enter Tryd.func60, Tryd.ntmps60
    go_wp2_with fail
    refine (H0.out _).mono ?_
    rintro e w1 ⟨rfl, rfl⟩
    go_wp2_with fail
    refine (H1.out _).mono ?_
    rintro e w2 ⟨rfl, rfl⟩
    go_wp2_with fail
    go_ret
    exact ⟨by rw [HE.out, HD.out]; rfl, HS.out⟩
   ·have h3' : ¬ (336 : Int) < (cn : Int) := by omega
    have HD := hid (show decide (d.cs.length <= 336) = true by simp; omega)
    have HN := hid hln
    obtain ⟨hf1, hf2⟩ := HF.out rfl
    clear hln HF
    go_enter Tryd.func60, Tryd.ntmps60
    go_wp2_with fail
    refine (H0.out _).mono ?_
    rintro e w1 ⟨rfl, rfl⟩
    go_wp2_with fail
    refine (H1.out _).mono ?_
    rintro e w2 ⟨rfl, rfl⟩
    clear H0 H1
    go_wp2_with fail
    go_loopw [24] (fun u24 wr => ∃ i : Nat, i <= cn /\ u24 = .int .i64 (i : Int) /\ Hid (∀ j, j < i -> okC d.fr d.fi j (cc d.cs j) = true) /\ Hid (Still w2 wr)) (fun u24 _ => cn - (intOf u24).toNat)
    case atStart => exact ⟨0, by omega, rfl, hid (fun j hj => by omega), hid (Fr.refl _ _)⟩
    case round =>
     obtain ⟨i, hi, rfl, HA, HL⟩ := hrel
     clear c2 c4 c5 c6
     by_cases hin : i < cn
     ·have hlt : (i : Int) < (cn : Int) := by omega
      obtain ⟨B, o, eco⟩ := HR.out.at (by omega)
      subst eco
      obtain ⟨k0, k1, k2, k3, k4, k5, k6⟩ := rdCc (HR.out.still HL.out) hin
      have HX := hid (okC_three d.fr d.fi i (cc d.cs i))
      obtain ⟨⟨fr, pe, sq, v, a, b, c⟩, ex⟩ : ∃ x, cc d.cs i = x := ⟨_, rfl⟩
      rw [ex] at HX k0 k1 k2 k3 k4 k5 k6
      have HOK : Hid (okC d.fr d.fi i ⟨fr, pe, sq, v, a, b, c⟩ = true -> ∀ j, j < i + 1 -> okC d.fr d.fi j (cc d.cs j) = true) := hid (fun h j hj => by
       by_cases e : j = i
       ·rw [e, ex]; exact h
       ·exact HA.out j (by omega))
      have HNO : Hid (okC d.fr d.fi i ⟨fr, pe, sq, v, a, b, c⟩ = false -> allC d.fr d.fi d.cs = false) := hid (fun h => all_no (by rw [HN.out]; exact hin) (by rw [ex]; exact h))
      have HC := hid (fun w => cmay16_any ⟨fr, pe, sq, v, a, b, c⟩ w)
      have HB := hid (newCc_b wr ⟨fr, pe, sq, v, a, b, c⟩)
      have HLa := hid (HL.out.trans (Still.alloc wr (.cells (kmc ⟨fr, pe, sq, v, a, b, c⟩) 36)))
      obtain ⟨r2, er2⟩ : ∃ r, cmOk ⟨fr, pe, sq, v, a, b, c⟩ = r := ⟨_, rfl⟩
      rw [er2] at HX HC
      obtain ⟨_, _, c2, _, _, c5, _, _, _⟩ := (HP.out.still HLa.out).cells
      clear er2 ex
      have hwr : IntKind.i64.wrap (d.fi + (i : Int)) = d.fi + (i : Int) := wr64 (by omega) (by omega)
      by_cases q0 : pe = d.fr
      ·subst q0
       by_cases q1 : sq = d.fi + (i : Int)
       ·subst q1
        cases r2 with
        | true =>
         go_wp2_with fail
         refine (HC.out _).mono ?_
         rintro e w3 ⟨rfl, h3⟩
         have HL3 := hid (HLa.out.trans h3)
         clear h3
         go_wp2_with fail
         go_roundw
         case rel => exact ⟨i + 1, by omega, by go_num, hid (HOK.out (by rw [HX.out]; simp)), HL3⟩
         case measure => simp [intOf]; omega
        | false =>
         go_wp2_with fail
         refine (HC.out _).mono ?_
         rintro e w3 ⟨rfl, h3⟩
         have HL3 := hid (HLa.out.trans h3)
         clear h3
         go_wp2_with fail
         go_ret
         exact ⟨by rw [HE.out, HD.out, HNO.out (by rw [HX.out]; simp)]; rfl, HS.out.trans HL3.out⟩
       ·have q1 : (sq == d.fi + (i : Int)) = false := by simpa using q1
        have HX2 : Hid (okC d.fr d.fi i ⟨fr, d.fr, sq, v, a, b, c⟩ = false) := hid (by rw [HX.out]; simp only [q1]; simp)
        go_wp2_with fail
        go_ret
        exact ⟨by rw [HE.out, HD.out, HNO.out HX2.out]; rfl, HS.out.trans HLa.out⟩
      ·have q0 : (pe == d.fr) = false := by simpa using q0
       have HX2 : Hid (okC d.fr d.fi i ⟨fr, pe, sq, v, a, b, c⟩ = false) := hid (by rw [HX.out]; simp only [q0]; simp)
       go_wp2_with fail
       go_ret
       exact ⟨by rw [HE.out, HD.out, HNO.out HX2.out]; rfl, HS.out.trans HLa.out⟩
     ·have hnl : ¬ (i : Int) < (cn : Int) := by omega
      have HT : Hid (allC d.fr d.fi d.cs = true) := hid (allC_iff.2 (fun j hj => HA.out j (by rw [HN.out] at hj; omega)))
      go_wp2_with fail
      go_ret
      exact ⟨by rw [HE.out, HD.out, HT.out]; rfl, HS.out.trans HL.out⟩
set_option maxHeartbeats 2000000 in
theorem parts16_any (d : Dg) (co : Option Addr) (cn cp : Nat) (w : World) (hr : RdG KCc w co cn d.cs) : Calls Tryd.prog 52 #[dgv d co cn cp] w fun e w' => e = .returned (.bool (Wp.prtB d)) /\ Still w w' := by
 have A0 := Still.alloc w (.cells (dgc d co cn cp) 39)
 have p := newDg_b w d co cn cp
 have hr0 := hr.still A0
 obtain ⟨c0, c1, c2, c3, c4, c5, c6, c7, cf⟩ := p.cells
 have HS := hid A0
 have HC := hid (turn16_any d co cn cp _ hr0)
 have HN := hid hr.1
 have HP : Hid (Wp.prtB d = if d.kd = 1 then trnB d else if d.kd = 2 then nonB d else false) := hid rfl
 have HU : Hid (nonB d = ((d.mrk == 0) && ((d.fi == 0) && ((cn : Int) == 0)))) := hid (by
  unfold nonB
  rw [hr.1, Bool.eq_iff_iff]
  simp)
 clear p hr hr0 A0 cf
 by_cases k1 : d.kd = 1
 ·have k1' : (d.kd == 1) = true := by simpa using k1
  rw [if_pos k1] at HP
  rw [HP.out]
  obtain ⟨b, eb⟩ : ∃ b, trnB d = b := ⟨_, rfl⟩
  rw [eb] at HC ⊢
  clear eb HP HU k1
  go_enter Tryd.func52, Tryd.ntmps52
  go_wp2_with fail
  refine HC.out.mono ?_
  rintro e w1 ⟨rfl, h1⟩
  have HS1 := hid (HS.out.trans h1)
  clear h1
  go_wp2_with fail
  go_ret
  exact ⟨rfl, HS1.out⟩
 ·have k1' : (d.kd == 1) = false := by simpa using k1
  rw [if_neg k1] at HP
  by_cases k2 : d.kd = 2
  ·have k2' : (d.kd == 2) = true := by simpa using k2
   rw [if_pos k2] at HP
   rw [HP.out, HU.out]
   clear HP HU k1 k2 HC
   by_cases q0 : (d.mrk == 0) = true
   ·by_cases q1 : (d.fi == 0) = true
    ·go_enter Tryd.func52, Tryd.ntmps52
     go_wp2_with fail
     go_ret
     exact ⟨by rw [q0, q1]; rfl, HS.out⟩
    ·have q1 : (d.fi == 0) = false := by simpa using q1
     go_enter Tryd.func52, Tryd.ntmps52
     go_wp2_with fail
     go_ret
     exact ⟨by rw [q0, q1]; rfl, HS.out⟩
   ·have q0 : (d.mrk == 0) = false := by simpa using q0
    go_enter Tryd.func52, Tryd.ntmps52
    go_wp2_with fail
    go_ret
    exact ⟨by rw [q0]; rfl, HS.out⟩
  ·have k2' : (d.kd == 2) = false := by simpa using k2
   rw [if_neg k2] at HP
   rw [HP.out]
   clear HP HU k1 k2 HC
   go_enter Tryd.func52, Tryd.ntmps52
   go_wp2_with fail
   go_ret
   exact ⟨rfl, HS.out⟩
set_option maxHeartbeats 2000000 in
theorem wchk16_any (d : Dg) (co : Option Addr) (cn cp : Nat) (w : World) (hr : RdG KCc w co cn d.cs) : Calls Tryd.prog 43 #[dgv d co cn cp] w fun e w' => e = .returned (.int .i64 (chkD d)) /\ Still w w' := by
 have A0 := Still.alloc w (.cells (dgc d co cn cp) 39)
 have p := newDg_b w d co cn cp
 have hr0 := hr.still A0
 obtain ⟨W, eW⟩ : ∃ W, w.alloc (.cells (dgc d co cn cp) 39) = W := ⟨_, rfl⟩
 obtain ⟨g, eg⟩ : ∃ g, w.heap.size = g := ⟨_, rfl⟩
 unfold newDg at p
 rw [eW] at A0 p hr0
 rw [eg] at p
 have HR := hid hr0
 have HS := hid A0
 have HPb := hid p
 obtain ⟨c0, c1, c2, c3, c4, c5, c6, c7, cf⟩ := p.cells
 have H0 := hid (fun w => seat16_any d co cn cp w)
 have H1 : Hid (∀ u, Still W u -> Calls Tryd.prog 52 #[dgv d co cn cp] u fun e w' => e = .returned (.bool (Wp.prtB d)) /\ Still u w') := hid (fun u hu => parts16_any d co cn cp u (HR.out.still hu))
 have H2 := hid (fun w => wiI_any d.ak 0 1099511627776 w)
 have HE : Hid (chkD d = if (seatB d && (Wp.prtB d && wiB d.ak 0 1099511627776)) = true then 0 else 162) := hid (by
  unfold chkD okD ackB
  rw [wiB_and])
 clear p hr hr0 A0 cf
 obtain ⟨M, eM⟩ : ∃ b, chkD d = b := ⟨_, rfl⟩
 obtain ⟨b0, e0⟩ : ∃ b, seatB d = b := ⟨_, rfl⟩
 obtain ⟨b1, e1⟩ : ∃ b, Wp.prtB d = b := ⟨_, rfl⟩
 obtain ⟨b2, e2⟩ : ∃ b, wiB d.ak 0 1099511627776 = b := ⟨_, rfl⟩
 rw [eM, e0, e1, e2] at HE
 rw [eM]
 rw [e0] at H0
 rw [e1] at H1
 rw [e2] at H2
 clear eM e0 e1 e2
 cases b0 with
 | false =>
  go_enter Tryd.func43, Tryd.ntmps43
  go_wp2_with fail
  refine (H0.out _).mono ?_
  rintro e w1 ⟨rfl, h1⟩
  have HS1 := hid h1
  clear h1 c0 c1 c2 c3 c4 c5 c6 c7
  go_wp2_with fail
  go_ret
  exact ⟨by rw [HE.out]; rfl, HS.out.trans HS1.out⟩
 | true =>
  cases b1 with
  | false =>
   go_enter Tryd.func43, Tryd.ntmps43
   go_wp2_with fail
   refine (H0.out _).mono ?_
   rintro e w1 ⟨rfl, h1⟩
   have HS1 := hid h1
   clear h1 c0 c1 c2 c3 c4 c5 c6 c7
   obtain ⟨c0, c1, c2, c3, c4, c5, c6, c7, _⟩ := (HPb.out.still HS1.out).cells
   go_wp2_with fail
   refine (H1.out _ HS1.out).mono ?_
   rintro e w2 ⟨rfl, h2⟩
   have HS2 := hid (HS1.out.trans h2)
   clear h2 c0 c1 c2 c3 c4 c5 c6 c7
   go_wp2_with fail
   go_ret
   exact ⟨by rw [HE.out]; rfl, HS.out.trans HS2.out⟩
  | true =>
   cases b2 with
   | false =>
    go_enter Tryd.func43, Tryd.ntmps43
    go_wp2_with fail
    refine (H0.out _).mono ?_
    rintro e w1 ⟨rfl, h1⟩
    have HS1 := hid h1
    clear h1 c0 c1 c2 c3 c4 c5 c6 c7
    obtain ⟨c0, c1, c2, c3, c4, c5, c6, c7, _⟩ := (HPb.out.still HS1.out).cells
    go_wp2_with fail
    refine (H1.out _ HS1.out).mono ?_
    rintro e w2 ⟨rfl, h2⟩
    have HS2 := hid (HS1.out.trans h2)
    clear h2 c0 c1 c2 c3 c4 c5 c6 c7
    obtain ⟨c0, c1, c2, c3, c4, c5, c6, c7, _⟩ := (HPb.out.still HS2.out).cells
    go_wp2_with fail
    refine (H2.out _).mono ?_
    rintro e w3 ⟨rfl, rfl⟩
    go_wp2_with fail
    go_ret
    exact ⟨by rw [HE.out]; rfl, HS.out.trans HS2.out⟩
   | true =>
    go_enter Tryd.func43, Tryd.ntmps43
    go_wp2_with fail
    refine (H0.out _).mono ?_
    rintro e w1 ⟨rfl, h1⟩
    have HS1 := hid h1
    clear h1 c0 c1 c2 c3 c4 c5 c6 c7
    obtain ⟨c0, c1, c2, c3, c4, c5, c6, c7, _⟩ := (HPb.out.still HS1.out).cells
    go_wp2_with fail
    refine (H1.out _ HS1.out).mono ?_
    rintro e w2 ⟨rfl, h2⟩
    have HS2 := hid (HS1.out.trans h2)
    clear h2 c0 c1 c2 c3 c4 c5 c6 c7
    obtain ⟨c0, c1, c2, c3, c4, c5, c6, c7, _⟩ := (HPb.out.still HS2.out).cells
    go_wp2_with fail
    refine (H2.out _).mono ?_
    rintro e w3 ⟨rfl, rfl⟩
    go_wp2_with fail
    go_ret
    exact ⟨by rw [HE.out]; rfl, HS.out.trans HS2.out⟩
end Go.Proofs.YtnbofjaecchnaaaDoor
namespace Go.Proofs.YtnbofjaecchnaaaDoor
open Go.RowKit
open Wp Vp
set_option maxRecDepth 100000
set_option linter.unusedVariables false
set_option linter.unusedSimpArgs false
theorem okC_six (f fi : Int) (i : Nat) (x : Cc) : okC f fi i x = ((x.pe == f) && ((x.sq == fi + i) && (decide (x.sq <= 1099511627776) && (decide (1 <= x.fr) && (decide (x.fr <= 1099511627776) && (chkO x.v x.a x.b x.c == 0)))))) := by
 unfold okC
 rw [Bool.eq_iff_iff]
 simp
theorem vcheck_r16 (x : Cc) (w : World) (ht : OTab w) : Calls Tryd.prog 36 #[od x.v x.a x.b x.c] w fun e w' => e = .returned (.int .i64 (chkO x.v x.a x.b x.c)) /\ Still w w' := rchk_any x.v x.a x.b x.c w ht
set_option maxHeartbeats 4000000 in
theorem rcmd16_any (d : Dg) (co : Option Addr) (cn cp : Nat) (i : Nat) (hi : i < cn) (hi2 : i <= 336) (hf : 1 <= d.fi /\ d.fi <= 1099511627776) (w : World) (ht : OTab w) (hr : RdG KCc w co cn d.cs) : Calls Tryd.prog 41 #[dgv d co cn cp, .int .i64 (i : Int)] w fun e w' => e = .returned (.bool (okC d.fr d.fi i (cc d.cs i))) /\ Still w w' := by
  obtain ⟨B, o, rfl⟩ := hr.at (by omega)
  have A0 := Still.alloc w (.cells (dgc d (some ⟨B, o, none⟩) cn cp) 39)
  have hlt : (i : Int) < (cn : Int) := by omega
  obtain ⟨k0, k1, k2, k3, k4, k5, k6⟩ := rdCc (hr.still A0) hi
  have HX := hid (okC_six d.fr d.fi i (cc d.cs i))
  obtain ⟨x, ex⟩ : ∃ x, cc d.cs i = x := ⟨_, rfl⟩
  rw [ex] at HX k0 k1 k2 k3 k4 k5 k6 ⊢
  have hb0 := newDg_b w d (some ⟨B, o, none⟩) cn cp
  obtain ⟨_, _, _, _, _, _, m6, _, _⟩ := hb0.cells
  have A1 := Still.alloc (newDg w d (some ⟨B, o, none⟩) cn cp) (.cells (kmc x) 36)
  have HV := hid (vcheck_r16 x (newCc (newDg w d (some ⟨B, o, none⟩) cn cp) x) ((ht.still A0).still A1))
  have HD := hid (hb0.still A1)
  have HC := hid (newCc_b (newDg w d (some ⟨B, o, none⟩) cn cp) x)
  have HS := hid (A0.trans A1)
  have hwr : IntKind.i64.wrap (d.fi + (i : Int)) = d.fi + (i : Int) := wr64 (by omega) (by omega)
  rw [size_alloc] at HC
  obtain ⟨r, er⟩ : ∃ r, chkO x.v x.a x.b x.c = r := ⟨_, rfl⟩
  rw [er] at HX HV
  clear ex er A0 A1 hb0 hr ht
  have key : (x.pe == d.fr) = false \/ ((x.pe == d.fr) = true /\ (x.sq == d.fi + (i : Int)) = false) \/ ((x.pe == d.fr) = true /\ (x.sq == d.fi + (i : Int)) = true /\ ¬ x.sq <= 1099511627776) \/ ((x.pe == d.fr) = true /\ (x.sq == d.fi + (i : Int)) = true /\ x.sq <= 1099511627776 /\ ¬ 1 <= x.fr) \/ ((x.pe == d.fr) = true /\ (x.sq == d.fi + (i : Int)) = true /\ x.sq <= 1099511627776 /\ 1 <= x.fr /\ ¬ x.fr <= 1099511627776) \/ ((x.pe == d.fr) = true /\ (x.sq == d.fi + (i : Int)) = true /\ x.sq <= 1099511627776 /\ 1 <= x.fr /\ x.fr <= 1099511627776) := by
    cases (x.pe == d.fr) <;> cases (x.sq == d.fi + (i : Int)) <;> simp <;> omega
  have HB : ∃ b, okC d.fr d.fi i x = b := ⟨_, rfl⟩
  obtain ⟨b, eb⟩ := HB
  rw [eb] at HX ⊢
  clear eb
  go_enter Tryd.func41, Tryd.ntmps41
  go_wp2_with fail
  refine HV.out.mono ?_
  rintro e w2 ⟨he, h2⟩
  rw [he]
  have HS2 := hid (HS.out.trans h2)
  obtain ⟨c0, c1, c2, _, _, _, _, _⟩ := (HC.out.still h2).cells
  obtain ⟨_, _, d2, _, _, d5, _, _, _⟩ := (HD.out.still h2).cells
  clear he h2 HV HD HC HS k0 k1 k2 k3 k4 k5 k6 m6
  obtain ⟨f1, f2, f3, f4, f5, f6, f7⟩ := x
  dsimp only at key HX c0 c1 c2
  rcases key with h | ⟨h, h'⟩ | ⟨h, h', h3⟩ | ⟨h, h', h3, h4⟩ | ⟨h, h', h3, h4, h5⟩ | ⟨h, h', h3, h4, h5⟩
  · rw [h] at HX
    go_wp2_with fail
    go_ret
    exact ⟨by rw [HX.out]; simp, HS2.out⟩
  · rw [h, h'] at HX
    obtain rfl : f2 = d.fr := by simpa using h
    clear h
    go_wp2_with fail
    go_ret
    exact ⟨by rw [HX.out]; simp, HS2.out⟩
  all_goals
    rw [h, h'] at HX
    obtain rfl : f2 = d.fr := by simpa using h
    obtain rfl : f3 = d.fi + (i : Int) := by simpa using h'
    clear h h'
    have HX2 := hid (HX.out)
    try (have e3 : decide (d.fi + (i : Int) <= 1099511627776) = false := by simpa using h3
         rw [e3] at HX2)
    try (have e3 : decide (d.fi + (i : Int) <= 1099511627776) = true := by simpa using h3
         rw [e3] at HX2)
    try (have e4 : decide (1 <= f1) = false := by simpa using h4
         rw [e4] at HX2)
    try (have e4 : decide (1 <= f1) = true := by simpa using h4
         rw [e4] at HX2)
    try (have e5 : decide (f1 <= 1099511627776) = false := by simpa using h5
         rw [e5] at HX2)
    try (have e5 : decide (f1 <= 1099511627776) = true := by simpa using h5
         rw [e5] at HX2)
    try clear e3
    try clear e4
    try clear e5
    go_wp2_with fail
    go_ret
    exact ⟨by rw [HX2.out]; simp, HS2.out⟩
end Go.Proofs.YtnbofjaecchnaaaDoor
namespace Go.Proofs.YtnbofjaecchnaaaDoor
open Go.RowKit
open Wp Vp
set_option maxRecDepth 100000
set_option linter.unusedVariables false
set_option linter.unusedSimpArgs false
theorem okD_no {d : Dg} (h : okD d = true -> False) : chkD d = 162 := by
 unfold chkD
 cases hb : okD d with
 | false => rfl
 | true => exact (h hb).elim
set_option maxHeartbeats 4000000 in
theorem rchkd_no (d : Dg) (co : Option Addr) (cn cp : Nat) (w : World) (hln : d.cs.length = cn)
  (key : d.fr < 0 \/ (¬ d.fr < 0 /\ 5 < d.fr) \/ (¬ d.fr < 0 /\ ¬ 5 < d.fr /\ d.to < 0) \/ (¬ d.fr < 0 /\ ¬ 5 < d.fr /\ ¬ d.to < 0 /\ 5 < d.to) \/ (¬ d.fr < 0 /\ ¬ 5 < d.fr /\ ¬ d.to < 0 /\ ¬ 5 < d.to /\ (d.fr == d.to) = true) \/ (¬ d.fr < 0 /\ ¬ 5 < d.fr /\ ¬ d.to < 0 /\ ¬ 5 < d.to /\ (d.fr == d.to) = false /\ d.ak < 0) \/ (¬ d.fr < 0 /\ ¬ 5 < d.fr /\ ¬ d.to < 0 /\ ¬ 5 < d.to /\ (d.fr == d.to) = false /\ ¬ d.ak < 0 /\ 1099511627776 < d.ak)) :
  Calls Tryd.prog 27 #[dgv d co cn cp] w fun e w' => e = .returned (.int .i64 162) /\ Still w w' := by
 have HA := hid (Still.alloc w (.cells (dgc d co cn cp) 39))
 obtain ⟨m0, m1, m2, m3, m4, m5, m6, m7, _⟩ := (newDg_b w d co cn cp).cells
 obtain ⟨kd, ss, fr, tt, mk, fi, cs, ak⟩ := d
 dsimp only at key m0 m1 m2 m3 m4 m5 m6 m7 hln
 rcases key with h | ⟨h, h1⟩ | ⟨h, h1, h2⟩ | ⟨h, h1, h2, h3⟩ | ⟨h, h1, h2, h3, h4⟩ | ⟨h, h1, h2, h3, h4, h5⟩ | ⟨h, h1, h2, h3, h4, h5, h6⟩
 ·go_enter Tryd.func27, Tryd.ntmps27
  go_wp2_with fail
  go_ret
  exact ⟨rfl, HA.out⟩
 ·go_enter Tryd.func27, Tryd.ntmps27
  go_wp2_with fail
  go_ret
  exact ⟨rfl, HA.out⟩
 ·go_enter Tryd.func27, Tryd.ntmps27
  go_wp2_with fail
  go_ret
  exact ⟨rfl, HA.out⟩
 ·go_enter Tryd.func27, Tryd.ntmps27
  go_wp2_with fail
  go_ret
  exact ⟨rfl, HA.out⟩
 ·obtain rfl : fr = tt := by simpa using h4
  go_enter Tryd.func27, Tryd.ntmps27
  go_wp2_with fail
  go_ret
  exact ⟨rfl, HA.out⟩
 ·go_enter Tryd.func27, Tryd.ntmps27
  go_wp2_with fail
  go_ret
  exact ⟨rfl, HA.out⟩
 ·go_enter Tryd.func27, Tryd.ntmps27
  go_wp2_with fail
  go_ret
  exact ⟨rfl, HA.out⟩
structure Sok (d : Dg) : Prop where
 a : ¬ d.fr < 0 /\ ¬ 5 < d.fr /\ ¬ d.to < 0 /\ ¬ 5 < d.to
 b : (d.fr == d.to) = false
 c : ¬ d.ak < 0 /\ ¬ 1099511627776 < d.ak
set_option maxHeartbeats 4000000 in
theorem rchkd_ack (d : Dg) (co : Option Addr) (cp : Nat) (w : World) (hs : Sok d) (h1 : d.kd = 2) (h2 : d.mrk = 0) (h3 : d.fi = 0) :
  Calls Tryd.prog 27 #[dgv d co 0 cp] w fun e w' => e = .returned (.int .i64 0) /\ Still w w' := by
 have HA := hid (Still.alloc w (.cells (dgc d co 0 cp) 39))
 obtain ⟨m0, m1, m2, m3, m4, m5, m6, m7, _⟩ := (newDg_b w d co 0 cp).cells
 obtain ⟨⟨s1, s2, s3, s4⟩, s5, s6, s7⟩ := hs
 obtain ⟨kd, ss, fr, tt, mk, fi, cs, ak⟩ := d
 dsimp only at h1 h2 h3 m0 m1 m2 m3 m4 m5 m6 m7 s1 s2 s3 s4 s5 s6 s7
 subst h1 h2 h3
 go_enter Tryd.func27, Tryd.ntmps27
 go_wp2_with fail
 go_ret
 exact ⟨rfl, HA.out⟩
set_option maxHeartbeats 4000000 in
theorem rchkd_kind (d : Dg) (co : Option Addr) (cn cp : Nat) (w : World) (hs : Sok d)
  (key : ((d.kd == 2) = true /\ (d.mrk == 0) = false) \/ ((d.kd == 2) = true /\ (d.mrk == 0) = true /\ (d.fi == 0) = false) \/ ((d.kd == 2) = true /\ (d.mrk == 0) = true /\ (d.fi == 0) = true /\ ((cn : Int) == 0) = false) \/ ((d.kd == 2) = false /\ (d.kd == 1) = false)
   \/ ((d.kd == 1) = true /\ d.mrk < 0) \/ ((d.kd == 1) = true /\ ¬ d.mrk < 0 /\ 1099511627776 < d.mrk) \/ ((d.kd == 1) = true /\ ¬ d.mrk < 0 /\ ¬ 1099511627776 < d.mrk /\ d.fi < 1) \/ ((d.kd == 1) = true /\ ¬ d.mrk < 0 /\ ¬ 1099511627776 < d.mrk /\ ¬ d.fi < 1 /\ 1099511627776 < d.fi) \/ ((d.kd == 1) = true /\ ¬ d.mrk < 0 /\ ¬ 1099511627776 < d.mrk /\ ¬ d.fi < 1 /\ ¬ 1099511627776 < d.fi /\ (336 : Int) < (cn : Int))) :
  Calls Tryd.prog 27 #[dgv d co cn cp] w fun e w' => e = .returned (.int .i64 162) /\ Still w w' := by
 have HA := hid (Still.alloc w (.cells (dgc d co cn cp) 39))
 obtain ⟨m0, m1, m2, m3, m4, m5, m6, m7, _⟩ := (newDg_b w d co cn cp).cells
 obtain ⟨⟨s1, s2, s3, s4⟩, s5, s6, s7⟩ := hs
 obtain ⟨kd, ss, fr, tt, mk, fi, cs, ak⟩ := d
 dsimp only at key m0 m1 m2 m3 m4 m5 m6 m7 s1 s2 s3 s4 s5 s6 s7
 rcases key with ⟨h, h1⟩ | ⟨h, h1, h2⟩ | ⟨h, h1, h2, h3⟩ | ⟨h, h1⟩ | ⟨h, h1⟩ | ⟨h, h1, h2⟩ | ⟨h, h1, h2, h3⟩ | ⟨h, h1, h2, h3, h4⟩ | ⟨h, h1, h2, h3, h4, h5⟩
 ·obtain rfl : kd = 2 := by simpa using h
  go_enter Tryd.func27, Tryd.ntmps27
  go_wp2_with fail
  go_ret
  exact ⟨rfl, HA.out⟩
 ·obtain rfl : kd = 2 := by simpa using h
  obtain rfl : mk = 0 := by simpa using h1
  go_enter Tryd.func27, Tryd.ntmps27
  go_wp2_with fail
  go_ret
  exact ⟨rfl, HA.out⟩
 ·obtain rfl : kd = 2 := by simpa using h
  obtain rfl : mk = 0 := by simpa using h1
  obtain rfl : fi = 0 := by simpa using h2
  go_enter Tryd.func27, Tryd.ntmps27
  go_wp2_with fail
  go_ret
  exact ⟨rfl, HA.out⟩
 ·have h1' : (kd != 1) = true := by simpa using h1
  go_enter Tryd.func27, Tryd.ntmps27
  go_wp2_with fail
  go_ret
  exact ⟨rfl, HA.out⟩
 ·obtain rfl : kd = 1 := by simpa using h
  go_enter Tryd.func27, Tryd.ntmps27
  go_wp2_with fail
  go_ret
  exact ⟨rfl, HA.out⟩
 ·obtain rfl : kd = 1 := by simpa using h
  go_enter Tryd.func27, Tryd.ntmps27
  go_wp2_with fail
  go_ret
  exact ⟨rfl, HA.out⟩
 ·obtain rfl : kd = 1 := by simpa using h
  go_enter Tryd.func27, Tryd.ntmps27
  go_wp2_with fail
  go_ret
  exact ⟨rfl, HA.out⟩
 ·obtain rfl : kd = 1 := by simpa using h
  go_enter Tryd.func27, Tryd.ntmps27
  go_wp2_with fail
  go_ret
  exact ⟨rfl, HA.out⟩
 ·obtain rfl : kd = 1 := by simpa using h
  go_enter Tryd.func27, Tryd.ntmps27
  go_wp2_with fail
  go_ret
  exact ⟨rfl, HA.out⟩
set_option maxHeartbeats 4000000 in
theorem rchkd_turn (d : Dg) (co : Option Addr) (cn cp : Nat) (w : World) (ht : OTab w) (hr : RdG KCc w co cn d.cs) (hs : Sok d) (hk : d.kd = 1) (hm : ¬ d.mrk < 0 /\ ¬ 1099511627776 < d.mrk) (hf : ¬ d.fi < 1 /\ ¬ 1099511627776 < d.fi) (hcn : ¬ (336 : Int) < (cn : Int)) :
  Calls Tryd.prog 27 #[dgv d co cn cp] w fun e w' => e = .returned (.int .i64 (if allC d.fr d.fi d.cs then 0 else 162)) /\ Still w w' := by
 have A0 := Still.alloc w (.cells (dgc d co cn cp) 39)
 have hb0 := newDg_b w d co cn cp
 have HR := hid (hr.still A0)
 have HT := hid (ht.still A0)
 obtain ⟨W, eW⟩ : ∃ W, w.alloc (.cells (dgc d co cn cp) 39) = W := ⟨_, rfl⟩
 obtain ⟨g, eg⟩ : ∃ g, w.heap.size = g := ⟨_, rfl⟩
 unfold newDg at hb0
 rw [eW] at A0 hb0 HR HT
 rw [eg] at hb0
 have HA := hid A0
 have HB := hid hb0
 have HL := hid hr.1
 obtain ⟨m0, m1, m2, m3, m4, m5, m6, m7, _⟩ := hb0.cells
 obtain ⟨⟨s1, s2, s3, s4⟩, s5, s6, s7⟩ := hs
 obtain ⟨hm1, hm2⟩ := hm
 obtain ⟨hf1, hf2⟩ := hf
 have hC : ∀ u (i : Nat), Still W u -> i < cn -> Calls Tryd.prog 41 #[dgv d co cn cp, .int .i64 (i : Int)] u fun e w' => e = .returned (.bool (okC d.fr d.fi i (cc d.cs i))) /\ Still u w' := fun u i hu hi => rcmd16_any d co cn cp i hi (by omega) (by omega) u (HT.out.still hu) (HR.out.still hu)
 have HC := hid hC
 obtain ⟨Z, eZ⟩ : ∃ Z, allC d.fr d.fi d.cs = Z := ⟨_, rfl⟩
 have HYes : Hid ((∀ j, j < cn -> okC d.fr d.fi j (cc d.cs j) = true) -> Z = true) := hid (fun h => by rw [<- eZ]; exact allC_iff.2 (fun j hj => h j (by rw [HL.out] at hj; exact hj)))
 have HNo : Hid (∀ j, j < cn -> okC d.fr d.fi j (cc d.cs j) = false -> Z = false) := hid (fun j hj h => by rw [<- eZ]; exact all_no (by rw [HL.out]; exact hj) h)
 rw [eZ]
 obtain ⟨kd, ss, fr, tt, mk, fi, cs, ak⟩ := d
 dsimp only at hk hm1 hm2 hf1 hf2 m0 m1 m2 m3 m4 m5 m6 m7 s1 s2 s3 s4 s5 s6 s7
 subst hk
 clear A0 hb0 hr ht hC eZ HR HT
 go_enter Tryd.func27, Tryd.ntmps27
 go_wp2_with fail
 clear m0 m1 m2 m3 m4 m5 m6 m7
 go_loopw [3, 4] (fun u3 u4 wr => ∃ i : Nat, i <= cn /\ u3 = .int .i64 (i : Int) /\ Hid (∀ j, j < i -> okC fr fi j (cc cs j) = true) /\ Hid (Still W wr)) (fun u3 _ _ => cn - (intOf u3).toNat)
 case atStart => exact ⟨0, by omega, rfl, hid (fun j hj => by omega), hid (Fr.refl _ _)⟩
 case round =>
  obtain ⟨i, hi, rfl, HP, HS⟩ := hrel
  obtain ⟨m0, m1, m2, m3, m4, m5, m6, m7, _⟩ := (HB.out.still HS.out).cells
  by_cases hin : i < cn
  ·have hlt : (i : Int) < (cn : Int) := by omega
   have HCi := hid (HC.out wr i HS.out hin)
   have HNi := hid (HNo.out i hin)
   try dsimp only at HCi
   try dsimp only at HNi
   have HPi : Hid (okC fr fi i (cc cs i) = true -> ∀ j, j < i + 1 -> okC fr fi j (cc cs j) = true) := hid (fun h j hj => by
    by_cases e : j = i
    ·rw [e]; exact h
    ·exact HP.out j (by omega))
   obtain ⟨b, eb⟩ : ∃ b, okC fr fi i (cc cs i) = b := ⟨_, rfl⟩
   rw [eb] at HCi HNi HPi
   clear eb
   go_wp2_with fail
   refine HCi.out.mono ?_
   rintro e w2 ⟨he, h2⟩
   rw [he]
   have HS2 := hid (HS.out.trans h2)
   clear he h2 HCi m0 m1 m2 m3 m4 m5 m6 m7
   cases b with
   | true =>
    go_wp2_with fail
    go_roundw
    case rel => exact ⟨i + 1, by omega, by go_num, hid (HPi.out (by first | rfl | trivial)), HS2⟩
    case measure => simp [intOf]; omega
   | false =>
    have hZ := HNi.out rfl
    subst hZ
    go_wp2_with fail
    go_ret
    exact ⟨rfl, HA.out.trans HS2.out⟩
  ·have hge : ¬ (i : Int) < (cn : Int) := by omega
   have hZ := HYes.out (fun j hj => HP.out j (by omega))
   subst hZ
   go_wp2_with fail
   go_ret
   exact ⟨rfl, HA.out.trans HS.out⟩
theorem rchkd_any (d : Dg) (co : Option Addr) (cn cp : Nat) (w : World) (ht : OTab w) (hr : RdG KCc w co cn d.cs) : Calls Tryd.prog 27 #[dgv d co cn cp] w fun e w' => e = .returned (.int .i64 (chkD d)) /\ Still w w' := by
 have hln := hr.1
 have hl0 : d.cs = [] ↔ cn = 0 := by
  rw [<- hln]
  exact List.length_eq_zero_iff.symm
 by_cases hs : Sok d
 ·by_cases k1 : d.kd = 1
  ·by_cases hm : ¬ d.mrk < 0 /\ ¬ 1099511627776 < d.mrk
   ·by_cases hf : ¬ d.fi < 1 /\ ¬ 1099511627776 < d.fi
    ·by_cases hcn : (336 : Int) < (cn : Int)
     ·rw [okD_no (fun h => by
       obtain ⟨p1, p2, p3⟩ := okD_parts h
       rcases p3 with p | p
       ·have := p.2.2.2.1; omega
       ·omega)]
      exact rchkd_kind d co cn cp w hs (.inr (.inr (.inr (.inr (.inr (.inr (.inr (.inr ⟨by simpa using k1, hm.1, hm.2, hf.1, hf.2, hcn⟩))))))))
     ·have := rchkd_turn d co cn cp w ht hr hs k1 hm hf hcn
      rw [show chkD d = if allC d.fr d.fi d.cs then 0 else 162 by
       obtain ⟨⟨s1, s2, s3, s4⟩, s5, s6, s7⟩ := hs
       unfold chkD okD
       rw [show seatB d = true by unfold seatB; simp at s5; simp; omega, show ackB d = true by unfold ackB; simp; omega]
       unfold Wp.prtB
       rw [if_pos k1]
       unfold trnB
       rw [show decide (0 <= d.mrk) = true by simp; omega, show decide (d.mrk <= 1099511627776) = true by simp; omega, show decide (1 <= d.fi) = true by simp; omega, show decide (d.fi <= 1099511627776) = true by simp; omega, show decide (d.cs.length <= 336) = true by simp; omega]
       simp]
      exact this
    ·rw [okD_no (fun h => by
      obtain ⟨p1, p2, p3⟩ := okD_parts h
      rcases p3 with p | p
      ·have := p.2.2.1; omega
      ·omega)]
     refine rchkd_kind d co cn cp w hs ?_
     by_cases h : d.fi < 1
     ·exact .inr (.inr (.inr (.inr (.inr (.inr (.inl ⟨by simpa using k1, hm.1, hm.2, h⟩))))))
     ·exact .inr (.inr (.inr (.inr (.inr (.inr (.inr (.inl ⟨by simpa using k1, hm.1, hm.2, h, by omega⟩)))))))
   ·rw [okD_no (fun h => by
     obtain ⟨p1, p2, p3⟩ := okD_parts h
     rcases p3 with p | p
     ·have := p.2.1; omega
     ·omega)]
    refine rchkd_kind d co cn cp w hs ?_
    by_cases h : d.mrk < 0
    ·exact .inr (.inr (.inr (.inr (.inl ⟨by simpa using k1, h⟩))))
    ·exact .inr (.inr (.inr (.inr (.inr (.inl ⟨by simpa using k1, h, by omega⟩)))))
  ·by_cases k2 : d.kd = 2
   ·by_cases hm : d.mrk = 0
    ·by_cases hf : d.fi = 0
     ·by_cases hc : cn = 0
      ·subst hc
       have := rchkd_ack d co cp w hs k2 hm hf
       rw [show chkD d = 0 by
        obtain ⟨⟨s1, s2, s3, s4⟩, s5, s6, s7⟩ := hs
        unfold chkD okD
        rw [show seatB d = true by unfold seatB; simp at s5; simp; omega, show ackB d = true by unfold ackB; simp; omega]
        unfold Wp.prtB
        rw [if_neg k1, if_pos k2]
        unfold nonB
        rw [hm, hf, hln]
        rfl]
       exact this
      ·rw [okD_no (fun h => by
        obtain ⟨p1, p2, p3⟩ := okD_parts h
        rcases p3 with p | p
        ·omega
        ·exact hc (hl0.1 p.2.2.2))]
       exact rchkd_kind d co cn cp w hs (.inr (.inr (.inl ⟨by simpa using k2, by simpa using hm, by simpa using hf, by simpa using hc⟩)))
     ·rw [okD_no (fun h => by
       obtain ⟨p1, p2, p3⟩ := okD_parts h
       rcases p3 with p | p <;> omega)]
      exact rchkd_kind d co cn cp w hs (.inr (.inl ⟨by simpa using k2, by simpa using hm, by simpa using hf⟩))
    ·rw [okD_no (fun h => by
      obtain ⟨p1, p2, p3⟩ := okD_parts h
      rcases p3 with p | p <;> omega)]
     exact rchkd_kind d co cn cp w hs (.inl ⟨by simpa using k2, by simpa using hm⟩)
   ·rw [okD_no (fun h => by
     obtain ⟨p1, p2, p3⟩ := okD_parts h
     rcases p3 with p | p <;> omega)]
    exact rchkd_kind d co cn cp w hs (.inr (.inr (.inr (.inl ⟨by simpa using k2, by simpa using k1⟩))))
 ·have hno : okD d = true -> False := fun h => by
   obtain ⟨p1, p2, p3⟩ := okD_parts h
   exact hs ⟨by omega, by simpa using p1.2.2.2.2, by omega⟩
  rw [okD_no hno]
  refine rchkd_no d co cn cp w hln ?_
  by_cases h1 : d.fr < 0
  ·exact .inl h1
  ·by_cases h2 : 5 < d.fr
   ·exact .inr (.inl ⟨h1, h2⟩)
   ·by_cases h3 : d.to < 0
    ·exact .inr (.inr (.inl ⟨h1, h2, h3⟩))
    ·by_cases h4 : 5 < d.to
     ·exact .inr (.inr (.inr (.inl ⟨h1, h2, h3, h4⟩)))
     ·cases h5 : (d.fr == d.to) with
      | true => exact .inr (.inr (.inr (.inr (.inl ⟨h1, h2, h3, h4, rfl⟩))))
      | false =>
       by_cases h6 : d.ak < 0
       ·exact .inr (.inr (.inr (.inr (.inr (.inl ⟨h1, h2, h3, h4, rfl, h6⟩)))))
       ·by_cases h7 : 1099511627776 < d.ak
        ·exact .inr (.inr (.inr (.inr (.inr (.inr ⟨h1, h2, h3, h4, rfl, h6, h7⟩)))))
        ·exact (hs ⟨⟨h1, h2, h3, h4⟩, h5, h6, h7⟩).elim
end Go.Proofs.YtnbofjaecchnaaaDoor
