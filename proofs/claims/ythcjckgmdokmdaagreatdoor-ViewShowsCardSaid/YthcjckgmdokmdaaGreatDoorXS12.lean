/- Parts of the proof, laid end to end. -/
import Derived.Test.YthcjckgmdokmdaaGreatDoorXS10
import Derived.Test.YthcjckgmdokmdaaGreatDoorXS04
import Derived.Test.YthcjckgmdokmdaaGreatDoorXS11
import Derived.Test.YthcjckgmdokmdaaGreatDoorXS01
import Derived.Test.YthcjckgmdokmdaaGreatDoorXS06
import Derived.Test.YthcjckgmdokmdaaGreatDoorXS07
import Derived.Test.YthcjckgmdokmdaaGreatDoorXS08
namespace Go.Proofs.YthcjckgmdokmdaaGreatDoor
open Go.RowKit
open Pu Gp Ap Vp Np Za Ka Ja Ea Ha
set_option maxRecDepth 100000
def KQ : Kd Pk := ⟨fun p => [.int .i64 p.no, .int .i64 p.sp, .int .i64 p.kd], 3, zK, fun _ => rfl, fun m u hu => by
 simp at hu
 rcases hu with rfl | rfl | rfl <;> rfl, by decide⟩
theorem rdQ {w : World} {B o n : Nat} {L : List Pk} (h : RdG KQ w (some ⟨B, o, none⟩) n L) {i : Nat} (hi : i < n) : w.cell? ⟨B, o + i * 3, none⟩ = some (.int .i64 (pk L i).no) /\ w.cell? ⟨B, o + i * 3 + 1, none⟩ = some (.int .i64 (pk L i).sp) /\ w.cell? ⟨B, o + i * 3 + 2, none⟩ = some (.int .i64 (pk L i).kd) :=
 ⟨h.get hi 0 _ rfl, h.get hi 1 _ rfl, h.get hi 2 _ rfl⟩
theorem rdK_ofQ {w : World} {ao : Option Addr} {n : Nat} {L : List Pk} (h : RdG KQ w ao n L) : RdK w ao n L := by
 refine ⟨h.1, h.2.1, ?_⟩
 rcases h.2.2 with h0 | ⟨B, o, e, hc⟩
 ·exact .inl h0
 ·exact .inr ⟨B, o, e, fun i hi => ⟨hc i hi 0 _ rfl, hc i hi 1 _ rfl, hc i hi 2 _ rfl⟩⟩
abbrev wdcs (fr nx : Int) (a b c d : Value) : Array Value := #[.int .i64 fr, a, b, c, d, .int .i64 nx]
def Wdb (w : World) (g : Nat) (fr nx : Int) (a b c d : Value) : Prop := w.heap[g]? = some (.cells (wdcs fr nx a b c d) 33 (0, 0))
theorem Wdb.still {w w' : World} {g : Nat} {fr nx : Int} {a b c d : Value} (h : Wdb w g fr nx a b c d) (hs : Still w w') : Wdb w' g fr nx a b c d := hs.kept_still h
theorem Wdb.cells {w : World} {g : Nat} {fr nx : Int} {a b c d : Value} (h : Wdb w g fr nx a b c d) : w.cell? ⟨g, 0, none⟩ = some (.int .i64 fr) /\ w.cell? ⟨g, 1, none⟩ = some a /\ w.cell? ⟨g, 2, none⟩ = some b /\ w.cell? ⟨g, 3, none⟩ = some c /\ w.cell? ⟨g, 4, none⟩ = some d /\ w.cell? ⟨g, 5, none⟩ = some (.int .i64 nx) /\ ∀ o, w.frozen? ⟨g, o, none⟩ = false := by
 refine ⟨?_, ?_, ?_, ?_, ?_, ?_, fun o => frozen_of_row w g o _ _ h⟩ <;> (rw [cell_of_row _ _ _ _ _ _ h]; rfl)
abbrev newWd (w : World) (fr nx : Int) (a b c d : Value) : World := w.alloc (.cells (wdcs fr nx a b c d) 33)
theorem newWd_wb (w : World) (fr nx : Int) (a b c d : Value) : Wdb (newWd w fr nx a b c d) w.heap.size fr nx a b c d := heap_alloc_new w _
def Sl {α : Type} (K : Kd α) (w : World) (v : Value) (L : List α) : Prop := ∃ ao cap, v = .slice ao L.length cap /\ L.length <= cap /\ (ao = none -> cap = 0) /\ RdG K w ao L.length L
theorem Sl.still {α : Type} {K : Kd α} {w w' : World} {v : Value} {L : List α} (h : Sl K w v L) (hs : Still w w') : Sl K w' v L := by
 obtain ⟨ao, cap, e, h1, h2, h3⟩ := h
 exact ⟨ao, cap, e, h1, h2, h3.still hs⟩
def RdW (w : World) (v : Value) (W : Wd) : Prop := ∃ a b c d, v = .agg (wdcs W.fr W.nx a b c d) /\ Sl KM w a W.ms /\ Sl KC w b W.cs /\ Sl KS w c W.hs /\ Sl KQ w d W.ks
theorem RdW.still {w w' : World} {v : Value} {W : Wd} (h : RdW w v W) (hs : Still w w') : RdW w' v W := by
 obtain ⟨a, b, c, d, e, h1, h2, h3, h4⟩ := h
 exact ⟨a, b, c, d, e, h1.still hs, h2.still hs, h3.still hs, h4.still hs⟩
end Go.Proofs.YthcjckgmdokmdaaGreatDoor
namespace Go.Proofs.YthcjckgmdokmdaaGreatDoor
open Go.RowKit
open Pu Gp Ap Vp Np Za Ka Ja Ea Ha
set_option maxRecDepth 100000
theorem st_mv {o : Oper} {ρ : Operand -> Value} {x y : Operand} {u : World} {g : Nat} {m : Mv} (ho : o.op = .store 56 x y) (hx : ρ x = .pointer (some ⟨g, 0, none⟩)) (hy : ρ y = mv m) (hh : u.heap[g]? = some (.cells (mcs zM) 56 (0, 0))) :
  ∃ u', (execOp ρ o).run Tryz.prog u = .ok .skip u' /\ u'.heap[g]? = some (.cells (mcs m) 56 (0, 0)) /\ Fr (fun i => i = g) u u' := by
 have hb : Mb u g zM := hh
 obtain ⟨d0, d1, d2, d3, d4, d5, d6, d7, d8, d9, d10, d11, d12, df⟩ := hb.cells
 have hput := hb.put m.ax m.ay m.sx m.sy m.px m.py m.fc m.hl m.en m.sh m.co m.ou m.sd
 refine ⟨(((((((((((((u.setCell ⟨g, 0, none⟩ (.int .i64 m.ax)).setCell ⟨g, 1, none⟩ (.int .i64 m.ay)).setCell ⟨g, 2, none⟩ (.int .i64 m.sx)).setCell ⟨g, 3, none⟩ (.int .i64 m.sy)).setCell ⟨g, 4, none⟩ (.int .i64 m.px)).setCell ⟨g, 5, none⟩ (.int .i64 m.py)).setCell ⟨g, 6, none⟩ (.int .i64 m.fc)).setCell ⟨g, 7, none⟩ (.int .i64 m.hl)).setCell ⟨g, 8, none⟩ (.int .i64 m.en)).setCell ⟨g, 9, none⟩ (.bool m.sh)).setCell ⟨g, 10, none⟩ (.int .i64 m.co)).setCell ⟨g, 11, none⟩ (.int .i64 m.ou)).setCell ⟨g, 12, none⟩ (.int .i64 m.sd)), ?_, hput, ((((((((((((((Fr.refl (fun i => i = g) u).setCell ⟨g, 0, none⟩ (.int .i64 m.ax) (.inl rfl)).setCell ⟨g, 1, none⟩ (.int .i64 m.ay) (.inl rfl)).setCell ⟨g, 2, none⟩ (.int .i64 m.sx) (.inl rfl)).setCell ⟨g, 3, none⟩ (.int .i64 m.sy) (.inl rfl)).setCell ⟨g, 4, none⟩ (.int .i64 m.px) (.inl rfl)).setCell ⟨g, 5, none⟩ (.int .i64 m.py) (.inl rfl)).setCell ⟨g, 6, none⟩ (.int .i64 m.fc) (.inl rfl)).setCell ⟨g, 7, none⟩ (.int .i64 m.hl) (.inl rfl)).setCell ⟨g, 8, none⟩ (.int .i64 m.en) (.inl rfl)).setCell ⟨g, 9, none⟩ (.bool m.sh) (.inl rfl)).setCell ⟨g, 10, none⟩ (.int .i64 m.co) (.inl rfl)).setCell ⟨g, 11, none⟩ (.int .i64 m.ou) (.inl rfl)).setCell ⟨g, 12, none⟩ (.int .i64 m.sd) (.inl rfl))⟩
 clear hput hb hh
 unfold execOp
 rw [ho]
 simp only [hx, hy]
 go_simp
theorem nw_mv {o : Oper} {ρ : Operand -> Value} (ho : o.op = .alloc 56) (u : World) : (execOp ρ o).run Tryz.prog u = .ok (.value (.pointer (some ⟨u.heap.size, 0, none⟩))) (u.alloc (.cells (mcs zM) 56 (0, 0))) := by
 unfold execOp
 rw [ho]
 go_simp
 try rfl
end Go.Proofs.YthcjckgmdokmdaaGreatDoor
set_option maxRecDepth 100000
namespace Go.Proofs.YthcjckgmdokmdaaGreatDoor.Hi
open Pu Gp Ap Vp Np Za Ka Ja Ea Ha
def lgs (l : List Int) (i : Nat) : Int := l.getD i 0
def Lags (l : List Int) : Prop := 2 <= l.length /\ l.length <= 5 /\ lgs l 0 = 0 /\ ∀ i, 1 <= i -> i < l.length -> lgs l (i - 1) < lgs l i /\ lgs l i < 48
def CfgP (p v : Int) (k : Nat) (l : List Int) : Prop := 2 <= p /\ p <= 6 /\ v = 0 /\ p <= (k : Int) /\ Lags l
open Classical in
noncomputable def cfgE (p v : Int) (k : Nat) (l : List Int) : Int := if CfgP p v k l then 0 else 130
theorem cfgE_yes {p v : Int} {k : Nat} {l : List Int} (h : CfgP p v k l) : cfgE p v k l = 0 := by unfold cfgE; rw [if_pos h]
theorem cfgE_no {p v : Int} {k : Nat} {l : List Int} (h : ¬ CfgP p v k l) : cfgE p v k l = 130 := by unfold cfgE; rw [if_neg h]
def Fits (p : Int) (E : Env) (w : Wd) : Prop := Ha.Good p.toNat E w /\ 0 <= w.fr /\ w.fr <= 1099511627776
open Classical in
noncomputable def chkW (p : Int) (E : Env) (w : Wd) : Int := if Fits p E w then 0 else 131
theorem chkW_yes {p : Int} {E : Env} {w : Wd} (h : Fits p E w) : chkW p E w = 0 := by unfold chkW; rw [if_pos h]
theorem chkW_no {p : Int} {E : Env} {w : Wd} (h : ¬ Fits p E w) : chkW p E w = 131 := by unfold chkW; rw [if_neg h]
end Go.Proofs.YthcjckgmdokmdaaGreatDoor.Hi
namespace Go.Proofs.YthcjckgmdokmdaaGreatDoor
open Go.RowKit
open Pu Gp Ap Vp Np Za Ka Ja Ea Ha
set_option maxRecDepth 100000
end Go.Proofs.YthcjckgmdokmdaaGreatDoor
namespace Go.Proofs.YthcjckgmdokmdaaGreatDoor
open Go.RowKit
open Pu Gp Ap Vp Np Za Ka Ja Ea Ha
set_option maxRecDepth 100000
structure Cf where
 p : Int
 q : Int
 C : Int
 R : Int
 s : ByteArray
 lg : Value
section
variable {w w' : World} {g : Nat} {F : Cf} {f fr nx : Int} {a b c d e : Value}
end
theorem OwG.setO {α : Type} {K : Kd α} {e : TypeId} {w : World} {B : Nat} {v : Value} {L : List α} (h : OwG K e w B v L) {g o : Nat} {t : TypeId} (hg : Tyk w g t) (ht : e ≠ t) (u : Value) : OwG K e (w.setCell ⟨g, o, none⟩ u) B v L :=
 h.keepT (B := 0) (ts := [t]) ((FrT.refl 0 [t] w).set hg (by simp) (Nat.zero_le _) u) (by simp; exact ht)
section
variable {B : Nat} {w w' : World} {g : Nat} {F : Cf} {f : Int} {G : Gm} {a b c d e : Value}
end
end Go.Proofs.YthcjckgmdokmdaaGreatDoor
namespace Go.Proofs.YthcjckgmdokmdaaGreatDoor
open Go.RowKit
open Pu Gp Ap Vp Np Za Ka Ja Ea Ha
set_option maxRecDepth 100000
structure Se where
 F : Cf
 st : Value
 sp : Value
 xs : Value
section
variable {w w' : World} {g : Nat} {S : Se} {fr nx : Int} {a b c d e : Value}
end
section
variable {B : Nat} {w w' : World} {g : Nat} {S : Se} {G : Gm} {a b c d e : Value}
end
end Go.Proofs.YthcjckgmdokmdaaGreatDoor
namespace Go.Proofs.YthcjckgmdokmdaaGreatDoor
open Go.RowKit
open Pu Gp Ap Vp Np Za Ka Ja Ea Ha
set_option maxRecDepth 100000
end Go.Proofs.YthcjckgmdokmdaaGreatDoor
set_option maxRecDepth 100000
namespace Go.Proofs.YthcjckgmdokmdaaGreatDoor
def IsB (e : Ending) (Q : Prop) : Prop := ∃ b, e = .returned (.bool b) /\ (b = true ↔ Q)
theorem IsB.yes {Q : Prop} (h : Q) : IsB (.returned (.bool true)) Q := ⟨true, rfl, ⟨fun _ => h, fun _ => rfl⟩⟩
theorem IsB.no {Q : Prop} (h : ¬ Q) : IsB (.returned (.bool false)) Q := ⟨false, rfl, ⟨fun e => (by cases e), fun q => absurd q h⟩⟩
end Go.Proofs.YthcjckgmdokmdaaGreatDoor
set_option maxRecDepth 100000
namespace Go.Proofs.YthcjckgmdokmdaaGreatDoor.Hg
open Pu Gp Ap Vp Np Za Ka Ja Ea Ha
section
variable {σ : Type} (step : σ -> Int × Int -> σ)
end
end Go.Proofs.YthcjckgmdokmdaaGreatDoor.Hg
namespace Go.Proofs.YthcjckgmdokmdaaGreatDoor
open Go.RowKit
open Pu Gp Ap Vp Np Za Ka Ja Ea Ha Hg
set_option maxRecDepth 100000
end Go.Proofs.YthcjckgmdokmdaaGreatDoor
namespace Go.Proofs.YthcjckgmdokmdaaGreatDoor
open Go.RowKit
open Pu Gp Ap Vp Np Za Ka Ja Ea Ha Hi
set_option maxRecDepth 100000
theorem wwithin_any (n a b : Int) (w : World) : Calls Tryz.prog 87 #[.int .i64 n, .int .i64 a, .int .i64 b] w fun e w' => e = .returned (.bool (decide (a <= n /\ n <= b))) /\ w' = w := by
 by_cases h1 : a <= n
 ·by_cases h2 : n <= b
  ·rw [show decide (a <= n /\ n <= b) = true by simp; omega]
   go_enter Tryz.func87, Tryz.ntmps87
   go_wp2_with fail
   go_ret
   exact ⟨rfl, rfl⟩
  ·rw [show decide (a <= n /\ n <= b) = false by simp; omega]
   go_enter Tryz.func87, Tryz.ntmps87
   go_wp2_with fail
   go_ret
   exact ⟨rfl, rfl⟩
 ·rw [show decide (a <= n /\ n <= b) = false by simp; omega]
  go_enter Tryz.func87, Tryz.ntmps87
  go_wp2_with fail
  go_ret
  exact ⟨rfl, rfl⟩
theorem wwithin64_any (n a b : Int) (w : World) : Calls Tryz.prog 91 #[.int .i64 n, .int .i64 a, .int .i64 b] w fun e w' => e = .returned (.bool (decide (a <= n /\ n <= b))) /\ w' = w := by
 by_cases h1 : a <= n
 ·by_cases h2 : n <= b
  ·rw [show decide (a <= n /\ n <= b) = true by simp; omega]
   go_enter Tryz.func91, Tryz.ntmps91
   go_wp2_with fail
   go_ret
   exact ⟨rfl, rfl⟩
  ·rw [show decide (a <= n /\ n <= b) = false by simp; omega]
   go_enter Tryz.func91, Tryz.ntmps91
   go_wp2_with fail
   go_ret
   exact ⟨rfl, rfl⟩
 ·rw [show decide (a <= n /\ n <= b) = false by simp; omega]
  go_enter Tryz.func91, Tryz.ntmps91
  go_wp2_with fail
  go_ret
  exact ⟨rfl, rfl⟩
def LagR (l : List Int) (i : Nat) : Prop := lgs l (i - 1) < lgs l i
theorem lgs_get {l : List Int} {i : Nat} (h : i < l.length) : l[i] = lgs l i := by simp [lgs, List.getD, h]
theorem lag_up {l : List Int} (h : ∀ i, 1 <= i -> i < l.length -> LagR l i) : ∀ i j, i <= j -> j < l.length -> lgs l i <= lgs l j := by
 intro i j
 induction j with
 | zero =>
  intro h1 _
  obtain rfl : i = 0 := by omega
  exact Int.le_refl _
 | succ j ih =>
  intro h1 h2
  by_cases e : i = j + 1
  ·subst e; exact Int.le_refl _
  ·have h3 := ih (by omega) (by omega)
   have h4 := h (j + 1) (by omega) h2
   unfold LagR at h4
   rw [show j + 1 - 1 = j by omega] at h4
   omega
theorem lags_iff {l : List Int} (h2 : 2 <= l.length) (h5 : l.length <= 5) (h0 : lgs l 0 = 0) (hr : ∀ i, 1 <= i -> i < l.length -> LagR l i) : Lags l ↔ lgs l (l.length - 1) < 48 := by
 constructor
 ·rintro ⟨_, _, _, h⟩
  exact (h (l.length - 1) (by omega) (by omega)).2
 ·intro h
  refine ⟨h2, h5, h0, fun i h1 hl => ⟨hr i h1 hl, ?_⟩⟩
  have := lag_up hr i (l.length - 1) (by omega) (by omega)
  omega
set_option maxHeartbeats 4000000 in
theorem maylag_any (l : List Int) (lo : Option Addr) (n cap : Nat) (w : World) (hr : RdI w lo n cap l) :
  Calls Tryz.prog 88 #[.slice lo n cap] w fun e w' => IsB e (Lags l) /\ Still w w' := by
 have hln := hr.len
 have hn := hr.small
 have HR := hid hr
 have HL := hid hln
 clear hr hln
 by_cases t0 : 2 <= (n : Int) /\ (n : Int) <= 5
 rotate_left
 ·have HW : Hid (∀ u, Calls Tryz.prog 87 #[.int .i64 (n : Int), .int .i64 2, .int .i64 5] u fun e w' => e = .returned (.bool false) /\ w' = u) := hid (fun u => by have := wwithin_any (n : Int) 2 5 u; rwa [decide_eq_false t0] at this)
  have HN : Hid (¬ Lags l) := hid (fun h => by have := h.1; have := h.2.1; have := HL.out; omega)
  clear t0
  go_enter Tryz.func88, Tryz.ntmps88
  go_wp2_with fail
  refine (HW.out _).mono ?_
  rintro e w1 ⟨he, hw⟩
  rw [he, hw]
  clear he hw w1
  go_wp2_with fail
  go_ret
  exact ⟨IsB.no HN.out, Fr.refl _ _⟩
 have HW : Hid (∀ u, Calls Tryz.prog 87 #[.int .i64 (n : Int), .int .i64 2, .int .i64 5] u fun e w' => e = .returned (.bool true) /\ w' = u) := hid (fun u => by have := wwithin_any (n : Int) 2 5 u; rwa [decide_eq_true t0] at this)
 have hn2 : 2 <= n := by omega
 have hn5 : n <= 5 := by omega
 clear t0
 obtain ⟨B, o, rfl⟩ := HR.out.addr (by omega)
 have l0 := HR.out.byte (k := 0) (by have := HL.out; omega)
 rw [Nat.add_zero, lgs_get (by have := HL.out; omega)] at l0
 have hpos : (0 : Int) < (n : Int) := by omega
 go_enter Tryz.func88, Tryz.ntmps88
 go_wp2_with fail
 refine (HW.out _).mono ?_
 rintro e w1 ⟨he, hw⟩
 rw [he, hw]
 clear he hw w1
 obtain ⟨x0, ex0⟩ : ∃ x, lgs l 0 = x := ⟨_, rfl⟩
 rw [ex0] at l0
 have EX := hid ex0
 clear ex0
 by_cases t6 : x0 = 0
 rotate_left
 ·have b6 : (x0 != 0) = true := by simpa using t6
  have HN : Hid (¬ Lags l) := hid (fun h => t6 (by rw [<- EX.out]; exact h.2.2.1))
  clear t6
  go_wp2_with fail
  go_ret
  exact ⟨IsB.no HN.out, Fr.refl _ _⟩
 subst t6
 go_wp2_with fail
 clear l0
 have HI : Hid (∀ i, 1 <= i -> i < l.length -> ¬ LagR l i -> ¬ Lags l) := hid (fun i h1 h2 h h3 => h (h3.2.2.2 i h1 h2).1)
 go_loopw [3] (fun u wr => ∃ i : Nat, 1 <= i /\ i <= n /\ u = .int .i64 (i : Int) /\ Hid (∀ j, 1 <= j -> j < i -> LagR l j) /\ Still w wr) (fun u _ => n - (intOf u).toNat)
 case atStart => exact ⟨1, by omega, by omega, rfl, hid (fun j h1 h2 => by omega), Fr.refl _ _⟩
 case round =>
  obtain ⟨i, hi1, hi2, rfl, HJ, hs⟩ := hrel
  by_cases hin : i < n
  ·have hlt : (i : Int) < (n : Int) := by omega
   obtain ⟨m, rfl⟩ : ∃ m, i = m + 1 := ⟨i - 1, by omega⟩
   have la := (HR.out.still hs).byte (k := m + 1) (by have := HL.out; omega)
   have lb := (HR.out.still hs).byte (k := m) (by have := HL.out; omega)
   rw [lgs_get (by have := HL.out; omega)] at la lb
   have HD : Hid (LagR l (m + 1) ↔ lgs l m < lgs l (m + 1)) := hid Iff.rfl
   obtain ⟨x, ex⟩ : ∃ x, lgs l (m + 1) = x := ⟨_, rfl⟩
   obtain ⟨y, ey⟩ : ∃ x, lgs l m = x := ⟨_, rfl⟩
   rw [ex] at la HD
   rw [ey] at lb HD
   clear ex ey
   have qa := Cl.cell la
   have qb := Cl.cell lb
   have hne := Aft.here wr
   have z1 : ((m : Int) + 1).toNat = m + 1 := by omega
   have z3 : (m : Int) + 1 < (n : Int) := by omega
   have z4 : (m : Int) < (n : Int) := by omega
   have z5 : (0 : Int) <= (m : Int) + 1 := by omega
   have HS := hid hs
   have HY : Hid (LagR l (m + 1) -> ∀ j, 1 <= j -> j < m + 1 + 1 -> LagR l j) := hid (fun h j h1 h2 => by
    by_cases e : j = m + 1
    ·subst e; exact h
    ·exact HJ.out j h1 (by omega))
   clear HJ hs
   by_cases g1 : x <= y
   ·have e1 : decide (x <= y) = true := decide_eq_true g1
    have HX := hid (HI.out (m + 1) hi1 (by have := HL.out; omega) (fun h => by have := HD.out.1 h; omega))
    clear g1
    go_upto_region 6 with fail
    refine region_all (by kernel_rfl) (by kernel_rfl) ?_
    repeat (go_big_quiet_step (fail))
    refine wpQuiet_nil ?_
    intro w3 h3
    have HS3 := hid (HS.out.trans h3)
    clear h3 qa qb hne la lb
    go_wp2_with fail
    (first | rw [Exit.noGoto_ret] | skip)
    go_ret
    exact ⟨IsB.no HX.out, HS3.out⟩
   ·have e1 : decide (x <= y) = false := decide_eq_false g1
    have HX := hid (HY.out (HD.out.2 (by omega)))
    clear g1
    go_upto_region 6 with fail
    refine region_all (by kernel_rfl) (by kernel_rfl) ?_
    repeat (go_big_quiet_step (fail))
    refine wpQuiet_nil ?_
    intro w3 h3
    have HS3 := hid (HS.out.trans h3)
    clear h3 qa qb hne la lb
    go_wp2_with fail
    go_roundw
    case rel => exact ⟨m + 1 + 1, by omega, by omega, by go_num, HX, HS3.out⟩
    case measure => first | (simp [intOf]; done) | (simp [intOf]; omega)
  ·have hge : ¬ (i : Int) < (n : Int) := by omega
   obtain rfl : i = n := by omega
   have HF := hid (lags_iff (l := l) (by have := HL.out; omega) (by have := HL.out; omega) EX.out (fun j h1 h2 => HJ.out j h1 (by have := HL.out; omega)))
   obtain ⟨m, rfl⟩ : ∃ m, i = m + 1 := ⟨i - 1, by omega⟩
   have la := (HR.out.still hs).byte (k := m) (by have := HL.out; omega)
   rw [lgs_get (by have := HL.out; omega)] at la
   have hm1 : l.length - 1 = m := by have := HL.out; omega
   rw [hm1] at HF
   obtain ⟨x, ex⟩ : ∃ x, lgs l m = x := ⟨_, rfl⟩
   rw [ex] at la HF
   have HS := hid hs
   have z4 : (m : Int) < (m : Int) + 1 := by omega
   clear ex hs HJ hin hm1
   by_cases g1 : x < 48
   ·have e1 : decide (x < 48) = true := decide_eq_true g1
    have HX := hid (HF.out.2 g1)
    clear g1 HF
    go_wp2_with fail
    go_ret
    exact ⟨IsB.yes HX.out, HS.out⟩
   ·have e1 : decide (x < 48) = false := decide_eq_false g1
    have HX := hid (fun h => g1 (HF.out.1 h))
    clear g1 HF
    go_wp2_with fail
    go_ret
    exact ⟨IsB.no HX.out, HS.out⟩
end Go.Proofs.YthcjckgmdokmdaaGreatDoor
namespace Go.Proofs.YthcjckgmdokmdaaGreatDoor
open Go.RowKit
open Pu Gp Ap Vp Np Za Ka Ja Ea Ha Hi
set_option maxRecDepth 100000
abbrev cfc (F : Cf) : Array Value := #[.int .i64 F.p, .int .u64 F.q, .int .i64 F.C, .int .i64 F.R, .string F.s, F.lg]
abbrev cfv (F : Cf) : Value := .agg (cfc F)
def Cfb (w : World) (g : Nat) (F : Cf) : Prop := w.heap[g]? = some (.cells (cfc F) 27 (0, 0))
theorem Cfb.still {w w' : World} {g : Nat} {F : Cf} (h : Cfb w g F) (hs : Still w w') : Cfb w' g F := hs.kept_still h
theorem Cfb.cells {w : World} {g : Nat} {F : Cf} (h : Cfb w g F) : w.cell? ⟨g, 0, none⟩ = some (.int .i64 F.p) /\ w.cell? ⟨g, 1, none⟩ = some (.int .u64 F.q) /\ w.cell? ⟨g, 2, none⟩ = some (.int .i64 F.C) /\ w.cell? ⟨g, 3, none⟩ = some (.int .i64 F.R) /\ w.cell? ⟨g, 4, none⟩ = some (.string F.s) /\ w.cell? ⟨g, 5, none⟩ = some F.lg /\ ∀ o, w.frozen? ⟨g, o, none⟩ = false := by
 refine ⟨?_, ?_, ?_, ?_, ?_, ?_, fun o => frozen_of_row w g o _ _ h⟩ <;> (rw [cell_of_row _ _ _ _ _ _ h]; rfl)
abbrev newCf (w : World) (F : Cf) : World := w.alloc (.cells (cfc F) 27)
theorem newCf_cb (w : World) (F : Cf) : Cfb (newCf w F) w.heap.size F := heap_alloc_new w _
end Go.Proofs.YthcjckgmdokmdaaGreatDoor
namespace Go.Proofs.YthcjckgmdokmdaaGreatDoor
open Go.RowKit
open Pu Gp Ap Vp Np Za Ka Ja Ea Ha
set_option maxRecDepth 100000
end Go.Proofs.YthcjckgmdokmdaaGreatDoor
namespace Go.Proofs.YthcjckgmdokmdaaGreatDoor
open Go.RowKit
open Pu Gp Ap Vp Np Za Ka Ja Ea Ha Hg
set_option maxRecDepth 100000
end Go.Proofs.YthcjckgmdokmdaaGreatDoor
namespace Go.Proofs.YthcjckgmdokmdaaGreatDoor
open Go.RowKit
open Pu Gp Ap Vp Np Za Ka Ja Ea Ha Hg
set_option maxRecDepth 100000
end Go.Proofs.YthcjckgmdokmdaaGreatDoor
namespace Go.Proofs.YthcjckgmdokmdaaGreatDoor
open Go.RowKit
open Pu Gp Ap Vp Np Za Ka Ja Ea Ha Hg
set_option maxRecDepth 100000
end Go.Proofs.YthcjckgmdokmdaaGreatDoor
namespace Go.Proofs.YthcjckgmdokmdaaGreatDoor
open Go.RowKit
open Pu Gp Ap Vp Np Za Ka Ja Ea Ha Hi
set_option maxRecDepth 100000
theorem chkM0 {m : Mv} : chkM m = 0 ↔ May m := by
 unfold chkM
 rw [<- mayB_iff]
 cases mayB m <;> simp
theorem chkS0 {s : Sh} : chkS s = 0 ↔ maySB s = true := by
 unfold chkS
 cases maySB s <;> simp
theorem chkC0 {s : Scr} : chkC s = 0 ↔ MayC s := ⟨fun h => Classical.byContradiction fun hc => (by rw [chkC_no hc] at h; cases h), chkC_yes⟩
theorem chkK0 {L : List Pk} {s : Int} : chkK L s = 0 ↔ MayK L s := ⟨fun h => Classical.byContradiction fun hc => (by rw [chkK_no hc] at h; cases h), chkK_yes⟩
def PlayP (p : Int) (w : Wd) : Prop := (w.ms.length : Int) = p /\ (∀ i, i < w.ms.length -> chkM (mm w.ms i) = 0) /\ (w.cs.length : Int) = p /\ ∀ i, i < w.cs.length -> chkC (sc w.cs i) = 0
def FlyA (p nx : Int) (S : List Sh) (i : Nat) : Prop := (ss S i).ow < p /\ (if i = 0 then 0 else (ss S (i - 1)).no) < (ss S i).no /\ (ss S i).no < nx
def FlyP (p nx : Int) (S : List Sh) : Prop := S.length <= 48 /\ (∀ i, i < S.length -> chkS (ss S i) = 0) /\ ∀ i, i < S.length -> FlyA p nx S i
def LieP (k : Nat) (nx : Int) (Q : List Pk) : Prop := (∀ i, i < Q.length -> (pk Q i).no < nx) /\ chkK Q (k : Int) = 0
theorem play_iff {p : Int} {w : Wd} (hp : 0 <= p) : PlayP p w ↔ Seats p.toNat w := by
 constructor
 ·rintro ⟨h1, h2, h3, h4⟩
  exact ⟨by omega, fun i hi => chkM0.1 (h2 i (by omega)), by omega, fun i hi => chkC0.1 (h4 i (by omega))⟩
 ·rintro ⟨h1, h2, h3, h4⟩
  exact ⟨by omega, fun i hi => chkM0.2 (h2 i (by omega)), by omega, fun i hi => chkC0.2 (h4 i (by omega))⟩
theorem fly_iff {p nx : Int} {S : List Sh} : FlyP p nx S ↔ Flo S /\ ∀ s ∈ S, s.ow < p /\ s.no < nx := by
 constructor
 ·rintro ⟨h1, h2, h3⟩
  refine ⟨⟨h1, fun i hi => ⟨chkS0.1 (h2 i hi), fun h0 => ?_⟩⟩, fun s hs => ?_⟩
  ·have := (h3 i hi).2.1
   rwa [if_neg (by omega)] at this
  ·obtain ⟨i, hi, rfl⟩ := List.mem_iff_getElem.1 hs
   have := h3 i hi
   unfold FlyA at this
   rw [ss_at hi] at this
   exact ⟨this.1, this.2.2⟩
 ·rintro ⟨⟨h1, h2⟩, h3⟩
  refine ⟨h1, fun i hi => chkS0.2 (h2 i hi).1, fun i hi => ?_⟩
  have h4 := h3 _ (List.getElem_mem hi)
  rw [<- ss_at hi] at h4
  refine ⟨h4.1, ?_, h4.2⟩
  split
  ·have := (maySB_iff.1 (h2 i hi).1).1
   omega
  ·exact (h2 i hi).2 (by omega)
theorem lie_iff {k : Nat} {nx : Int} {Q : List Pk} : LieP k nx Q ↔ MayK Q (k : Int) /\ ∀ x ∈ Q, x.no < nx := by
 constructor
 ·rintro ⟨h1, h2⟩
  refine ⟨chkK0.1 h2, fun x hx => ?_⟩
  obtain ⟨i, hi, rfl⟩ := List.mem_iff_getElem.1 hx
  have := h1 i hi
  rwa [pk_at hi] at this
 ·rintro ⟨h1, h2⟩
  refine ⟨fun i hi => ?_, chkK0.2 h1⟩
  rw [pk_at hi]
  exact h2 _ (List.getElem_mem hi)
theorem fits_iff {p : Int} {E : Env} {w : Wd} (hp : 0 <= p) : Fits p E w ↔ (0 <= w.fr /\ w.fr <= 1099511627776) /\ (1 <= w.nx /\ w.nx <= 1099511627777) /\ PlayP p w /\ FlyP p w.nx w.hs /\ LieP E.sp.length w.nx w.ks := by
 rw [play_iff hp, fly_iff, lie_iff]
 have e : ((p.toNat : Nat) : Int) = p := by omega
 constructor
 ·rintro ⟨⟨h1, h2, h3, h4, h5, h6, h7⟩, h8, h9⟩
  rw [e] at h3
  exact ⟨⟨h8, h9⟩, ⟨h6, h7⟩, h1, ⟨h2, h3⟩, h4, h5⟩
 ·rintro ⟨⟨h8, h9⟩, ⟨h6, h7⟩, h1, ⟨h2, h3⟩, h4, h5⟩
  refine ⟨⟨h1, h2, ?_, h4, h5, h6, h7⟩, h8, h9⟩
  rw [e]
  exact h3
end Go.Proofs.YthcjckgmdokmdaaGreatDoor
namespace Go.Proofs.YthcjckgmdokmdaaGreatDoor
open Go.RowKit
open Pu Gp Np Ka
set_option maxRecDepth 100000
theorem pwithin_any (n l h : Int) (w : World) : Calls Tryz.prog 174 #[.int .i64 n, .int .i64 l, .int .i64 h] w fun e w' => e = .returned (.bool (amg n l h)) /\ w' = w := by
 unfold amg
 by_cases h1 : l <= n
 ·go_enter Tryz.func174, Tryz.ntmps174
  go_wp2_with fail
  go_ret
  exact ⟨by simp [h1], rfl⟩
 ·have e : decide (l <= n) = false := by simpa using h1
  rw [e]
  go_enter Tryz.func174, Tryz.ntmps174
  go_wp2_with fail
  go_ret
  exact ⟨rfl, rfl⟩
theorem pkind_any (n : Int) (w : World) : Calls Tryz.prog 201 #[.int .i64 n] w fun e w' => e = .returned (.bool (amg n 1 3)) /\ w' = w := by
 have H := hid (fun w => pwithin_any n 1 3 w)
 obtain ⟨b, eb⟩ : ∃ b, amg n 1 3 = b := ⟨_, rfl⟩
 rw [eb] at H ⊢
 clear eb
 go_enter Tryz.func201, Tryz.ntmps201
 go_wp2_with fail
 refine (H.out _).mono ?_
 rintro e w2 ⟨he, hw⟩
 rw [he, hw]
 clear he hw w2
 go_wp2_with fail
 go_ret
 exact ⟨rfl, rfl⟩
theorem pisno_any (n : Int) (w : World) : Calls Tryz.prog 200 #[.int .i64 n] w fun e w' => e = .returned (.bool (amg n 1 1099511627776)) /\ w' = w := by
 have H := hid (fun w => pwithin_any n 1 1099511627776 w)
 obtain ⟨b, eb⟩ : ∃ b, amg n 1 1099511627776 = b := ⟨_, rfl⟩
 rw [eb] at H ⊢
 clear eb
 go_enter Tryz.func200, Tryz.ntmps200
 go_wp2_with fail
 refine (H.out _).mono ?_
 rintro e w2 ⟨he, hw⟩
 rw [he, hw]
 clear he hw w2
 go_wp2_with fail
 go_ret
 exact ⟨rfl, rfl⟩
def mayl (x : Pk) (s : Int) : Bool := amg x.no 1 1099511627776 && (amg x.sp 0 (s - 1) && amg x.kd 1 3)
theorem mayLie_any (x : Pk) (s : Int) (h0 : 0 <= s) (h1 : s <= 16) (w : World) : Calls Tryz.prog 175 #[kv x, .int .i64 s] w fun e w' => e = .returned (.bool (mayl x s)) /\ Still w w' := by
 unfold mayl
 have p := newK_kb w x
 have HS := hid (Still.alloc w (.cells (kcs x) 124))
 obtain ⟨c0, c1, c2, cf⟩ := p.cells
 have H0 := hid (fun w => pisno_any x.no w)
 have H1 := hid (fun w => pwithin_any x.sp 0 (s - 1) w)
 have H2 := hid (fun w => pkind_any x.kd w)
 obtain ⟨b0, e0⟩ : ∃ b, amg x.no 1 1099511627776 = b := ⟨_, rfl⟩
 obtain ⟨b1, e1⟩ : ∃ b, amg x.sp 0 (s - 1) = b := ⟨_, rfl⟩
 obtain ⟨b2, e2⟩ : ∃ b, amg x.kd 1 3 = b := ⟨_, rfl⟩
 rw [e0] at H0 ⊢
 rw [e1] at H1 ⊢
 rw [e2] at H2 ⊢
 clear e0 e1 e2 p
 go_enter Tryz.func175, Tryz.ntmps175
 go_wp2_with fail
 refine (H0.out _).mono ?_
 rintro e w2 ⟨he, hw⟩
 rw [he, hw]
 clear he hw w2
 cases b0 with
 | false =>
  go_wp2_with fail
  go_ret
  exact ⟨rfl, HS.out⟩
 | true =>
  go_wp2_with fail
  refine (H1.out _).mono ?_
  rintro e w2 ⟨he, hw⟩
  rw [he, hw]
  clear he hw w2
  cases b1 with
  | false =>
   go_wp2_with fail
   go_ret
   exact ⟨rfl, HS.out⟩
  | true =>
   go_wp2_with fail
   refine (H2.out _).mono ?_
   rintro e w2 ⟨he, hw⟩
   rw [he, hw]
   clear he hw w2
   go_wp2_with fail
   go_ret
   exact ⟨by simp, HS.out⟩
def lieI (L : List Pk) (y : Int) : Bool := L.any fun x => x.sp == y
theorem lieI_step {L : List Pk} {k : Nat} {y : Int} (h : k < L.length) : lieI (L.take (k + 1)) y = (lieI (L.take k) y || (pk L k).sp == y) := by
 have : pk L k = L[k] := by simp [pk, List.getD, h]
 rw [this]
 unfold lieI
 rw [List.take_succ_eq_append_getElem h, List.any_append]
 simp
theorem lieI_iff {L : List Pk} {y : Int} : lieI L y = true ↔ ∃ i, i < L.length /\ (pk L i).sp = y := by
 unfold lieI
 rw [List.any_eq_true]
 constructor
 ·rintro ⟨x, hx, h⟩
  obtain ⟨i, hi, rfl⟩ := List.mem_iff_getElem.1 hx
  refine ⟨i, hi, ?_⟩
  have : pk L i = L[i] := by simp [pk, List.getD, hi]
  rw [this]; simpa using h
 ·rintro ⟨i, hi, h⟩
  have : pk L i = L[i] := by simp [pk, List.getD, hi]
  rw [this] at h
  exact ⟨L[i], List.getElem_mem hi, by simpa using h⟩
def Fk (w : World) (v : Value) (ao : Option Addr) (n cap : Nat) : Prop := ∃ b, v = .func (.func 207) #[] #[.pointer (some ⟨b, 0, none⟩)] /\ w.cell? ⟨b, 0, none⟩ = some (.slice ao n cap)
theorem freeAmong_any (ao : Option Addr) (n cap : Nat) (w : World) : Calls Tryz.prog 202 #[.slice ao n cap] w fun e w' => ∃ v, e = .returned v /\ Fk w' v ao n cap /\ Still w w' := by
 have hmf : ∀ (fn : Fn) (first cap : Array Value) (w : World), (Instr.makeFunc fn first cap).run Tryz.prog w = .ok (.func fn first cap) w := fun _ _ _ _ => rfl
 go_enter Tryz.func202, Tryz.ntmps202
 go_wp2
 go_ret
 refine ⟨_, rfl, ⟨_, rfl, ?_⟩, Still.alloc w _⟩
 rw [cell_of_row _ _ _ _ _ _ (heap_alloc_new w _)]
 rfl
theorem free_any (L : List Pk) (y : Int) (ao : Option Addr) (n cap b : Nat) (w : World) (hr : RdK w ao n L) (hc : w.cell? ⟨b, 0, none⟩ = some (.slice ao n cap)) :
  Calls Tryz.prog 207 #[.int .i64 y, .pointer (some ⟨b, 0, none⟩)] w fun e w' => e = .returned (.bool (!lieI L y)) /\ Still w w' := by
 have HR := hid hr
 have HL := hid hr.1
 have hn47 : n <= 281474976710656 := hr.2.1
 clear hr
 go_enter Tryz.func207, Tryz.ntmps207
 go_wp2_with fail
 clear hc
 go_loopw [8] (fun u wr => ∃ k : Nat, k <= n /\ u = .int .i64 (k : Int) /\ Hid (lieI (L.take k) y = false) /\ Still w wr) (fun u _ => n - (intOf u).toNat)
 case atStart => exact ⟨0, by omega, rfl, hid rfl, Fr.refl _ _⟩
 case round =>
  obtain ⟨k, hk, rfl, HK, hs⟩ := hrel
  by_cases hkn : k < n
  ·have hlt : (k : Int) < (n : Int) := by omega
   obtain ⟨B, o, rfl, hcc⟩ := (HR.out.still hs).at (by omega)
   obtain ⟨c0, c1, c2⟩ := hcc k hkn
   have HB := hid (lieI_step (L := L) (k := k) (y := y) (by have := HL.out; omega))
   have HT := hid (fun h => lieI_iff.2 ⟨k, show k < L.length by have := HL.out; omega, show (pk L k).sp = y from h⟩)
   obtain ⟨⟨xa, xb, xc⟩, ex⟩ : ∃ x, pk L k = x := ⟨_, rfl⟩
   rw [ex] at c0 c1 c2 HB HT
   have q0 := newK_kb wr ⟨xa, xb, xc⟩
   obtain ⟨d0, d1, d2, df⟩ := q0.cells
   have HS1 := hid (hs.trans (Still.alloc wr (.cells (kcs ⟨xa, xb, xc⟩) 124)))
   simp only at c0 c1 c2 d0 d1 d2
   clear hs hcc ex q0
   by_cases hy : xb = y
   ·have HE := hid (HT.out hy)
    have hy' : (xb == y) = true := by simpa using hy
    clear hy HT HB
    go_wp2_with fail
    (first | rw [Exit.noGoto_ret] | skip)
    go_ret
    exact ⟨by rw [HE.out]; rfl, HS1.out⟩
   ·have hy' : (xb == y) = false := by simpa using hy
    have HE : Hid (lieI (L.take (k + 1)) y = false) := hid (by rw [HB.out, HK.out]; simpa using hy)
    clear hy HT HB HK
    go_wp2_with fail
    go_roundw
    case rel => exact ⟨k + 1, by omega, by go_num, HE, HS1.out⟩
    case measure => simp [intOf]; omega
  ·have hge : ¬ (k : Int) < (n : Int) := by omega
   have HE : Hid (lieI L y = false) := hid (by
    have := HK.out
    rw [List.take_of_length_le (by have := HL.out; omega)] at this
    exact this)
   have HS1 := hid hs
   clear hs HK
   go_wp2_with fail
   go_ret
   exact ⟨by rw [HE.out]; rfl, HS1.out⟩
def suit (x : Pk) (L : List Pk) : Bool := !lieI L x.sp && (decide (L.length = 0) || decide ((pk L (L.length - 1)).no < x.no))
set_option maxHeartbeats 1000000 in
theorem psuits_any (x : Pk) (L : List Pk) (ao : Option Addr) (n cap : Nat) (h8 : n <= 8) (w : World) (hr : RdK w ao n L) : Calls Tryz.prog 176 #[kv x, .slice ao n cap] w fun e w' => e = .returned (.bool (suit x L)) /\ Still w w' := by
 have p := newK_kb w x
 have HS0 := hid (Still.alloc w (.cells (kcs x) 124))
 have HR := hid hr
 have HU : Hid (suit x L = (!lieI L x.sp && (decide (n = 0) || decide ((pk L (n - 1)).no < x.no)))) := hid (by unfold suit; rw [hr.1])
 clear hr
 go_enter Tryz.func176, Tryz.ntmps176
 go_wp2_with fail
 refine (freeAmong_any ao n cap _).mono ?_
 rintro e w1 ⟨v, rfl, hf, h1⟩
 have q := p.still h1
 have HS1 := hid (HS0.out.trans h1)
 have HR1 := hid (HR.out.still HS1.out)
 obtain ⟨b, rfl, hb⟩ := hf
 have HF := hid (fun (u : World) (hu : Still w1 u) => free_any L x.sp ao n cap b u (HR1.out.still hu) ((hu.cell (World.block_lt_of_cell? w1 _ hb) (fun e => e)).trans hb))
 clear h1 hb HS0 p
 obtain ⟨c0, c1, c2, cf⟩ := q.cells
 have k0 := Cl.cell c0
 have k1 := Cl.cell c1
 have hne := Aft.here w1
 obtain ⟨f, ef⟩ : ∃ f, (!lieI L x.sp) = f := ⟨_, rfl⟩
 rw [ef] at HF HU
 clear ef
 go_wp2_with fail
 clear c0 c1 c2 cf q
 cases f with
 | false =>
  refine region_all (by kernel_rfl) (by kernel_rfl) ?_
  repeat (go_big_quiet_step ((go_at_call 207; exact Calls.cl (HF.out _ (Aft.s _)))))
  refine wpQuiet_nil ?_
  intro w2 h2
  have HS2 := hid (HS1.out.trans h2)
  clear h2 HS1 HR1 HF k0 k1 hne
  go_wp2_with fail
  go_ret
  exact ⟨by rw [HU.out]; rfl, HS2.out⟩
 | true =>
  by_cases hn : n = 0
  ·subst hn
   refine region_all (by kernel_rfl) (by kernel_rfl) ?_
   repeat (go_big_quiet_step ((go_at_call 207; exact Calls.cl (HF.out _ (Aft.s _)))))
   refine wpQuiet_nil ?_
   intro w2 h2
   have HS2 := hid (HS1.out.trans h2)
   clear h2 HS1 HR1 HF k0 k1 hne
   go_wp2_with fail
   go_ret
   exact ⟨by rw [HU.out]; rfl, HS2.out⟩
  ·obtain ⟨m, em⟩ : ∃ m : Nat, (n : Int) - 1 = (m : Int) := ⟨n - 1, by omega⟩
   rw [em]
   have emn : n - 1 = m := by omega
   rw [emn] at HU
   obtain ⟨B, o, rfl, hcc⟩ := HR1.out.at (by omega)
   obtain ⟨z0, _, _⟩ := hcc m (by omega)
   have k3 := Cl.cell z0
   have hmn : (m : Int) < (n : Int) := by omega
   have hmd : decide ((m : Int) < 0) = false := by simp
   have HN := hid (show decide (n = 0) = false by simp [hn])
   rw [HN.out] at HU
   obtain ⟨z, ez⟩ : ∃ z, (pk L m).no = z := ⟨_, rfl⟩
   rw [ez] at k3 HU
   clear ez z0 hcc em emn hn
   refine region_all (by kernel_rfl) (by kernel_rfl) ?_
   repeat (go_big_quiet_step ((go_at_call 207; exact Calls.cl (HF.out _ (Aft.s _)))))
   refine wpQuiet_nil ?_
   intro w2 h2
   have HS2 := hid (HS1.out.trans h2)
   clear h2 HS1 HR1 HF k0 k1 k3 hne
   go_wp2_with fail
   go_ret
   exact ⟨by rw [HU.out]; simp, HS2.out⟩
theorem pk_take {L : List Pk} {k i : Nat} (h : i < k) : pk (L.take k) i = pk L i := by simp [pk, List.getD, h]
theorem fit_iff {L : List Pk} {s : Int} {k : Nat} (hk : k < L.length) : Fit L s k ↔ mayl (pk L k) s = true /\ suit (pk L k) (L.take k) = true := by
 have hl : (L.take k).length = k := by simp; omega
 unfold mayl suit Fit amg
 rw [hl]
 simp only [Bool.and_eq_true, Bool.or_eq_true, decide_eq_true_eq, Bool.not_eq_true']
 have e1 : lieI (L.take k) (pk L k).sp = false ↔ ∀ i, i < k -> (pk L i).sp ≠ (pk L k).sp := by
  rw [<- Bool.not_eq_true, lieI_iff, hl]
  constructor
  ·intro h i hi he; exact h ⟨i, hi, by rw [pk_take hi]; exact he⟩
  ·rintro h ⟨i, hi, he⟩; rw [pk_take hi] at he; exact h i hi he
 rw [e1]
 constructor
 ·rintro ⟨h1, h2, h3, h4, h5⟩
  refine ⟨⟨h1, ⟨h3.1, by omega⟩, h4⟩, h5, ?_⟩
  by_cases h0 : k = 0
  ·exact .inl h0
  ·exact .inr (by rw [pk_take (by omega)]; exact h2 (by omega))
 ·rintro ⟨⟨h1, h3, h4⟩, h5, h2⟩
  refine ⟨h1, fun h0 => ?_, ⟨h3.1, by omega⟩, h4, h5⟩
  rcases h2 with h2 | h2
  ·omega
  ·rw [pk_take (by omega)] at h2; exact h2
theorem RdK.take {w : World} {ao : Option Addr} {n k : Nat} {L : List Pk} (h : RdK w ao n L) (hk : k <= n) : RdK w ao k (L.take k) := by
 obtain ⟨h1, h2, h3⟩ := h
 refine ⟨by simp; omega, by omega, ?_⟩
 by_cases h0 : k = 0
 ·exact .inl h0
 ·rcases h3 with h3 | ⟨B, o, e, hc⟩
  ·omega
  ·exact .inr ⟨B, o, e, fun i hi => by rw [pk_take hi]; exact hc i (by omega)⟩
set_option maxHeartbeats 2000000 in
theorem pchk_in (L : List Pk) (s : Int) (ao : Option Addr) (n cap : Nat) (w : World) (hr : RdK w ao n L) (hcap : n <= cap) (h0 : 0 <= s) (h1 : s <= 16) (h8 : n <= 8) : Calls Tryz.prog 139 #[.slice ao n cap, .int .i64 s] w fun e w' => e = .returned (.int .i64 (chkK L s)) /\ Still w w' := by
 have HH := hid (And.intro h0 h1)
 have HR := hid hr
 have HL := hid hr.1
 have HCp := hid hcap
 have HW := hid (fun w => pwithin_any s 0 16 w)
 rw [show amg s 0 16 = true by unfold amg; simp; omega] at HW
 have h8' : decide ((8 : Int) < (n : Int)) = false := by simp; omega
 clear hr hcap h0 h1
 go_enter Tryz.func139, Tryz.ntmps139
 go_wp2_with fail
 refine (HW.out _).mono ?_
 rintro e w2 ⟨he, hw⟩
 rw [he, hw]
 clear he hw w2 HW
 go_wp2_with fail
 go_loopw [17] (fun u wr => ∃ k : Nat, k <= n /\ u = .int .i64 (k : Int) /\ Hid (∀ i, i < k -> Fit L s i) /\ Still w wr) (fun u _ => n - (intOf u).toNat)
 case atStart => exact ⟨0, by omega, rfl, hid (fun i hi => by omega), Fr.refl _ _⟩
 case round =>
  obtain ⟨k, hk, rfl, HF, hs⟩ := hrel
  by_cases hkn : k < n
  ·have hlt : (k : Int) < (n : Int) := by omega
   obtain ⟨B, o, rfl, hc⟩ := (HR.out.still hs).at (by omega)
   obtain ⟨c0, c1, c2⟩ := hc k hkn
   have HS1 := hid (hs.trans (Still.alloc wr (.cells (kcs (pk L k)) 124)))
   have q0 := newK_kb wr (pk L k)
   have HFit := hid (fit_iff (L := L) (s := s) (k := k) (by have := HL.out; omega))
   have HNo := hid (show ¬ Fit L s k -> chkK L s = 100 from fun h => chkK_no (fun hm => h (hm.2.2 k (by have := HL.out; omega))))
   obtain ⟨W, eW⟩ : ∃ W, wr.alloc (.cells (kcs (pk L k)) 124) = W := ⟨_, rfl⟩
   obtain ⟨g, eg⟩ : ∃ g, wr.heap.size = g := ⟨_, rfl⟩
   have q1 : Kb W g (pk L k) := by rw [<- eW, <- eg]; exact q0
   rw [eW] at HS1
   obtain ⟨x, ex⟩ : ∃ x, pk L k = x := ⟨_, rfl⟩
   rw [ex] at c0 c1 c2 q1 eW HFit
   have HM := hid (fun u => mayLie_any x s HH.out.1 HH.out.2 u)
   have HU := hid (fun (u : World) (hu : Still W u) => psuits_any x (L.take k) (some ⟨B, o, none⟩) k cap (by omega) u ((((HR.out.still HS1.out).take (k := k) (by omega))).still hu))
   have hsl : ∀ u, (Instr.slice 31 (.slice (some ⟨B, o, none⟩) n cap) none (some (.int .i64 (k : Int))) none).run Tryz.prog u = .ok (.slice (some ⟨B, o, none⟩) k cap) u := fun u => run_uptoK u _ n cap (k : Int) (by omega) (by have := HCp.out; omega)
   obtain ⟨b, eb⟩ : ∃ b, mayl x s = b := ⟨_, rfl⟩
   obtain ⟨c, ec⟩ : ∃ b, suit x (L.take k) = b := ⟨_, rfl⟩
   rw [eb, ec] at HFit
   rw [eb] at HM
   rw [ec] at HU
   clear q0 hs hc ex eb ec
   go_upto_region 6 with fail
   clear eW eg c0 c1 c2
   obtain ⟨e0, e1, e2, ef⟩ := q1.cells
   have k0 := Cl.cell e0
   have k1 := Cl.cell e1
   have k2 := Cl.cell e2
   have hne := Aft.here W
   clear e0 e1 e2 ef q1
   cases b with
   | false =>
    have HE := hid (HNo.out (fun h => by have := (HFit.out.1 h).1; cases this))
    refine region_all (by kernel_rfl) (by kernel_rfl) ?_
    repeat (go_big_quiet_step ((go_at_call 175; exact Calls.cl (HM.out _))))
    refine wpQuiet_nil ?_
    intro w2 h2
    have HS2 := hid (HS1.out.trans h2)
    clear h2 HS1 hne k0 k1 k2 HFit HNo HM HU hsl
    go_wp2_with fail
    (first | rw [Exit.noGoto_ret] | skip)
    go_ret
    exact ⟨by rw [HE.out]; rfl, HS2.out⟩
   | true =>
    cases c with
    | false =>
     have HE := hid (HNo.out (fun h => by have := (HFit.out.1 h).2; cases this))
     refine region_all (by kernel_rfl) (by kernel_rfl) ?_
     repeat (go_big_quiet_step ((first | (go_at_call 175; exact Calls.cl (HM.out _)) | (go_at_call 176; exact Calls.cl (HU.out _ (Aft.s _))))))
     refine wpQuiet_nil ?_
     intro w2 h2
     have HS2 := hid (HS1.out.trans h2)
     clear h2 HS1 hne k0 k1 k2 HFit HNo HM HU hsl
     go_wp2_with fail
     (first | rw [Exit.noGoto_ret] | skip)
     go_ret
     exact ⟨by rw [HE.out]; rfl, HS2.out⟩
    | true =>
     have HE := hid (show ∀ i, i < k + 1 -> Fit L s i from fun i hi => by
      by_cases e : i = k
      ·subst e; exact HFit.out.2 ⟨rfl, rfl⟩
      ·exact HF.out i (by omega))
     refine region_all (by kernel_rfl) (by kernel_rfl) ?_
     repeat (go_big_quiet_step ((first | (go_at_call 175; exact Calls.cl (HM.out _)) | (go_at_call 176; exact Calls.cl (HU.out _ (Aft.s _))))))
     refine wpQuiet_nil ?_
     intro w2 h2
     have HS2 := hid (HS1.out.trans h2)
     clear h2 HS1 hne k0 k1 k2 HFit HNo HM HU hsl
     go_wp2_with fail
     go_roundw
     case rel => exact ⟨k + 1, by omega, by go_num, HE, HS2.out⟩
     case measure => simp [intOf]; omega
  ·have hge : ¬ (k : Int) < (n : Int) := by omega
   have HE : Hid (chkK L s = 0) := hid (chkK_yes ⟨HH.out, by rw [HL.out]; exact h8, fun i hi => HF.out i (by have := HL.out; omega)⟩)
   have HS1 := hid hs
   clear hs
   go_wp2_with fail
   go_ret
   exact ⟨by rw [HE.out]; rfl, HS1.out⟩
theorem pchk_any (L : List Pk) (s : Int) (ao : Option Addr) (n cap : Nat) (w : World) (hr : RdK w ao n L) (hcap : n <= cap) : Calls Tryz.prog 139 #[.slice ao n cap, .int .i64 s] w fun e w' => e = .returned (.int .i64 (chkK L s)) /\ Still w w' := by
 by_cases hs : 0 <= s /\ s <= 16
 ·by_cases h8 : n <= 8
  ·exact pchk_in L s ao n cap w hr hcap hs.1 hs.2 h8
  ·have HE : Hid (chkK L s = 100) := hid (chkK_no (fun h => by have := h.2.1; have := hr.1; omega))
   have h8' : decide ((8 : Int) < (n : Int)) = true := by simp; omega
   have HW := hid (fun w => pwithin_any s 0 16 w)
   rw [show amg s 0 16 = true by unfold amg; simp; omega] at HW
   clear hr hs hcap h8
   go_enter Tryz.func139, Tryz.ntmps139
   go_wp2_with fail
   refine (HW.out _).mono ?_
   rintro e w2 ⟨he, hw⟩
   rw [he, hw]
   clear he hw w2 HW
   go_wp2_with fail
   go_ret
   exact ⟨by rw [HE.out]; rfl, Fr.refl _ _⟩
 ·have HE : Hid (chkK L s = 100) := hid (chkK_no (fun h => hs h.1))
  have HW := hid (fun w => pwithin_any s 0 16 w)
  rw [show amg s 0 16 = false by unfold amg; rw [Bool.and_eq_false_iff]; simp only [decide_eq_false_iff_not]; omega] at HW
  clear hr hs hcap
  go_enter Tryz.func139, Tryz.ntmps139
  go_wp2_with fail
  refine (HW.out _).mono ?_
  rintro e w2 ⟨he, hw⟩
  rw [he, hw]
  clear he hw w2 HW
  go_wp2_with fail
  go_ret
  exact ⟨by rw [HE.out]; rfl, Fr.refl _ _⟩
end Go.Proofs.YthcjckgmdokmdaaGreatDoor
namespace Go.Proofs.YthcjckgmdokmdaaGreatDoor
open Go.RowKit
open Pu Gp Np Ka
set_option maxRecDepth 100000
end Go.Proofs.YthcjckgmdokmdaaGreatDoor
set_option maxRecDepth 100000
namespace Go.Proofs.YthcjckgmdokmdaaGreatDoor.Ygp
open Pu Gp Ap Vp Np Za Ka Ja
/-! pairs -/
def inr {n : Nat} (a : Fin n) (q : List (Fin n)) : List (Fin n × Fin n) := q.flatMap fun b => if a.1 < b.1 then [(a, b)] else []
def met (L : List Mv) (l : List (Fin L.length × Fin L.length)) : List (Int × Int) := l.flatMap fun p => if ov (mm L p.1.1) (mm L p.2.1).ax (mm L p.2.1).ay 1280 then [((p.1.1 : Int), (p.2.1 : Int))] else []
end Go.Proofs.YthcjckgmdokmdaaGreatDoor.Ygp
namespace Go.Proofs.YthcjckgmdokmdaaGreatDoor
open Go.RowKit
open Pu Gp Np Ka
set_option maxRecDepth 100000
def badK (L : List Pk) (s : Int) (k : Nat) : Bool := decide ((pk L k).no < 1) || decide (1099511627776 < (pk L k).no) || (decide (0 < k) && decide ((pk L k).no <= (pk L (k - 1)).no)) || decide ((pk L k).sp < 0) || decide (s <= (pk L k).sp) || decide ((pk L k).kd < 1) || decide (3 < (pk L k).kd)
theorem badK_fit {L : List Pk} {s : Int} {k : Nat} (h : badK L s k = false) (hs : ∀ q, q < k -> (pk L q).sp ≠ (pk L k).sp) : Fit L s k := by
 unfold badK at h
 simp only [Bool.or_eq_false_iff, Bool.and_eq_false_iff, decide_eq_false_iff_not] at h
 exact ⟨by omega, fun h0 => by omega, by omega, by omega, hs⟩
theorem badK_no {L : List Pk} {s : Int} {k : Nat} (h : badK L s k = true) : ¬ Fit L s k := by
 rintro ⟨h1, h2, h3, h4, _⟩
 unfold badK at h
 simp only [Bool.or_eq_true, Bool.and_eq_true, decide_eq_true_eq] at h
 have := h2
 omega
theorem RdK.get {w : World} {B o n : Nat} {L : List Pk} (h : RdK w (some ⟨B, o, none⟩) n L) {i : Nat} (hi : i < n) : w.cell? ⟨B, o + i * 3, none⟩ = some (.int .i64 (pk L i).no) /\ w.cell? ⟨B, o + i * 3 + 1, none⟩ = some (.int .i64 (pk L i).sp) /\ w.cell? ⟨B, o + i * 3 + 2, none⟩ = some (.int .i64 (pk L i).kd) := by
 obtain ⟨B', o', e, hc⟩ := h.at (by omega)
 cases e
 exact hc i hi
theorem cases7 (a p sp kd s : Int) (k : Nat) (r : Bool) (hr : (decide (a < 1) || decide (1099511627776 < a) || (decide (0 < k) && decide (a <= p)) || decide (sp < 0) || decide (s <= sp) || decide (kd < 1) || decide (3 < kd)) = r) :
  ((a < 1) /\ decide (a < 1) = true /\ r = true) \/
  ((¬ a < 1) /\ decide (a < 1) = false /\ (1099511627776 < a) /\ decide (1099511627776 < a) = true /\ r = true) \/
  ((¬ a < 1) /\ decide (a < 1) = false /\ (¬ 1099511627776 < a) /\ decide (1099511627776 < a) = false /\ (0 : Int) < (k : Int) /\ decide ((0 : Int) < (k : Int)) = true /\ decide (0 < k) = true /\ (a <= p) /\ decide (a <= p) = true /\ r = true) \/
  ((¬ a < 1) /\ decide (a < 1) = false /\ (¬ 1099511627776 < a) /\ decide (1099511627776 < a) = false /\ (0 : Int) < (k : Int) /\ decide ((0 : Int) < (k : Int)) = true /\ decide (0 < k) = true /\ (¬ a <= p) /\ decide (a <= p) = false /\ (sp < 0) /\ decide (sp < 0) = true /\ r = true) \/
  ((¬ a < 1) /\ decide (a < 1) = false /\ (¬ 1099511627776 < a) /\ decide (1099511627776 < a) = false /\ (0 : Int) < (k : Int) /\ decide ((0 : Int) < (k : Int)) = true /\ decide (0 < k) = true /\ (¬ a <= p) /\ decide (a <= p) = false /\ (¬ sp < 0) /\ decide (sp < 0) = false /\ (s <= sp) /\ decide (s <= sp) = true /\ r = true) \/
  ((¬ a < 1) /\ decide (a < 1) = false /\ (¬ 1099511627776 < a) /\ decide (1099511627776 < a) = false /\ (0 : Int) < (k : Int) /\ decide ((0 : Int) < (k : Int)) = true /\ decide (0 < k) = true /\ (¬ a <= p) /\ decide (a <= p) = false /\ (¬ sp < 0) /\ decide (sp < 0) = false /\ (¬ s <= sp) /\ decide (s <= sp) = false /\ (kd < 1) /\ decide (kd < 1) = true /\ r = true) \/
  ((¬ a < 1) /\ decide (a < 1) = false /\ (¬ 1099511627776 < a) /\ decide (1099511627776 < a) = false /\ (0 : Int) < (k : Int) /\ decide ((0 : Int) < (k : Int)) = true /\ decide (0 < k) = true /\ (¬ a <= p) /\ decide (a <= p) = false /\ (¬ sp < 0) /\ decide (sp < 0) = false /\ (¬ s <= sp) /\ decide (s <= sp) = false /\ (¬ kd < 1) /\ decide (kd < 1) = false /\ (3 < kd) /\ decide (3 < kd) = true /\ r = true) \/
  ((¬ a < 1) /\ decide (a < 1) = false /\ (¬ 1099511627776 < a) /\ decide (1099511627776 < a) = false /\ (0 : Int) < (k : Int) /\ decide ((0 : Int) < (k : Int)) = true /\ decide (0 < k) = true /\ (¬ a <= p) /\ decide (a <= p) = false /\ (¬ sp < 0) /\ decide (sp < 0) = false /\ (¬ s <= sp) /\ decide (s <= sp) = false /\ (¬ kd < 1) /\ decide (kd < 1) = false /\ (¬ 3 < kd) /\ decide (3 < kd) = false /\ r = false) \/
  ((¬ a < 1) /\ decide (a < 1) = false /\ (¬ 1099511627776 < a) /\ decide (1099511627776 < a) = false /\ (¬ (0 : Int) < (k : Int)) /\ decide ((0 : Int) < (k : Int)) = false /\ decide (0 < k) = false /\ (sp < 0) /\ decide (sp < 0) = true /\ r = true) \/
  ((¬ a < 1) /\ decide (a < 1) = false /\ (¬ 1099511627776 < a) /\ decide (1099511627776 < a) = false /\ (¬ (0 : Int) < (k : Int)) /\ decide ((0 : Int) < (k : Int)) = false /\ decide (0 < k) = false /\ (¬ sp < 0) /\ decide (sp < 0) = false /\ (s <= sp) /\ decide (s <= sp) = true /\ r = true) \/
  ((¬ a < 1) /\ decide (a < 1) = false /\ (¬ 1099511627776 < a) /\ decide (1099511627776 < a) = false /\ (¬ (0 : Int) < (k : Int)) /\ decide ((0 : Int) < (k : Int)) = false /\ decide (0 < k) = false /\ (¬ sp < 0) /\ decide (sp < 0) = false /\ (¬ s <= sp) /\ decide (s <= sp) = false /\ (kd < 1) /\ decide (kd < 1) = true /\ r = true) \/
  ((¬ a < 1) /\ decide (a < 1) = false /\ (¬ 1099511627776 < a) /\ decide (1099511627776 < a) = false /\ (¬ (0 : Int) < (k : Int)) /\ decide ((0 : Int) < (k : Int)) = false /\ decide (0 < k) = false /\ (¬ sp < 0) /\ decide (sp < 0) = false /\ (¬ s <= sp) /\ decide (s <= sp) = false /\ (¬ kd < 1) /\ decide (kd < 1) = false /\ (3 < kd) /\ decide (3 < kd) = true /\ r = true) \/
  ((¬ a < 1) /\ decide (a < 1) = false /\ (¬ 1099511627776 < a) /\ decide (1099511627776 < a) = false /\ (¬ (0 : Int) < (k : Int)) /\ decide ((0 : Int) < (k : Int)) = false /\ decide (0 < k) = false /\ (¬ sp < 0) /\ decide (sp < 0) = false /\ (¬ s <= sp) /\ decide (s <= sp) = false /\ (¬ kd < 1) /\ decide (kd < 1) = false /\ (¬ 3 < kd) /\ decide (3 < kd) = false /\ r = false) := by
 have e : decide ((0 : Int) < (k : Int)) = decide (0 < k) := by simp
 rw [e]
 by_cases h1 : a < 1
 ·simp [h1] at hr; exact .inl ⟨h1, by simp [h1], hr⟩
 right
 by_cases h2 : 1099511627776 < a
 ·simp [h2] at hr; exact .inl ⟨h1, by simp [h1], h2, by simp [h2], hr⟩
 right
 by_cases hg : 0 < k
 ·have hg' : (0 : Int) < (k : Int) := by omega
  by_cases h3 : a <= p
  ·simp [hg, h3] at hr; exact .inl ⟨h1, by simp [h1], h2, by simp [h2], hg', by simp [hg], by simp [hg], h3, by simp [h3], hr⟩
  right
  by_cases h4 : sp < 0
  ·simp [h4] at hr; exact .inl ⟨h1, by simp [h1], h2, by simp [h2], hg', by simp [hg], by simp [hg], h3, by simp [h3], h4, by simp [h4], hr⟩
  right
  by_cases h5 : s <= sp
  ·simp [h5] at hr; exact .inl ⟨h1, by simp [h1], h2, by simp [h2], hg', by simp [hg], by simp [hg], h3, by simp [h3], h4, by simp [h4], h5, by simp [h5], hr⟩
  right
  by_cases h6 : kd < 1
  ·simp [h6] at hr; exact .inl ⟨h1, by simp [h1], h2, by simp [h2], hg', by simp [hg], by simp [hg], h3, by simp [h3], h4, by simp [h4], h5, by simp [h5], h6, by simp [h6], hr⟩
  right
  by_cases h7 : 3 < kd
  ·simp [h7] at hr; exact .inl ⟨h1, by simp [h1], h2, by simp [h2], hg', by simp [hg], by simp [hg], h3, by simp [h3], h4, by simp [h4], h5, by simp [h5], h6, by simp [h6], h7, by simp [h7], hr⟩
  right
  simp only [h1, h2, h3, h4, h5, h6, h7, decide_false, Bool.or_false, Bool.and_false] at hr
  exact .inl ⟨h1, by simp [h1], h2, by simp [h2], hg', by simp [hg], by simp [hg], h3, by simp [h3], h4, by simp [h4], h5, by simp [h5], h6, by simp [h6], h7, by simp [h7], hr.symm⟩
 ·have hg' : ¬ (0 : Int) < (k : Int) := by omega
  right; right; right; right; right; right
  by_cases h4 : sp < 0
  ·simp [h4] at hr; exact .inl ⟨h1, by simp [h1], h2, by simp [h2], hg', by simp [hg], by simp [hg], h4, by simp [h4], hr⟩
  right
  by_cases h5 : s <= sp
  ·simp [h5] at hr; exact .inl ⟨h1, by simp [h1], h2, by simp [h2], hg', by simp [hg], by simp [hg], h4, by simp [h4], h5, by simp [h5], hr⟩
  right
  by_cases h6 : kd < 1
  ·simp [h6] at hr; exact .inl ⟨h1, by simp [h1], h2, by simp [h2], hg', by simp [hg], by simp [hg], h4, by simp [h4], h5, by simp [h5], h6, by simp [h6], hr⟩
  right
  by_cases h7 : 3 < kd
  ·simp [h7] at hr; exact .inl ⟨h1, by simp [h1], h2, by simp [h2], hg', by simp [hg], by simp [hg], h4, by simp [h4], h5, by simp [h5], h6, by simp [h6], h7, by simp [h7], hr⟩
  right
  simp only [h1, h2, hg, h4, h5, h6, h7, decide_false, Bool.or_false, Bool.false_and] at hr
  exact ⟨h1, by simp [h1], h2, by simp [h2], hg', by simp [hg], by simp [hg], h4, by simp [h4], h5, by simp [h5], h6, by simp [h6], h7, by simp [h7], hr.symm⟩
set_option maxHeartbeats 8000000 in
theorem rchk10_in (L : List Pk) (s : Int) (ao : Option Addr) (n cap : Nat) (w : World) (hr : RdK w ao n L) (h0 : ¬ s < 0) (h1 : decide (16 < s) = false) (h8 : decide ((8 : Int) < (n : Int)) = false) : Calls Tryz.prog 50 #[.slice ao n cap, .int .i64 s] w fun e w' => e = .returned (.int .i64 (chkK L s)) /\ Still w w' := by
 have HN := hid (show (0 <= s /\ s <= 16) /\ n <= 8 by simp at h1 h8; omega)
 have HL := hid hr.1
 go_enter Tryz.func50, Tryz.ntmps50
 go_wp2_with fail
 clear h0 h1 h8
 go_loopw [5] (fun u wr => ∃ k : Nat, k <= n /\ u = .int .i64 (k : Int) /\ Hid (∀ i, i < k -> Fit L s i) /\ Still w wr) (fun u _ => n - (intOf u).toNat)
 case atStart => exact ⟨0, by omega, rfl, hid (fun i hi => by omega), Fr.refl _ _⟩
 case round =>
  obtain ⟨k, hk, rfl, HF, hs⟩ := hrel
  by_cases hkn : k < n
  ·have hlt : (k : Int) < (n : Int) := by omega
   obtain ⟨B, o, rfl, hc⟩ := (hr.still hs).at (by omega)
   have HC := hid hc
   obtain ⟨c0, c1, c2⟩ := hc k hkn
   have HS1 := hid (hs.trans (Still.alloc wr (.cells (kcs (pk L k)) 124)))
   have q0 := newK_kb wr (pk L k)
   have A0 := Still.alloc wr (.cells (kcs (pk L k)) 124)
   have on : ∀ {p : Addr} {x : Value}, wr.cell? p = some x -> (newK wr (pk L k)).cell? p = some x := fun hp => (A0.cell (World.block_lt_of_cell? wr _ hp) (fun e => e)).trans hp
   have f0 : 0 < k -> (newK wr (pk L k)).cell? ⟨B, o + (k - 1) * 3, none⟩ = some (.int .i64 (pk L (k - 1)).no) := fun h => on (hc (k - 1) (by omega)).1
   have HR0 := hid hr
   have hcs := cases7 (pk L k).no (pk L (k - 1)).no (pk L k).sp (pk L k).kd s k (badK L s k) rfl
   have HBad := hid (show badK L s k = true -> chkK L s = 100 from fun h => chkK_no (fun hm => badK_no h (hm.2.2 k (by rw [HL.out]; exact hkn))))
   have HGood := hid (show badK L s k = false -> ∀ q, q < k -> (pk L q).sp = (pk L k).sp -> chkK L s = 100 from fun _ q hq he => chkK_no (fun hm => (hm.2.2 k (by rw [HL.out]; exact hkn)).2.2.2.2 q hq he))
   have HFit := hid (fun h hq => badK_fit (L := L) (s := s) (k := k) h hq)
   obtain ⟨W, eW⟩ : ∃ W, wr.alloc (.cells (kcs (pk L k)) 124) = W := ⟨_, rfl⟩
   obtain ⟨g, eg⟩ : ∃ g, wr.heap.size = g := ⟨_, rfl⟩
   have q1 : Kb W g (pk L k) := by rw [<- eW, <- eg]; exact q0
   have f1 : 0 < k -> W.cell? ⟨B, o + (k - 1) * 3, none⟩ = some (.int .i64 (pk L (k - 1)).no) := by rw [<- eW]; exact f0
   rw [eW] at HS1
   clear on f0 q0 hr hs hc A0 HC
   obtain ⟨x, ex⟩ : ∃ x, pk L k = x := ⟨_, rfl⟩
   obtain ⟨pv, ep⟩ : ∃ x, (pk L (k - 1)).no = x := ⟨_, rfl⟩
   obtain ⟨bad, eb⟩ : ∃ b, badK L s k = b := ⟨_, rfl⟩
   have HX := hid ex
   rw [ex] at c0 c1 c2 q1 hcs eW HGood
   rw [ep] at hcs f1
   rw [eb] at hcs HBad HGood HFit
   clear ex ep eb
   go_upto_region 7 with fail
   clear eW eg
   obtain ⟨e0, e1, e2, ef⟩ := q1.cells
   have k0 := Cl.cell e0
   have k1 := Cl.cell e1
   have k2 := Cl.cell e2
   have hne := Aft.here W
   clear e0 e1 e2 ef c0 c1 c2
   rcases hcs with ⟨h1, d1, rfl⟩ | ⟨h1, d1, h2, d2, rfl⟩ | ⟨h1, d1, h2, d2, hg, dg, dg2, h3, d3, rfl⟩ | ⟨h1, d1, h2, d2, hg, dg, dg2, h3, d3, h4, d4, rfl⟩ | ⟨h1, d1, h2, d2, hg, dg, dg2, h3, d3, h4, d4, h5, d5, rfl⟩ | ⟨h1, d1, h2, d2, hg, dg, dg2, h3, d3, h4, d4, h5, d5, h6, d6, rfl⟩ | ⟨h1, d1, h2, d2, hg, dg, dg2, h3, d3, h4, d4, h5, d5, h6, d6, h7, d7, rfl⟩ | ⟨h1, d1, h2, d2, hg, dg, dg2, h3, d3, h4, d4, h5, d5, h6, d6, h7, d7, rfl⟩ | ⟨h1, d1, h2, d2, hg, dg, dg2, h4, d4, rfl⟩ | ⟨h1, d1, h2, d2, hg, dg, dg2, h4, d4, h5, d5, rfl⟩ | ⟨h1, d1, h2, d2, hg, dg, dg2, h4, d4, h5, d5, h6, d6, rfl⟩ | ⟨h1, d1, h2, d2, hg, dg, dg2, h4, d4, h5, d5, h6, d6, h7, d7, rfl⟩ | ⟨h1, d1, h2, d2, hg, dg, dg2, h4, d4, h5, d5, h6, d6, h7, d7, rfl⟩
   ·have HB := hid (HBad.out rfl)
    clear HBad HGood
    refine region_all (by kernel_rfl) (by kernel_rfl) ?_
    repeat (go_big_quiet_step (fail))
    refine wpQuiet_nil ?_
    intro w2 h2
    have HS2 := hid (HS1.out.trans h2)
    clear h2 HS1 hne k0 k1 k2 HFit q1 f1
    go_wp2_with fail
    (first | rw [Exit.noGoto_ret] | skip)
    go_ret
    exact ⟨by rw [HB.out]; rfl, HS2.out⟩
   ·have HB := hid (HBad.out rfl)
    clear HBad HGood
    refine region_all (by kernel_rfl) (by kernel_rfl) ?_
    repeat (go_big_quiet_step (fail))
    refine wpQuiet_nil ?_
    intro w2 h2
    have HS2 := hid (HS1.out.trans h2)
    clear h2 HS1 hne k0 k1 k2 HFit q1 f1
    go_wp2_with fail
    (first | rw [Exit.noGoto_ret] | skip)
    go_ret
    exact ⟨by rw [HB.out]; rfl, HS2.out⟩
   ·have k3 := Cl.cell (f1 (by omega))
    have hk8 : k < 8 := by have := HN.out; omega
    have HB := hid (HBad.out rfl)
    clear HBad HGood
    refine region_all (by kernel_rfl) (by kernel_rfl) ?_
    repeat (go_big_quiet_step (fail))
    refine wpQuiet_nil ?_
    intro w2 h2
    have HS2 := hid (HS1.out.trans h2)
    clear h2 HS1 hne k0 k1 k2 HFit q1 f1
    go_wp2_with fail
    (first | rw [Exit.noGoto_ret] | skip)
    go_ret
    exact ⟨by rw [HB.out]; rfl, HS2.out⟩
   ·have k3 := Cl.cell (f1 (by omega))
    have hk8 : k < 8 := by have := HN.out; omega
    have HB := hid (HBad.out rfl)
    clear HBad HGood
    refine region_all (by kernel_rfl) (by kernel_rfl) ?_
    repeat (go_big_quiet_step (fail))
    refine wpQuiet_nil ?_
    intro w2 h2
    have HS2 := hid (HS1.out.trans h2)
    clear h2 HS1 hne k0 k1 k2 HFit q1 f1
    go_wp2_with fail
    (first | rw [Exit.noGoto_ret] | skip)
    go_ret
    exact ⟨by rw [HB.out]; rfl, HS2.out⟩
   ·have k3 := Cl.cell (f1 (by omega))
    have hk8 : k < 8 := by have := HN.out; omega
    have HB := hid (HBad.out rfl)
    clear HBad HGood
    refine region_all (by kernel_rfl) (by kernel_rfl) ?_
    repeat (go_big_quiet_step (fail))
    refine wpQuiet_nil ?_
    intro w2 h2
    have HS2 := hid (HS1.out.trans h2)
    clear h2 HS1 hne k0 k1 k2 HFit q1 f1
    go_wp2_with fail
    (first | rw [Exit.noGoto_ret] | skip)
    go_ret
    exact ⟨by rw [HB.out]; rfl, HS2.out⟩
   ·have k3 := Cl.cell (f1 (by omega))
    have hk8 : k < 8 := by have := HN.out; omega
    have HB := hid (HBad.out rfl)
    clear HBad HGood
    refine region_all (by kernel_rfl) (by kernel_rfl) ?_
    repeat (go_big_quiet_step (fail))
    refine wpQuiet_nil ?_
    intro w2 h2
    have HS2 := hid (HS1.out.trans h2)
    clear h2 HS1 hne k0 k1 k2 HFit q1 f1
    go_wp2_with fail
    (first | rw [Exit.noGoto_ret] | skip)
    go_ret
    exact ⟨by rw [HB.out]; rfl, HS2.out⟩
   ·have k3 := Cl.cell (f1 (by omega))
    have hk8 : k < 8 := by have := HN.out; omega
    have HB := hid (HBad.out rfl)
    clear HBad HGood
    refine region_all (by kernel_rfl) (by kernel_rfl) ?_
    repeat (go_big_quiet_step (fail))
    refine wpQuiet_nil ?_
    intro w2 h2
    have HS2 := hid (HS1.out.trans h2)
    clear h2 HS1 hne k0 k1 k2 HFit q1 f1
    go_wp2_with fail
    (first | rw [Exit.noGoto_ret] | skip)
    go_ret
    exact ⟨by rw [HB.out]; rfl, HS2.out⟩
   ·have k3 := Cl.cell (f1 (by omega))
    have hk8 : k < 8 := by have := HN.out; omega
    have HG2 := hid (HGood.out rfl)
    have HF2 := hid (HFit.out rfl)
    clear HBad HGood HFit
    refine region_all (by kernel_rfl) (by kernel_rfl) ?_
    repeat (go_big_quiet_step (fail))
    refine wpQuiet_nil ?_
    intro w2 h2
    have q2 := q1.still h2
    have HS2 := hid (HS1.out.trans h2)
    clear h2 HS1 hne k0 k1 k2 q1 f1
    go_wp2_with fail
    go_loopw [7] (fun u wr => ∃ q : Nat, q <= k /\ u = .int .i64 (q : Int) /\ Hid (∀ j, j < q -> (pk L j).sp ≠ x.sp) /\ Kb wr g x /\ Still w wr) (fun u _ => k - (intOf u).toNat)
    case atStart => exact ⟨0, by omega, rfl, hid (fun i hi => by omega), q2, HS2.out⟩
    case round =>
     clear q2 HS2
     obtain ⟨q, hq, rfl, HQ, q3, hs3⟩ := hrel
     have HS3 := hid hs3
     clear hs3
     by_cases hqk : q < k
     ·have hlt2 : (q : Int) < (k : Int) := by omega
      obtain ⟨_, z1, _⟩ := (HR0.out.still HS3.out).get (i := q) (by omega)
      obtain ⟨e0, e1, e2, ef⟩ := q3.cells
      have HEq := hid (fun h => HG2.out q hqk h)
      have HNe := hid (show (pk L q).sp ≠ x.sp -> ∀ j, j < q + 1 -> (pk L j).sp ≠ x.sp from fun h j hj => by
       by_cases e : j = q
       ·subst e; exact h
       ·exact HQ.out j (by omega))
      obtain ⟨y, ey⟩ : ∃ y, (pk L q).sp = y := ⟨_, rfl⟩
      obtain ⟨t, et⟩ : ∃ y, x.sp = y := ⟨_, rfl⟩
      rw [ey] at z1 HEq HNe
      rw [et] at e1 HEq
      have k1 := Cl.cell z1
      have k2 := Cl.cell e1
      have hne := Aft.here wr
      clear z1 e0 e1 e2 ef ey HQ
      by_cases hyt : y = t
      ·have hyt' : (y == t) = true := by simpa using hyt
       have HE := hid (HEq.out hyt)
       clear hyt HEq HNe et
       go_wp2_with fail
       refine region_all (by kernel_rfl) (by kernel_rfl) ?_
       repeat (go_big_quiet_step (fail))
       refine wpQuiet_nil ?_
       intro w4 h4
       have HS4 := hid (HS3.out.trans h4)
       clear h4 HS3 hne k1 k2
       go_wp2_with fail
       (first | rw [Exit.noGoto_ret] | skip)
       go_ret
       exact ⟨by rw [HE.out]; rfl, HS4.out⟩
      ·have hyt' : (y == t) = false := by simpa using hyt
       have HE := hid (HNe.out (by rw [et]; exact hyt))
       clear hyt HEq HNe et
       go_wp2_with fail
       refine region_all (by kernel_rfl) (by kernel_rfl) ?_
       repeat (go_big_quiet_step (fail))
       refine wpQuiet_nil ?_
       intro w4 h4
       have HS4 := hid (HS3.out.trans h4)
       have HQ4 := hid (q3.still h4)
       clear h4 HS3 hne k1 k2 q3
       go_wp2_with fail
       go_roundw
       case rel => exact ⟨q + 1, by omega, by go_num, HE, HQ4.out, HS4.out⟩
       case measure => simp [intOf]; omega
     ·have hge2 : ¬ (q : Int) < (k : Int) := by omega
      have HE := hid (show ∀ i, i < k + 1 -> Fit L s i from fun i hi => by
       by_cases e : i = k
       ·subst e; exact HF2.out (fun j hj => HX.out ▸ HQ.out j (by omega))
       ·exact HF.out i (by omega))
      clear hqk hq q3 HF HQ
      go_wp2_with fail
      go_roundw
      case rel => exact ⟨k + 1, by omega, by go_num, HE, HS3.out⟩
      case measure => simp [intOf]; omega
   ·have HB := hid (HBad.out rfl)
    clear HBad HGood
    refine region_all (by kernel_rfl) (by kernel_rfl) ?_
    repeat (go_big_quiet_step (fail))
    refine wpQuiet_nil ?_
    intro w2 h2
    have HS2 := hid (HS1.out.trans h2)
    clear h2 HS1 hne k0 k1 k2 HFit q1 f1
    go_wp2_with fail
    (first | rw [Exit.noGoto_ret] | skip)
    go_ret
    exact ⟨by rw [HB.out]; rfl, HS2.out⟩
   ·have HB := hid (HBad.out rfl)
    clear HBad HGood
    refine region_all (by kernel_rfl) (by kernel_rfl) ?_
    repeat (go_big_quiet_step (fail))
    refine wpQuiet_nil ?_
    intro w2 h2
    have HS2 := hid (HS1.out.trans h2)
    clear h2 HS1 hne k0 k1 k2 HFit q1 f1
    go_wp2_with fail
    (first | rw [Exit.noGoto_ret] | skip)
    go_ret
    exact ⟨by rw [HB.out]; rfl, HS2.out⟩
   ·have HB := hid (HBad.out rfl)
    clear HBad HGood
    refine region_all (by kernel_rfl) (by kernel_rfl) ?_
    repeat (go_big_quiet_step (fail))
    refine wpQuiet_nil ?_
    intro w2 h2
    have HS2 := hid (HS1.out.trans h2)
    clear h2 HS1 hne k0 k1 k2 HFit q1 f1
    go_wp2_with fail
    (first | rw [Exit.noGoto_ret] | skip)
    go_ret
    exact ⟨by rw [HB.out]; rfl, HS2.out⟩
   ·have HB := hid (HBad.out rfl)
    clear HBad HGood
    refine region_all (by kernel_rfl) (by kernel_rfl) ?_
    repeat (go_big_quiet_step (fail))
    refine wpQuiet_nil ?_
    intro w2 h2
    have HS2 := hid (HS1.out.trans h2)
    clear h2 HS1 hne k0 k1 k2 HFit q1 f1
    go_wp2_with fail
    (first | rw [Exit.noGoto_ret] | skip)
    go_ret
    exact ⟨by rw [HB.out]; rfl, HS2.out⟩
   ·have HG2 := hid (HGood.out rfl)
    have HF2 := hid (HFit.out rfl)
    clear HBad HGood HFit
    refine region_all (by kernel_rfl) (by kernel_rfl) ?_
    repeat (go_big_quiet_step (fail))
    refine wpQuiet_nil ?_
    intro w2 h2
    have q2 := q1.still h2
    have HS2 := hid (HS1.out.trans h2)
    clear h2 HS1 hne k0 k1 k2 q1 f1
    go_wp2_with fail
    go_loopw [7] (fun u wr => ∃ q : Nat, q <= k /\ u = .int .i64 (q : Int) /\ Hid (∀ j, j < q -> (pk L j).sp ≠ x.sp) /\ Kb wr g x /\ Still w wr) (fun u _ => k - (intOf u).toNat)
    case atStart => exact ⟨0, by omega, rfl, hid (fun i hi => by omega), q2, HS2.out⟩
    case round =>
     clear q2 HS2
     obtain ⟨q, hq, rfl, HQ, q3, hs3⟩ := hrel
     have HS3 := hid hs3
     clear hs3
     by_cases hqk : q < k
     ·exact absurd hqk (by omega)
     ·have hge2 : ¬ (q : Int) < (k : Int) := by omega
      have HE := hid (show ∀ i, i < k + 1 -> Fit L s i from fun i hi => by
       by_cases e : i = k
       ·subst e; exact HF2.out (fun j hj => HX.out ▸ HQ.out j (by omega))
       ·exact HF.out i (by omega))
      clear hqk hq q3 HF HQ
      go_wp2_with fail
      go_roundw
      case rel => exact ⟨k + 1, by omega, by go_num, HE, HS3.out⟩
      case measure => simp [intOf]; omega
  ·have hge : ¬ (k : Int) < (n : Int) := by omega
   have HE : Hid (chkK L s = 0) := hid (chkK_yes ⟨HN.out.1, by rw [HL.out]; exact HN.out.2, fun i hi => HF.out i (by have := HL.out; omega)⟩)
   have HS1 := hid hs
   clear hs hr hkn hk
   go_wp2_with fail
   go_ret
   exact ⟨by rw [HE.out]; rfl, HS1.out⟩
theorem rchk10_any (L : List Pk) (s : Int) (ao : Option Addr) (n cap : Nat) (w : World) (hr : RdK w ao n L) : Calls Tryz.prog 50 #[.slice ao n cap, .int .i64 s] w fun e w' => e = .returned (.int .i64 (chkK L s)) /\ Still w w' := by
 by_cases h0 : s < 0
 ·have HE : Hid (chkK L s = 100) := hid (chkK_no (fun h => by have := h.1; omega))
  clear hr
  go_enter Tryz.func50, Tryz.ntmps50
  go_wp2_with fail
  go_ret
  exact ⟨by rw [HE.out]; rfl, Fr.refl _ _⟩
 ·by_cases h1 : s > 16
  ·have HE : Hid (chkK L s = 100) := hid (chkK_no (fun h => by have := h.1; omega))
   clear hr
   go_enter Tryz.func50, Tryz.ntmps50
   go_wp2_with fail
   go_ret
   exact ⟨by rw [HE.out]; rfl, Fr.refl _ _⟩
  ·have h1' : decide (16 < s) = false := by simpa using h1
   by_cases h8 : 8 < n
   ·have HE : Hid (chkK L s = 100) := hid (chkK_no (fun h => by have := h.2.1; have := hr.1; omega))
    have h8' : (n : Int) > 8 := by omega
    clear hr
    go_enter Tryz.func50, Tryz.ntmps50
    go_wp2_with fail
    go_ret
    exact ⟨by rw [HE.out]; rfl, Fr.refl _ _⟩
   ·exact rchk10_in L s ao n cap w hr h0 h1' (by simp; omega)
end Go.Proofs.YthcjckgmdokmdaaGreatDoor
set_option maxRecDepth 100000
namespace Go.Proofs.YthcjckgmdokmdaaGreatDoor.Ha
open Pu Gp Ap Vp Np Za Ka Ja Ea
end Go.Proofs.YthcjckgmdokmdaaGreatDoor.Ha
