/- Parts of the proof, laid end to end. -/
import Derived.Test.YtkgbmefaphhcnaaGreatDoorZU26
import Derived.Test.YtkgbmefaphhcnaaGreatDoorZU27
import Derived.Test.YtkgbmefaphhcnaaGreatDoorZU32
import Derived.Test.YtkgbmefaphhcnaaGreatDoorZU39
namespace Go.Proofs.YtkgbmefaphhcnaaGreatDoor
open Go.RowKit
open Pu Gp Ap Vp Np Za Ka Ja Ea Ha Hg Hi
set_option maxRecDepth 100000
set_option linter.unusedVariables false
theorem lags_pos {l : List Int} (h : Lags l) : ∀ i, i < l.length -> 0 <= lgs l i /\ lgs l i < 48
 | 0, _ => by rw [h.2.2.1]; omega
 | i + 1, hi => by
  have h1 := lags_pos h i (by omega)
  have h2 := h.2.2.2 (i + 1) (by omega) hi
  rw [show i + 1 - 1 = i by omega] at h2
  omega
theorem cfg_in {p v : Int} {k q : Nat} {C R : Int} {s : ByteArray} {l : List Int} (hv : ChkV C R s v) (hq : q < 18446744073709551616) (h : CfgP p v k l) : InC p q C R s l := by
 obtain ⟨h1, h2, h3, h4, h5⟩ := h
 subst h3
 obtain ⟨q1, q2, q3, q4, q5, q6⟩ := form_shape (chkV_ok hv)
 refine ⟨⟨by omega, by omega⟩, hq, ⟨by omega, by omega⟩, ⟨by omega, by omega⟩, fun n hn => ?_, ?_⟩
 ·obtain ⟨i, hi, e⟩ := getmem 0 hn
  have := lags_pos h5 i hi
  unfold lgs at this
  rw [e] at this
  exact ⟨by omega, by omega⟩
 ·have := h5.2.1
  omega
theorem form6 {n : Int} (h1 : -1099511627776 <= n) (h2 : n <= 1099511627776) : (Cp.form (Cp.fold n)).length <= 6 := Cp.form_le 6 _ (by omega) (by unfold Cp.fold; split <;> omega)
theorem nsB_le6 : ∀ {l : List Int}, (∀ n ∈ l, -1099511627776 <= n /\ n <= 1099511627776) -> (nsB l).length <= 6 * l.length
 | [], _ => by simp [nsB]
 | n :: l, h => by
  have h1 := nsB_le6 (l := l) (fun m hm => h m (List.mem_cons_of_mem _ hm))
  have h3 := h n (List.mem_cons_self ..)
  have h2 := form6 h3.1 h3.2
  rw [show n :: l = [n] ++ l from rfl, nsB_app, nsB_one, List.length_append, List.length_append]
  simp
  omega
theorem fits_len {p : Int} {E : Env} {W : Wd} (h : Fits p E W) (hp : p <= 6) : (wdB W).length <= 4000 := by
 obtain ⟨hh, l1, l2, l3, l4⟩ := fits_in h
 obtain ⟨⟨_, r1, _⟩, _⟩ := h
 have zm := flat_le mvB 121 W.ms (fun x hx => mvB_le (hh.ms x hx))
 have zc := flat_le scB 40 W.cs (fun x hx => scB_le (hh.cs x hx))
 have zh := flat_le shB 48 W.hs (fun x hx => by
  obtain ⟨i, hi, e⟩ := getmem zS hx
  have hm : MayS x := by
   have := maySB_iff.1 (r1.2 i hi).1
   unfold ss at this
   rw [e] at this
   exact this
  obtain ⟨⟨a1, a2⟩, ⟨b1, b2⟩, ⟨c1, c2⟩, ⟨d1, d2, d3, d4⟩, ⟨e1, e2, e3, e4⟩, ⟨g1, g2⟩⟩ := hm
  have e9 : shB x = nsB (shN x) := by
   unfold shB shN
   rw [<- nsB_app, <- nsB_app, <- nsB_app]
   rfl
  have z := nsB_le6 (l := shN x) (fun n hn => by
   simp only [shN, List.mem_cons, List.not_mem_nil, or_false] at hn
   rcases hn with rfl | rfl | rfl | rfl | rfl | rfl | rfl | rfl <;> (constructor <;> omega))
  have l : (shN x).length = 8 := rfl
  rw [e9]
  omega)
 have zk := flat_le pkB 30 W.ks (fun x hx => pkB_le (hh.ks x hx))
 have zf := form10 hh.fr
 have z3 := Cp.form_ten (n := W.hs.length) (by omega)
 have z4 := Cp.form_ten (n := W.ks.length) (by omega)
 have zn := nsB_le (l := [W.nx]) (fun n hn => by simp only [List.mem_cons, List.not_mem_nil, or_false] at hn; rw [hn]; exact hh.nx)
 have hp6 : p.toNat <= 6 := by omega
 unfold wdB
 simp only [List.length_append, List.length_cons, List.length_nil] at zn ⊢
 omega
structure Ck14 (p : Int) (q : Nat) (C R : Int) (s : ByteArray) (lo : Option Addr) (ln lc : Nat) (l : List Int) (w : World) (X : Int) (x : Wd -> Int) : Prop where
 cfg : ∀ u, Still w u -> Calls Tryz.prog 42 #[.agg #[.int .i64 p, .int .u64 (q : Int), .int .i64 C, .int .i64 R, .string s, .slice lo ln lc]] u fun e w' => e = .returned (.int .i64 X) /\ Still u w'
 chk : ∀ u v W, Still w u -> RdW u v W -> Calls Tryz.prog 31 #[.agg #[.int .i64 p, .int .u64 (q : Int), .int .i64 C, .int .i64 R, .string s, .slice lo ln lc], v] u fun e w' => e = .returned (.int .i64 (x W)) /\ Still u w'
 ok : ∀ W, x W = 0 -> X = 0 /\ Wr14 p.toNat W /\ 121 * W.ms.length + 40 * W.cs.length + 80 * W.hs.length + 30 * W.ks.length + 50 <= 1000000
 inc : X = 0 -> InC p q C R s l /\ 2 <= p /\ p <= 6
 no : X ≠ 0 -> ∀ W, x W = X
 len : ∀ W, x W = 0 -> (wdB W).length <= 4000
end Go.Proofs.YtkgbmefaphhcnaaGreatDoor
