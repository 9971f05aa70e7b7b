/- Parts of the proof, laid end to end. -/
import Derived.Test.YthcjckgmdokmdaaGreatDoorXS06
import Derived.Test.YthcjckgmdokmdaaGreatDoorXS07
import Derived.Test.YthcjckgmdokmdaaGreatDoorXS01
set_option maxRecDepth 100000
namespace Go.Proofs.YthcjckgmdokmdaaGreatDoor.Ka
open Np
structure Pk where
 no : Int
 sp : Int
 kd : Int
def zK : Pk := ⟨0, 0, 0⟩
def pk (L : List Pk) (i : Nat) : Pk := L.getD i zK
def Fit (L : List Pk) (s : Int) (i : Nat) : Prop :=
 (1 <= (pk L i).no /\ (pk L i).no <= 1099511627776) /\ (0 < i -> (pk L (i - 1)).no < (pk L i).no) /\ (0 <= (pk L i).sp /\ (pk L i).sp < s) /\ (1 <= (pk L i).kd /\ (pk L i).kd <= 3) /\ ∀ k, k < i -> (pk L k).sp ≠ (pk L i).sp
def MayK (L : List Pk) (s : Int) : Prop := (0 <= s /\ s <= 16) /\ L.length <= 8 /\ ∀ i, i < L.length -> Fit L s i
def decMayK (L : List Pk) (s : Int) : Decidable (MayK L s) := by unfold MayK Fit; infer_instance
def mayK (L : List Pk) (s : Int) : Bool := @decide (MayK L s) (decMayK L s)
theorem mayK_iff {L : List Pk} {s : Int} : mayK L s = true ↔ MayK L s := @decide_eq_true_iff (MayK L s) (decMayK L s)
def chkK (L : List Pk) (s : Int) : Int := if mayK L s then 0 else 100
theorem chkK_yes {L : List Pk} {s : Int} (h : MayK L s) : chkK L s = 0 := by unfold chkK; rw [mayK_iff.2 h]; rfl
theorem chkK_no {L : List Pk} {s : Int} (h : ¬ MayK L s) : chkK L s = 100 := by
 unfold chkK
 rw [if_neg (fun e => h (mayK_iff.1 e))]
def lies (L : List Pk) (j : Nat) : Bool := L.any fun x => x.sp == (j : Int)
def fre (L : List Pk) : Nat -> List Int
 | 0 => []
 | j + 1 => fre L j ++ (if lies L j then [] else [(j : Int)])
def argK (f no : Int) : Bool := decide (0 <= f) && decide (f <= 1099511627776) && decide (1 <= no) && decide (no <= 1099511627776)
def errK (L : List Pk) (f s no : Int) : Int := if mayK L s then (if argK f no then 0 else 1) else 100
def comes (L : List Pk) (f s no : Int) : Bool := (errK L f s no == 0) && (f % 16 == 0) && !(L.length == 8) && !((fre L s.toNat).length == 0)
def spotK (q f : Int) (L : List Pk) (s : Int) : Int := (fre L s.toNat).getD (bel (atI q f 1) ((fre L s.toNat).length : Int)).toNat 0
def kindK (q f : Int) : Int := wgt (atI q f 2) [5, 3, 2] + 1
def spwn (q f : Int) (L : List Pk) (s no : Int) : Pk := if comes L f s no then ⟨no, spotK q f L s, kindK q f⟩ else zK
def errT (m : Mv) (k : Int) : Int := if mayB m then (if 1 <= k /\ k <= 3 then 0 else 1) else 80
def taken (m : Mv) (k : Int) : Mv := if m.ou = 0 then (if k = 1 then { m with hl := min (m.hl + 30) 100 } else if k = 2 then { m with en := min (m.en + 40) 100 } else m) else m
def takM (m : Mv) (k : Int) : Mv := if errT m k = 0 then taken m k else zM
def takP (m : Mv) (k : Int) : Int := if errT m k = 0 /\ m.ou = 0 /\ k = 3 then 5 else 0
end Go.Proofs.YthcjckgmdokmdaaGreatDoor.Ka
set_option maxRecDepth 100000
namespace Go.Proofs.YthcjckgmdokmdaaGreatDoor.Ja
open Pu Gp Ap Vp Np Za Ka
def mm (L : List Mv) (i : Nat) : Mv := L.getD i zM
def ss (S : List Sh) (i : Nat) : Sh := S.getD i zS
def pp (T : List (Int × Int)) (i : Nat) : Int × Int := T.getD i (0, 0)
def togB (L : List Mv) : Bool := decide (L.length <= 6) && L.all mayB
def ov (m : Mv) (x y r : Int) : Bool := mt (subf m.ax 1280) (subf m.ay 1280) (addf m.ax 1280) (addf m.ay 1280) (subf x r) (subf y r) (addf x r) (addf y r)
def inn (m : Mv) (x y : Int) : Bool := mt (subf m.ax 1280) (subf m.ay 1280) (addf m.ax 1280) (addf m.ay 1280) x y x y
def two (L : List Mv) (i k : Nat) : Bool := ((mm L i).ou == 0) && ((mm L k).ou == 0) && ov (mm L i) (mm L k).ax (mm L k).ay 1280
def rowB (L : List Mv) (i : Nat) : Nat -> List (Int × Int)
 | 0 => []
 | k + 1 => rowB L i k ++ (if decide (i < k) && two L i k then [((i : Int), (k : Int))] else [])
def allB (L : List Mv) : Nat -> List (Int × Int)
 | 0 => []
 | i + 1 => allB L i ++ rowB L i L.length
def bod (L : List Mv) : List (Int × Int) := if togB L then allB L L.length else []
def aptE (a b : Mv) : Bool := mayB a && mayB b
def aptA (a b : Mv) : Mv := if aptE a b then (if a.ou = 0 /\ b.ou = 0 then { a with sx := b.sx, sy := b.sy } else a) else zM
def Flo (S : List Sh) : Prop := S.length <= 48 /\ ∀ i, i < S.length -> maySB (ss S i) = true /\ (0 < i -> (ss S (i - 1)).no < (ss S i).no)
def decFlo (S : List Sh) : Decidable (Flo S) := by unfold Flo; infer_instance
def flo (S : List Sh) : Bool := @decide (Flo S) (decFlo S)
theorem flo_iff {S : List Sh} : flo S = true ↔ Flo S := @decide_eq_true_iff (Flo S) (decFlo S)
theorem flo_no {S : List Sh} (h : ¬ Flo S) : flo S = false := by
 cases e : flo S with
 | false => rfl
 | true => exact absurd (flo_iff.1 e) h
def lo (P : Nat -> Bool) : Nat -> Nat -> Int
 | _, 0 => -1
 | k, m + 1 => if P k then (k : Int) else lo P (k + 1) m
def rowS (P : Nat -> Nat -> Bool) (n : Nat) : Nat -> List (Int × Int)
 | 0 => []
 | i + 1 => rowS P n i ++ (if 0 <= lo (P i) 0 n then [((i : Int), lo (P i) 0 n)] else [])
def hS (L : List Mv) (s : Sh) (k : Nat) : Bool := ((mm L k).ou == 0) && !((k : Int) == s.ow) && inn (mm L k) s.ax s.ay
def shoE (L : List Mv) (S : List Sh) : Bool := togB L && flo S
def sho (L : List Mv) (S : List Sh) : List (Int × Int) := if shoE L S then rowS (fun i k => hS L (ss S i) k) L.length S.length else []
def hP (L : List Mv) (p : Int × Int) (k : Nat) : Bool := ((mm L k).ou == 0) && ov (mm L k) p.1 p.2 768
def picE (L : List Mv) (Q : List Pk) (T : List (Int × Int)) : Bool := togB L && mayK Q (T.length : Int)
def pic (L : List Mv) (Q : List Pk) (T : List (Int × Int)) : List (Int × Int) := if picE L Q T then rowS (fun i k => hP L (pp T (pk Q i).sp.toNat) k) L.length Q.length else []
end Go.Proofs.YthcjckgmdokmdaaGreatDoor.Ja
