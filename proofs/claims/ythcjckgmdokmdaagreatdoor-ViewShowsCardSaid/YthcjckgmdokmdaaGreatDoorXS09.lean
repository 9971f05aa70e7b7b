/- Parts of the proof, laid end to end. -/
set_option maxRecDepth 100000
namespace Go.Proofs.YthcjckgmdokmdaaGreatDoor.Ea
structure Scr where
 p : Int
 h : Int
 o : Int
 k : Int
def zC : Scr := ⟨0, 0, 0, 0⟩
def MayC (s : Scr) : Prop := (-2147483647 <= s.p /\ s.p <= 2147483647) /\ (0 <= s.h /\ s.h <= 2147483647) /\ (0 <= s.o /\ s.o <= 2147483647) /\ (0 <= s.k /\ s.k <= 2147483647)
def decMayC (s : Scr) : Decidable (MayC s) := by unfold MayC; infer_instance
def mayC (s : Scr) : Bool := @decide (MayC s) (decMayC s)
theorem mayC_iff {s : Scr} : mayC s = true ↔ MayC s := @decide_eq_true_iff (MayC s) (decMayC s)
theorem mayC_no {s : Scr} (h : ¬ MayC s) : mayC s = false := by
 cases e : mayC s with
 | false => rfl
 | true => exact absurd (mayC_iff.1 e) h
def chkC (s : Scr) : Int := if mayC s then 0 else 120
theorem chkC_yes {s : Scr} (h : MayC s) : chkC s = 0 := by unfold chkC; rw [mayC_iff.2 h]; rfl
theorem chkC_no {s : Scr} (h : ¬ MayC s) : chkC s = 120 := by unfold chkC; rw [mayC_no h]; rfl
def bdC (n : Int) : Int := if n > 2147483647 then 2147483647 else if n < -2147483647 then -2147483647 else n
def moreC (s : Scr) (w : Int) (out : Bool) : Int := if out then w + 10 + (if s.k < 5 then s.k else 5) else w
def hitA (s : Scr) (w : Int) (out : Bool) : Scr := ⟨bdC (s.p + moreC s w out), bdC (s.h + 1), s.o, if out then bdC (s.k + 1) else s.k⟩
def hitW (s : Scr) (out : Bool) : Scr := if out then ⟨bdC (s.p - 2), s.h, bdC (s.o + 1), 0⟩ else s
def errC (a b : Scr) (w : Int) : Int := if mayC a && mayC b then (if 1 <= w /\ w <= 3 then 0 else 1) else 120
def hit1 (a b : Scr) (w : Int) (out : Bool) : Scr := if errC a b w = 0 then hitA a w out else zC
def hit2 (a b : Scr) (w : Int) (out : Bool) : Scr := if errC a b w = 0 then hitW b out else zC
def errG (s : Scr) (n : Int) : Int := if mayC s then (if 0 <= n /\ n <= 100 then 0 else 1) else 120
def gain (s : Scr) (n : Int) : Scr := if errG s n = 0 then { s with p := bdC (s.p + n) } else zC
def sc (L : List Scr) (i : Nat) : Scr := L.getD i zC
end Go.Proofs.YthcjckgmdokmdaaGreatDoor.Ea
