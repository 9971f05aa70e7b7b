/- Parts of the proof, laid end to end. -/
import Derived.Test.YthcjckgmdokmdaaGreatDoorXS34
import Derived.Test.YthcjckgmdokmdaaGreatDoorXS38
import Derived.Test.YthcjckgmdokmdaaGreatDoorXS39
import Derived.Test.YthcjckgmdokmdaaGreatDoorXS30
import Derived.Test.YthcjckgmdokmdaaGreatDoorXS33
namespace Go.Proofs.YthcjckgmdokmdaaGreatDoor
open Go.RowKit
open Pu Gp Ap Vp Np Za Ka Ja Ea Ha Hg Hi
set_option maxRecDepth 100000
abbrev envV (q C R : Int) (s : ByteArray) (v0 : Int) : Env := ⟨solB C R s, stV C s v0, spV C s v0, q⟩
theorem shows23_law (p q C R : Int) (s : ByteArray) (lo : Option Addr) (ln lc : Nat) (l : List Int) (hz : s.size <= 281474976710656) (W : Wd) (v : Value) (w : World) (ht : PTabV w) (hk : KTab w) (hr : RdI w lo ln lc l) (hv : RdW w v W) :
  Calls Tryz.prog 3 #[.agg #[.int .i64 p, .int .u64 q, .int .i64 C, .int .i64 R, .string s, .slice lo ln lc], v] w fun e w' => e = .returned (.bool true) /\ Still w w' := by
 obtain ⟨v0, hv0⟩ := chkV_ex C R s w
 exact shows_law p q C R s lo ln lc (envV q C R s v0) (CfgP p v0 (stV C s v0).length l /\ Fits p (envV q C R s v0) W) w (cts23_any w ht hk) W v hv
  (fun u hu => vshow_any p q C R s lo ln lc (envV q C R s v0) l u v0 hv0 (fun z => q13_of ⟨p, q, C, R, s, .slice lo ln lc⟩ v0 hv0 z) (spV_plc C s hz v0) (hr.still hu) W v (hv.still hu) (ht.still hu) (hk.still hu))
  (fun u hu => rshow_any p q C R s lo ln lc (envV q C R s v0) l u v0 hv0 (a13_of ⟨p, q, C, R, s, .slice lo ln lc⟩ hz v0 hv0 u) (fun z => spots_of C R s hz v0 hv0 z) (hr.still hu) W v (hv.still hu) (ht.still hu))
end Go.Proofs.YthcjckgmdokmdaaGreatDoor
