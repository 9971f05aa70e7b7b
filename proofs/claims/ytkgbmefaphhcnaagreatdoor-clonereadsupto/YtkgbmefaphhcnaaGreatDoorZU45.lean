/- Parts of the proof, laid end to end. -/
import Derived.Test.YtkgbmefaphhcnaaGreatDoorZU42
import Derived.Test.YtkgbmefaphhcnaaGreatDoorZU23
import Derived.Test.YtkgbmefaphhcnaaGreatDoorZU32
import Derived.Test.YtkgbmefaphhcnaaGreatDoorZU14
import Derived.Test.YtkgbmefaphhcnaaGreatDoorZU15
namespace Go.Proofs.YtkgbmefaphhcnaaGreatDoor
open Go.RowKit
open Pu Gp Ap Vp Np Za Ka Ja Ea Ha
set_option maxRecDepth 100000
def m7 : Mv := ⟨0, 0, 0, 0, 0, 0, 0, 0, 0, false, 0, -7, 0⟩
def c7 : Scr := ⟨0, -7, 0, 0⟩
def s7 : Sh := ⟨-7, 0, 0, 0, 0, 0, 0, 0⟩
end Go.Proofs.YtkgbmefaphhcnaaGreatDoor
namespace Go.Proofs.YtkgbmefaphhcnaaGreatDoor
open Go.RowKit
open Pu Gp Ap Vp Np Za Ka Ja Ea Ha Hg Hi
set_option maxRecDepth 100000
set_option linter.unusedVariables false
def Btw (B D k : Nat) : Prop := B <= k /\ k < D
structure Sj (w u : World) (B D : Nat) (fr nx : Int) (a b c d : Value) (ms : List Mv) (cs : List Scr) (hs : List Sh) (ks : List Pk) : Prop where
 oa : OwG KM 55 u B a ms
 ob : OwG KC 57 u B b cs
 oc : OwG KS 59 u B c hs
 od : OwG KQ 61 u B d ks
 wb : Wdb u w.heap.size fr nx a b c d
 f : Fr (Btw B D) w u
theorem Sj.put1 {w u : World} {B D : Nat} {fr nx : Int} {b c d : Value} {ms : List Mv} {cs : List Scr} {hs : List Sh} {ks : List Pk} {g n y : Nat} (h : Sj w u B D fr nx (.slice (some ⟨g, 0, none⟩) n y) b c d ms cs hs ks) (hg : g < D) {i : Nat} (hi : i < ms.length) (x : Mv) : Sj w (u.setCells g (i * KM.k) (KM.f x)) B D fr nx (.slice (some ⟨g, 0, none⟩) n y) b c d (ms.set i x) cs hs ks := by
 have hT := OwG.setT h.oa (ts := [55]) (by simp) (KM.f x) (i * KM.k) u (FrT.refl _ _ _) (h.oa.ty rfl)
 exact ⟨h.oa.put hi x, h.ob.keepT hT (by decide), h.oc.keepT hT (by decide), h.od.keepT hT (by decide), hT.kept h.wb (by decide), fr_setCells g _ _ u h.f (.inl ⟨(h.oa.block (k := g) rfl).1, hg⟩)⟩
theorem Sj.app1 {w u : World} {B D : Nat} {fr nx : Int} {a b c d : Value} {ms : List Mv} {cs : List Scr} {hs : List Sh} {ks : List Pk} (h : Sj w u B D fr nx a b c d ms cs hs ks) (hd : ∀ k, a.ownBlock = some k -> k < D) {x : Mv} {v' : Value} {v0 : World} (ho : OwG KM 55 v0 B v' (ms ++ [x])) (hf : Fr (fun k => a.ownBlock = some k) (u.alloc (.cells (mcs x) 55)) v0) : Sj w (v0.setCell ⟨w.heap.size, 1, none⟩ v') B D fr nx v' b c d (ms ++ [x]) cs hs ks := by
 have A := Still.alloc u (.cells (mcs x) 55)
 have hT := (h.oa.still A).frT (ts := [55]) hf (Nat.le_refl _) (by simp)
 have hw := hT.kept (h.wb.still A) (by decide)
 have ty := Wdb.ty hw
 exact ⟨ho.setO ty (by decide) v', ((h.ob.still A).keepT hT (by decide)).setO ty (by decide) v', ((h.oc.still A).keepT hT (by decide)).setO ty (by decide) v', ((h.od.still A).keepT hT (by decide)).setO ty (by decide) v', Wdb.s1 hw v', Fr.setCell (Fr.trans (F := Btw B D) (h.f.alloc _) hf (fun k hk e => ⟨(h.oa.block e).1, hd k e⟩)) _ v' (.inr (Nat.le_refl _))⟩
theorem Sj.put2 {w u : World} {B D : Nat} {fr nx : Int} {a c d : Value} {ms : List Mv} {cs : List Scr} {hs : List Sh} {ks : List Pk} {g n y : Nat} (h : Sj w u B D fr nx a (.slice (some ⟨g, 0, none⟩) n y) c d ms cs hs ks) (hg : g < D) {i : Nat} (hi : i < cs.length) (x : Scr) : Sj w (u.setCells g (i * KC.k) (KC.f x)) B D fr nx a (.slice (some ⟨g, 0, none⟩) n y) c d ms (cs.set i x) hs ks := by
 have hT := OwG.setT h.ob (ts := [57]) (by simp) (KC.f x) (i * KC.k) u (FrT.refl _ _ _) (h.ob.ty rfl)
 exact ⟨h.oa.keepT hT (by decide), h.ob.put hi x, h.oc.keepT hT (by decide), h.od.keepT hT (by decide), hT.kept h.wb (by decide), fr_setCells g _ _ u h.f (.inl ⟨(h.ob.block (k := g) rfl).1, hg⟩)⟩
theorem Sj.app2 {w u : World} {B D : Nat} {fr nx : Int} {a b c d : Value} {ms : List Mv} {cs : List Scr} {hs : List Sh} {ks : List Pk} (h : Sj w u B D fr nx a b c d ms cs hs ks) (hd : ∀ k, b.ownBlock = some k -> k < D) {x : Scr} {v' : Value} {v0 : World} (ho : OwG KC 57 v0 B v' (cs ++ [x])) (hf : Fr (fun k => b.ownBlock = some k) (u.alloc (.cells (ccs x) 57)) v0) : Sj w (v0.setCell ⟨w.heap.size, 2, none⟩ v') B D fr nx a v' c d ms (cs ++ [x]) hs ks := by
 have A := Still.alloc u (.cells (ccs x) 57)
 have hT := (h.ob.still A).frT (ts := [57]) hf (Nat.le_refl _) (by simp)
 have hw := hT.kept (h.wb.still A) (by decide)
 have ty := Wdb.ty hw
 exact ⟨((h.oa.still A).keepT hT (by decide)).setO ty (by decide) v', ho.setO ty (by decide) v', ((h.oc.still A).keepT hT (by decide)).setO ty (by decide) v', ((h.od.still A).keepT hT (by decide)).setO ty (by decide) v', Wdb.s2 hw v', Fr.setCell (Fr.trans (F := Btw B D) (h.f.alloc _) hf (fun k hk e => ⟨(h.ob.block e).1, hd k e⟩)) _ v' (.inr (Nat.le_refl _))⟩
theorem Sj.put3 {w u : World} {B D : Nat} {fr nx : Int} {a b d : Value} {ms : List Mv} {cs : List Scr} {hs : List Sh} {ks : List Pk} {g n y : Nat} (h : Sj w u B D fr nx a b (.slice (some ⟨g, 0, none⟩) n y) d ms cs hs ks) (hg : g < D) {i : Nat} (hi : i < hs.length) (x : Sh) : Sj w (u.setCells g (i * KS.k) (KS.f x)) B D fr nx a b (.slice (some ⟨g, 0, none⟩) n y) d ms cs (hs.set i x) ks := by
 have hT := OwG.setT h.oc (ts := [59]) (by simp) (KS.f x) (i * KS.k) u (FrT.refl _ _ _) (h.oc.ty rfl)
 exact ⟨h.oa.keepT hT (by decide), h.ob.keepT hT (by decide), h.oc.put hi x, h.od.keepT hT (by decide), hT.kept h.wb (by decide), fr_setCells g _ _ u h.f (.inl ⟨(h.oc.block (k := g) rfl).1, hg⟩)⟩
theorem Sj.app3 {w u : World} {B D : Nat} {fr nx : Int} {a b c d : Value} {ms : List Mv} {cs : List Scr} {hs : List Sh} {ks : List Pk} (h : Sj w u B D fr nx a b c d ms cs hs ks) (hd : ∀ k, c.ownBlock = some k -> k < D) {x : Sh} {v' : Value} {v0 : World} (ho : OwG KS 59 v0 B v' (hs ++ [x])) (hf : Fr (fun k => c.ownBlock = some k) (u.alloc (.cells (scs x) 59)) v0) : Sj w (v0.setCell ⟨w.heap.size, 3, none⟩ v') B D fr nx a b v' d ms cs (hs ++ [x]) ks := by
 have A := Still.alloc u (.cells (scs x) 59)
 have hT := (h.oc.still A).frT (ts := [59]) hf (Nat.le_refl _) (by simp)
 have hw := hT.kept (h.wb.still A) (by decide)
 have ty := Wdb.ty hw
 exact ⟨((h.oa.still A).keepT hT (by decide)).setO ty (by decide) v', ((h.ob.still A).keepT hT (by decide)).setO ty (by decide) v', ho.setO ty (by decide) v', ((h.od.still A).keepT hT (by decide)).setO ty (by decide) v', Wdb.s3 hw v', Fr.setCell (Fr.trans (F := Btw B D) (h.f.alloc _) hf (fun k hk e => ⟨(h.oc.block e).1, hd k e⟩)) _ v' (.inr (Nat.le_refl _))⟩
theorem Sj.put4 {w u : World} {B D : Nat} {fr nx : Int} {a b c : Value} {ms : List Mv} {cs : List Scr} {hs : List Sh} {ks : List Pk} {g n y : Nat} (h : Sj w u B D fr nx a b c (.slice (some ⟨g, 0, none⟩) n y) ms cs hs ks) (hg : g < D) {i : Nat} (hi : i < ks.length) (x : Pk) : Sj w (u.setCells g (i * KQ.k) (KQ.f x)) B D fr nx a b c (.slice (some ⟨g, 0, none⟩) n y) ms cs hs (ks.set i x) := by
 have hT := OwG.setT h.od (ts := [61]) (by simp) (KQ.f x) (i * KQ.k) u (FrT.refl _ _ _) (h.od.ty rfl)
 exact ⟨h.oa.keepT hT (by decide), h.ob.keepT hT (by decide), h.oc.keepT hT (by decide), h.od.put hi x, hT.kept h.wb (by decide), fr_setCells g _ _ u h.f (.inl ⟨(h.od.block (k := g) rfl).1, hg⟩)⟩
theorem Sj.app4 {w u : World} {B D : Nat} {fr nx : Int} {a b c d : Value} {ms : List Mv} {cs : List Scr} {hs : List Sh} {ks : List Pk} (h : Sj w u B D fr nx a b c d ms cs hs ks) (hd : ∀ k, d.ownBlock = some k -> k < D) {x : Pk} {v' : Value} {v0 : World} (ho : OwG KQ 61 v0 B v' (ks ++ [x])) (hf : Fr (fun k => d.ownBlock = some k) (u.alloc (.cells (kcs x) 61)) v0) : Sj w (v0.setCell ⟨w.heap.size, 4, none⟩ v') B D fr nx a b c v' ms cs hs (ks ++ [x]) := by
 have A := Still.alloc u (.cells (kcs x) 61)
 have hT := (h.od.still A).frT (ts := [61]) hf (Nat.le_refl _) (by simp)
 have hw := hT.kept (h.wb.still A) (by decide)
 have ty := Wdb.ty hw
 exact ⟨((h.oa.still A).keepT hT (by decide)).setO ty (by decide) v', ((h.ob.still A).keepT hT (by decide)).setO ty (by decide) v', ((h.oc.still A).keepT hT (by decide)).setO ty (by decide) v', ho.setO ty (by decide) v', Wdb.s4 hw v', Fr.setCell (Fr.trans (F := Btw B D) (h.f.alloc _) hf (fun k hk e => ⟨(h.od.block e).1, hd k e⟩)) _ v' (.inr (Nat.le_refl _))⟩
def spN (k1 k2 k3 k4 : Nat) : Int := (k1 : Int) + 1 + ((k2 : Int) + 1) + ((k3 : Int) + 1) + ((k4 : Int) + 1)
set_option maxHeartbeats 16000000 in
theorem spoil14_any (fr nx : Int) (xa xb xc xd : Option Addr) (k1 k2 k3 k4 ya yb yc yd : Nat) (ms : List Mv) (cs : List Scr) (hs : List Sh) (ks : List Pk) (B D : Nat) (w : World) (hl1 : ms.length = k1) (hl2 : cs.length = k2) (hl3 : hs.length = k3) (hl4 : ks.length = k4) (oa : OwG KM 55 w B (.slice xa k1 ya) ms) (ob : OwG KC 57 w B (.slice xb k2 yb) cs) (oc : OwG KS 59 w B (.slice xc k3 yc) hs) (od : OwG KQ 61 w B (.slice xd k4 yd) ks) (hb : (k1 + 1) * 104 <= 140737488355328 /\ (k2 + 1) * 32 <= 140737488355328 /\ (k3 + 1) * 64 <= 140737488355328 /\ (k4 + 1) * 24 <= 140737488355328) (hBw : B <= w.heap.size)
    (d1 : ∀ k, (Value.slice xa k1 ya).ownBlock = some k -> k < D) (d2 : ∀ k, (Value.slice xb k2 yb).ownBlock = some k -> k < D) (d3 : ∀ k, (Value.slice xc k3 yc).ownBlock = some k -> k < D) (d4 : ∀ k, (Value.slice xd k4 yd).ownBlock = some k -> k < D) :
    Calls Tryz.prog 10 #[.agg (wdcs fr nx (.slice xa k1 ya) (.slice xb k2 yb) (.slice xc k3 yc) (.slice xd k4 yd))] w fun e w' => e = .returned (.int .i64 (spN k1 k2 k3 k4)) /\ Fr (Btw B D) w w' := by
  have A0 := Still.alloc w (.cells (wdcs fr nx (.slice xa k1 ya) (.slice xb k2 yb) (.slice xc k3 yc) (.slice xd k4 yd)) 27)
  have HI0 := hid (show Sj w (w.alloc (.cells (wdcs fr nx (.slice xa k1 ya) (.slice xb k2 yb) (.slice xc k3 yc) (.slice xd k4 yd)) 27)) B D fr nx (.slice xa k1 ya) (.slice xb k2 yb) (.slice xc k3 yc) (.slice xd k4 yd) ms cs hs ks from ⟨oa.still A0, ob.still A0, oc.still A0, od.still A0, newWd_wb w fr nx _ _ _ _, (Fr.refl _ w).alloc _⟩)
  have HD := hid (And.intro d1 (And.intro d2 (And.intro d3 d4)))
  have HBd := hid hb
  have HBw := hid hBw
  have HL := hid (And.intro hl1 (And.intro hl2 (And.intro hl3 hl4)))
  have b1 : k1 <= 281474976710656 := by omega
  have b2 : k2 <= 281474976710656 := by omega
  have b3 : k3 <= 281474976710656 := by omega
  have b4 : k4 <= 281474976710656 := by omega
  clear A0 oa ob oc od hl1 hl2 hl3 hl4 d1 d2 d3 d4 hb hBw
  obtain ⟨W0, eW0⟩ : ∃ X, w.alloc (.cells (wdcs fr nx (.slice xa k1 ya) (.slice xb k2 yb) (.slice xc k3 yc) (.slice xd k4 yd)) 27) = X := ⟨_, rfl⟩
  rw [eW0] at HI0
  go_enter Tryz.func10, Tryz.ntmps10
  go_wp2_with fail
  clear eW0
  go_loopw [3] (fun u wr => ∃ i : Nat, i <= k1 /\ u = .int .i64 (i : Int) /\ Hid (∃ ms cs hs ks, (ms.length = k1 /\ cs.length = k2 /\ hs.length = k3 /\ ks.length = k4) /\ Sj w wr B D fr nx (.slice xa k1 ya) (.slice xb k2 yb) (.slice xc k3 yc) (.slice xd k4 yd) ms cs hs ks)) (fun u _ => k1 - (intOf u).toNat)
  case atStart => exact ⟨0, by omega, rfl, hid ⟨_, _, _, _, HL.out, HI0.out⟩⟩
  case round =>
    clear HI0 HL
    obtain ⟨i, hi, rfl, HI⟩ := hrel
    by_cases hin : i < k1
    · have hlt : (i : Int) < (k1 : Int) := by omega
      obtain ⟨ms, cs, hs, ks, hL, hS⟩ := HI.out
      clear HI
      obtain ⟨c0, c1, c2, c3, c4, c5, cf⟩ := hS.wb.cells
      have oo := hS.oa
      obtain ⟨gm, cpm, hv, hv1, hv2⟩ := oo.head (by omega)
      simp only [Value.slice.injEq] at hv
      obtain ⟨rfl, hv3, hv4⟩ := hv
      obtain ⟨d0, d1, d2, d3, d4, d5, d6, d7, d8, d9, d10, d11, d12, df⟩ := owM oo (i := i) (by omega)
      have hsub : IntKind.i64.wrap (-1 - (i : Int)) = -1 - (i : Int) := by rw [IntKind.wrap_i64]; omega
      have HPt := hid (hS.put1 (HD.out.1 gm rfl) (i := i) (by omega) ⟨0, 0, 0, 0, 0, 0, 0, 0, 0, false, 0, -1 - (i : Int), 0⟩)
      obtain ⟨zz, ezz⟩ : ∃ z, mm ms i = z := ⟨_, rfl⟩
      rw [ezz] at d0 d1 d2 d3 d4 d5 d6 d7 d8 d9 d10 d11 d12
      obtain ⟨W4, eW4⟩ : ∃ W, (((((((((((((wr.setCell ⟨gm, i * 13, none⟩ (.int .i64 0)).setCell ⟨gm, i * 13 + 1, none⟩ (.int .i64 0)).setCell ⟨gm, i * 13 + 2, none⟩ (.int .i64 0)).setCell ⟨gm, i * 13 + 3, none⟩ (.int .i64 0)).setCell ⟨gm, i * 13 + 4, none⟩ (.int .i64 0)).setCell ⟨gm, i * 13 + 5, none⟩ (.int .i64 0)).setCell ⟨gm, i * 13 + 6, none⟩ (.int .i64 0)).setCell ⟨gm, i * 13 + 7, none⟩ (.int .i64 0)).setCell ⟨gm, i * 13 + 8, none⟩ (.int .i64 0)).setCell ⟨gm, i * 13 + 9, none⟩ (.bool false)).setCell ⟨gm, i * 13 + 10, none⟩ (.int .i64 0)).setCell ⟨gm, i * 13 + 11, none⟩ (.int .i64 (-1 - (i : Int)))).setCell ⟨gm, i * 13 + 12, none⟩ (.int .i64 0)) = W := ⟨_, rfl⟩
      have HP4 : Hid (∃ ms cs hs ks, (ms.length = k1 /\ cs.length = k2 /\ hs.length = k3 /\ ks.length = k4) /\ Sj w W4 B D fr nx (.slice (some ⟨gm, 0, none⟩) k1 ya) (.slice xb k2 yb) (.slice xc k3 yc) (.slice xd k4 yd) ms cs hs ks) := hid (by rw [<- eW4]; exact ⟨_, _, _, _, (by simp only [List.length_set]; exact hL), HPt.out⟩)
      clear HPt hL hS oo hv1 hv2 hv3 hv4 ezz
      go_wp2_with fail
      go_roundw
      case rel => exact ⟨i + 1, by omega, by go_num, HP4⟩
      case measure => first | (simp [intOf]; done) | (simp [intOf]; omega)
    have hge : ¬ (i : Int) < (k1 : Int) := by omega
    have HI1 := HI
    obtain ⟨ms, cs, hs, ks, hL, hS⟩ := HI1.out
    obtain ⟨c0, c1, c2, c3, c4, c5, cf⟩ := hS.wb.cells
    clear HI hL hS hi hin
    go_wp2_with fail
    clear c0 c1 c2 c3 c4 c5 cf hge
    go_loopw [4] (fun u wr => ∃ i : Nat, i <= k2 /\ u = .int .i64 (i : Int) /\ Hid (∃ ms cs hs ks, (ms.length = k1 /\ cs.length = k2 /\ hs.length = k3 /\ ks.length = k4) /\ Sj w wr B D fr nx (.slice xa k1 ya) (.slice xb k2 yb) (.slice xc k3 yc) (.slice xd k4 yd) ms cs hs ks)) (fun u _ => k2 - (intOf u).toNat)
    case atStart => exact ⟨0, by omega, rfl, HI1⟩
    case round =>
      clear HI1
      obtain ⟨i, hi, rfl, HI⟩ := hrel
      by_cases hin : i < k2
      · have hlt : (i : Int) < (k2 : Int) := by omega
        obtain ⟨ms, cs, hs, ks, hL, hS⟩ := HI.out
        clear HI
        obtain ⟨c0, c1, c2, c3, c4, c5, cf⟩ := hS.wb.cells
        have oo := hS.ob
        obtain ⟨gm, cpm, hv, hv1, hv2⟩ := oo.head (by omega)
        simp only [Value.slice.injEq] at hv
        obtain ⟨rfl, hv3, hv4⟩ := hv
        obtain ⟨d0, d1, d2, d3, df⟩ := owC oo (i := i) (by omega)
        have hsub : IntKind.i64.wrap (-1 - (i : Int)) = -1 - (i : Int) := by rw [IntKind.wrap_i64]; omega
        have HPt := hid (hS.put2 (HD.out.2.1 gm rfl) (i := i) (by omega) ⟨0, -1 - (i : Int), 0, 0⟩)
        obtain ⟨zz, ezz⟩ : ∃ z, sc cs i = z := ⟨_, rfl⟩
        rw [ezz] at d0 d1 d2 d3
        obtain ⟨W4, eW4⟩ : ∃ W, ((((wr.setCell ⟨gm, i * 4, none⟩ (.int .i64 0)).setCell ⟨gm, i * 4 + 1, none⟩ (.int .i64 (-1 - (i : Int)))).setCell ⟨gm, i * 4 + 2, none⟩ (.int .i64 0)).setCell ⟨gm, i * 4 + 3, none⟩ (.int .i64 0)) = W := ⟨_, rfl⟩
        have HP4 : Hid (∃ ms cs hs ks, (ms.length = k1 /\ cs.length = k2 /\ hs.length = k3 /\ ks.length = k4) /\ Sj w W4 B D fr nx (.slice xa k1 ya) (.slice (some ⟨gm, 0, none⟩) k2 yb) (.slice xc k3 yc) (.slice xd k4 yd) ms cs hs ks) := hid (by rw [<- eW4]; exact ⟨_, _, _, _, (by simp only [List.length_set]; exact hL), HPt.out⟩)
        clear HPt hL hS oo hv1 hv2 hv3 hv4 ezz
        go_wp2_with fail
        go_roundw
        case rel => exact ⟨i + 1, by omega, by go_num, HP4⟩
        case measure => first | (simp [intOf]; done) | (simp [intOf]; omega)
      have hge : ¬ (i : Int) < (k2 : Int) := by omega
      have HI1 := HI
      obtain ⟨ms, cs, hs, ks, hL, hS⟩ := HI1.out
      obtain ⟨c0, c1, c2, c3, c4, c5, cf⟩ := hS.wb.cells
      clear HI hL hS hi hin
      go_wp2_with fail
      clear c0 c1 c2 c3 c4 c5 cf hge
      go_loopw [5] (fun u wr => ∃ i : Nat, i <= k3 /\ u = .int .i64 (i : Int) /\ Hid (∃ ms cs hs ks, (ms.length = k1 /\ cs.length = k2 /\ hs.length = k3 /\ ks.length = k4) /\ Sj w wr B D fr nx (.slice xa k1 ya) (.slice xb k2 yb) (.slice xc k3 yc) (.slice xd k4 yd) ms cs hs ks)) (fun u _ => k3 - (intOf u).toNat)
      case atStart => exact ⟨0, by omega, rfl, HI1⟩
      case round =>
        clear HI1
        obtain ⟨i, hi, rfl, HI⟩ := hrel
        by_cases hin : i < k3
        · have hlt : (i : Int) < (k3 : Int) := by omega
          obtain ⟨ms, cs, hs, ks, hL, hS⟩ := HI.out
          clear HI
          obtain ⟨c0, c1, c2, c3, c4, c5, cf⟩ := hS.wb.cells
          have oo := hS.oc
          obtain ⟨gm, cpm, hv, hv1, hv2⟩ := oo.head (by omega)
          simp only [Value.slice.injEq] at hv
          obtain ⟨rfl, hv3, hv4⟩ := hv
          obtain ⟨d0, d1, d2, d3, d4, d5, d6, d7, df⟩ := owS oo (i := i) (by omega)
          have hsub : IntKind.i64.wrap (-1 - (i : Int)) = -1 - (i : Int) := by rw [IntKind.wrap_i64]; omega
          have HPt := hid (hS.put3 (HD.out.2.2.1 gm rfl) (i := i) (by omega) ⟨-1 - (i : Int), 0, 0, 0, 0, 0, 0, 0⟩)
          obtain ⟨zz, ezz⟩ : ∃ z, ss hs i = z := ⟨_, rfl⟩
          rw [ezz] at d0 d1 d2 d3 d4 d5 d6 d7
          obtain ⟨W4, eW4⟩ : ∃ W, ((((((((wr.setCell ⟨gm, i * 8, none⟩ (.int .i64 (-1 - (i : Int)))).setCell ⟨gm, i * 8 + 1, none⟩ (.int .i64 0)).setCell ⟨gm, i * 8 + 2, none⟩ (.int .i64 0)).setCell ⟨gm, i * 8 + 3, none⟩ (.int .i64 0)).setCell ⟨gm, i * 8 + 4, none⟩ (.int .i64 0)).setCell ⟨gm, i * 8 + 5, none⟩ (.int .i64 0)).setCell ⟨gm, i * 8 + 6, none⟩ (.int .i64 0)).setCell ⟨gm, i * 8 + 7, none⟩ (.int .i64 0)) = W := ⟨_, rfl⟩
          have HP4 : Hid (∃ ms cs hs ks, (ms.length = k1 /\ cs.length = k2 /\ hs.length = k3 /\ ks.length = k4) /\ Sj w W4 B D fr nx (.slice xa k1 ya) (.slice xb k2 yb) (.slice (some ⟨gm, 0, none⟩) k3 yc) (.slice xd k4 yd) ms cs hs ks) := hid (by rw [<- eW4]; exact ⟨_, _, _, _, (by simp only [List.length_set]; exact hL), HPt.out⟩)
          clear HPt hL hS oo hv1 hv2 hv3 hv4 ezz
          go_wp2_with fail
          go_roundw
          case rel => exact ⟨i + 1, by omega, by go_num, HP4⟩
          case measure => first | (simp [intOf]; done) | (simp [intOf]; omega)
        have hge : ¬ (i : Int) < (k3 : Int) := by omega
        have HI1 := HI
        obtain ⟨ms, cs, hs, ks, hL, hS⟩ := HI1.out
        obtain ⟨c0, c1, c2, c3, c4, c5, cf⟩ := hS.wb.cells
        clear HI hL hS hi hin
        go_wp2_with fail
        clear c0 c1 c2 c3 c4 c5 cf hge
        go_loopw [6] (fun u wr => ∃ i : Nat, i <= k4 /\ u = .int .i64 (i : Int) /\ Hid (∃ ms cs hs ks, (ms.length = k1 /\ cs.length = k2 /\ hs.length = k3 /\ ks.length = k4) /\ Sj w wr B D fr nx (.slice xa k1 ya) (.slice xb k2 yb) (.slice xc k3 yc) (.slice xd k4 yd) ms cs hs ks)) (fun u _ => k4 - (intOf u).toNat)
        case atStart => exact ⟨0, by omega, rfl, HI1⟩
        case round =>
          clear HI1
          obtain ⟨i, hi, rfl, HI⟩ := hrel
          by_cases hin : i < k4
          · have hlt : (i : Int) < (k4 : Int) := by omega
            obtain ⟨ms, cs, hs, ks, hL, hS⟩ := HI.out
            clear HI
            obtain ⟨c0, c1, c2, c3, c4, c5, cf⟩ := hS.wb.cells
            have oo := hS.od
            obtain ⟨gm, cpm, hv, hv1, hv2⟩ := oo.head (by omega)
            simp only [Value.slice.injEq] at hv
            obtain ⟨rfl, hv3, hv4⟩ := hv
            obtain ⟨d0, d1, d2, df⟩ := owQ oo (i := i) (by omega)
            have hsub : IntKind.i64.wrap (-1 - (i : Int)) = -1 - (i : Int) := by rw [IntKind.wrap_i64]; omega
            have HPt := hid (hS.put4 (HD.out.2.2.2 gm rfl) (i := i) (by omega) ⟨-1 - (i : Int), 0, 0⟩)
            obtain ⟨zz, ezz⟩ : ∃ z, pk ks i = z := ⟨_, rfl⟩
            rw [ezz] at d0 d1 d2
            obtain ⟨W4, eW4⟩ : ∃ W, (((wr.setCell ⟨gm, i * 3, none⟩ (.int .i64 (-1 - (i : Int)))).setCell ⟨gm, i * 3 + 1, none⟩ (.int .i64 0)).setCell ⟨gm, i * 3 + 2, none⟩ (.int .i64 0)) = W := ⟨_, rfl⟩
            have HP4 : Hid (∃ ms cs hs ks, (ms.length = k1 /\ cs.length = k2 /\ hs.length = k3 /\ ks.length = k4) /\ Sj w W4 B D fr nx (.slice xa k1 ya) (.slice xb k2 yb) (.slice xc k3 yc) (.slice (some ⟨gm, 0, none⟩) k4 yd) ms cs hs ks) := hid (by rw [<- eW4]; exact ⟨_, _, _, _, (by simp only [List.length_set]; exact hL), HPt.out⟩)
            clear HPt hL hS oo hv1 hv2 hv3 hv4 ezz
            go_wp2_with fail
            go_roundw
            case rel => exact ⟨i + 1, by omega, by go_num, HP4⟩
            case measure => first | (simp [intOf]; done) | (simp [intOf]; omega)
          have hge : ¬ (i : Int) < (k4 : Int) := by omega
          have HI1 := HI
          obtain ⟨ms, cs, hs, ks, hL, hS⟩ := HI1.out
          obtain ⟨c0, c1, c2, c3, c4, c5, cf⟩ := hS.wb.cells
          have HS0 := hid hS
          have HL := hid hL
          clear HI HI1 hL hS hi hin
          go_wp2_with (first
            | (at_builtin
               refine wpList_appH KM _ rfl _ _ 22 rfl Tryz.underlying22 104 infoM B wr.heap.size _ ms (⟨0, 0, 0, 0, 0, 0, 0, 0, 0, false, 0, -50, 0⟩ : Mv) rfl rfl (HS0.out.oa.still (Still.alloc wr _)) (heap_alloc_new wr _) (by have := HBd.out; have := HL.out; omega) (by have := HBd.out; have := HL.out; omega) (by have := HS0.out.f.size; have := HBw.out; simp; omega) ?_
               intro v' v1 ho hf
               obtain ⟨g1, e1, rfl, _, _⟩ := ho.head (by simp)
               have hA := HS0.out.app1 (fun k hk => HD.out.1 k hk) ho hf
               rw [show (ms ++ [(⟨0, 0, 0, 0, 0, 0, 0, 0, 0, false, 0, -50, 0⟩ : Mv)]).length = k1 + 1 by have := HL.out; simp; omega] at hA ⊢
               have w1 : Wdb v1 w.heap.size fr nx (.slice xa k1 ya) (.slice xb k2 yb) (.slice xc k3 yc) (.slice xd k4 yd) := (HS0.out.oa.still (Still.alloc wr _)).frT (ts := [55]) hf (Nat.le_refl _) (by simp) |>.kept (HS0.out.wb.still (Still.alloc wr _)) (by decide)
               obtain ⟨u1, eu1⟩ : ∃ X, v1.setCell ⟨w.heap.size, 1, none⟩ (.slice (some ⟨g1, 0, none⟩) (k1 + 1) e1) = X := ⟨_, rfl⟩
               rw [eu1] at hA
               have HS1 := hid hA
               have p1 := cell_of_row _ _ 1 _ _ _ w1
               have q1 := (Wdb.cells w1).2.2.2.2.2.2 1
               clear c0 c1 c2 c3 c4 c5 cf
               obtain ⟨c0, c1, c2, c3, c4, c5, cf⟩ := hA.wb.cells
               clear ho hf hA w1)
            | (at_builtin
               refine wpList_appH KC _ rfl _ _ 23 rfl Tryz.underlying23 32 infoC B u1.heap.size _ cs (⟨0, -50, 0, 0⟩ : Scr) rfl rfl (HS1.out.ob.still (Still.alloc u1 _)) (heap_alloc_new u1 _) (by have := HBd.out; have := HL.out; omega) (by have := HBd.out; have := HL.out; omega) (by have := HS1.out.f.size; have := HBw.out; simp; omega) ?_
               intro v' v2 ho hf
               obtain ⟨g2, e2, rfl, _, _⟩ := ho.head (by simp)
               have hA := HS1.out.app2 (fun k hk => HD.out.2.1 k hk) ho hf
               rw [show (cs ++ [(⟨0, -50, 0, 0⟩ : Scr)]).length = k2 + 1 by have := HL.out; simp; omega] at hA ⊢
               have w2 : Wdb v2 w.heap.size fr nx (.slice (some ⟨g1, 0, none⟩) (k1 + 1) e1) (.slice xb k2 yb) (.slice xc k3 yc) (.slice xd k4 yd) := (HS1.out.ob.still (Still.alloc u1 _)).frT (ts := [57]) hf (Nat.le_refl _) (by simp) |>.kept (HS1.out.wb.still (Still.alloc u1 _)) (by decide)
               obtain ⟨u2, eu2⟩ : ∃ X, v2.setCell ⟨w.heap.size, 2, none⟩ (.slice (some ⟨g2, 0, none⟩) (k2 + 1) e2) = X := ⟨_, rfl⟩
               rw [eu2] at hA
               have HS2 := hid hA
               have p2 := cell_of_row _ _ 2 _ _ _ w2
               have q2 := (Wdb.cells w2).2.2.2.2.2.2 2
               clear c0 c1 c2 c3 c4 c5 cf
               obtain ⟨c0, c1, c2, c3, c4, c5, cf⟩ := hA.wb.cells
               clear ho hf hA w2)
            | (at_builtin
               refine wpList_appH KS _ rfl _ _ 24 rfl Tryz.underlying24 64 infoS B u2.heap.size _ hs (⟨-50, 0, 0, 0, 0, 0, 0, 0⟩ : Sh) rfl rfl (HS2.out.oc.still (Still.alloc u2 _)) (heap_alloc_new u2 _) (by have := HBd.out; have := HL.out; omega) (by have := HBd.out; have := HL.out; omega) (by have := HS2.out.f.size; have := HBw.out; simp; omega) ?_
               intro v' v3 ho hf
               obtain ⟨g3, e3, rfl, _, _⟩ := ho.head (by simp)
               have hA := HS2.out.app3 (fun k hk => HD.out.2.2.1 k hk) ho hf
               rw [show (hs ++ [(⟨-50, 0, 0, 0, 0, 0, 0, 0⟩ : Sh)]).length = k3 + 1 by have := HL.out; simp; omega] at hA ⊢
               have w3 : Wdb v3 w.heap.size fr nx (.slice (some ⟨g1, 0, none⟩) (k1 + 1) e1) (.slice (some ⟨g2, 0, none⟩) (k2 + 1) e2) (.slice xc k3 yc) (.slice xd k4 yd) := (HS2.out.oc.still (Still.alloc u2 _)).frT (ts := [59]) hf (Nat.le_refl _) (by simp) |>.kept (HS2.out.wb.still (Still.alloc u2 _)) (by decide)
               obtain ⟨u3, eu3⟩ : ∃ X, v3.setCell ⟨w.heap.size, 3, none⟩ (.slice (some ⟨g3, 0, none⟩) (k3 + 1) e3) = X := ⟨_, rfl⟩
               rw [eu3] at hA
               have HS3 := hid hA
               have p3 := cell_of_row _ _ 3 _ _ _ w3
               have q3 := (Wdb.cells w3).2.2.2.2.2.2 3
               clear c0 c1 c2 c3 c4 c5 cf
               obtain ⟨c0, c1, c2, c3, c4, c5, cf⟩ := hA.wb.cells
               clear ho hf hA w3)
            | (at_builtin
               refine wpList_appH KQ _ rfl _ _ 25 rfl Tryz.underlying25 24 infoQ B u3.heap.size _ ks (⟨-50, 0, 0⟩ : Pk) rfl rfl (HS3.out.od.still (Still.alloc u3 _)) (heap_alloc_new u3 _) (by have := HBd.out; have := HL.out; omega) (by have := HBd.out; have := HL.out; omega) (by have := HS3.out.f.size; have := HBw.out; simp; omega) ?_
               intro v' v4 ho hf
               obtain ⟨g4, e4, rfl, _, _⟩ := ho.head (by simp)
               have hA := HS3.out.app4 (fun k hk => HD.out.2.2.2 k hk) ho hf
               rw [show (ks ++ [(⟨-50, 0, 0⟩ : Pk)]).length = k4 + 1 by have := HL.out; simp; omega] at hA ⊢
               have w4 : Wdb v4 w.heap.size fr nx (.slice (some ⟨g1, 0, none⟩) (k1 + 1) e1) (.slice (some ⟨g2, 0, none⟩) (k2 + 1) e2) (.slice (some ⟨g3, 0, none⟩) (k3 + 1) e3) (.slice xd k4 yd) := (HS3.out.od.still (Still.alloc u3 _)).frT (ts := [61]) hf (Nat.le_refl _) (by simp) |>.kept (HS3.out.wb.still (Still.alloc u3 _)) (by decide)
               obtain ⟨u4, eu4⟩ : ∃ X, v4.setCell ⟨w.heap.size, 4, none⟩ (.slice (some ⟨g4, 0, none⟩) (k4 + 1) e4) = X := ⟨_, rfl⟩
               rw [eu4] at hA
               have HS4 := hid hA
               have p4 := cell_of_row _ _ 4 _ _ _ w4
               have q4 := (Wdb.cells w4).2.2.2.2.2.2 4
               clear c0 c1 c2 c3 c4 c5 cf
               obtain ⟨c0, c1, c2, c3, c4, c5, cf⟩ := hA.wb.cells
               clear ho hf hA w4))
          go_ret
          exact ⟨by unfold spN; congr 2, HS4.out.f⟩
end Go.Proofs.YtkgbmefaphhcnaaGreatDoor
namespace Go.Proofs.YtkgbmefaphhcnaaGreatDoor
open Go.RowKit
open Pu Gp Ap Vp Np Za Ka Ja Ea Ha
set_option maxRecDepth 100000
end Go.Proofs.YtkgbmefaphhcnaaGreatDoor
