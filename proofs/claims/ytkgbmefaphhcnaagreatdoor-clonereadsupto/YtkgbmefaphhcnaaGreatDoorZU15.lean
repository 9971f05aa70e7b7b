/- Parts of the proof, laid end to end. -/
import Derived.Test.YtkgbmefaphhcnaaGreatDoorZU14
import Derived.Test.YtkgbmefaphhcnaaGreatDoorZU06
import Derived.Deep.AppendLies
import Derived.Test.YtkgbmefaphhcnaaGreatDoorZU02
import Derived.Test.YtkgbmefaphhcnaaGreatDoorZU12
namespace Go.Proofs.YtkgbmefaphhcnaaGreatDoor
open Go.RowKit
open Pu Gp Ap Vp Np Za Ka Ja Ea Ha
set_option maxRecDepth 100000
section
variable {α : Type} {e : TypeId}
end
theorem infoS : ∃ i, Tryz.prog.info? 59 = some i /\ i.zero = some (.agg (KS.f KS.d).toArray) /\ i.size = KS.k /\ i.bytes = 64 := ⟨_, rfl, rfl, rfl, rfl⟩
theorem infoQ : ∃ i, Tryz.prog.info? 61 = some i /\ i.zero = some (.agg (KQ.f KQ.d).toArray) /\ i.size = KQ.k /\ i.bytes = 24 := ⟨_, rfl, rfl, rfl, rfl⟩
end Go.Proofs.YtkgbmefaphhcnaaGreatDoor
namespace Go.Proofs.YtkgbmefaphhcnaaGreatDoor
open Go.RowKit
open Pu Gp Ap Vp Np Za Ka Ja Ea Ha Hg
set_option maxRecDepth 100000
theorem bs_sv {o : Oper} {ρ : Operand -> Value} {x : Operand} {s : Sh} (ho : o.op = .buildSlice 24 1 #[(0, x)]) (hx : ρ x = sv s) (u : World) : (execOp ρ o).run Tryz.prog u = .ok (.value (.slice (some ⟨u.heap.size, 0, none⟩) 1 1)) (u.alloc (.cells (scs s) 59)) := by
 unfold execOp
 rw [ho]
 simp only [List.map_toArray, List.map_cons, List.map_nil, hx]
 go_simp
 try rfl
end Go.Proofs.YtkgbmefaphhcnaaGreatDoor
namespace Go.Proofs.YtkgbmefaphhcnaaGreatDoor
open Go.RowKit
open Pu Gp Ap Vp Np Za Ka Ja Ea Ha Hg
set_option maxRecDepth 100000
end Go.Proofs.YtkgbmefaphhcnaaGreatDoor
namespace Go.Proofs.YtkgbmefaphhcnaaGreatDoor
open Go.RowKit
open Pu Gp Ap Vp Np Za Ka Ja Ea Ha Hg
set_option maxRecDepth 100000
theorem owG_rd {α : Type} {K : Kd α} {e : TypeId} {w : World} {B n cap : Nat} {ao : Option Addr} {L : List α} (h : OwG K e w B (.slice ao n cap) L) (hm : L.length <= 281474976710656) : RdG K w ao L.length L := OwG.rd (M := []) (by simpa using h) hm
theorem owG_len {α : Type} {K : Kd α} {e : TypeId} {w : World} {B n cap : Nat} {ao : Option Addr} {L : List α} (h : OwG K e w B (.slice ao n cap) L) : n = L.length /\ L.length <= cap := by
 rcases h.2 with ⟨h1, h2⟩ | ⟨g, c, cur, h1, _, _, h4, _⟩
 ·injection h1 with _ h5 h6; omega
 ·injection h1 with _ h5 h6; omega
end Go.Proofs.YtkgbmefaphhcnaaGreatDoor
namespace Go.Proofs.YtkgbmefaphhcnaaGreatDoor
open Go.RowKit
open Pu Gp Ap Vp Np Za Ka Ja Ea Ha Hg
set_option maxRecDepth 100000
theorem bs_kv {o : Oper} {ρ : Operand -> Value} {x : Operand} {s : Pk} (ho : o.op = .buildSlice 25 1 #[(0, x)]) (hx : ρ x = kv s) (u : World) : (execOp ρ o).run Tryz.prog u = .ok (.value (.slice (some ⟨u.heap.size, 0, none⟩) 1 1)) (u.alloc (.cells (kcs s) 61)) := by
 unfold execOp
 rw [ho]
 simp only [List.map_toArray, List.map_cons, List.map_nil, hx]
 go_simp
 try rfl
end Go.Proofs.YtkgbmefaphhcnaaGreatDoor
namespace Go.Proofs.YtkgbmefaphhcnaaGreatDoor
open Go.RowKit
open Pu Gp Ap Vp Np Za Ka Ja Ea Ha Hg
set_option maxRecDepth 100000
theorem Wdb.ty {w : World} {g : Nat} {fr nx : Int} {a b c d : Value} (h : Wdb w g fr nx a b c d) : Tyk w g 27 := ⟨_, h⟩
theorem Wdb.other {w : World} {g k o : Nat} {fr nx : Int} {a b c d v : Value} (h : Wdb w g fr nx a b c d) (hk : g ≠ k) : Wdb (w.setCell ⟨k, o, none⟩ v) g fr nx a b c d := by
 unfold Wdb at h ⊢
 rw [heap_setCell_other _ _ _ _ hk]
 exact h
theorem Wdb.s1 {w : World} {g : Nat} {fr nx : Int} {a b c d : Value} (h : Wdb w g fr nx a b c d) (v : Value) : Wdb (w.setCell ⟨g, 1, none⟩ v) g fr nx v b c d := (heap_setCell_same w g 1 _ _ v h).trans (by kernel_rfl)
theorem Wdb.s2 {w : World} {g : Nat} {fr nx : Int} {a b c d : Value} (h : Wdb w g fr nx a b c d) (v : Value) : Wdb (w.setCell ⟨g, 2, none⟩ v) g fr nx a v c d := (heap_setCell_same w g 2 _ _ v h).trans (by kernel_rfl)
theorem Wdb.s3 {w : World} {g : Nat} {fr nx : Int} {a b c d : Value} (h : Wdb w g fr nx a b c d) (v : Value) : Wdb (w.setCell ⟨g, 3, none⟩ v) g fr nx a b v d := (heap_setCell_same w g 3 _ _ v h).trans (by kernel_rfl)
theorem Wdb.s4 {w : World} {g : Nat} {fr nx : Int} {a b c d : Value} (h : Wdb w g fr nx a b c d) (v : Value) : Wdb (w.setCell ⟨g, 4, none⟩ v) g fr nx a b c v := (heap_setCell_same w g 4 _ _ v h).trans (by kernel_rfl)
theorem Wdb.put {w : World} {g : Nat} {fr nx : Int} {a b c d : Value} (h0 : Wdb w g fr nx a b c d) (fr' nx' : Int) (a' b' c' d' : Value) : Wdb ((((((w.setCell ⟨g, 0, none⟩ (.int .i64 fr')).setCell ⟨g, 1, none⟩ a').setCell ⟨g, 2, none⟩ b').setCell ⟨g, 3, none⟩ c').setCell ⟨g, 4, none⟩ d').setCell ⟨g, 5, none⟩ (.int .i64 nx')) g fr' nx' a' b' c' d' := by
 unfold Wdb at h0 ⊢
 have h1 := heap_setCell_same _ g 0 _ _ (.int .i64 fr') h0
 have h2 := heap_setCell_same _ g 1 _ _ a' h1
 have h3 := heap_setCell_same _ g 2 _ _ b' h2
 have h4 := heap_setCell_same _ g 3 _ _ c' h3
 have h5 := heap_setCell_same _ g 4 _ _ d' h4
 have h6 := heap_setCell_same _ g 5 _ _ (.int .i64 nx') h5
 exact h6.trans (by kernel_rfl)
theorem Wdb.load {w : World} {g : Nat} {fr nx : Int} {ao bo co so : Option Addr} {n1 n2 n3 n4 c1 c2 c3 c4 : Nat} (h : Wdb w g fr nx (.slice ao n1 c1) (.slice bo n2 c2) (.slice co n3 c3) (.slice so n4 c4)) : (loadVar 27 ⟨g, 0, none⟩).run Tryz.prog w = .ok (.agg (wdcs fr nx (.slice ao n1 c1) (.slice bo n2 c2) (.slice co n3 c3) (.slice so n4 c4))) w := by
 obtain ⟨c0, c1, c2, c3, c4, c5, cf⟩ := h.cells
 go_simp
theorem Wdb.res1 {fn : Func} {p : Tmp} {w : World} {g : Nat} {fr nx : Int} {ao bo co so : Option Addr} {n1 n2 n3 n4 c1 c2 c3 c4 : Nat} (hb : Wdb w g fr nx (.slice ao n1 c1) (.slice bo n2 c2) (.slice co n3 c3) (.slice so n4 c4)) (h : fn.results = #[.cell p 27]) (tmps : Array Value) (hp : tmps.getD p undef = .pointer (some ⟨g, 0, none⟩)) :
  (results fn tmps).run Tryz.prog w = .ok (.agg (wdcs fr nx (.slice ao n1 c1) (.slice bo n2 c2) (.slice co n3 c3) (.slice so n4 c4))) w := by
 have hp' : tmps[p]?.getD undef = .pointer (some ⟨g, 0, none⟩) := by simpa using hp
 simp [results, h, hp', asAddr, hb.load]
def OwW (w : World) (B : Nat) (v : Value) (W : Wd) : Prop := ∃ a b c d, v = .agg (wdcs W.fr W.nx a b c d) /\ OwG KM 55 w B a W.ms /\ OwG KC 57 w B b W.cs /\ OwG KS 59 w B c W.hs /\ OwG KQ 61 w B d W.ks
theorem OwG.set6 {α : Type} {K : Kd α} {e t : TypeId} {w : World} {B g : Nat} {v : Value} {L : List α} (h : OwG K e w B v L) (hg : Tyk w g t) (ht : e ≠ t) (v0 v1 v2 v3 v4 v5 : Value) : OwG K e ((((((w.setCell ⟨g, 0, none⟩ v0).setCell ⟨g, 1, none⟩ v1).setCell ⟨g, 2, none⟩ v2).setCell ⟨g, 3, none⟩ v3).setCell ⟨g, 4, none⟩ v4).setCell ⟨g, 5, none⟩ v5) B v L :=
 (((((h.setO hg ht v0).setO (hg.set v0) ht v1).setO ((hg.set v0).set v1) ht v2).setO (((hg.set v0).set v1).set v2) ht v3).setO ((((hg.set v0).set v1).set v2).set v3) ht v4).setO (((((hg.set v0).set v1).set v2).set v3).set v4) ht v5
theorem still_set6 {x w : World} {g : Nat} (h : Still x w) (hg : x.heap.size <= g) (v0 v1 v2 v3 v4 v5 : Value) : Still x ((((((w.setCell ⟨g, 0, none⟩ v0).setCell ⟨g, 1, none⟩ v1).setCell ⟨g, 2, none⟩ v2).setCell ⟨g, 3, none⟩ v3).setCell ⟨g, 4, none⟩ v4).setCell ⟨g, 5, none⟩ v5) :=
 (((((Fr.setCell h _ v0 (.inr hg)).setCell _ v1 (.inr hg)).setCell _ v2 (.inr hg)).setCell _ v3 (.inr hg)).setCell _ v4 (.inr hg)).setCell _ v5 (.inr hg)
end Go.Proofs.YtkgbmefaphhcnaaGreatDoor
namespace Go.Proofs.YtkgbmefaphhcnaaGreatDoor
open Go.RowKit
open Pu Gp Ap Vp Np Za Ka Ja Ea Ha Hg
set_option maxRecDepth 100000
end Go.Proofs.YtkgbmefaphhcnaaGreatDoor
namespace Go.Proofs.YtkgbmefaphhcnaaGreatDoor
open Go.RowKit
open Pu Gp Ap Vp Np Za Ka Ja Ea Ha Hg
set_option maxRecDepth 100000
end Go.Proofs.YtkgbmefaphhcnaaGreatDoor
namespace Go.Proofs.YtkgbmefaphhcnaaGreatDoor
open Go.RowKit
open Pu Gp Ap Vp Np Za Ka Ja Ea Ha Hg
set_option maxRecDepth 100000
end Go.Proofs.YtkgbmefaphhcnaaGreatDoor
namespace Go.Proofs.YtkgbmefaphhcnaaGreatDoor
open Go.RowKit
open Pu Gp Ap Vp Np Za Ka Ja Ea Ha Hg
set_option maxRecDepth 100000
end Go.Proofs.YtkgbmefaphhcnaaGreatDoor
namespace Go.Proofs.YtkgbmefaphhcnaaGreatDoor
open Go.RowKit
open Pu Gp Ap Vp Np Za Ka Ja Ea Ha Hg
set_option maxRecDepth 100000
theorem few {a b N : Nat} (h : a <= b) (hb : b * 24 <= N) : a * 24 <= N := Nat.le_trans (Nat.mul_le_mul_right 24 h) hb
end Go.Proofs.YtkgbmefaphhcnaaGreatDoor
namespace Go.Proofs.YtkgbmefaphhcnaaGreatDoor
open Go.RowKit
open Pu Gp Ap Vp Np Za Ka Ja Ea Ha Hg
set_option maxRecDepth 100000
set_option maxHeartbeats 1000000 in
theorem oMover_any (so : Option Addr) (n c : Nat) (L : List Mv) (w : World) (hr : RdG KM w so n L) (hc : so = none -> c = 0) (h47 : 104 * n <= 281474976710656) :
  Calls Tryz.prog 23 #[.slice so n c] w fun r w' => r = .returned (.slice (some ⟨w.heap.size, 0, none⟩) n n) /\ OwG KM 55 w' w.heap.size (.slice (some ⟨w.heap.size, 0, none⟩) n n) L /\ Still w w' := by
 have hlen := hr.1
 have hmk0 := makeG KM (t := 22) Tryz.underlying22 104 infoM n (by omega) (by omega)
 have hmk := hmk0.1
 have hfresh := hmk0.2 w
 obtain ⟨CS, hCS⟩ : ∃ CS, madeCells (KM.f KM.d).toArray (n * KM.k) = CS := ⟨_, rfl⟩
 rw [hCS] at hfresh
 simp only [hCS] at hmk
 obtain ⟨W1, hcp, ho1, hf1⟩ := copyG (P := Tryz.prog) (t := 22) (c := c) Tryz.underlying22 (by obtain ⟨i, h, _, h2, _⟩ := infoM; exact ⟨i, h, h2⟩) hfresh (hr.still (Still.alloc w _)) (Nat.le_refl _) hc
 have hst1 : Still w W1 := Fr.trans (F := fun _ => False) (Still.alloc w _) hf1 fun k hk e => by omega
 rw [List.drop_replicate, Nat.sub_self, List.replicate_zero, List.append_nil] at ho1
 have HR := hid (And.intro ho1 hst1)
 clear hCS hlen hfresh hf1 hr ho1 hst1 hmk0
 go_enter Tryz.func23, Tryz.ntmps23
 go_wp2_with fail
 go_ret
 exact ⟨rfl, HR.out⟩
set_option maxHeartbeats 1000000 in
theorem oScore_any (so : Option Addr) (n c : Nat) (L : List Scr) (w : World) (hr : RdG KC w so n L) (hc : so = none -> c = 0) (h47 : 32 * n <= 281474976710656) :
  Calls Tryz.prog 24 #[.slice so n c] w fun r w' => r = .returned (.slice (some ⟨w.heap.size, 0, none⟩) n n) /\ OwG KC 57 w' w.heap.size (.slice (some ⟨w.heap.size, 0, none⟩) n n) L /\ Still w w' := by
 have hlen := hr.1
 have hmk0 := makeG KC (t := 23) Tryz.underlying23 32 infoC n (by omega) (by omega)
 have hmk := hmk0.1
 have hfresh := hmk0.2 w
 obtain ⟨CS, hCS⟩ : ∃ CS, madeCells (KC.f KC.d).toArray (n * KC.k) = CS := ⟨_, rfl⟩
 rw [hCS] at hfresh
 simp only [hCS] at hmk
 obtain ⟨W1, hcp, ho1, hf1⟩ := copyG (P := Tryz.prog) (t := 23) (c := c) Tryz.underlying23 (by obtain ⟨i, h, _, h2, _⟩ := infoC; exact ⟨i, h, h2⟩) hfresh (hr.still (Still.alloc w _)) (Nat.le_refl _) hc
 have hst1 : Still w W1 := Fr.trans (F := fun _ => False) (Still.alloc w _) hf1 fun k hk e => by omega
 rw [List.drop_replicate, Nat.sub_self, List.replicate_zero, List.append_nil] at ho1
 have HR := hid (And.intro ho1 hst1)
 clear hCS hlen hfresh hf1 hr ho1 hst1 hmk0
 go_enter Tryz.func24, Tryz.ntmps24
 go_wp2_with fail
 go_ret
 exact ⟨rfl, HR.out⟩
set_option maxHeartbeats 1000000 in
theorem oShot_any (so : Option Addr) (n c : Nat) (L : List Sh) (w : World) (hr : RdG KS w so n L) (hc : so = none -> c = 0) (h47 : 64 * n <= 281474976710656) :
  Calls Tryz.prog 25 #[.slice so n c] w fun r w' => r = .returned (.slice (some ⟨w.heap.size, 0, none⟩) n n) /\ OwG KS 59 w' w.heap.size (.slice (some ⟨w.heap.size, 0, none⟩) n n) L /\ Still w w' := by
 have hlen := hr.1
 have hmk0 := makeG KS (t := 24) Tryz.underlying24 64 infoS n (by omega) (by omega)
 have hmk := hmk0.1
 have hfresh := hmk0.2 w
 obtain ⟨CS, hCS⟩ : ∃ CS, madeCells (KS.f KS.d).toArray (n * KS.k) = CS := ⟨_, rfl⟩
 rw [hCS] at hfresh
 simp only [hCS] at hmk
 obtain ⟨W1, hcp, ho1, hf1⟩ := copyG (P := Tryz.prog) (t := 24) (c := c) Tryz.underlying24 (by obtain ⟨i, h, _, h2, _⟩ := infoS; exact ⟨i, h, h2⟩) hfresh (hr.still (Still.alloc w _)) (Nat.le_refl _) hc
 have hst1 : Still w W1 := Fr.trans (F := fun _ => False) (Still.alloc w _) hf1 fun k hk e => by omega
 rw [List.drop_replicate, Nat.sub_self, List.replicate_zero, List.append_nil] at ho1
 have HR := hid (And.intro ho1 hst1)
 clear hCS hlen hfresh hf1 hr ho1 hst1 hmk0
 go_enter Tryz.func25, Tryz.ntmps25
 go_wp2_with fail
 go_ret
 exact ⟨rfl, HR.out⟩
set_option maxHeartbeats 1000000 in
theorem oPickup_any (so : Option Addr) (n c : Nat) (L : List Pk) (w : World) (hr : RdG KQ w so n L) (hc : so = none -> c = 0) (h47 : 24 * n <= 281474976710656) :
  Calls Tryz.prog 26 #[.slice so n c] w fun r w' => r = .returned (.slice (some ⟨w.heap.size, 0, none⟩) n n) /\ OwG KQ 61 w' w.heap.size (.slice (some ⟨w.heap.size, 0, none⟩) n n) L /\ Still w w' := by
 have hlen := hr.1
 have hmk0 := makeG KQ (t := 25) Tryz.underlying25 24 infoQ n (by omega) (by omega)
 have hmk := hmk0.1
 have hfresh := hmk0.2 w
 obtain ⟨CS, hCS⟩ : ∃ CS, madeCells (KQ.f KQ.d).toArray (n * KQ.k) = CS := ⟨_, rfl⟩
 rw [hCS] at hfresh
 simp only [hCS] at hmk
 obtain ⟨W1, hcp, ho1, hf1⟩ := copyG (P := Tryz.prog) (t := 25) (c := c) Tryz.underlying25 (by obtain ⟨i, h, _, h2, _⟩ := infoQ; exact ⟨i, h, h2⟩) hfresh (hr.still (Still.alloc w _)) (Nat.le_refl _) hc
 have hst1 : Still w W1 := Fr.trans (F := fun _ => False) (Still.alloc w _) hf1 fun k hk e => by omega
 rw [List.drop_replicate, Nat.sub_self, List.replicate_zero, List.append_nil] at ho1
 have HR := hid (And.intro ho1 hst1)
 clear hCS hlen hfresh hf1 hr ho1 hst1 hmk0
 go_enter Tryz.func26, Tryz.ntmps26
 go_wp2_with fail
 go_ret
 exact ⟨rfl, HR.out⟩
theorem oMover_ex (L : List Mv) (so : Option Addr) (n c : Nat) (w : World) (hr : RdG KM w so n L) (hc : so = none -> c = 0) (h47 : 104 * n <= 281474976710656) : Calls Tryz.prog 23 #[.slice so n c] w fun e w' => ∃ v, e = .returned v /\ OwG KM 55 w' w.heap.size v L /\ Still w w' :=
 (oMover_any so n c L w hr hc h47).mono fun _ _ ⟨h1, h2, h3⟩ => ⟨_, h1, h2, h3⟩
theorem oScore_ex (L : List Scr) (so : Option Addr) (n c : Nat) (w : World) (hr : RdG KC w so n L) (hc : so = none -> c = 0) (h47 : 32 * n <= 281474976710656) : Calls Tryz.prog 24 #[.slice so n c] w fun e w' => ∃ v, e = .returned v /\ OwG KC 57 w' w.heap.size v L /\ Still w w' :=
 (oScore_any so n c L w hr hc h47).mono fun _ _ ⟨h1, h2, h3⟩ => ⟨_, h1, h2, h3⟩
theorem oShot_ex (L : List Sh) (so : Option Addr) (n c : Nat) (w : World) (hr : RdG KS w so n L) (hc : so = none -> c = 0) (h47 : 64 * n <= 281474976710656) : Calls Tryz.prog 25 #[.slice so n c] w fun e w' => ∃ v, e = .returned v /\ OwG KS 59 w' w.heap.size v L /\ Still w w' :=
 (oShot_any so n c L w hr hc h47).mono fun _ _ ⟨h1, h2, h3⟩ => ⟨_, h1, h2, h3⟩
theorem oPickup_ex (L : List Pk) (so : Option Addr) (n c : Nat) (w : World) (hr : RdG KQ w so n L) (hc : so = none -> c = 0) (h47 : 24 * n <= 281474976710656) : Calls Tryz.prog 26 #[.slice so n c] w fun e w' => ∃ v, e = .returned v /\ OwG KQ 61 w' w.heap.size v L /\ Still w w' :=
 (oPickup_any so n c L w hr hc h47).mono fun _ _ ⟨h1, h2, h3⟩ => ⟨_, h1, h2, h3⟩
set_option maxHeartbeats 4000000 in
theorem wcopy_any (W : Wd) (v : Value) (w : World) (hv : RdW w v W) (h1 : 104 * W.ms.length <= 281474976710656) (h2 : 32 * W.cs.length <= 281474976710656) (h3 : 64 * W.hs.length <= 281474976710656) (h4 : 24 * W.ks.length <= 281474976710656) :
  Calls Tryz.prog 8 #[v] w fun e w' => ∃ u, e = .returned u /\ OwW w' w.heap.size u W /\ Still w w' := by
 obtain ⟨a, b, c, d, rfl, ⟨ao, ac, rfl, l1, ha, hra⟩, ⟨bo, bc, rfl, l2, hb, hrb⟩, ⟨co, cc, rfl, l3, hc, hrc⟩, ⟨so, dc, rfl, l4, hd, hrd⟩⟩ := hv
 clear l1 l2 l3 l4
 obtain ⟨n1, e1⟩ : ∃ n, W.ms.length = n := ⟨_, rfl⟩
 obtain ⟨n2, e2⟩ : ∃ n, W.cs.length = n := ⟨_, rfl⟩
 obtain ⟨n3, e3⟩ : ∃ n, W.hs.length = n := ⟨_, rfl⟩
 obtain ⟨n4, e4⟩ : ∃ n, W.ks.length = n := ⟨_, rfl⟩
 rw [e1] at h1 hra ⊢
 rw [e2] at h2 hrb ⊢
 rw [e3] at h3 hrc ⊢
 rw [e4] at h4 hrd ⊢
 obtain ⟨fr, efr⟩ : ∃ n, W.fr = n := ⟨_, rfl⟩
 obtain ⟨nx, enx⟩ : ∃ n, W.nx = n := ⟨_, rfl⟩
 have EN := hid (And.intro efr enx)
 have EL := hid (And.intro e1 (And.intro e2 (And.intro e3 e4)))
 rw [efr, enx]
 have A0 := Still.alloc w (.cells (wdcs fr nx (.slice ao n1 ac) (.slice bo n2 bc) (.slice co n3 cc) (.slice so n4 dc)) 27)
 have A1 := Still.alloc (newWd w fr nx (.slice ao n1 ac) (.slice bo n2 bc) (.slice co n3 cc) (.slice so n4 dc)) (.cells (wdcs 0 0 (.slice none 0 0) (.slice none 0 0) (.slice none 0 0) (.slice none 0 0)) 27)
 have p0 := (newWd_wb w fr nx (.slice ao n1 ac) (.slice bo n2 bc) (.slice co n3 cc) (.slice so n4 dc)).still A1
 have r0 := newWd_wb (newWd w fr nx (.slice ao n1 ac) (.slice bo n2 bc) (.slice co n3 cc) (.slice so n4 dc)) 0 0 (.slice none 0 0) (.slice none 0 0) (.slice none 0 0) (.slice none 0 0)
 rw [size_alloc] at r0
 have HS0 : Hid (Still w ((w.alloc (.cells (wdcs fr nx (.slice ao n1 ac) (.slice bo n2 bc) (.slice co n3 cc) (.slice so n4 dc)) 27)).alloc (.cells (wdcs 0 0 (.slice none 0 0) (.slice none 0 0) (.slice none 0 0) (.slice none 0 0)) 27))) := hid (A0.trans A1)
 have HP0 : Hid (Wdb ((w.alloc (.cells (wdcs fr nx (.slice ao n1 ac) (.slice bo n2 bc) (.slice co n3 cc) (.slice so n4 dc)) 27)).alloc (.cells (wdcs 0 0 (.slice none 0 0) (.slice none 0 0) (.slice none 0 0) (.slice none 0 0)) 27)) w.heap.size fr nx (.slice ao n1 ac) (.slice bo n2 bc) (.slice co n3 cc) (.slice so n4 dc)) := hid p0
 have HQ0 : Hid (Wdb ((w.alloc (.cells (wdcs fr nx (.slice ao n1 ac) (.slice bo n2 bc) (.slice co n3 cc) (.slice so n4 dc)) 27)).alloc (.cells (wdcs 0 0 (.slice none 0 0) (.slice none 0 0) (.slice none 0 0) (.slice none 0 0)) 27)) (w.heap.size + 1) 0 0 (.slice none 0 0) (.slice none 0 0) (.slice none 0 0) (.slice none 0 0)) := hid r0
 obtain ⟨W0, eW0⟩ : ∃ X, ((w.alloc (.cells (wdcs fr nx (.slice ao n1 ac) (.slice bo n2 bc) (.slice co n3 cc) (.slice so n4 dc)) 27)).alloc (.cells (wdcs 0 0 (.slice none 0 0) (.slice none 0 0) (.slice none 0 0) (.slice none 0 0)) 27)) = X := ⟨_, rfl⟩
 rw [eW0] at HS0 HP0 HQ0
 have HRa := hid hra
 have HRb := hid hrb
 have HRc := hid hrc
 have HRd := hid hrd
 have Hna := hid ha
 have Hnb := hid hb
 have Hnc := hid hc
 have Hnd := hid hd
 obtain ⟨c0, c1, c2, c3, c4, c5, cf⟩ := HP0.out.cells
 clear A0 A1 p0 r0 hra hrb hrc hrd ha hb hc hd efr enx e1 e2 e3 e4
 go_enter Tryz.func8, Tryz.ntmps8
 go_wp2_with fail
 refine (oMover_ex W.ms ao n1 ac W0 (HRa.out.still HS0.out) Hna.out h1).mono ?_
 rintro e w1 ⟨u1, rfl, ho, hs⟩
 obtain ⟨x1, y1, hx1, _⟩ := ho.slice
 rw [EL.out.1] at hx1
 subst hx1
 have HPx := hid (HP0.out.still hs)
 have HQx := hid (HQ0.out.still hs)
 have HOx := hid (ho.less (B' := w.heap.size) (HS0.out.size))
 have HSx : Hid (Still w w1) := hid (Still.trans HS0.out hs)
 have HP1 := hid (HPx.out.s1 (.slice x1 n1 y1))
 have HQ1 := hid (HQx.out.other (k := w.heap.size) (o := 1) (v := (.slice x1 n1 y1)) (by omega))
 have HS1 : Hid (Still w (w1.setCell ⟨w.heap.size, 1, none⟩ (.slice x1 n1 y1))) := hid (Fr.setCell HSx.out ⟨w.heap.size, 1, none⟩ (.slice x1 n1 y1) (.inr (Nat.le_refl _)))
 have HV1 := hid (HOx.out.setO (o := 1) HPx.out.ty (by decide) (.slice x1 n1 y1))
 obtain ⟨d0, d1, d2, d3, d4, d5, df⟩ := HPx.out.cells
 obtain ⟨W1, eW1⟩ : ∃ X, w1.setCell ⟨w.heap.size, 1, none⟩ (.slice x1 n1 y1) = X := ⟨_, rfl⟩
 rw [eW1] at HP1 HQ1 HS1 HV1
 clear c0 c1 c2 c3 c4 c5 cf ho hs HSx HPx HQx HOx HP0 HQ0 HS0 eW0
 obtain ⟨c0, c1, c2, c3, c4, c5, cf⟩ := HP1.out.cells
 go_wp2_with fail
 refine (oScore_ex W.cs bo n2 bc W1 (HRb.out.still HS1.out) Hnb.out h2).mono ?_
 rintro e w2 ⟨u2, rfl, ho, hs⟩
 obtain ⟨x2, y2, hx2, _⟩ := ho.slice
 rw [EL.out.2.1] at hx2
 subst hx2
 have HPx := hid (HP1.out.still hs)
 have HQx := hid (HQ1.out.still hs)
 have HOx := hid (ho.less (B' := w.heap.size) (HS1.out.size))
 have HSx : Hid (Still w w2) := hid (Still.trans HS1.out hs)
 have HP2 := hid (HPx.out.s2 (.slice x2 n2 y2))
 have HQ2 := hid (HQx.out.other (k := w.heap.size) (o := 2) (v := (.slice x2 n2 y2)) (by omega))
 have HS2 : Hid (Still w (w2.setCell ⟨w.heap.size, 2, none⟩ (.slice x2 n2 y2))) := hid (Fr.setCell HSx.out ⟨w.heap.size, 2, none⟩ (.slice x2 n2 y2) (.inr (Nat.le_refl _)))
 have HV2 := hid (HOx.out.setO (o := 2) HPx.out.ty (by decide) (.slice x2 n2 y2))
 have HV1 := hid ((HV1.out.still hs).setO (o := 2) HPx.out.ty (by decide) (.slice x2 n2 y2))
 obtain ⟨d0, d1, d2, d3, d4, d5, df⟩ := HPx.out.cells
 obtain ⟨W2, eW2⟩ : ∃ X, w2.setCell ⟨w.heap.size, 2, none⟩ (.slice x2 n2 y2) = X := ⟨_, rfl⟩
 rw [eW2] at HP2 HQ2 HS2 HV1 HV2
 clear c0 c1 c2 c3 c4 c5 cf ho hs HSx HPx HQx HOx HP1 HQ1 HS1
 obtain ⟨c0, c1, c2, c3, c4, c5, cf⟩ := HP2.out.cells
 go_wp2_with fail
 refine (oShot_ex W.hs co n3 cc W2 (HRc.out.still HS2.out) Hnc.out h3).mono ?_
 rintro e w3 ⟨u3, rfl, ho, hs⟩
 obtain ⟨x3, y3, hx3, _⟩ := ho.slice
 rw [EL.out.2.2.1] at hx3
 subst hx3
 have HPx := hid (HP2.out.still hs)
 have HQx := hid (HQ2.out.still hs)
 have HOx := hid (ho.less (B' := w.heap.size) (HS2.out.size))
 have HSx : Hid (Still w w3) := hid (Still.trans HS2.out hs)
 have HP3 := hid (HPx.out.s3 (.slice x3 n3 y3))
 have HQ3 := hid (HQx.out.other (k := w.heap.size) (o := 3) (v := (.slice x3 n3 y3)) (by omega))
 have HS3 : Hid (Still w (w3.setCell ⟨w.heap.size, 3, none⟩ (.slice x3 n3 y3))) := hid (Fr.setCell HSx.out ⟨w.heap.size, 3, none⟩ (.slice x3 n3 y3) (.inr (Nat.le_refl _)))
 have HV3 := hid (HOx.out.setO (o := 3) HPx.out.ty (by decide) (.slice x3 n3 y3))
 have HV1 := hid ((HV1.out.still hs).setO (o := 3) HPx.out.ty (by decide) (.slice x3 n3 y3))
 have HV2 := hid ((HV2.out.still hs).setO (o := 3) HPx.out.ty (by decide) (.slice x3 n3 y3))
 obtain ⟨d0, d1, d2, d3, d4, d5, df⟩ := HPx.out.cells
 obtain ⟨W3, eW3⟩ : ∃ X, w3.setCell ⟨w.heap.size, 3, none⟩ (.slice x3 n3 y3) = X := ⟨_, rfl⟩
 rw [eW3] at HP3 HQ3 HS3 HV1 HV2 HV3
 clear c0 c1 c2 c3 c4 c5 cf ho hs HSx HPx HQx HOx HP2 HQ2 HS2
 obtain ⟨c0, c1, c2, c3, c4, c5, cf⟩ := HP3.out.cells
 go_wp2_with fail
 refine (oPickup_ex W.ks so n4 dc W3 (HRd.out.still HS3.out) Hnd.out h4).mono ?_
 rintro e w4 ⟨u4, rfl, ho, hs⟩
 obtain ⟨x4, y4, hx4, _⟩ := ho.slice
 rw [EL.out.2.2.2] at hx4
 subst hx4
 have HPx := hid (HP3.out.still hs)
 have HQx := hid (HQ3.out.still hs)
 have HOx := hid (ho.less (B' := w.heap.size) (HS3.out.size))
 have HSx : Hid (Still w w4) := hid (Still.trans HS3.out hs)
 have HP4 := hid (HPx.out.s4 (.slice x4 n4 y4))
 have HQ4 := hid (HQx.out.other (k := w.heap.size) (o := 4) (v := (.slice x4 n4 y4)) (by omega))
 have HS4 : Hid (Still w (w4.setCell ⟨w.heap.size, 4, none⟩ (.slice x4 n4 y4))) := hid (Fr.setCell HSx.out ⟨w.heap.size, 4, none⟩ (.slice x4 n4 y4) (.inr (Nat.le_refl _)))
 have HV4 := hid (HOx.out.setO (o := 4) HPx.out.ty (by decide) (.slice x4 n4 y4))
 have HV1 := hid ((HV1.out.still hs).setO (o := 4) HPx.out.ty (by decide) (.slice x4 n4 y4))
 have HV2 := hid ((HV2.out.still hs).setO (o := 4) HPx.out.ty (by decide) (.slice x4 n4 y4))
 have HV3 := hid ((HV3.out.still hs).setO (o := 4) HPx.out.ty (by decide) (.slice x4 n4 y4))
 obtain ⟨d0, d1, d2, d3, d4, d5, df⟩ := HPx.out.cells
 obtain ⟨W4, eW4⟩ : ∃ X, w4.setCell ⟨w.heap.size, 4, none⟩ (.slice x4 n4 y4) = X := ⟨_, rfl⟩
 rw [eW4] at HP4 HQ4 HS4 HV1 HV2 HV3 HV4
 clear c0 c1 c2 c3 c4 c5 cf ho hs HSx HPx HQx HOx HP3 HQ3 HS3
 obtain ⟨c0, c1, c2, c3, c4, c5, cf⟩ := HP4.out.cells
 obtain ⟨q0, q1, q2, q3, q4, q5, qf⟩ := HQ4.out.cells
 go_wp2_with fail
 refine bodyPost_ret (Wdb.res1 (HQ4.out.put fr nx _ _ _ _) rfl _ rfl) rfl ⟨_, rfl, ⟨_, _, _, _, by rw [EN.out.1, EN.out.2], ?_, ?_, ?_, ?_⟩, ?_⟩
 ·exact HV1.out.set6 HQ4.out.ty (by decide) _ _ _ _ _ _
 ·exact HV2.out.set6 HQ4.out.ty (by decide) _ _ _ _ _ _
 ·exact HV3.out.set6 HQ4.out.ty (by decide) _ _ _ _ _ _
 ·exact HV4.out.set6 HQ4.out.ty (by decide) _ _ _ _ _ _
 ·exact still_set6 HS4.out (by omega) _ _ _ _ _ _
end Go.Proofs.YtkgbmefaphhcnaaGreatDoor
