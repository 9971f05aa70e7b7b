/- Parts of the proof, laid end to end. -/
import Derived.Test.YtkgbmefaphhcnaaGreatDoorZE09
import Derived.Test.YtkgbmefaphhcnaaGreatDoorZE05
import Derived.Test.YtkgbmefaphhcnaaGreatDoorZE08
import Derived.Test.YtkgbmefaphhcnaaGreatDoorZE11
namespace Go.Proofs.YtkgbmefaphhcnaaGreatDoor
open Go.RowKit
open Np Za Ka Ea
set_option maxRecDepth 100000
theorem RdI.lit (w : World) (l : List Int) (hl : l.length <= 1000000) : RdI (w.alloc (.cells (l.map (fun n => Value.int .i64 n)).toArray 3)) (some ⟨w.heap.size, 0, none⟩) l.length l.length l := by
 refine ⟨rfl, Nat.le_refl _, by unfold maxLen; omega, fun a ha _ => (by cases ha; rfl), fun h => (by cases h), ?_⟩
 rintro a ha j hj
 cases ha
 rw [cell_of_row _ _ _ _ _ _ (heap_alloc_new w _)]
 simp [hj]
theorem xlit_any (p : Nat) (ao : Option Addr) (bs : List UInt8) (l : List Int) (hl : ∀ n ∈ l, I64 n) (hb : bs.length + 10 * l.length <= 1000000) (w : World) (hw : Wq w p ao bs) :
  Calls Tryz.prog 108 #[wqv p, .slice (some ⟨w.heap.size, 0, none⟩) l.length l.length] (w.alloc (.cells (l.map (fun n => Value.int .i64 n)).toArray 3)) fun r w' => r = .returned (.tuple #[]) /\ ∃ ao', Lx w w' p ao ao' bs (nsB l) := by
 have A := Still.alloc w (.cells (l.map (fun n => Value.int .i64 n)).toArray 3)
 refine (xnum_any p ao bs _ _ _ l hl hb _ (hw.still A) (RdI.lit w l (by omega)) (fun a ha _ e => ?_)).mono ?_
 ·cases ha
  have := hw.wf_lt _ e
  simp at this
 ·rintro r w' ⟨rfl, ao', h⟩
  exact ⟨rfl, ao', h.from A⟩
structure Bq (w : World) (p : Nat) (ao : Option Addr) (g h : Nat) (o : Obj) : Prop where
 wb : w.heap[g]? = some (.cells #[.pointer (some ⟨p, 0, none⟩)] 100 (0, 0))
 sb : w.heap[h]? = some o
 n1 : ¬ Wf p ao g
 n2 : ¬ Wf p ao h
theorem Bq.on {w w1 : World} {p g h : Nat} {ao ao1 : Option Addr} {o : Obj} {bs x : List UInt8} (b : Bq w p ao g h o) (hl : Lx w w1 p ao ao1 bs x) : Bq w1 p ao1 g h o :=
 ⟨hl.f.kept b.wb b.n1, hl.f.kept b.sb b.n2, hl.off (block_lt b.wb) b.n1, hl.off (block_lt b.sb) b.n2⟩
theorem Bq.cell {w : World} {p g h : Nat} {ao : Option Addr} {o : Obj} (b : Bq w p ao g h o) : w.cell? ⟨g, 0, none⟩ = some (.pointer (some ⟨p, 0, none⟩)) := by rw [cell_of_row _ _ _ _ _ _ b.wb]; rfl
theorem Bq.new {w : World} {p : Nat} {ao : Option Addr} {bs : List UInt8} (hw : Wq w p ao bs) (cs : Array Value) (t : TypeId) : Bq ((w.alloc (.cells #[.pointer (some ⟨p, 0, none⟩)] 100)).alloc (.cells cs t)) p ao w.heap.size (w.heap.size + 1) (.cells cs t (0, 0)) := by
 refine ⟨(Still.alloc _ _).kept_still (wbox w p), ?_, fun e => by have := hw.wf_lt _ e; omega, fun e => by have := hw.wf_lt _ e; omega⟩
 have := heap_alloc_new (w.alloc (.cells #[.pointer (some ⟨p, 0, none⟩)] 100)) (.cells cs t)
 rw [size_alloc] at this
 exact this
set_option maxHeartbeats 2000000 in
theorem xpoint_any (p : Nat) (ao : Option Addr) (bs : List UInt8) (x y : Int) (hh : ∀ n ∈ [x, y], I64 n) (hb : bs.length + 20 <= 1000000) (w : World) (hw : Wq w p ao bs) :
  Calls Tryz.prog 148 #[wqv p, pt x y] w fun r w' => r = .returned (.tuple #[]) /\ ∃ ao', Lx w w' p ao ao' bs (nsB [x, y]) := by
 have B0 := Bq.new hw #[.int .i64 x, .int .i64 y] 53
 have A0 := (Still.alloc w (.cells #[.pointer (some ⟨p, 0, none⟩)] 100)).trans (Still.alloc _ (.cells #[.int .i64 x, .int .i64 y] 53))
 obtain ⟨W, eW⟩ : ∃ W, (w.alloc (.cells #[.pointer (some ⟨p, 0, none⟩)] 100)).alloc (.cells #[.int .i64 x, .int .i64 y] 53) = W := ⟨_, rfl⟩
 obtain ⟨g, eg⟩ : ∃ g, w.heap.size = g := ⟨_, rfl⟩
 rw [eW] at A0 B0
 rw [eg] at B0
 have HB := hid B0
 have k0 := B0.cell
 have d0 := (cell_of_row _ _ 0 _ _ _ B0.sb)
 have d1 := (cell_of_row _ _ 1 _ _ _ B0.sb)
 simp only [List.getElem?_toArray, List.getElem?_cons_zero, List.getElem?_cons_succ] at d0 d1
 have HA := hid A0
 have HW := hid (hw.still A0)
 clear A0 B0 hw
 go_enter Tryz.func148, Tryz.ntmps148
 have HC := hid (xlit_any p ao bs [x, y] hh (by simp only [List.length_cons, List.length_nil]; omega) W HW.out)
 go_wp2_with fail
 refine HC.out.mono ?_
 rintro e w1 ⟨he, ao1, h1⟩
 rw [he]
 have HL1 : Hid (Lx w w1 p ao ao1 bs (nsB [x, y])) := hid (h1.from HA.out)
 clear he h1 HC
 go_wp2_with fail
 go_end0
 exact ⟨rfl, ao1, HL1.out⟩
set_option maxHeartbeats 2000000 in
theorem xflag_t (p : Nat) (ao : Option Addr) (bs : List UInt8)  (hb : bs.length + 1 <= 1000000) (w : World) (hw : Wq w p ao bs) :
  Calls Tryz.prog 149 #[wqv p, .bool true] w fun r w' => r = .returned (.tuple #[]) /\ ∃ ao', Lx w w' p ao ao' bs ([1]) := by
 have hx0 := wbox w p
 have A0 := Still.alloc w (.cells #[.pointer (some ⟨p, 0, none⟩)] 100)
 obtain ⟨W, eW⟩ : ∃ W, w.alloc (.cells #[.pointer (some ⟨p, 0, none⟩)] 100) = W := ⟨_, rfl⟩
 obtain ⟨g, eg⟩ : ∃ g, w.heap.size = g := ⟨_, rfl⟩
 rw [eW] at A0 hx0
 rw [eg] at hx0
 have k0 : W.cell? ⟨g, 0, none⟩ = some (.pointer (some ⟨p, 0, none⟩)) := by rw [cell_of_row _ _ _ _ _ _ hx0]; rfl
 have HA := hid A0
 have HW := hid (hw.still A0)
 clear A0 hx0 hw
 go_enter Tryz.func149, Tryz.ntmps149
 have HC := hid (xbyte_any p ao bs 1 1 rfl (by omega) W HW.out)
 go_wp2_with fail
 refine HC.out.mono ?_
 rintro e w1 ⟨he, ao1, h1⟩
 rw [he]
 have HL1 : Hid (Lx w w1 p ao ao1 bs ([1])) := hid (h1.from HA.out)
 clear he h1 HC
 go_wp2_with fail
 go_end0
 exact ⟨rfl, ao1, HL1.out⟩
set_option maxHeartbeats 2000000 in
theorem xflag_f (p : Nat) (ao : Option Addr) (bs : List UInt8)  (hb : bs.length + 1 <= 1000000) (w : World) (hw : Wq w p ao bs) :
  Calls Tryz.prog 149 #[wqv p, .bool false] w fun r w' => r = .returned (.tuple #[]) /\ ∃ ao', Lx w w' p ao ao' bs ([0]) := by
 have hx0 := wbox w p
 have A0 := Still.alloc w (.cells #[.pointer (some ⟨p, 0, none⟩)] 100)
 obtain ⟨W, eW⟩ : ∃ W, w.alloc (.cells #[.pointer (some ⟨p, 0, none⟩)] 100) = W := ⟨_, rfl⟩
 obtain ⟨g, eg⟩ : ∃ g, w.heap.size = g := ⟨_, rfl⟩
 rw [eW] at A0 hx0
 rw [eg] at hx0
 have k0 : W.cell? ⟨g, 0, none⟩ = some (.pointer (some ⟨p, 0, none⟩)) := by rw [cell_of_row _ _ _ _ _ _ hx0]; rfl
 have HA := hid A0
 have HW := hid (hw.still A0)
 clear A0 hx0 hw
 go_enter Tryz.func149, Tryz.ntmps149
 have HC := hid (xbyte_any p ao bs 0 0 rfl (by omega) W HW.out)
 go_wp2_with fail
 refine HC.out.mono ?_
 rintro e w1 ⟨he, ao1, h1⟩
 rw [he]
 have HL1 : Hid (Lx w w1 p ao ao1 bs ([0])) := hid (h1.from HA.out)
 clear he h1 HC
 go_wp2_with fail
 go_end0
 exact ⟨rfl, ao1, HL1.out⟩
theorem xflag_any (p : Nat) (ao : Option Addr) (bs : List UInt8) (b : Bool) (_ : True) (hb : bs.length + 1 <= 1000000) (w : World) (hw : Wq w p ao bs) :
  Calls Tryz.prog 149 #[wqv p, .bool b] w fun r w' => r = .returned (.tuple #[]) /\ ∃ ao', Lx w w' p ao ao' bs (flB b) := by
 cases b
 ·exact xflag_f p ao bs hb w hw
 ·exact xflag_t p ao bs hb w hw
set_option maxHeartbeats 2000000 in
theorem xcount_any (p : Nat) (ao : Option Addr) (bs : List UInt8) (k : Nat) (hk : k <= 9223372036854775807) (hb : bs.length + 10 <= 1000000) (w : World) (hw : Wq w p ao bs) :
  Calls Tryz.prog 103 #[wqv p, .int .i64 (k : Int)] w fun r w' => r = .returned (.tuple #[]) /\ ∃ ao', Lx w w' p ao ao' bs (Cp.form k) := by
 have hx0 := wbox w p
 have A0 := Still.alloc w (.cells #[.pointer (some ⟨p, 0, none⟩)] 100)
 obtain ⟨W, eW⟩ : ∃ W, w.alloc (.cells #[.pointer (some ⟨p, 0, none⟩)] 100) = W := ⟨_, rfl⟩
 obtain ⟨g, eg⟩ : ∃ g, w.heap.size = g := ⟨_, rfl⟩
 rw [eW] at A0 hx0
 rw [eg] at hx0
 have k0 : W.cell? ⟨g, 0, none⟩ = some (.pointer (some ⟨p, 0, none⟩)) := by rw [cell_of_row _ _ _ _ _ _ hx0]; rfl
 have HA := hid A0
 have HW := hid (hw.still A0)
 clear A0 hx0 hw
 have hcv : IntKind.u64.wrap (k : Int) = (k : Int) := by rw [IntKind.wrap_u64]; omega
 go_enter Tryz.func103, Tryz.ntmps103
 have HC := hid (xuint_any p ao bs k (by omega) (by omega) W HW.out)
 go_wp2_with fail
 refine HC.out.mono ?_
 rintro e w1 ⟨he, ao1, h1⟩
 rw [he]
 have HL1 : Hid (Lx w w1 p ao ao1 bs (Cp.form k)) := hid (h1.from HA.out)
 clear he h1 HC
 go_wp2_with fail
 go_end0
 exact ⟨rfl, ao1, HL1.out⟩
set_option maxHeartbeats 2000000 in
theorem xscore_any (p : Nat) (ao : Option Addr) (bs : List UInt8) (s : Scr) (hh : ∀ n ∈ scN s, I64 n) (hb : bs.length + 40 <= 1000000) (w : World) (hw : Wq w p ao bs) :
  Calls Tryz.prog 102 #[wqv p, cv s] w fun r w' => r = .returned (.tuple #[]) /\ ∃ ao', Lx w w' p ao ao' bs (nsB (scN s)) := by
 have B0 := Bq.new hw (ccs s) 57
 have A0 := (Still.alloc w (.cells #[.pointer (some ⟨p, 0, none⟩)] 100)).trans (Still.alloc _ (.cells (ccs s) 57))
 obtain ⟨W, eW⟩ : ∃ W, (w.alloc (.cells #[.pointer (some ⟨p, 0, none⟩)] 100)).alloc (.cells (ccs s) 57) = W := ⟨_, rfl⟩
 obtain ⟨g, eg⟩ : ∃ g, w.heap.size = g := ⟨_, rfl⟩
 rw [eW] at A0 B0
 rw [eg] at B0
 have HB := hid B0
 have k0 := B0.cell
 have d0 := (cell_of_row _ _ 0 _ _ _ B0.sb)
 have d1 := (cell_of_row _ _ 1 _ _ _ B0.sb)
 have d2 := (cell_of_row _ _ 2 _ _ _ B0.sb)
 have d3 := (cell_of_row _ _ 3 _ _ _ B0.sb)
 simp only [List.getElem?_toArray, List.getElem?_cons_zero, List.getElem?_cons_succ] at d0 d1 d2 d3
 have HA := hid A0
 have HW := hid (hw.still A0)
 clear A0 B0 hw
 go_enter Tryz.func102, Tryz.ntmps102
 have HC := hid (xlit_any p ao bs [s.p, s.h, s.o, s.k] hh (by simp only [List.length_cons, List.length_nil]; omega) W HW.out)
 go_wp2_with fail
 refine HC.out.mono ?_
 rintro e w1 ⟨he, ao1, h1⟩
 rw [he]
 have HL1 : Hid (Lx w w1 p ao ao1 bs (nsB (scN s))) := hid (h1.from HA.out)
 clear he h1 HC
 go_wp2_with fail
 go_end0
 exact ⟨rfl, ao1, HL1.out⟩
set_option maxHeartbeats 2000000 in
theorem xpickup_any (p : Nat) (ao : Option Addr) (bs : List UInt8) (s : Pk) (hh : ∀ n ∈ pkN s, I64 n) (hb : bs.length + 30 <= 1000000) (w : World) (hw : Wq w p ao bs) :
  Calls Tryz.prog 107 #[wqv p, kv s] w fun r w' => r = .returned (.tuple #[]) /\ ∃ ao', Lx w w' p ao ao' bs (nsB (pkN s)) := by
 have B0 := Bq.new hw (kcs s) 61
 have A0 := (Still.alloc w (.cells #[.pointer (some ⟨p, 0, none⟩)] 100)).trans (Still.alloc _ (.cells (kcs s) 61))
 obtain ⟨W, eW⟩ : ∃ W, (w.alloc (.cells #[.pointer (some ⟨p, 0, none⟩)] 100)).alloc (.cells (kcs s) 61) = W := ⟨_, rfl⟩
 obtain ⟨g, eg⟩ : ∃ g, w.heap.size = g := ⟨_, rfl⟩
 rw [eW] at A0 B0
 rw [eg] at B0
 have HB := hid B0
 have k0 := B0.cell
 have d0 := (cell_of_row _ _ 0 _ _ _ B0.sb)
 have d1 := (cell_of_row _ _ 1 _ _ _ B0.sb)
 have d2 := (cell_of_row _ _ 2 _ _ _ B0.sb)
 simp only [List.getElem?_toArray, List.getElem?_cons_zero, List.getElem?_cons_succ] at d0 d1 d2
 have HA := hid A0
 have HW := hid (hw.still A0)
 clear A0 B0 hw
 go_enter Tryz.func107, Tryz.ntmps107
 have HC := hid (xlit_any p ao bs [s.no, s.sp, s.kd] hh (by simp only [List.length_cons, List.length_nil]; omega) W HW.out)
 go_wp2_with fail
 refine HC.out.mono ?_
 rintro e w1 ⟨he, ao1, h1⟩
 rw [he]
 have HL1 : Hid (Lx w w1 p ao ao1 bs (nsB (pkN s))) := hid (h1.from HA.out)
 clear he h1 HC
 go_wp2_with fail
 go_end0
 exact ⟨rfl, ao1, HL1.out⟩
set_option maxHeartbeats 2000000 in
theorem xshot_any (p : Nat) (ao : Option Addr) (bs : List UInt8) (s : Sh) (hh : ∀ n ∈ shN s, I64 n) (hb : bs.length + 80 <= 1000000) (w : World) (hw : Wq w p ao bs) :
  Calls Tryz.prog 105 #[wqv p, sv s] w fun r w' => r = .returned (.tuple #[]) /\ ∃ ao', Lx w w' p ao ao' bs (nsB [s.no, s.ow, s.pw] ++ nsB [s.ax, s.ay] ++ nsB [s.sx, s.sy] ++ nsB [s.lf]) := by
 have B0 := Bq.new hw (scs s) 59
 have A0 := (Still.alloc w (.cells #[.pointer (some ⟨p, 0, none⟩)] 100)).trans (Still.alloc _ (.cells (scs s) 59))
 obtain ⟨W, eW⟩ : ∃ W, (w.alloc (.cells #[.pointer (some ⟨p, 0, none⟩)] 100)).alloc (.cells (scs s) 59) = W := ⟨_, rfl⟩
 obtain ⟨g, eg⟩ : ∃ g, w.heap.size = g := ⟨_, rfl⟩
 rw [eW] at A0 B0
 rw [eg] at B0
 have HB := hid B0
 have k0 := B0.cell
 have d0 := (cell_of_row _ _ 0 _ _ _ B0.sb)
 have d1 := (cell_of_row _ _ 1 _ _ _ B0.sb)
 have d2 := (cell_of_row _ _ 2 _ _ _ B0.sb)
 have d3 := (cell_of_row _ _ 3 _ _ _ B0.sb)
 have d4 := (cell_of_row _ _ 4 _ _ _ B0.sb)
 have d5 := (cell_of_row _ _ 5 _ _ _ B0.sb)
 have d6 := (cell_of_row _ _ 6 _ _ _ B0.sb)
 have d7 := (cell_of_row _ _ 7 _ _ _ B0.sb)
 simp only [List.getElem?_toArray, List.getElem?_cons_zero, List.getElem?_cons_succ] at d0 d1 d2 d3 d4 d5 d6 d7
 have HA := hid A0
 have HW := hid (hw.still A0)
 clear A0 B0 hw
 go_enter Tryz.func105, Tryz.ntmps105
 have HC := hid (xlit_any p ao bs [s.no, s.ow, s.pw] (fun n hn => hh n (by simp only [List.mem_cons, List.not_mem_nil, or_false] at hn; rcases hn with rfl | rfl | rfl <;> simp [shN])) (by simp only [List.length_cons, List.length_nil]; omega) W HW.out)
 go_wp2_with fail
 refine HC.out.mono ?_
 rintro e w1 ⟨he, ao1, h1⟩
 rw [he]
 have HL1 : Hid (Lx w w1 p ao ao1 bs (nsB [s.no, s.ow, s.pw])) := hid (h1.from HA.out)
 have HB1 := hid (HB.out.on h1)
 have z1 : (bs ++ (nsB [s.no, s.ow, s.pw])).length <= bs.length + 30 := by
  have zz := nsB_le (l := [s.no, s.ow, s.pw]) (fun n hn => hh n (by simp only [List.mem_cons, List.not_mem_nil, or_false] at hn; rcases hn with rfl | rfl | rfl <;> simp [shN]))
  simp only [List.length_append, List.length_cons, List.length_nil] at zz ⊢
  omega
 clear he h1 HC k0 d0 d1 d2 d3 d4 d5 d6 d7
 have k0 := HB1.out.cell
 have d0 := (cell_of_row _ _ 0 _ _ _ HB1.out.sb)
 have d1 := (cell_of_row _ _ 1 _ _ _ HB1.out.sb)
 have d2 := (cell_of_row _ _ 2 _ _ _ HB1.out.sb)
 have d3 := (cell_of_row _ _ 3 _ _ _ HB1.out.sb)
 have d4 := (cell_of_row _ _ 4 _ _ _ HB1.out.sb)
 have d5 := (cell_of_row _ _ 5 _ _ _ HB1.out.sb)
 have d6 := (cell_of_row _ _ 6 _ _ _ HB1.out.sb)
 have d7 := (cell_of_row _ _ 7 _ _ _ HB1.out.sb)
 simp only [List.getElem?_toArray, List.getElem?_cons_zero, List.getElem?_cons_succ] at d0 d1 d2 d3 d4 d5 d6 d7
 have HC := hid (xpoint_any p ao1 (bs ++ (nsB [s.no, s.ow, s.pw])) s.ax s.ay (fun n hn => hh n (by simp only [List.mem_cons, List.not_mem_nil, or_false] at hn; rcases hn with rfl | rfl <;> simp [shN])) (by omega) w1 HL1.out.q)
 go_wp2_with fail
 refine HC.out.mono ?_
 rintro e w2 ⟨he, ao2, h2⟩
 rw [he]
 have HL2 : Hid (Lx w w2 p ao ao2 bs (nsB [s.no, s.ow, s.pw] ++ nsB [s.ax, s.ay])) := hid (HL1.out.trans h2)
 have HB2 := hid (HB1.out.on h2)
 have z2 : (bs ++ (nsB [s.no, s.ow, s.pw] ++ nsB [s.ax, s.ay])).length <= bs.length + 50 := by
  have zz := nsB_le (l := [s.ax, s.ay]) (fun n hn => hh n (by simp only [List.mem_cons, List.not_mem_nil, or_false] at hn; rcases hn with rfl | rfl <;> simp [shN]))
  simp only [List.length_append, List.length_cons, List.length_nil] at zz z1 ⊢
  omega
 clear he h2 HC k0 d0 d1 d2 d3 d4 d5 d6 d7
 have k0 := HB2.out.cell
 have d0 := (cell_of_row _ _ 0 _ _ _ HB2.out.sb)
 have d1 := (cell_of_row _ _ 1 _ _ _ HB2.out.sb)
 have d2 := (cell_of_row _ _ 2 _ _ _ HB2.out.sb)
 have d3 := (cell_of_row _ _ 3 _ _ _ HB2.out.sb)
 have d4 := (cell_of_row _ _ 4 _ _ _ HB2.out.sb)
 have d5 := (cell_of_row _ _ 5 _ _ _ HB2.out.sb)
 have d6 := (cell_of_row _ _ 6 _ _ _ HB2.out.sb)
 have d7 := (cell_of_row _ _ 7 _ _ _ HB2.out.sb)
 simp only [List.getElem?_toArray, List.getElem?_cons_zero, List.getElem?_cons_succ] at d0 d1 d2 d3 d4 d5 d6 d7
 have HC := hid (xpoint_any p ao2 (bs ++ (nsB [s.no, s.ow, s.pw] ++ nsB [s.ax, s.ay])) s.sx s.sy (fun n hn => hh n (by simp only [List.mem_cons, List.not_mem_nil, or_false] at hn; rcases hn with rfl | rfl <;> simp [shN])) (by omega) w2 HL2.out.q)
 go_wp2_with fail
 refine HC.out.mono ?_
 rintro e w3 ⟨he, ao3, h3⟩
 rw [he]
 have HL3 : Hid (Lx w w3 p ao ao3 bs (nsB [s.no, s.ow, s.pw] ++ nsB [s.ax, s.ay] ++ nsB [s.sx, s.sy])) := hid (HL2.out.trans h3)
 have HB3 := hid (HB2.out.on h3)
 have z3 : (bs ++ (nsB [s.no, s.ow, s.pw] ++ nsB [s.ax, s.ay] ++ nsB [s.sx, s.sy])).length <= bs.length + 70 := by
  have zz := nsB_le (l := [s.sx, s.sy]) (fun n hn => hh n (by simp only [List.mem_cons, List.not_mem_nil, or_false] at hn; rcases hn with rfl | rfl <;> simp [shN]))
  simp only [List.length_append, List.length_cons, List.length_nil] at zz z2 ⊢
  omega
 clear he h3 HC k0 d0 d1 d2 d3 d4 d5 d6 d7
 have k0 := HB3.out.cell
 have d0 := (cell_of_row _ _ 0 _ _ _ HB3.out.sb)
 have d1 := (cell_of_row _ _ 1 _ _ _ HB3.out.sb)
 have d2 := (cell_of_row _ _ 2 _ _ _ HB3.out.sb)
 have d3 := (cell_of_row _ _ 3 _ _ _ HB3.out.sb)
 have d4 := (cell_of_row _ _ 4 _ _ _ HB3.out.sb)
 have d5 := (cell_of_row _ _ 5 _ _ _ HB3.out.sb)
 have d6 := (cell_of_row _ _ 6 _ _ _ HB3.out.sb)
 have d7 := (cell_of_row _ _ 7 _ _ _ HB3.out.sb)
 simp only [List.getElem?_toArray, List.getElem?_cons_zero, List.getElem?_cons_succ] at d0 d1 d2 d3 d4 d5 d6 d7
 have HC := hid (xlit_any p ao3 (bs ++ (nsB [s.no, s.ow, s.pw] ++ nsB [s.ax, s.ay] ++ nsB [s.sx, s.sy])) [s.lf] (fun n hn => hh n (by simp only [List.mem_cons, List.not_mem_nil, or_false] at hn; subst hn; simp [shN])) (by simp only [List.length_cons, List.length_nil]; omega) w3 HL3.out.q)
 go_wp2_with fail
 refine HC.out.mono ?_
 rintro e w4 ⟨he, ao4, h4⟩
 rw [he]
 have HL4 : Hid (Lx w w4 p ao ao4 bs (nsB [s.no, s.ow, s.pw] ++ nsB [s.ax, s.ay] ++ nsB [s.sx, s.sy] ++ nsB [s.lf])) := hid (HL3.out.trans h4)
 clear he h4 HC
 go_wp2_with fail
 go_end0
 exact ⟨rfl, ao4, HL4.out⟩
set_option maxHeartbeats 2000000 in
theorem xmover_any (p : Nat) (ao : Option Addr) (bs : List UInt8) (m : Mv) (hh : ∀ n ∈ mvN m, I64 n) (hb : bs.length + 121 <= 1000000) (w : World) (hw : Wq w p ao bs) :
  Calls Tryz.prog 100 #[wqv p, mv m] w fun r w' => r = .returned (.tuple #[]) /\ ∃ ao', Lx w w' p ao ao' bs (nsB [m.ax, m.ay] ++ nsB [m.sx, m.sy] ++ nsB [m.px, m.py] ++ nsB [m.fc, m.hl, m.en, m.co, m.ou, m.sd] ++ flB m.sh) := by
 have B0 := Bq.new hw (mcs m) 55
 have A0 := (Still.alloc w (.cells #[.pointer (some ⟨p, 0, none⟩)] 100)).trans (Still.alloc _ (.cells (mcs m) 55))
 obtain ⟨W, eW⟩ : ∃ W, (w.alloc (.cells #[.pointer (some ⟨p, 0, none⟩)] 100)).alloc (.cells (mcs m) 55) = W := ⟨_, rfl⟩
 obtain ⟨g, eg⟩ : ∃ g, w.heap.size = g := ⟨_, rfl⟩
 rw [eW] at A0 B0
 rw [eg] at B0
 have HB := hid B0
 have k0 := B0.cell
 have d0 := (cell_of_row _ _ 0 _ _ _ B0.sb)
 have d1 := (cell_of_row _ _ 1 _ _ _ B0.sb)
 have d2 := (cell_of_row _ _ 2 _ _ _ B0.sb)
 have d3 := (cell_of_row _ _ 3 _ _ _ B0.sb)
 have d4 := (cell_of_row _ _ 4 _ _ _ B0.sb)
 have d5 := (cell_of_row _ _ 5 _ _ _ B0.sb)
 have d6 := (cell_of_row _ _ 6 _ _ _ B0.sb)
 have d7 := (cell_of_row _ _ 7 _ _ _ B0.sb)
 have d8 := (cell_of_row _ _ 8 _ _ _ B0.sb)
 have d9 := (cell_of_row _ _ 9 _ _ _ B0.sb)
 have d10 := (cell_of_row _ _ 10 _ _ _ B0.sb)
 have d11 := (cell_of_row _ _ 11 _ _ _ B0.sb)
 have d12 := (cell_of_row _ _ 12 _ _ _ B0.sb)
 simp only [List.getElem?_toArray, List.getElem?_cons_zero, List.getElem?_cons_succ] at d0 d1 d2 d3 d4 d5 d6 d7 d8 d9 d10 d11 d12
 have HA := hid A0
 have HW := hid (hw.still A0)
 clear A0 B0 hw
 go_enter Tryz.func100, Tryz.ntmps100
 have HC := hid (xpoint_any p ao bs m.ax m.ay (fun n hn => hh n (by simp only [List.mem_cons, List.not_mem_nil, or_false] at hn; rcases hn with rfl | rfl <;> simp [mvN])) (by omega) W HW.out)
 go_wp2_with fail
 refine HC.out.mono ?_
 rintro e w1 ⟨he, ao1, h1⟩
 rw [he]
 have HL1 : Hid (Lx w w1 p ao ao1 bs (nsB [m.ax, m.ay])) := hid (h1.from HA.out)
 have HB1 := hid (HB.out.on h1)
 have z1 : (bs ++ (nsB [m.ax, m.ay])).length <= bs.length + 20 := by
  have zz := nsB_le (l := [m.ax, m.ay]) (fun n hn => hh n (by simp only [List.mem_cons, List.not_mem_nil, or_false] at hn; rcases hn with rfl | rfl <;> simp [mvN]))
  simp only [List.length_append, List.length_cons, List.length_nil] at zz ⊢
  omega
 clear he h1 HC k0 d0 d1 d2 d3 d4 d5 d6 d7 d8 d9 d10 d11 d12
 have k0 := HB1.out.cell
 have d0 := (cell_of_row _ _ 0 _ _ _ HB1.out.sb)
 have d1 := (cell_of_row _ _ 1 _ _ _ HB1.out.sb)
 have d2 := (cell_of_row _ _ 2 _ _ _ HB1.out.sb)
 have d3 := (cell_of_row _ _ 3 _ _ _ HB1.out.sb)
 have d4 := (cell_of_row _ _ 4 _ _ _ HB1.out.sb)
 have d5 := (cell_of_row _ _ 5 _ _ _ HB1.out.sb)
 have d6 := (cell_of_row _ _ 6 _ _ _ HB1.out.sb)
 have d7 := (cell_of_row _ _ 7 _ _ _ HB1.out.sb)
 have d8 := (cell_of_row _ _ 8 _ _ _ HB1.out.sb)
 have d9 := (cell_of_row _ _ 9 _ _ _ HB1.out.sb)
 have d10 := (cell_of_row _ _ 10 _ _ _ HB1.out.sb)
 have d11 := (cell_of_row _ _ 11 _ _ _ HB1.out.sb)
 have d12 := (cell_of_row _ _ 12 _ _ _ HB1.out.sb)
 simp only [List.getElem?_toArray, List.getElem?_cons_zero, List.getElem?_cons_succ] at d0 d1 d2 d3 d4 d5 d6 d7 d8 d9 d10 d11 d12
 have HC := hid (xpoint_any p ao1 (bs ++ (nsB [m.ax, m.ay])) m.sx m.sy (fun n hn => hh n (by simp only [List.mem_cons, List.not_mem_nil, or_false] at hn; rcases hn with rfl | rfl <;> simp [mvN])) (by omega) w1 HL1.out.q)
 go_wp2_with fail
 refine HC.out.mono ?_
 rintro e w2 ⟨he, ao2, h2⟩
 rw [he]
 have HL2 : Hid (Lx w w2 p ao ao2 bs (nsB [m.ax, m.ay] ++ nsB [m.sx, m.sy])) := hid (HL1.out.trans h2)
 have HB2 := hid (HB1.out.on h2)
 have z2 : (bs ++ (nsB [m.ax, m.ay] ++ nsB [m.sx, m.sy])).length <= bs.length + 40 := by
  have zz := nsB_le (l := [m.sx, m.sy]) (fun n hn => hh n (by simp only [List.mem_cons, List.not_mem_nil, or_false] at hn; rcases hn with rfl | rfl <;> simp [mvN]))
  simp only [List.length_append, List.length_cons, List.length_nil] at zz z1 ⊢
  omega
 clear he h2 HC k0 d0 d1 d2 d3 d4 d5 d6 d7 d8 d9 d10 d11 d12
 have k0 := HB2.out.cell
 have d0 := (cell_of_row _ _ 0 _ _ _ HB2.out.sb)
 have d1 := (cell_of_row _ _ 1 _ _ _ HB2.out.sb)
 have d2 := (cell_of_row _ _ 2 _ _ _ HB2.out.sb)
 have d3 := (cell_of_row _ _ 3 _ _ _ HB2.out.sb)
 have d4 := (cell_of_row _ _ 4 _ _ _ HB2.out.sb)
 have d5 := (cell_of_row _ _ 5 _ _ _ HB2.out.sb)
 have d6 := (cell_of_row _ _ 6 _ _ _ HB2.out.sb)
 have d7 := (cell_of_row _ _ 7 _ _ _ HB2.out.sb)
 have d8 := (cell_of_row _ _ 8 _ _ _ HB2.out.sb)
 have d9 := (cell_of_row _ _ 9 _ _ _ HB2.out.sb)
 have d10 := (cell_of_row _ _ 10 _ _ _ HB2.out.sb)
 have d11 := (cell_of_row _ _ 11 _ _ _ HB2.out.sb)
 have d12 := (cell_of_row _ _ 12 _ _ _ HB2.out.sb)
 simp only [List.getElem?_toArray, List.getElem?_cons_zero, List.getElem?_cons_succ] at d0 d1 d2 d3 d4 d5 d6 d7 d8 d9 d10 d11 d12
 have HC := hid (xpoint_any p ao2 (bs ++ (nsB [m.ax, m.ay] ++ nsB [m.sx, m.sy])) m.px m.py (fun n hn => hh n (by simp only [List.mem_cons, List.not_mem_nil, or_false] at hn; rcases hn with rfl | rfl <;> simp [mvN])) (by omega) w2 HL2.out.q)
 go_wp2_with fail
 refine HC.out.mono ?_
 rintro e w3 ⟨he, ao3, h3⟩
 rw [he]
 have HL3 : Hid (Lx w w3 p ao ao3 bs (nsB [m.ax, m.ay] ++ nsB [m.sx, m.sy] ++ nsB [m.px, m.py])) := hid (HL2.out.trans h3)
 have HB3 := hid (HB2.out.on h3)
 have z3 : (bs ++ (nsB [m.ax, m.ay] ++ nsB [m.sx, m.sy] ++ nsB [m.px, m.py])).length <= bs.length + 60 := by
  have zz := nsB_le (l := [m.px, m.py]) (fun n hn => hh n (by simp only [List.mem_cons, List.not_mem_nil, or_false] at hn; rcases hn with rfl | rfl <;> simp [mvN]))
  simp only [List.length_append, List.length_cons, List.length_nil] at zz z2 ⊢
  omega
 clear he h3 HC k0 d0 d1 d2 d3 d4 d5 d6 d7 d8 d9 d10 d11 d12
 have k0 := HB3.out.cell
 have d0 := (cell_of_row _ _ 0 _ _ _ HB3.out.sb)
 have d1 := (cell_of_row _ _ 1 _ _ _ HB3.out.sb)
 have d2 := (cell_of_row _ _ 2 _ _ _ HB3.out.sb)
 have d3 := (cell_of_row _ _ 3 _ _ _ HB3.out.sb)
 have d4 := (cell_of_row _ _ 4 _ _ _ HB3.out.sb)
 have d5 := (cell_of_row _ _ 5 _ _ _ HB3.out.sb)
 have d6 := (cell_of_row _ _ 6 _ _ _ HB3.out.sb)
 have d7 := (cell_of_row _ _ 7 _ _ _ HB3.out.sb)
 have d8 := (cell_of_row _ _ 8 _ _ _ HB3.out.sb)
 have d9 := (cell_of_row _ _ 9 _ _ _ HB3.out.sb)
 have d10 := (cell_of_row _ _ 10 _ _ _ HB3.out.sb)
 have d11 := (cell_of_row _ _ 11 _ _ _ HB3.out.sb)
 have d12 := (cell_of_row _ _ 12 _ _ _ HB3.out.sb)
 simp only [List.getElem?_toArray, List.getElem?_cons_zero, List.getElem?_cons_succ] at d0 d1 d2 d3 d4 d5 d6 d7 d8 d9 d10 d11 d12
 have HC := hid (xlit_any p ao3 (bs ++ (nsB [m.ax, m.ay] ++ nsB [m.sx, m.sy] ++ nsB [m.px, m.py])) [m.fc, m.hl, m.en, m.co, m.ou, m.sd] (fun n hn => hh n (by simp only [List.mem_cons, List.not_mem_nil, or_false] at hn; rcases hn with rfl | rfl | rfl | rfl | rfl | rfl <;> simp [mvN])) (by simp only [List.length_cons, List.length_nil]; omega) w3 HL3.out.q)
 go_wp2_with fail
 refine HC.out.mono ?_
 rintro e w4 ⟨he, ao4, h4⟩
 rw [he]
 have HL4 : Hid (Lx w w4 p ao ao4 bs (nsB [m.ax, m.ay] ++ nsB [m.sx, m.sy] ++ nsB [m.px, m.py] ++ nsB [m.fc, m.hl, m.en, m.co, m.ou, m.sd])) := hid (HL3.out.trans h4)
 have HB4 := hid (HB3.out.on h4)
 have z4 : (bs ++ (nsB [m.ax, m.ay] ++ nsB [m.sx, m.sy] ++ nsB [m.px, m.py] ++ nsB [m.fc, m.hl, m.en, m.co, m.ou, m.sd])).length <= bs.length + 120 := by
  have zz := nsB_le (l := [m.fc, m.hl, m.en, m.co, m.ou, m.sd]) (fun n hn => hh n (by simp only [List.mem_cons, List.not_mem_nil, or_false] at hn; rcases hn with rfl | rfl | rfl | rfl | rfl | rfl <;> simp [mvN]))
  simp only [List.length_append, List.length_cons, List.length_nil] at zz z3 ⊢
  omega
 clear he h4 HC k0 d0 d1 d2 d3 d4 d5 d6 d7 d8 d9 d10 d11 d12
 have k0 := HB4.out.cell
 have d0 := (cell_of_row _ _ 0 _ _ _ HB4.out.sb)
 have d1 := (cell_of_row _ _ 1 _ _ _ HB4.out.sb)
 have d2 := (cell_of_row _ _ 2 _ _ _ HB4.out.sb)
 have d3 := (cell_of_row _ _ 3 _ _ _ HB4.out.sb)
 have d4 := (cell_of_row _ _ 4 _ _ _ HB4.out.sb)
 have d5 := (cell_of_row _ _ 5 _ _ _ HB4.out.sb)
 have d6 := (cell_of_row _ _ 6 _ _ _ HB4.out.sb)
 have d7 := (cell_of_row _ _ 7 _ _ _ HB4.out.sb)
 have d8 := (cell_of_row _ _ 8 _ _ _ HB4.out.sb)
 have d9 := (cell_of_row _ _ 9 _ _ _ HB4.out.sb)
 have d10 := (cell_of_row _ _ 10 _ _ _ HB4.out.sb)
 have d11 := (cell_of_row _ _ 11 _ _ _ HB4.out.sb)
 have d12 := (cell_of_row _ _ 12 _ _ _ HB4.out.sb)
 simp only [List.getElem?_toArray, List.getElem?_cons_zero, List.getElem?_cons_succ] at d0 d1 d2 d3 d4 d5 d6 d7 d8 d9 d10 d11 d12
 have HC := hid (xflag_any p ao4 (bs ++ (nsB [m.ax, m.ay] ++ nsB [m.sx, m.sy] ++ nsB [m.px, m.py] ++ nsB [m.fc, m.hl, m.en, m.co, m.ou, m.sd])) m.sh trivial (by omega) w4 HL4.out.q)
 go_wp2_with fail
 refine HC.out.mono ?_
 rintro e w5 ⟨he, ao5, h5⟩
 rw [he]
 have HL5 : Hid (Lx w w5 p ao ao5 bs (nsB [m.ax, m.ay] ++ nsB [m.sx, m.sy] ++ nsB [m.px, m.py] ++ nsB [m.fc, m.hl, m.en, m.co, m.ou, m.sd] ++ flB m.sh)) := hid (HL4.out.trans h5)
 clear he h5 HC
 go_wp2_with fail
 go_end0
 exact ⟨rfl, ao5, HL5.out⟩
end Go.Proofs.YtkgbmefaphhcnaaGreatDoor
namespace Go.Proofs.YtkgbmefaphhcnaaGreatDoor
open Go.RowKit
set_option maxRecDepth 100000
structure Oz (w w' : World) (ao ao' : Option Addr) (cap' : Nat) (bs' : List UInt8) : Prop where
 o : Ow 5 w' ao' bs'.length cap' bs'
 f : Fr (fun k => ∃ a, ao = some a /\ a.block = k) w w'
 l : Later w ao ao'
theorem Oz.nil {w w' : World} {ao : Option Addr} {cap : Nat} {bs : List UInt8} (h : Ow 5 w ao bs.length cap bs) (hs : Still w w') : Oz w w' ao ao cap bs := ⟨h.still hs, Still.to hs, Later.refl _ _⟩
theorem Oz.from {w w1 w' : World} {ao ao' : Option Addr} {cap : Nat} {bs : List UInt8} (hs : Still w w1) (h : Oz w1 w' ao ao' cap bs) : Oz w w' ao ao' cap bs := ⟨h.o, (Still.to hs).trans h.f (fun _ _ h => h), fun a ha => by
 rcases h.l a ha with h | h
 ·exact .inl h
 ·exact .inr (Nat.le_trans hs.size h)⟩
theorem Oz.still {w w1 w' : World} {ao ao' : Option Addr} {cap : Nat} {bs : List UInt8} (h : Oz w w1 ao ao' cap bs) (hs : Still w1 w') : Oz w w' ao ao' cap bs := ⟨h.o.still hs, h.f.trans hs (fun _ _ e => e.elim), h.l⟩
theorem Oz.trans {w w1 w2 : World} {ao ao1 ao2 : Option Addr} {c1 c2 : Nat} {b1 b2 : List UInt8} (h : Oz w w1 ao ao1 c1 b1) (k : Oz w1 w2 ao1 ao2 c2 b2) : Oz w w2 ao ao2 c2 b2 := by
 refine ⟨k.o, h.f.trans k.f (fun j hj e => ?_), fun a ha => ?_⟩
 ·obtain ⟨a, ha, rfl⟩ := e
  rcases h.l a ha with ⟨b, hb, e⟩ | h1
  ·exact ⟨b, hb, e⟩
  ·omega
 ·rcases k.l a ha with ⟨b, hb, e⟩ | h1
  ·rcases h.l b hb with ⟨c, hc, e2⟩ | h2
   ·exact .inl ⟨c, hc, e2.trans e⟩
   ·exact .inr (by rw [<- e]; exact h2)
  ·exact .inr (Nat.le_trans h.f.size h1)
theorem Oz.kept {w w1 : World} {ao ao1 : Option Addr} {c1 : Nat} {b1 : List UInt8} (h : Oz w w1 ao ao1 c1 b1) {k : Nat} {o : Obj} (hk : w.heap[k]? = some o) (hn : ∀ a, ao = some a -> a.block ≠ k) : w1.heap[k]? = some o :=
 h.f.kept hk (fun ⟨a, ha, e⟩ => hn a ha e)
theorem Oz.app {w w1 : World} {ao ao1 : Option Addr} {n m c1 : Nat} {bs cs : List UInt8} (hn : n = bs.length) (hm : m = cs.length) (ho : Ow 5 w1 ao1 (n + m) c1 (bs ++ cs)) (hf : Fr (fun k => ∃ a, ao = some a /\ a.block = k) w w1) (hl : ∀ a, ao1 = some a -> ao = some a \/ w.heap.size <= a.block) : Oz w w1 ao ao1 c1 (bs ++ cs) := by
 subst hn hm
 refine ⟨by rw [List.length_append]; exact ho, hf, fun a ha => ?_⟩
 rcases hl a ha with h | h
 ·exact .inl ⟨a, h, rfl⟩
 ·exact .inr h
set_option maxHeartbeats 2000000 in
theorem rnum_any (ao : Option Addr) (cap : Nat) (bs : List UInt8) (lo : Option Addr) (ln lc : Nat) (l : List Int) (hl : ∀ n ∈ l, I64 n) (hb : bs.length + 10 * l.length <= 1000000) (w : World) (ho : Ow 5 w ao bs.length cap bs) (hr : RdI w lo ln lc l) (hne : ∀ a b, lo = some a -> 0 < ln -> ao = some b -> b.block ≠ a.block) :
  Calls Tryz.prog 44 #[.slice ao bs.length cap, .slice lo ln lc] w fun e w' => ∃ ao' cap', e = .returned (.slice ao' (bs ++ nsB l).length cap') /\ Oz w w' ao ao' cap' (bs ++ nsB l) := by
 obtain ⟨i0, hi0, hz0, hs10, hb10⟩ := info_parts info_u8
 have hln := hr.len
 have hsm := hr.small
 have HO := hid ho
 have HR := hid hr
 have HN := hid hne
 have HLl := hid hl
 have HT := hid (fun n (h : I64 n) w => turned_any n h.1 h.2 w)
 have HF := hid (fun n (h : I64 n) w => rform_any (Cp.fold n) (Cp.fold_lt h.1 h.2) w)
 clear ho hr hne hl
 go_enter Tryz.func44, Tryz.ntmps44
 go_wp2_with fail
 go_loopw [0, 5] (fun u0 u5 wr => ∃ (i : Nat) (ao1 : Option Addr) (c1 : Nat), i <= ln /\ u5 = .int .i64 (i : Int) /\ u0 = .slice ao1 (bs ++ nsB (l.take i)).length c1 /\ Hid (Oz w wr ao ao1 c1 (bs ++ nsB (l.take i)))) (fun _ u5 _ => ln - (intOf u5).toNat)
 case atStart => exact ⟨0, ao, cap, by omega, rfl, by simp [nsB], hid (by simpa [nsB] using Oz.nil HO.out (Fr.refl _ _))⟩
 case round =>
  obtain ⟨i, ao1, c1, hi, rfl, rfl, HZ⟩ := hrel
  by_cases hin : i < ln
  ·have hlt : (i : Int) < (ln : Int) := by omega
   have hil : i < l.length := by omega
   obtain ⟨b, o, rfl⟩ := HR.out.addr (by omega)
   have d1 := (HR.out.kept HZ.out.f (fun a ha h0 e => by obtain ⟨a2, h2, e2⟩ := e; exact HN.out a a2 ha h0 h2 e2)).byte hil
   have hI := HLl.out _ (List.getElem_mem hil)
   have HS : Hid (nsB (l.take (i + 1)) = nsB (l.take i) ++ Cp.form (Cp.fold l[i])) := hid (by rw [List.take_succ_eq_append_getElem hil, nsB_app, nsB_one])
   have hlen : (bs ++ nsB (l.take i)).length <= 1000000 := by
    have := nsB_le (l := l.take i) (fun n hn => HLl.out n (List.mem_of_mem_take hn))
    rw [List.length_append]
    simp at this
    omega
   have h10 := form10 hI
   have HC1 := hid (HT.out l[i] hI)
   have HC2 := hid (HF.out l[i] hI)
   obtain ⟨x, ex⟩ : ∃ x, l[i] = x := ⟨_, rfl⟩
   rw [ex] at d1 HC1 HC2 HS h10
   obtain ⟨B1, eB1⟩ : ∃ B, bs ++ nsB (l.take i) = B := ⟨_, rfl⟩
   have HE1 := hid eB1
   rw [eB1] at HZ hlen ⊢
   clear ex eB1 hI
   go_wp2_with fail
   refine (HC1.out _).mono ?_
   rintro e w2 ⟨he, hw⟩
   rw [he, hw]
   clear he hw w2 HC1
   go_wp2_with fail
   refine (HC2.out _).mono ?_
   rintro e w3 ⟨fo, d, he, ho3, h3, _⟩
   rw [he]
   have HZ3 := hid (HZ.out.still h3)
   have HO3 := hid ho3.rd
   clear he ho3 h3 HC2 HZ d1
   go_wp2_with (at_builtin; refine wpList_app _ rfl _ _ 38 rfl 5 i0 Tryz.underlying38 hi0 hz0 hs10 hb10 ao1 fo B1.length c1 (Cp.form (Cp.fold x)).length d B1 (Cp.form (Cp.fold x)) rfl rfl HZ3.out.o HO3.out (by omega) ?_; intro ao4 cap4 w4 ho4 hf4 hn4 _)
   have HZ4 : Hid (Oz w w4 ao ao4 cap4 (bs ++ nsB (l.take (i + 1)))) := hid (by
    have := HZ3.out.trans (Oz.app rfl rfl ho4 hf4 hn4)
    rw [HS.out, <- List.append_assoc, HE1.out]
    exact this)
   have HLn : Hid ((bs ++ nsB (l.take (i + 1))).length = B1.length + (Cp.form (Cp.fold x)).length) := hid (by rw [HS.out, <- List.append_assoc, HE1.out, List.length_append])
   clear ho4 hf4 hn4 HZ3 HO3
   go_roundw
   case rel => exact ⟨i + 1, ao4, cap4, by omega, by go_num, by rw [HLn.out], HZ4⟩
   case measure => simp [intOf]; omega
  ·obtain rfl : i = ln := by omega
   rw [List.take_of_length_le (by omega)] at HZ ⊢
   go_wp2_with fail
   go_ret
   exact ⟨ao1, c1, rfl, HZ.out⟩
set_option maxHeartbeats 2000000 in
theorem rcount_any (ao : Option Addr) (cap : Nat) (bs : List UInt8) (k : Nat) (hk : k <= 9223372036854775807) (hb : bs.length <= 1000000) (w : World) (ho : Ow 5 w ao bs.length cap bs) :
  Calls Tryz.prog 47 #[.slice ao bs.length cap, .int .i64 (k : Int)] w fun e w' => ∃ ao' cap', e = .returned (.slice ao' (bs ++ Cp.form k).length cap') /\ Oz w w' ao ao' cap' (bs ++ Cp.form k) := by
 obtain ⟨i0, hi0, hz0, hs10, hb10⟩ := info_parts info_u8
 have hcv : IntKind.u64.wrap (k : Int) = (k : Int) := by rw [IntKind.wrap_u64]; omega
 have HC := hid (rform_any k (by omega) w)
 have h10 := Cp.form_ten (n := k) (by omega)
 have HO := hid ho
 clear ho
 go_enter Tryz.func47, Tryz.ntmps47
 go_wp2_with fail
 refine HC.out.mono ?_
 rintro e w3 ⟨fo, d, he, ho3, h3, _⟩
 rw [he]
 have HO3 := hid ho3.rd
 have HOo := hid (HO.out.still h3)
 have HS3 := hid h3
 clear he ho3 h3 HC HO
 go_wp2_with (at_builtin; refine wpList_app _ rfl _ _ 38 rfl 5 i0 Tryz.underlying38 hi0 hz0 hs10 hb10 ao fo bs.length cap (Cp.form k).length d bs (Cp.form k) rfl rfl HOo.out HO3.out (by omega) ?_; intro ao4 cap4 w4 ho4 hf4 hn4 _)
 have HZ4 : Hid (Oz w w4 ao ao4 cap4 (bs ++ Cp.form k)) := hid ((Oz.app rfl rfl ho4 hf4 hn4).from HS3.out)
 clear ho4 hf4 hn4
 go_wp2_with fail
 go_ret
 exact ⟨ao4, cap4, by rw [List.length_append]; rfl, HZ4.out⟩
end Go.Proofs.YtkgbmefaphhcnaaGreatDoor
