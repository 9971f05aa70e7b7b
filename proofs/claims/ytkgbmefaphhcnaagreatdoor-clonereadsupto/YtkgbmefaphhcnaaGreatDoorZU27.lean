/- Parts of the proof, laid end to end. -/
import Derived.Test.YtkgbmefaphhcnaaGreatDoorZU26
import Derived.Lib.ConvBytes
import Derived.Test.YtkgbmefaphhcnaaGreatDoorZU12
namespace Go.Proofs.YtkgbmefaphhcnaaGreatDoor
open Go.RowKit
open Np Za Ka Ja Ea Ha
set_option maxRecDepth 100000
theorem bs_len (s : ByteArray) : s.data.toList.length = s.size := by rw [Array.length_toList]; rfl
theorem bytes_still (w : World) (e : TypeId) (s : ByteArray) : Still w (Lib.bytesWorld w e s) :=
 ⟨rfl, rfl, rfl, by rw [Lib.bytesWorld_size]; omega, fun k hk _ => Lib.bytesWorld_at_old w e s k hk⟩
theorem bytes_rd (w : World) (e : TypeId) (s : ByteArray) (hs : s.size <= 281474976710656) : Rd (Lib.bytesWorld w e s) (some ⟨w.heap.size, 0, none⟩) s.size (grownCap w s.size 0 e) s.data.toList := by
 have hm : s.size <= maxLen := by unfold maxLen; omega
 refine ⟨bs_len s, grownCap_ge w s.size 0 e, grownCap_le_maxLen w s.size 0 e hm, fun a ha _ => (by cases ha; rfl), fun h => (by cases h), ?_⟩
 rintro a ha j hj
 cases ha
 have := Lib.bytesWorld_cell w e s j (by rw [<- bs_len]; exact hj)
 rw [Nat.zero_add, this, List.getD_eq_getElem?_getD, List.getElem?_eq_getElem hj]
 rfl
theorem xbytes_any (p : Nat) (ao : Option Addr) (bs : List UInt8) (so : Option Addr) (m c : Nat) (cs : List UInt8) (hb : bs.length + m + 10 <= 1000000) (w : World) (hw : Wq w p ao bs) (hx : Rd w so m c cs) (hxp : ∀ a, so = some a -> 0 < m -> ¬ Wf p ao a.block) :
  Calls Tryz.prog 152 #[.pointer (some ⟨p, 0, none⟩), .slice so m c] w fun r w' => r = .returned (.tuple #[]) /\ ∃ ao', Lx w w' p ao ao' bs (Cp.counted cs) := by
 obtain ⟨cap, h⟩ := hw.wr
 have hten := Cp.form_ten (n := m) (by omega)
 have hl := hx.len
 refine (wbytes_any p ao _ cap _ bs 0 so m c cs w h hx hxp (by omega) (by omega) (by omega)).mono ?_
 rintro r w' ⟨rfl, hl⟩
 refine ⟨rfl, Lx.of hl ?_⟩
 unfold Cp.counted
 rw [List.length_append, hx.len]
 omega
def ssB (p : Int) (q : Nat) (C R : Int) (s : ByteArray) (l : List Int) : List UInt8 := nsB [p] ++ Cp.form q ++ nsB [C, R] ++ Cp.counted s.data.toList ++ Cp.form l.length ++ nsB l
structure InC (p : Int) (q : Nat) (C R : Int) (s : ByteArray) (l : List Int) : Prop where
 ip : I64 p
 iq : q < 18446744073709551616
 iC : I64 C
 iR : I64 R
 il : ∀ n ∈ l, I64 n
 iz : s.size + 10 * l.length <= 100000
set_option maxHeartbeats 4000000 in
theorem xsession_any (p : Nat) (p0 : Int) (q : Nat) (C R : Int) (s : ByteArray) (lo : Option Addr) (ln lc : Nat) (l : List Int) (hh : InC p0 q C R s l) (w0 w : World) (hw : Wq w p none []) (hr : RdI w0 lo ln lc l) (ha : At w0 w p none) :
  Calls Tryz.prog 114 #[wqv p, .agg #[.int .i64 p0, .int .u64 (q : Int), .int .i64 C, .int .i64 R, .string s, .slice lo ln lc]] w fun r w' => r = .returned (.tuple #[]) /\ ∃ ao', Lx w w' p none ao' [] (ssB p0 q C R s l) := by
 unfold ssB
 have hz := hh.iz
 have hln := hr.len
 subst hln
 have hcv := fun (W : World) => Lib.run_convert_string_bytes (P := Tryz.prog) W 9 38 5 s Tryz.underlying9 Tryz.underlying38 Tryz.underlying5
 have z1 := nsB_le (l := [p0]) (fun n hn => by simp only [List.mem_cons, List.not_mem_nil, or_false] at hn; rw [hn]; exact hh.ip)
 have z2 := Cp.form_ten hh.iq
 have z3 := nsB_le (l := [C, R]) (fun n hn => by simp only [List.mem_cons, List.not_mem_nil, or_false] at hn; rcases hn with rfl | rfl; exact hh.iC; exact hh.iR)
 have z4 : (Cp.counted s.data.toList).length <= s.size + 10 := by
  have h1 := Cp.form_ten (n := s.data.toList.length) (by rw [bs_len]; omega)
  unfold Cp.counted
  rw [List.length_append, bs_len]
  rw [bs_len] at h1
  omega
 have z5 := Cp.form_ten (n := l.length) (by omega)
 simp only [List.length_cons, List.length_nil] at z1 z3
 have B0 := Bq.new hw #[.int .i64 p0, .int .u64 (q : Int), .int .i64 C, .int .i64 R, .string s, .slice lo l.length lc] 37
 have A0 := (Still.alloc w (.cells #[.pointer (some ⟨p, 0, none⟩)] 100)).trans (Still.alloc _ (.cells #[.int .i64 p0, .int .u64 (q : Int), .int .i64 C, .int .i64 R, .string s, .slice lo l.length lc] 37))
 obtain ⟨U, eU⟩ : ∃ U, (w.alloc (.cells #[.pointer (some ⟨p, 0, none⟩)] 100)).alloc (.cells #[.int .i64 p0, .int .u64 (q : Int), .int .i64 C, .int .i64 R, .string s, .slice lo l.length lc] 37) = U := ⟨_, rfl⟩
 obtain ⟨g, eg⟩ : ∃ g, w.heap.size = g := ⟨_, rfl⟩
 rw [eU] at A0 B0
 rw [eg] at B0
 have HB := hid B0
 have HA := hid A0
 have HW := hid (hw.still A0)
 have HAt := hid (ha.still A0)
 have HI := hid hh
 have HR := hid hr
 have HNe : Hid (∀ a, lo = some a -> 0 < l.length -> a.block < w0.heap.size) := hid (fun a ha h0 => hr.lt h0 a ha)
 have k0 := B0.cell
 have d0 := cell_of_row _ _ 0 _ _ _ B0.sb
 have d1 := cell_of_row _ _ 1 _ _ _ B0.sb
 have d2 := cell_of_row _ _ 2 _ _ _ B0.sb
 have d3 := cell_of_row _ _ 3 _ _ _ B0.sb
 have d4 := cell_of_row _ _ 4 _ _ _ B0.sb
 have d5 := cell_of_row _ _ 5 _ _ _ B0.sb
 simp only [List.getElem?_toArray, List.getElem?_cons_zero, List.getElem?_cons_succ] at d0 d1 d2 d3 d4 d5
 clear A0 B0 hw ha hh hr
 go_enter Tryz.func114, Tryz.ntmps114
 have HC := hid (xlit_any p none [] [p0] (fun n hn => by simp only [List.mem_cons, List.not_mem_nil, or_false] at hn; rw [hn]; exact HI.out.ip) (by simp only [List.length_cons, List.length_nil] <;> omega) U HW.out)
 go_wp2_with fail
 refine HC.out.mono ?_
 rintro e w1 ⟨he, ao1, h1⟩
 rw [he]
 have HL1 : Hid (Lx w w1 p none ao1 [] (nsB [p0])) := hid (h1.from HA.out)
 have HAt1 := hid (HAt.out.on h1)
 have HB1 := hid (HB.out.on h1)
 have y1 : ([] ++ (nsB [p0])).length = 0 + (nsB [p0]).length := by show (nsB [p0]).length = 0 + (nsB [p0]).length; omega
 clear he h1 HC k0 d0 d1 d2 d3 d4 d5
 have k0 := HB1.out.cell
 have d0 := cell_of_row _ _ 0 _ _ _ HB1.out.sb
 have d1 := cell_of_row _ _ 1 _ _ _ HB1.out.sb
 have d2 := cell_of_row _ _ 2 _ _ _ HB1.out.sb
 have d3 := cell_of_row _ _ 3 _ _ _ HB1.out.sb
 have d4 := cell_of_row _ _ 4 _ _ _ HB1.out.sb
 have d5 := cell_of_row _ _ 5 _ _ _ HB1.out.sb
 simp only [List.getElem?_toArray, List.getElem?_cons_zero, List.getElem?_cons_succ] at d0 d1 d2 d3 d4 d5
 have HC := hid (xuint_any p ao1 ([] ++ (nsB [p0])) q HI.out.iq (by omega) w1 HL1.out.q)
 go_wp2_with fail
 refine HC.out.mono ?_
 rintro e w2 ⟨he, ao2, h2⟩
 rw [he]
 have HL2 : Hid (Lx w w2 p none ao2 [] (nsB [p0] ++ Cp.form q)) := hid (HL1.out.trans h2)
 have HAt2 := hid (HAt1.out.on h2)
 have HB2 := hid (HB1.out.on h2)
 have y2 : ([] ++ (nsB [p0] ++ Cp.form q)).length = ([] ++ (nsB [p0])).length + (Cp.form q).length := by show (nsB [p0] ++ Cp.form q).length = (nsB [p0]).length + (Cp.form q).length; exact List.length_append
 clear he h2 HC k0 d0 d1 d2 d3 d4 d5
 have k0 := HB2.out.cell
 have d0 := cell_of_row _ _ 0 _ _ _ HB2.out.sb
 have d1 := cell_of_row _ _ 1 _ _ _ HB2.out.sb
 have d2 := cell_of_row _ _ 2 _ _ _ HB2.out.sb
 have d3 := cell_of_row _ _ 3 _ _ _ HB2.out.sb
 have d4 := cell_of_row _ _ 4 _ _ _ HB2.out.sb
 have d5 := cell_of_row _ _ 5 _ _ _ HB2.out.sb
 simp only [List.getElem?_toArray, List.getElem?_cons_zero, List.getElem?_cons_succ] at d0 d1 d2 d3 d4 d5
 have HC := hid (xlit_any p ao2 ([] ++ (nsB [p0] ++ Cp.form q)) [C, R] (fun n hn => by simp only [List.mem_cons, List.not_mem_nil, or_false] at hn; rcases hn with rfl | rfl; exact HI.out.iC; exact HI.out.iR) (by simp only [List.length_cons, List.length_nil] <;> omega) w2 HL2.out.q)
 go_wp2_with fail
 refine HC.out.mono ?_
 rintro e w3 ⟨he, ao3, h3⟩
 rw [he]
 have HL3 : Hid (Lx w w3 p none ao3 [] (nsB [p0] ++ Cp.form q ++ nsB [C, R])) := hid (HL2.out.trans h3)
 have HAt3 := hid (HAt2.out.on h3)
 have HB3 := hid (HB2.out.on h3)
 have y3 : ([] ++ (nsB [p0] ++ Cp.form q ++ nsB [C, R])).length = ([] ++ (nsB [p0] ++ Cp.form q)).length + (nsB [C, R]).length := by show (nsB [p0] ++ Cp.form q ++ nsB [C, R]).length = (nsB [p0] ++ Cp.form q).length + (nsB [C, R]).length; exact List.length_append
 clear he h3 HC k0 d0 d1 d2 d3 d4 d5
 have k0 := HB3.out.cell
 have d0 := cell_of_row _ _ 0 _ _ _ HB3.out.sb
 have d1 := cell_of_row _ _ 1 _ _ _ HB3.out.sb
 have d2 := cell_of_row _ _ 2 _ _ _ HB3.out.sb
 have d3 := cell_of_row _ _ 3 _ _ _ HB3.out.sb
 have d4 := cell_of_row _ _ 4 _ _ _ HB3.out.sb
 have d5 := cell_of_row _ _ 5 _ _ _ HB3.out.sb
 simp only [List.getElem?_toArray, List.getElem?_cons_zero, List.getElem?_cons_succ] at d0 d1 d2 d3 d4 d5
 have A4 := bytes_still w3 5 s
 have HA4 := hid A4
 have HC := hid (xbytes_any p ao3 ([] ++ (nsB [p0] ++ Cp.form q ++ nsB [C, R])) (some ⟨w3.heap.size, 0, none⟩) s.size (grownCap w3 s.size 0 5) s.data.toList (by omega) (Lib.bytesWorld w3 5 s) (HL3.out.q.still A4) (bytes_rd w3 5 s (by omega)) (fun b hb _ e => by cases hb; have := (HL3.out.q).wf_lt _ e; simp at this))
 clear A4
 go_wp2_with fail
 refine HC.out.mono ?_
 rintro e w4 ⟨he, ao4, h4⟩
 rw [he]
 replace h4 := h4.from HA4.out
 have HL4 : Hid (Lx w w4 p none ao4 [] (nsB [p0] ++ Cp.form q ++ nsB [C, R] ++ Cp.counted s.data.toList)) := hid (HL3.out.trans h4)
 have HAt4 := hid (HAt3.out.on h4)
 have HB4 := hid (HB3.out.on h4)
 have y4 : ([] ++ (nsB [p0] ++ Cp.form q ++ nsB [C, R] ++ Cp.counted s.data.toList)).length = ([] ++ (nsB [p0] ++ Cp.form q ++ nsB [C, R])).length + (Cp.counted s.data.toList).length := by show (nsB [p0] ++ Cp.form q ++ nsB [C, R] ++ Cp.counted s.data.toList).length = (nsB [p0] ++ Cp.form q ++ nsB [C, R]).length + (Cp.counted s.data.toList).length; exact List.length_append
 clear he h4 HC k0 d0 d1 d2 d3 d4 d5
 have k0 := HB4.out.cell
 have d0 := cell_of_row _ _ 0 _ _ _ HB4.out.sb
 have d1 := cell_of_row _ _ 1 _ _ _ HB4.out.sb
 have d2 := cell_of_row _ _ 2 _ _ _ HB4.out.sb
 have d3 := cell_of_row _ _ 3 _ _ _ HB4.out.sb
 have d4 := cell_of_row _ _ 4 _ _ _ HB4.out.sb
 have d5 := cell_of_row _ _ 5 _ _ _ HB4.out.sb
 simp only [List.getElem?_toArray, List.getElem?_cons_zero, List.getElem?_cons_succ] at d0 d1 d2 d3 d4 d5
 have HC := hid (xcount_any p ao4 ([] ++ (nsB [p0] ++ Cp.form q ++ nsB [C, R] ++ Cp.counted s.data.toList)) l.length (by omega) (by omega) w4 HL4.out.q)
 go_wp2_with fail
 refine HC.out.mono ?_
 rintro e w5 ⟨he, ao5, h5⟩
 rw [he]
 have HL5 : Hid (Lx w w5 p none ao5 [] (nsB [p0] ++ Cp.form q ++ nsB [C, R] ++ Cp.counted s.data.toList ++ Cp.form l.length)) := hid (HL4.out.trans h5)
 have HAt5 := hid (HAt4.out.on h5)
 have HB5 := hid (HB4.out.on h5)
 have y5 : ([] ++ (nsB [p0] ++ Cp.form q ++ nsB [C, R] ++ Cp.counted s.data.toList ++ Cp.form l.length)).length = ([] ++ (nsB [p0] ++ Cp.form q ++ nsB [C, R] ++ Cp.counted s.data.toList)).length + (Cp.form l.length).length := by show (nsB [p0] ++ Cp.form q ++ nsB [C, R] ++ Cp.counted s.data.toList ++ Cp.form l.length).length = (nsB [p0] ++ Cp.form q ++ nsB [C, R] ++ Cp.counted s.data.toList).length + (Cp.form l.length).length; exact List.length_append
 clear he h5 HC k0 d0 d1 d2 d3 d4 d5
 have k0 := HB5.out.cell
 have d0 := cell_of_row _ _ 0 _ _ _ HB5.out.sb
 have d1 := cell_of_row _ _ 1 _ _ _ HB5.out.sb
 have d2 := cell_of_row _ _ 2 _ _ _ HB5.out.sb
 have d3 := cell_of_row _ _ 3 _ _ _ HB5.out.sb
 have d4 := cell_of_row _ _ 4 _ _ _ HB5.out.sb
 have d5 := cell_of_row _ _ 5 _ _ _ HB5.out.sb
 simp only [List.getElem?_toArray, List.getElem?_cons_zero, List.getElem?_cons_succ] at d0 d1 d2 d3 d4 d5
 have HC := hid (xnum_any p ao5 ([] ++ (nsB [p0] ++ Cp.form q ++ nsB [C, R] ++ Cp.counted s.data.toList ++ Cp.form l.length)) lo l.length lc l HI.out.il (by omega) w5 HL5.out.q (HR.out.still HAt5.out.s) (fun b hb h0 e => by have := HNe.out b hb h0; have := HAt5.out.b _ e; omega))
 go_wp2_with fail
 refine HC.out.mono ?_
 rintro e w6 ⟨he, ao6, h6⟩
 rw [he]
 have HL6 : Hid (Lx w w6 p none ao6 [] (nsB [p0] ++ Cp.form q ++ nsB [C, R] ++ Cp.counted s.data.toList ++ Cp.form l.length ++ nsB l)) := hid (HL5.out.trans h6)
 clear he h6 HC
 go_wp2_with fail
 go_end0
 exact ⟨rfl, ao6, HL6.out⟩
set_option maxHeartbeats 2000000 in
theorem sessionBytes1_any (p g : Nat) (p0 : Int) (q : Nat) (C R : Int) (s : ByteArray) (lo : Option Addr) (ln lc : Nat) (l : List Int) (hh : InC p0 q C R s l) (w0 w : World) (hw : Wq w p none []) (hr : RdI w0 lo ln lc l) (hg : w0.heap[g]? = some (.cells #[.int .i64 p0, .int .u64 (q : Int), .int .i64 C, .int .i64 R, .string s, .slice lo ln lc] 37 (0, 0))) (ha : At w0 w p none) :
  Calls Tryz.prog 113 #[wqv p, .pointer (some ⟨g, 0, none⟩)] w fun r w' => r = .returned (.tuple #[]) /\ ∃ ao', Lx w w' p none ao' [] (ssB p0 q C R s l) := by
 have A0 := Still.alloc w (.cells #[.pointer (some ⟨p, 0, none⟩)] 100)
 have hx0 := wbox w p
 have hg1 := (ha.still A0).s.kept_still hg
 have HC := hid (xsession_any p p0 q C R s lo ln lc l hh w0 _ (hw.still A0) hr (ha.still A0))
 have HA := hid A0
 obtain ⟨U, eU⟩ : ∃ U, w.alloc (.cells #[.pointer (some ⟨p, 0, none⟩)] 100) = U := ⟨_, rfl⟩
 obtain ⟨g0, eg⟩ : ∃ g, w.heap.size = g := ⟨_, rfl⟩
 rw [eU] at HC HA hx0 hg1
 rw [eg] at hx0
 have k0 := cell_of_row _ _ 0 _ _ _ hx0
 have d0 := cell_of_row _ _ 0 _ _ _ hg1
 have d1 := cell_of_row _ _ 1 _ _ _ hg1
 have d2 := cell_of_row _ _ 2 _ _ _ hg1
 have d3 := cell_of_row _ _ 3 _ _ _ hg1
 have d4 := cell_of_row _ _ 4 _ _ _ hg1
 have d5 := cell_of_row _ _ 5 _ _ _ hg1
 simp only [List.getElem?_toArray, List.getElem?_cons_zero, List.getElem?_cons_succ] at k0 d0 d1 d2 d3 d4 d5
 clear A0 hx0 hg1 hw hr hg ha hh
 go_enter Tryz.func113, Tryz.ntmps113
 go_wp2_with fail
 refine HC.out.mono ?_
 rintro e w2 ⟨he, ao2, h2⟩
 rw [he]
 have HL := hid (h2.from HA.out)
 clear he h2 HC k0 d0 d1 d2 d3 d4 d5
 go_wp2_with fail
 go_end0
 exact ⟨rfl, ao2, HL.out⟩
theorem ssB_le {p : Int} {q : Nat} {C R : Int} {s : ByteArray} {l : List Int} (hh : InC p q C R s l) : (ssB p q C R s l).length <= 200000 := by
 have hz := hh.iz
 have z1 := nsB_le (l := [p]) (fun n hn => by simp only [List.mem_cons, List.not_mem_nil, or_false] at hn; rw [hn]; exact hh.ip)
 have z2 := Cp.form_ten hh.iq
 have z3 := nsB_le (l := [C, R]) (fun n hn => by simp only [List.mem_cons, List.not_mem_nil, or_false] at hn; rcases hn with rfl | rfl; exact hh.iC; exact hh.iR)
 have z4 : (Cp.counted s.data.toList).length <= s.size + 10 := by
  have h1 := Cp.form_ten (n := s.data.toList.length) (by rw [bs_len]; omega)
  unfold Cp.counted
  rw [List.length_append, bs_len]
  rw [bs_len] at h1
  omega
 have z5 := Cp.form_ten (n := l.length) (by omega)
 have z6 := nsB_le hh.il
 unfold ssB
 simp only [List.length_append, List.length_cons, List.length_nil] at z1 z3 ⊢
 omega
set_option maxHeartbeats 2000000 in
theorem sessionBytes_any (p0 : Int) (q : Nat) (C R : Int) (s : ByteArray) (lo : Option Addr) (ln lc : Nat) (l : List Int) (hh : InC p0 q C R s l) (w : World) (hr : RdI w lo ln lc l) :
  Calls Tryz.prog 67 #[.agg #[.int .i64 p0, .int .u64 (q : Int), .int .i64 C, .int .i64 R, .string s, .slice lo ln lc]] w fun e w' => ∃ ao cap, e = .returned (.slice ao (ssB p0 q C R s l).length cap) /\ Ow 5 w' ao (ssB p0 q C R s l).length cap (ssB p0 q C R s l) /\ Still w w' /\ ∀ a, ao = some a -> w.heap.size <= a.block := by
 have A0 := Still.alloc w (.cells #[.int .i64 p0, .int .u64 (q : Int), .int .i64 C, .int .i64 R, .string s, .slice lo ln lc] 37)
 have hg := heap_alloc_new w (.cells #[.int .i64 p0, .int .u64 (q : Int), .int .i64 C, .int .i64 R, .string s, .slice lo ln lc] 37)
 have HC := hid (written_s w.heap.size (ssB p0 q C R s l) (by have := ssB_le hh; omega) (w.alloc (.cells #[.int .i64 p0, .int .u64 (q : Int), .int .i64 C, .int .i64 R, .string s, .slice lo ln lc] 37)) (fun p u hu hq hat => sessionBytes1_any p w.heap.size p0 q C R s lo ln lc l hh _ u hq (hr.still A0) hg hat))
 have HA := hid A0
 obtain ⟨X, eX⟩ : ∃ X, ssB p0 q C R s l = X := ⟨_, rfl⟩
 rw [eX] at HC ⊢
 clear A0 hg hr hh
 go_enter Tryz.func67, Tryz.ntmps67
 go_wp2_with fail
 refine HC.out.mono ?_
 rintro e w2 ⟨ao2, cap2, he, ho2, h2, ha2⟩
 rw [he]
 have HO : Hid (Ow 5 w2 ao2 X.length cap2 X /\ Still w w2 /\ ∀ a, ao2 = some a -> w.heap.size <= a.block) := hid ⟨ho2, HA.out.trans h2, fun a ha => Nat.le_trans HA.out.size (ha2 a ha)⟩
 clear he ho2 h2 ha2 HC
 go_wp2_with fail
 go_ret
 exact ⟨ao2, cap2, rfl, HO.out⟩
end Go.Proofs.YtkgbmefaphhcnaaGreatDoor
namespace Go.Proofs.YtkgbmefaphhcnaaGreatDoor
open Go.RowKit
set_option maxRecDepth 100000
def sumF : Nat -> Nat -> List UInt8
 | 0, _ => []
 | k + 1, d => UInt8.ofNat (d % 256) :: sumF k (d / 256)
theorem sumF_len : ∀ k d, (sumF k d).length = k
 | 0, _ => rfl
 | k + 1, d => by simp [sumF, sumF_len k]
theorem ofI_in (bs : List UInt8) : ∃ m : Nat, m < 18446744073709551616 /\ ofI bs = (m : Int) := by
 have h := mix_in (IntKind.u64.wrap (foldI 14695981039346656037 bs + IntKind.u64.wrap (bs.length : Int)))
 exact ⟨(ofI bs).toNat, by unfold ofI; omega, by unfold ofI; omega⟩
def sumB (bs : List UInt8) : List UInt8 := sumF 8 (ofI bs).toNat
theorem sumB_len (bs : List UInt8) : (sumB bs).length = 8 := sumF_len 8 _
theorem wrap8 (m : Nat) : IntKind.u8.wrap (m : Int) = ((UInt8.ofNat (m % 256)).toNat : Int) := by
 rw [Cp.ofNat_toNat (by omega)]
 simp [IntKind.wrap, IntKind.bits, IntKind.signed]
set_option maxHeartbeats 2000000 in
theorem psum_any (ao : Option Addr) (n cap : Nat) (bs : List UInt8) (w : World) (hr : Rd w ao n cap bs) (ht : FTab w) :
  Calls Tryz.prog 33 #[.slice ao n cap] w fun e w' => ∃ ao' cap', e = .returned (.slice ao' 8 cap') /\ Ow 5 w' ao' 8 cap' (sumB bs) /\ Still w w' /\ ∀ a, ao' = some a -> w.heap.size <= a.block := by
 obtain ⟨i0, hi0, hz0, hs10, hb10⟩ := info_parts info_u8
 have HC := hid (dof_any ao n cap bs w hr ht)
 obtain ⟨d, hd, ed⟩ := ofI_in bs
 have HD : Hid (sumB bs = sumF 8 d) := hid (by unfold sumB; rw [ed]; rfl)
 rw [ed] at HC
 clear hr ht ed
 go_enter Tryz.func33, Tryz.ntmps33
 go_wp2_with fail
 refine HC.out.mono ?_
 rintro e w1 ⟨he, h1⟩
 rw [he]
 have HS1 := hid h1
 clear he h1 HC
 go_wp2_with fail
 go_loopw [3, 4] (fun u3 u4 wr => ∃ (k m : Nat) (co : Option Addr) (cc : Nat) (xs : List UInt8), k <= 8 /\ m < 18446744073709551616 /\ u3 = .slice co k cc /\ u4 = .int .u64 (m : Int) /\ Hid (Ow 5 wr co k cc xs /\ xs ++ sumF (8 - k) m = sumF 8 d /\ Still w wr /\ ∀ a, co = some a -> w.heap.size <= a.block)) (fun u3 _ _ => 8 - (match u3 with | .slice _ k _ => k | _ => 0))
 case atStart => exact ⟨0, d, none, 0, [], by omega, hd, rfl, rfl, hid ⟨Ow.empty _ _, rfl, HS1.out, fun _ h => by cases h⟩⟩
 case round =>
  obtain ⟨k, m, co, cc, xs, hk, hm, rfl, rfl, HO⟩ := hrel
  by_cases hlt : k < 8
  ·have hlt' : (k : Int) < 8 := by omega
   have HX := hid (wrap8 m)
   have HF : Hid ((xs ++ [UInt8.ofNat (m % 256)]) ++ sumF (8 - (k + 1)) (m / 256) = sumF 8 d) := hid (by
    rw [<- HO.out.2.1, show 8 - k = (8 - (k + 1)) + 1 by omega]
    simp [sumF])
   go_wp2_with (at_builtin; refine wpList_app _ rfl _ _ 38 rfl 5 i0 Tryz.underlying38 hi0 hz0 hs10 hb10 co (some ⟨wr.heap.size, 0, none⟩) k cc 1 1 xs [UInt8.ofNat (m % 256)] rfl rfl (HO.out.1.alloc _) (Rd.one wr _ _ HX.out) (by omega) ?_; intro ao' cap' w1 ho' hf' hn' _)
   obtain ⟨hst', hao'⟩ := still_app HO.out.2.2.1 HO.out.2.2.2 hf' hn'
   have HO2 : Hid (Ow 5 w1 ao' (k + 1) cap' (xs ++ [UInt8.ofNat (m % 256)]) /\ Still w w1 /\ ∀ a, ao' = some a -> w.heap.size <= a.block) := hid ⟨ho', hst', hao'⟩
   clear ho' hf' hn' hst' hao' HX HO
   go_roundw
   case rel => exact ⟨k + 1, m / 256, ao', cap', _, by omega, by omega, rfl, by go_num, hid ⟨HO2.out.1, HF.out, HO2.out.2⟩⟩
   case measure => simp; omega
  ·obtain rfl : k = 8 := by omega
   go_wp2_with fail
   go_ret
   refine ⟨co, cc, rfl, ?_, HO.out.2.2⟩
   rw [HD.out, <- HO.out.2.1]
   simp only [Nat.sub_self, sumF, List.append_nil]
   exact HO.out.1
set_option maxHeartbeats 2000000 in
theorem rsum_any (ao : Option Addr) (n cap : Nat) (bs : List UInt8) (w : World) (hr : Rd w ao n cap bs) :
  Calls Tryz.prog 36 #[.slice ao n cap] w fun e w' => ∃ ao' cap', e = .returned (.slice ao' 8 cap') /\ Ow 5 w' ao' 8 cap' (sumB bs) /\ Still w w' /\ ∀ a, ao' = some a -> w.heap.size <= a.block := by
 obtain ⟨i0, hi0, hz0, hs10, hb10⟩ := info_parts info_u8
 have HC := hid (rdof_any ao n cap bs w hr)
 obtain ⟨d, hd, ed⟩ := ofI_in bs
 have HD : Hid (sumB bs = sumF 8 d) := hid (by unfold sumB; rw [ed]; rfl)
 rw [ed] at HC
 clear hr ed
 go_enter Tryz.func36, Tryz.ntmps36
 go_wp2_with fail
 refine HC.out.mono ?_
 rintro e w1 ⟨he, h1⟩
 rw [he]
 have HS1 := hid h1
 clear he h1 HC
 go_wp2_with fail
 go_loopw [3, 4, 5] (fun u3 u4 u5 wr => ∃ (k m : Nat) (co : Option Addr) (cc : Nat) (xs : List UInt8), k <= 8 /\ m < 18446744073709551616 /\ u4 = .slice co k cc /\ u3 = .int .u64 (m : Int) /\ u5 = .int .i64 (k : Int) /\ Hid (Ow 5 wr co k cc xs /\ xs ++ sumF (8 - k) m = sumF 8 d /\ Still w wr /\ ∀ a, co = some a -> w.heap.size <= a.block)) (fun _ _ u5 _ => 8 - (intOf u5).toNat)
 case atStart => exact ⟨0, d, none, 0, [], by omega, hd, rfl, rfl, rfl, hid ⟨Ow.empty _ _, rfl, HS1.out, fun _ h => by cases h⟩⟩
 case round =>
  obtain ⟨k, m, co, cc, xs, hk, hm, rfl, rfl, rfl, HO⟩ := hrel
  by_cases hlt : k < 8
  ·have hlt' : (k : Int) < 8 := by omega
   have HX := hid (wrap8 m)
   have HF : Hid ((xs ++ [UInt8.ofNat (m % 256)]) ++ sumF (8 - (k + 1)) (m / 256) = sumF 8 d) := hid (by
    rw [<- HO.out.2.1, show 8 - k = (8 - (k + 1)) + 1 by omega]
    simp [sumF])
   go_wp2_with (at_builtin; refine wpList_app _ rfl _ _ 38 rfl 5 i0 Tryz.underlying38 hi0 hz0 hs10 hb10 co (some ⟨wr.heap.size, 0, none⟩) k cc 1 1 xs [UInt8.ofNat (m % 256)] rfl rfl (HO.out.1.alloc _) (Rd.one wr _ _ HX.out) (by omega) ?_; intro ao' cap' w1 ho' hf' hn' _)
   obtain ⟨hst', hao'⟩ := still_app HO.out.2.2.1 HO.out.2.2.2 hf' hn'
   have HO2 : Hid (Ow 5 w1 ao' (k + 1) cap' (xs ++ [UInt8.ofNat (m % 256)]) /\ Still w w1 /\ ∀ a, ao' = some a -> w.heap.size <= a.block) := hid ⟨ho', hst', hao'⟩
   clear ho' hf' hn' hst' hao' HX HO
   go_roundw
   case rel => exact ⟨k + 1, m / 256, ao', cap', _, by omega, by omega, rfl, by go_num, by go_num, hid ⟨HO2.out.1, HF.out, HO2.out.2⟩⟩
   case measure => simp [intOf]; omega
  ·obtain rfl : k = 8 := by omega
   go_wp2_with fail
   go_ret
   refine ⟨co, cc, rfl, ?_, HO.out.2.2⟩
   rw [HD.out, <- HO.out.2.1]
   simp only [Nat.sub_self, sumF, List.append_nil]
   exact HO.out.1
end Go.Proofs.YtkgbmefaphhcnaaGreatDoor
namespace Go.Proofs.YtkgbmefaphhcnaaGreatDoor
open Go.RowKit
open Np Za Ka Ja Ea Ha
set_option maxRecDepth 100000
theorem chain0 {x : Int} (h : x ≠ 0) : (x != 0) = true := bne_iff_ne.2 h
set_option maxHeartbeats 4000000 in
theorem penc_yes (p0 : Int) (q : Nat) (C R : Int) (s : ByteArray) (lo : Option Addr) (ln lc : Nat) (W : Wd) (v : Value) (hh : InW W) (hb : 121 * W.ms.length + 40 * W.cs.length + 80 * W.hs.length + 30 * W.ks.length + 50 <= 1000000) (w : World) (ht : FTab w) (hv : RdW w v W)
  (hck : ∀ u, Still w u -> Calls Tryz.prog 31 #[.agg #[.int .i64 p0, .int .u64 (q : Int), .int .i64 C, .int .i64 R, .string s, .slice lo ln lc], v] u fun e w' => e = .returned (.int .i64 0) /\ Still u w') :
  Calls Tryz.prog 13 #[.agg #[.int .i64 p0, .int .u64 (q : Int), .int .i64 C, .int .i64 R, .string s, .slice lo ln lc], v] w fun e w' => ∃ ao cap, e = .returned (.tuple #[.slice ao ((wdB W).length + 8) cap, .int .i64 0]) /\ Ow 5 w' ao ((wdB W).length + 8) cap (wdB W ++ sumB (wdB W)) /\ Still w w' /\ ∀ a, ao = some a -> w.heap.size <= a.block := by
 obtain ⟨i0, hi0, hz0, hs10, hb10⟩ := info_parts info_u8
 have hle := wdB_le hh hb
 have HVV := hid hv
 obtain ⟨a, b, c, d, rfl, _⟩ := hv
 have A0 := Still.alloc w (.cells #[.int .i64 p0, .int .u64 (q : Int), .int .i64 C, .int .i64 R, .string s, .slice lo ln lc] 37)
 have A1 := Still.alloc (w.alloc (.cells #[.int .i64 p0, .int .u64 (q : Int), .int .i64 C, .int .i64 R, .string s, .slice lo ln lc] 37)) (.cells (wdcs W.fr W.nx a b c d) 27)
 have hx0 := A1.kept_still (heap_alloc_new w (.cells #[.int .i64 p0, .int .u64 (q : Int), .int .i64 C, .int .i64 R, .string s, .slice lo ln lc] 37))
 have hx1 := heap_alloc_new (w.alloc (.cells #[.int .i64 p0, .int .u64 (q : Int), .int .i64 C, .int .i64 R, .string s, .slice lo ln lc] 37)) (.cells (wdcs W.fr W.nx a b c d) 27)
 rw [size_alloc] at hx1
 have AA := A0.trans A1
 obtain ⟨U, eU⟩ : ∃ U, (w.alloc (.cells #[.int .i64 p0, .int .u64 (q : Int), .int .i64 C, .int .i64 R, .string s, .slice lo ln lc] 37)).alloc (.cells (wdcs W.fr W.nx a b c d) 27) = U := ⟨_, rfl⟩
 obtain ⟨g, eg⟩ : ∃ g, w.heap.size = g := ⟨_, rfl⟩
 rw [eU] at hx0 hx1 AA
 rw [eg] at hx0 hx1
 have HA := hid AA
 have HX1 := hid hx1
 have d0 := cell_of_row _ _ 0 _ _ _ hx0
 have d1 := cell_of_row _ _ 1 _ _ _ hx0
 have d2 := cell_of_row _ _ 2 _ _ _ hx0
 have d3 := cell_of_row _ _ 3 _ _ _ hx0
 have d4 := cell_of_row _ _ 4 _ _ _ hx0
 have d5 := cell_of_row _ _ 5 _ _ _ hx0
 have e0 := cell_of_row _ _ 0 _ _ _ hx1
 have e1 := cell_of_row _ _ 1 _ _ _ hx1
 have e2 := cell_of_row _ _ 2 _ _ _ hx1
 have e3 := cell_of_row _ _ 3 _ _ _ hx1
 have e4 := cell_of_row _ _ 4 _ _ _ hx1
 have e5 := cell_of_row _ _ 5 _ _ _ hx1
 simp only [List.getElem?_toArray, List.getElem?_cons_zero, List.getElem?_cons_succ] at d0 d1 d2 d3 d4 d5 e0 e1 e2 e3 e4 e5
 have HC := hid (hck U AA)
 have HWB := hid (fun u (hu : Still w u) => worldBytes_any W _ hh hb u (HVV.out.still hu))
 have HT := hid ht
 have HSl := hid (sumB_len (wdB W))
 obtain ⟨X, eX⟩ : ∃ X, wdB W = X := ⟨_, rfl⟩
 rw [eX] at HWB HSl hle ⊢
 clear A0 A1 AA hx0 hx1 hck hh ht eX HVV
 go_enter Tryz.func13, Tryz.ntmps13
 go_wp2_with fail
 refine HC.out.mono ?_
 rintro e w1 ⟨he, h1⟩
 rw [he]
 have HS1 := hid (HA.out.trans h1)
 have hx1 := h1.kept_still HX1.out
 clear he HC h1 d0 d1 d2 d3 d4 d5 e0 e1 e2 e3 e4 e5 eU eg
 have e0 := cell_of_row _ _ 0 _ _ _ hx1
 have e1 := cell_of_row _ _ 1 _ _ _ hx1
 have e2 := cell_of_row _ _ 2 _ _ _ hx1
 have e3 := cell_of_row _ _ 3 _ _ _ hx1
 have e4 := cell_of_row _ _ 4 _ _ _ hx1
 have e5 := cell_of_row _ _ 5 _ _ _ hx1
 simp only [List.getElem?_toArray, List.getElem?_cons_zero, List.getElem?_cons_succ] at e0 e1 e2 e3 e4 e5
 have HC := hid (HWB.out w1 HS1.out)
 clear hx1
 go_wp2_with fail
 refine HC.out.mono ?_
 rintro e w2 ⟨ao2, cap2, he, ho2, h2, ha2⟩
 rw [he]
 have HO2 := hid ho2
 have HS2 := hid (HS1.out.trans h2)
 have HN2 := hid (fun a (h : ao2 = some a) => Nat.le_trans HS1.out.size (ha2 a h))
 have HC := hid (psum_any ao2 X.length cap2 X w2 ho2.rd (HT.out.still HS2.out))
 clear he ho2 h2 ha2 e0 e1 e2 e3 e4 e5 HS1 HA HX1
 go_wp2_with fail
 refine HC.out.mono ?_
 rintro e w3 ⟨ao3, cap3, he, ho3, h3, ha3⟩
 rw [he]
 have HO3 := hid ho3.rd
 have HO2' := hid (HO2.out.still h3)
 have HS3 := hid (HS2.out.trans h3)
 clear he ho3 h3 ha3 HC HO2 HS2
 go_wp2_with (at_builtin; refine wpList_app _ rfl _ _ 38 rfl 5 i0 Tryz.underlying38 hi0 hz0 hs10 hb10 ao2 ao3 X.length cap2 8 cap3 X (sumB X) rfl rfl HO2'.out HO3.out (by omega) ?_; intro ao4 cap4 w4 ho4 hf4 hn4 _)
 have HE : Hid (Ow 5 w4 ao4 (X.length + 8) cap4 (X ++ sumB X) /\ Still w w4 /\ ∀ a, ao4 = some a -> w.heap.size <= a.block) := hid ⟨ho4, Fr.trans HS3.out hf4 (fun k hk e => by obtain ⟨a, h1, rfl⟩ := e; have := HN2.out a h1; omega), fun a h => by
  rcases hn4 a h with h1 | h1
  ·exact HN2.out a h1
  ·exact Nat.le_trans HS3.out.size h1⟩
 clear ho4 hf4 hn4
 go_wp2_with fail
 go_ret2
 exact ⟨ao4, cap4, rfl, HE.out⟩
set_option maxHeartbeats 4000000 in
theorem psesn_any (p0 : Int) (q : Nat) (C R : Int) (s : ByteArray) (lo : Option Addr) (ln lc : Nat) (l : List Int) (hh : InC p0 q C R s l) (w : World) (ht : FTab w) (hr : RdI w lo ln lc l) :
  Calls Tryz.prog 38 #[.agg #[.int .i64 p0, .int .u64 (q : Int), .int .i64 C, .int .i64 R, .string s, .slice lo ln lc]] w fun e w' => e = .returned (.int .u64 (ofI (ssB p0 q C R s l))) /\ Still w w' := by
 have A0 := Still.alloc w (.cells #[.int .i64 p0, .int .u64 (q : Int), .int .i64 C, .int .i64 R, .string s, .slice lo ln lc] 37)
 have hx0 := heap_alloc_new w (.cells #[.int .i64 p0, .int .u64 (q : Int), .int .i64 C, .int .i64 R, .string s, .slice lo ln lc] 37)
 have HC := hid (sessionBytes_any p0 q C R s lo ln lc l hh _ (hr.still A0))
 obtain ⟨U, eU⟩ : ∃ U, w.alloc (.cells #[.int .i64 p0, .int .u64 (q : Int), .int .i64 C, .int .i64 R, .string s, .slice lo ln lc] 37) = U := ⟨_, rfl⟩
 obtain ⟨g, eg⟩ : ∃ g, w.heap.size = g := ⟨_, rfl⟩
 rw [eU] at hx0 A0 HC
 rw [eg] at hx0
 have HA := hid A0
 have HT := hid (ht.still A0)
 have d0 := cell_of_row _ _ 0 _ _ _ hx0
 have d1 := cell_of_row _ _ 1 _ _ _ hx0
 have d2 := cell_of_row _ _ 2 _ _ _ hx0
 have d3 := cell_of_row _ _ 3 _ _ _ hx0
 have d4 := cell_of_row _ _ 4 _ _ _ hx0
 have d5 := cell_of_row _ _ 5 _ _ _ hx0
 simp only [List.getElem?_toArray, List.getElem?_cons_zero, List.getElem?_cons_succ] at d0 d1 d2 d3 d4 d5
 obtain ⟨X, eX⟩ : ∃ X, ssB p0 q C R s l = X := ⟨_, rfl⟩
 rw [eX] at HC ⊢
 clear A0 hx0 hh ht hr eX
 go_enter Tryz.func38, Tryz.ntmps38
 go_wp2_with fail
 refine HC.out.mono ?_
 rintro e w2 ⟨ao2, cap2, he, ho2, h2, ha2⟩
 rw [he]
 have HS2 := hid (HA.out.trans h2)
 have HC := hid (dof_any ao2 X.length cap2 X w2 ho2.rd (HT.out.still h2))
 clear he ho2 h2 ha2 d0 d1 d2 d3 d4 d5 eU eg
 go_wp2_with fail
 refine HC.out.mono ?_
 rintro e w3 ⟨he, h3⟩
 rw [he]
 have HS3 := hid (HS2.out.trans h3)
 clear he h3 HC
 go_wp2_with fail
 go_ret
 exact ⟨rfl, HS3.out⟩
set_option maxHeartbeats 4000000 in
theorem pses_yes (p0 : Int) (q : Nat) (C R : Int) (s : ByteArray) (lo : Option Addr) (ln lc : Nat) (l : List Int) (hh : InC p0 q C R s l) (w : World) (ht : FTab w) (hr : RdI w lo ln lc l)
  (hck : ∀ u, Still w u -> Calls Tryz.prog 42 #[.agg #[.int .i64 p0, .int .u64 (q : Int), .int .i64 C, .int .i64 R, .string s, .slice lo ln lc]] u fun e w' => e = .returned (.int .i64 0) /\ Still u w') :
  Calls Tryz.prog 17 #[.agg #[.int .i64 p0, .int .u64 (q : Int), .int .i64 C, .int .i64 R, .string s, .slice lo ln lc]] w fun e w' => e = .returned (.tuple #[.int .u64 (ofI (ssB p0 q C R s l)), .int .i64 0]) /\ Still w w' := by
 have A0 := Still.alloc w (.cells #[.int .i64 p0, .int .u64 (q : Int), .int .i64 C, .int .i64 R, .string s, .slice lo ln lc] 37)
 have hx0 := heap_alloc_new w (.cells #[.int .i64 p0, .int .u64 (q : Int), .int .i64 C, .int .i64 R, .string s, .slice lo ln lc] 37)
 have HC := hid (hck _ A0)
 have HP := hid (fun u (hu : Still w u) => psesn_any p0 q C R s lo ln lc l hh u (ht.still hu) (hr.still hu))
 obtain ⟨U, eU⟩ : ∃ U, w.alloc (.cells #[.int .i64 p0, .int .u64 (q : Int), .int .i64 C, .int .i64 R, .string s, .slice lo ln lc] 37) = U := ⟨_, rfl⟩
 obtain ⟨g, eg⟩ : ∃ g, w.heap.size = g := ⟨_, rfl⟩
 rw [eU] at hx0 A0 HC
 rw [eg] at hx0
 have HA := hid A0
 have HX0 := hid hx0
 have d0 := cell_of_row _ _ 0 _ _ _ hx0
 have d1 := cell_of_row _ _ 1 _ _ _ hx0
 have d2 := cell_of_row _ _ 2 _ _ _ hx0
 have d3 := cell_of_row _ _ 3 _ _ _ hx0
 have d4 := cell_of_row _ _ 4 _ _ _ hx0
 have d5 := cell_of_row _ _ 5 _ _ _ hx0
 simp only [List.getElem?_toArray, List.getElem?_cons_zero, List.getElem?_cons_succ] at d0 d1 d2 d3 d4 d5
 obtain ⟨Y, eY⟩ : ∃ Y, ofI (ssB p0 q C R s l) = Y := ⟨_, rfl⟩
 rw [eY] at HP ⊢
 clear A0 hx0 hh ht hr hck eY
 go_enter Tryz.func17, Tryz.ntmps17
 go_wp2_with fail
 refine HC.out.mono ?_
 rintro e w1 ⟨he, h1⟩
 rw [he]
 have HS1 := hid (HA.out.trans h1)
 have hx1 := h1.kept_still HX0.out
 clear he HC h1 d0 d1 d2 d3 d4 d5 eU eg
 have d0 := cell_of_row _ _ 0 _ _ _ hx1
 have d1 := cell_of_row _ _ 1 _ _ _ hx1
 have d2 := cell_of_row _ _ 2 _ _ _ hx1
 have d3 := cell_of_row _ _ 3 _ _ _ hx1
 have d4 := cell_of_row _ _ 4 _ _ _ hx1
 have d5 := cell_of_row _ _ 5 _ _ _ hx1
 simp only [List.getElem?_toArray, List.getElem?_cons_zero, List.getElem?_cons_succ] at d0 d1 d2 d3 d4 d5
 have HC := hid (HP.out w1 HS1.out)
 clear hx1
 go_wp2_with fail
 refine HC.out.mono ?_
 rintro e w2 ⟨he, h2⟩
 rw [he]
 have HS2 := hid (HS1.out.trans h2)
 clear he h2 HC d0 d1 d2 d3 d4 d5
 go_wp2_with fail
 go_ret2
 exact ⟨rfl, HS2.out⟩
end Go.Proofs.YtkgbmefaphhcnaaGreatDoor
namespace Go.Proofs.YtkgbmefaphhcnaaGreatDoor
open Go.RowKit
open Np Za Ka Ja Ea Ha
set_option maxRecDepth 100000
end Go.Proofs.YtkgbmefaphhcnaaGreatDoor
