/- Parts of the proof, laid end to end. -/
import Derived.Test.YtdmlgbcgbddkoaaGreatDoorZT06
import Derived.Test.YtdmlgbcgbddkoaaGreatDoorZT10
import Derived.Test.YtdmlgbcgbddkoaaGreatDoorZT02
import Derived.Test.YtdmlgbcgbddkoaaGreatDoorZT04
import Derived.Deep.RegionWith
import Derived.BigRegion
namespace Go.Proofs.YtdmlgbcgbddkoaaGreatDoor
open Go.RowKit
open Ea
set_option maxRecDepth 100000
abbrev ccs (x : Scr) : Array Value := #[.int .i64 x.p, .int .i64 x.h, .int .i64 x.o, .int .i64 x.k]
abbrev cv (x : Scr) : Value := .agg (ccs x)
def Cb (w : World) (g : Nat) (x : Scr) : Prop := w.heap[g]? = some (.cells (ccs x) 64 (0, 0))
theorem Cb.cells {w : World} {g : Nat} {x : Scr} (h : Cb w g x) : w.cell? ⟨g, 0, none⟩ = some (.int .i64 x.p) /\ w.cell? ⟨g, 1, none⟩ = some (.int .i64 x.h) /\ w.cell? ⟨g, 2, none⟩ = some (.int .i64 x.o) /\ w.cell? ⟨g, 3, none⟩ = some (.int .i64 x.k) /\ ∀ o, w.frozen? ⟨g, o, none⟩ = false := by
 refine ⟨?_, ?_, ?_, ?_, fun o => frozen_of_row w g o _ _ h⟩ <;> (rw [cell_of_row _ _ _ _ _ _ h]; rfl)
abbrev newC (w : World) (x : Scr) : World := w.alloc (.cells (ccs x) 64)
theorem newC_cb (w : World) (x : Scr) : Cb (newC w x) w.heap.size x := heap_alloc_new w _
theorem Cb.put {w : World} {g : Nat} {x : Scr} (h0 : Cb w g x) (a b c d : Int) : Cb ((((w.setCell ⟨g, 0, none⟩ (.int .i64 a)).setCell ⟨g, 1, none⟩ (.int .i64 b)).setCell ⟨g, 2, none⟩ (.int .i64 c)).setCell ⟨g, 3, none⟩ (.int .i64 d)) g ⟨a, b, c, d⟩ := by
 unfold Cb at h0 ⊢
 have h1 := heap_setCell_same _ g 0 _ _ (.int .i64 a) h0
 have h2 := heap_setCell_same _ g 1 _ _ (.int .i64 b) h1
 have h3 := heap_setCell_same _ g 2 _ _ (.int .i64 c) h2
 have h4 := heap_setCell_same _ g 3 _ _ (.int .i64 d) h3
 exact h4.trans (by kernel_rfl)
theorem Cb.load {w : World} {g : Nat} {x : Scr} (h : Cb w g x) : (loadVar 64 ⟨g, 0, none⟩).run Tryz.prog w = .ok (cv x) w := by
 obtain ⟨c0, c1, c2, c3, cf⟩ := h.cells
 go_simp
def eqC (x y : Scr) : Bool := (x.p == y.p) && ((x.h == y.h) && ((x.o == y.o) && (x.k == y.k)))
theorem eqC_refl (x : Scr) : eqC x x = true := by unfold eqC; simp
theorem eqC_iff {x y : Scr} : eqC x y = true ↔ x = y := by
 obtain ⟨a, b, c, d⟩ := x
 obtain ⟨a', b', c', d'⟩ := y
 unfold eqC
 simp
theorem cpart_in (x : Scr) (w : World) : (part 3 (ccs x) 0).run Tryz.prog w = .ok (.int .i64 x.p) w /\ (part 3 (ccs x) 1).run Tryz.prog w = .ok (.int .i64 x.h) w /\ (part 3 (ccs x) 2).run Tryz.prog w = .ok (.int .i64 x.o) w /\ (part 3 (ccs x) 3).run Tryz.prog w = .ok (.int .i64 x.k) w := by
 refine ⟨?_, ?_, ?_, ?_⟩ <;> go_simp
theorem equalC_int (d : Nat) (x y : Int) (w : World) : (Op.equalIn (d + 1) 3 (.int .i64 x) (.int .i64 y)).run Tryz.prog w = .ok (x == y) w := by
 go_simp
theorem stC {b c : Bool} {w : World} {R : Result Bool} (h : R = .ok c w) : (if (!b) = true then Result.ok false w else R) = .ok (b && c) w := by
 cases b <;> simp [h]
theorem stC1 (b : Bool) {w : World} : (if (!b) = true then Result.ok false w else Result.ok true w) = .ok b w := by
 cases b <;> rfl
theorem equal_cv (x y : Scr) (w : World) : (Op.equalIn 10000 64 (cv x) (cv y)).run Tryz.prog w = .ok (eqC x y) w := by
 have c0 := fun w => (cpart_in x w).1
 have d0 := fun w => (cpart_in y w).1
 have r0 := fun w => equalC_int 9998 x.p y.p w
 have c1 := fun w => (cpart_in x w).2.1
 have d1 := fun w => (cpart_in y w).2.1
 have r1 := fun w => equalC_int 9998 x.h y.h w
 have c2 := fun w => (cpart_in x w).2.2.1
 have d2 := fun w => (cpart_in y w).2.2.1
 have r2 := fun w => equalC_int 9998 x.o y.o w
 have c3 := fun w => (cpart_in x w).2.2.2
 have d3 := fun w => (cpart_in y w).2.2.2
 have r3 := fun w => equalC_int 9998 x.k y.k w
 rw [run_equalIn_struct w 9999 _ _ _ (by kernel_rfl) (by kernel_rfl)]
 have e : (Tryz.prog.fieldsOf 64) = #[⟨ "Points", 3, 0, false, "", "", 0⟩, ⟨ "Hits", 3, 1, false, "", "", 8⟩, ⟨ "Outs", 3, 2, false, "", "", 16⟩, ⟨ "Streak", 3, 3, false, "", "", 24⟩] := by kernel_rfl
 rw [e]
 simp only [Op.eqFields, ne_eq, String.reduceEq, not_false_eq_true, if_true, Sem.run_bind, c0, c1, c2, c3, d0, d1, d2, d3, Result.andThen_ok, r0, r1, r2, r3, Sem.run_ite, Sem.run_pure]
 unfold eqC
 exact stC (stC (stC (stC1 _)))
theorem neq_cv (x y : Scr) (w : World) : (binOp .neq 64 (cv x) (cv y)).run Tryz.prog w = .ok (.bool (!eqC x y)) w := by
 rw [run_neq_struct, equal_cv]; rfl
theorem neq_cv_f (x : Scr) (w : World) : (binOp .neq 64 (cv x) (cv x)).run Tryz.prog w = .ok (.bool false) w := by
 rw [neq_cv, eqC_refl]; rfl
theorem guard_cv (op : BinOp) (a b : Operand) (xs ys : Array Value) (w : World) : (eqGuard op 64 a b (.agg xs) (.agg ys)).run Tryz.prog w = .ok () w := run_eqGuard_agg w op _ a b xs ys (by kernel_rfl)
def KC : Kd Scr := ⟨fun m => (ccs m).toList, 4, zC, fun _ => rfl, fun m u hu => by
 simp at hu
 rcases hu with rfl | rfl | rfl | rfl <;> rfl, by decide⟩
theorem infoC : ∃ i, Tryz.prog.info? 64 = some i /\ i.zero = some (.agg (KC.f KC.d).toArray) /\ i.size = KC.k /\ i.bytes = 32 := ⟨_, rfl, rfl, rfl, rfl⟩
theorem rdC {w : World} {B o n : Nat} {L : List Scr} (h : RdG KC w (some ⟨B, o, none⟩) n L) {i : Nat} (hi : i < n) : w.cell? ⟨B, o + i * 4, none⟩ = some (.int .i64 (sc L i).p) /\ w.cell? ⟨B, o + i * 4 + 1, none⟩ = some (.int .i64 (sc L i).h) /\ w.cell? ⟨B, o + i * 4 + 2, none⟩ = some (.int .i64 (sc L i).o) /\ w.cell? ⟨B, o + i * 4 + 3, none⟩ = some (.int .i64 (sc L i).k) :=
 ⟨h.get hi 0 _ rfl, h.get hi 1 _ rfl, h.get hi 2 _ rfl, h.get hi 3 _ rfl⟩
end Go.Proofs.YtdmlgbcgbddkoaaGreatDoor
set_option maxRecDepth 100000
namespace Go.Proofs.YtdmlgbcgbddkoaaGreatDoor.Ea
def pl (R : List Int) (a : Nat) : Nat := (R.getD a 0).toNat
end Go.Proofs.YtdmlgbcgbddkoaaGreatDoor.Ea
set_option maxRecDepth 100000
namespace Go.Proofs.YtdmlgbcgbddkoaaGreatDoor
open Go.RowKit
structure FTab (w : World) : Prop where
 d : DTab w
 f2 : w.cell? ⟨0, 2, none⟩ = some (.int .u64 1099511628211)
theorem FTab.on {F : Nat -> Prop} {w w' : World} (h : FTab w) (hf : Fr F w w') (hn : ¬ F 0) : FTab w' := ⟨h.d.on hf hn, cell_on hf h.f2 hn⟩
theorem FTab.still {w w' : World} (h : FTab w) (hs : Still w w') : FTab w' := h.on hs fun e => e
theorem FTab.size {w : World} (h : FTab w) : 0 < w.heap.size := h.d.size
theorem FTab.drewN {w : World} (h : FTab w) (k : Nat) : FTab (w.drewN k) := h.still ((Fr.refl _ w).drewN k)
theorem twoD {w : World} {p : Nat} {x y : Value} {t : TypeId} (h : w.heap[p]? = some (.cells #[x, y] t (0, 0))) :
  w.cell? ⟨p, 0, none⟩ = some x /\ w.cell? ⟨p, 1, none⟩ = some y /\ ∀ o, w.frozen? ⟨p, o, none⟩ = false :=
 ⟨by rw [cell_of_row _ _ _ _ _ _ h]; rfl, by rw [cell_of_row _ _ _ _ _ _ h]; rfl, fun o => frozen_of_row w p o _ t h⟩
theorem set0D {w : World} {p : Nat} {x v : Value} {l : List Value} {t : TypeId} (h : w.heap[p]? = some (.cells (x :: l).toArray t (0, 0))) : (w.setCell ⟨p, 0, none⟩ v).heap[p]? = some (.cells (v :: l).toArray t (0, 0)) := by
 rw [heap_setCell_same w p 0 _ t v h]; simp
theorem set1D {w : World} {p : Nat} {x y v : Value} {l : List Value} {t : TypeId} (h : w.heap[p]? = some (.cells (x :: y :: l).toArray t (0, 0))) : (w.setCell ⟨p, 1, none⟩ v).heap[p]? = some (.cells (x :: v :: l).toArray t (0, 0)) := by
 rw [heap_setCell_same w p 1 _ t v h]; simp
def stepI (h : Int) (c : Int) : Int := mulI (bits .xor .u64 h c) 1099511628211
def DBlk (w : World) (p : Nat) (h n : Int) : Prop := w.heap[p]? = some (.cells #[.int .u64 h, .int .u64 n] 148 (0, 0))
set_option maxRecDepth 100000 in
theorem dtake_any (p : Nat) (h n c : Int) (c0 : 0 <= c) (c1 : c < 256) (w : World) (hb : DBlk w p h n) (ht : FTab w) :
  Calls Tryz.prog 95 #[.pointer (some ⟨p, 0, none⟩), .int .u8 c] w fun e w' => e = .returned (.tuple #[]) /\ DBlk w' p (stepI h c) (IntKind.u64.wrap (n + 1)) /\ Fr (fun k => k = p) w w' := by
 have f2 := ht.f2
 obtain ⟨d0, d1, df⟩ := twoD hb
 have g0 := df 0
 have g1 := df 1
 go_enter Tryz.func95, Tryz.ntmps95
 go_wp2
 go_region
 go_wp2
 go_end0
 exact ⟨rfl, set1D (set0D hb), (((Fr.refl (fun k => k = p) w).setCell ⟨p, 0, none⟩ _ (.inl rfl)).setCell ⟨p, 1, none⟩ _ (.inl rfl)).drew⟩
def foldI (h : Int) (bs : List UInt8) : Int := bs.foldl (fun h c => stepI h (c.toNat : Int)) h
theorem foldI_append (h : Int) (a b : List UInt8) : foldI h (a ++ b) = foldI (foldI h a) b := List.foldl_append ..
theorem foldI_one (h : Int) (c : UInt8) : foldI h [c] = stepI h (c.toNat : Int) := rfl
theorem wrap_nextD (m : Int) : IntKind.u64.wrap (IntKind.u64.wrap m + 1) = IntKind.u64.wrap (m + 1) := by
 rw [IntKind.wrap_u64, IntKind.wrap_u64, IntKind.wrap_u64]; omega
set_option maxHeartbeats 1000000 in
set_option maxRecDepth 100000 in
theorem deach_any (p : Nat) (h : Int) (m : Nat) (ao : Option Addr) (n cap : Nat) (bs : List UInt8) (w : World) (hr : Rd w ao n cap bs) (hb : DBlk w p h (IntKind.u64.wrap m)) (ht : FTab w) (hp : 0 < p) (hne : ∀ a, ao = some a -> 0 < n -> a.block ≠ p) :
  Calls Tryz.prog 94 #[.slice ao n cap, .func (.func 95) #[.pointer (some ⟨p, 0, none⟩)] #[]] w fun e w' => e = .returned (.tuple #[]) /\ DBlk w' p (foldI h bs) (IntKind.u64.wrap ((m + bs.length : Nat) : Int)) /\ Fr (fun k => k = p) w w' := by
 have hlen := hr.len
 have hsm := hr.small
 go_enter Tryz.func94, Tryz.ntmps94
 go_wp2
 go_loopw [8] (fun vi wr => ∃ k : Nat, k <= n /\ vi = .int .i64 (k : Int) /\ DBlk wr p (foldI h (bs.take k)) (IntKind.u64.wrap ((m + k : Nat) : Int)) /\ Fr (fun k => k = p) w wr) (fun vi _ => n - (intOf vi).toNat)
 case atStart => exact ⟨0, Nat.zero_le _, rfl, by simpa [foldI] using hb, Fr.refl _ _⟩
 case round =>
  obtain ⟨k, hk, rfl, hbk, hf⟩ := hrel
  by_cases hlt : k < n
  ·have hkl : k < bs.length := by omega
   obtain ⟨b, o, rfl⟩ := hr.addr (by omega)
   have hc := (hr.kept hf fun a ha hn => hne a ha hn).byte hkl
   have hT := hid (dtake_any p _ _ (bs[k].toNat : Int) (by omega) (by have := bs[k].toNat_lt; omega) wr hbk (ht.on hf fun e => by omega))
   have HS : Hid (foldI h (bs.take (k + 1)) = stepI (foldI h (bs.take k)) (bs[k].toNat : Int)) := by
    show _ = _
    rw [List.take_succ_eq_append_getElem hkl, foldI_append, foldI_one]
   have HF := hid hf
   have HL := hid hlen
   clear hbk hf hr hb hne hlen
   obtain ⟨x, hx⟩ : ∃ x, x = bs[k].toNat := ⟨_, rfl⟩
   rw [<- hx] at hc hT HS
   clear hx
   go_wp2_with (go_at_call 95; refine hT.out.mono ?_; rintro e w2 ⟨rfl, hb2, hf2⟩)
   go_roundw
   case rel =>
    refine ⟨k + 1, by omega, by go_num, ?_, HF.out.trans hf2 fun _ _ h => h⟩
    rw [HS.out, show ((m + (k + 1) : Nat) : Int) = ((m + k : Nat) : Int) + 1 by omega, <- wrap_nextD]
    exact hb2
   case measure => simp [intOf]; omega
  ·have hkn : k = n := by omega
   subst hkn
   rw [List.take_of_length_le (by omega)] at hbk
   go_wp2
   go_end0
   rw [hlen]
   exact ⟨rfl, hbk, hf⟩
set_option maxRecDepth 100000 in
theorem dadd_any (p : Nat) (h : Int) (m : Nat) (ao : Option Addr) (n cap : Nat) (bs : List UInt8) (w : World) (hr : Rd w ao n cap bs) (hb : DBlk w p h (IntKind.u64.wrap m)) (ht : FTab w) (hp : 0 < p) (hne : ∀ a, ao = some a -> 0 < n -> a.block ≠ p) :
  Calls Tryz.prog 47 #[.pointer (some ⟨p, 0, none⟩), .slice ao n cap] w fun e w' => e = .returned (.tuple #[]) /\ DBlk w' p (foldI h bs) (IntKind.u64.wrap ((m + bs.length : Nat) : Int)) /\ Fr (fun k => k = p) w w' := by
 have hmf : ∀ (fn : Fn) (first cap : Array Value) (w : World), (Instr.makeFunc fn first cap).run Tryz.prog w = .ok (.func fn first cap) w := fun _ _ _ _ => rfl
 have hE := hid (deach_any p h m ao n cap bs w hr hb ht hp hne)
 clear hr hb ht hne
 go_enter Tryz.func47, Tryz.ntmps47
 go_wp2_with (go_at_call 94; refine hE.out.mono ?_; rintro e w2 ⟨rfl, h2⟩)
 go_end0
 exact ⟨rfl, h2⟩
def DSm (w : World) (p : Nat) (bs : List UInt8) : Prop := DBlk w p (foldI 14695981039346656037 bs) (IntKind.u64.wrap (bs.length : Int))
def ofI (bs : List UInt8) : Int := mixI (IntKind.u64.wrap (foldI 14695981039346656037 bs + IntKind.u64.wrap (bs.length : Int)))
theorem dadd_sm (p : Nat) (cs : List UInt8) (ao : Option Addr) (n cap : Nat) (bs : List UInt8) (w : World) (hr : Rd w ao n cap bs) (hs : DSm w p cs) (ht : FTab w) (hp : 0 < p) (hne : ∀ a, ao = some a -> 0 < n -> a.block ≠ p) :
  Calls Tryz.prog 47 #[.pointer (some ⟨p, 0, none⟩), .slice ao n cap] w fun e w' => e = .returned (.tuple #[]) /\ DSm w' p (cs ++ bs) /\ Fr (fun k => k = p) w w' := by
 refine (dadd_any p _ cs.length ao n cap bs w hr hs ht hp hne).mono ?_
 rintro e w' ⟨rfl, h1, h2⟩
 refine ⟨rfl, ?_, h2⟩
 unfold DSm
 rw [foldI_append, List.length_append]
 exact h1
set_option maxRecDepth 100000 in
theorem dnew_any (w : World) : Calls Tryz.prog 46 #[] w fun e w' => e = .returned (.pointer (some ⟨w.heap.size, 0, none⟩)) /\ DSm w' w.heap.size [] /\ Still w w' := by
 have h0 : IntKind.u64.wrap 0 = 0 := by decide
 go_enter Tryz.func46, Tryz.ntmps46
 go_wp2
 go_ret
 refine ⟨rfl, ?_, Still.alloc w _⟩
 have := heap_alloc_new w (.cells #[.int .u64 14695981039346656037, .int .u64 0] 148)
 unfold DSm
 rw [show IntKind.u64.wrap (([] : List UInt8).length : Int) = 0 from h0]
 exact this
set_option maxRecDepth 100000 in
theorem dvalue_any (p : Nat) (bs : List UInt8) (w : World) (hs : DSm w p bs) (ht : FTab w) : Calls Tryz.prog 48 #[.pointer (some ⟨p, 0, none⟩)] w fun e w' => e = .returned (.int .u64 (ofI bs)) /\ ∃ k, w' = w.drewN k := by
 obtain ⟨d0, d1, df⟩ := twoD hs
 go_enter Tryz.func48, Tryz.ntmps48
 go_wp2
 go_quiet ((go_at_call 44; exact Calls.quiet_of (mix_any _ _ (ht.drewN _).d)))
 go_wp2
 go_ret
 exact ⟨rfl, _, rfl⟩
theorem dvalue_still (p : Nat) (bs : List UInt8) (w : World) (hs : DSm w p bs) (ht : FTab w) : Calls Tryz.prog 48 #[.pointer (some ⟨p, 0, none⟩)] w fun e w' => e = .returned (.int .u64 (ofI bs)) /\ Still w w' := by
 refine (dvalue_any p bs w hs ht).mono ?_
 rintro e w' ⟨rfl, k, rfl⟩
 exact ⟨rfl, (Fr.refl _ w).drewN k⟩
set_option maxRecDepth 100000 in
theorem dof_any (ao : Option Addr) (n cap : Nat) (bs : List UInt8) (w : World) (hr : Rd w ao n cap bs) (ht : FTab w) :
  Calls Tryz.prog 32 #[.slice ao n cap] w fun e w' => e = .returned (.int .u64 (ofI bs)) /\ Still w w' := by
 have h7 := ht.size
 have hlt : ∀ a, ao = some a -> 0 < n -> a.block ≠ w.heap.size := fun a ha hn e => by have := hr.lt hn a ha; omega
 go_enter Tryz.func32, Tryz.ntmps32
 go_wp2_with fail
 refine (dnew_any w).mono ?_
 rintro e w1 ⟨rfl, hs1, hst1⟩
 have hA := hid (dadd_sm w.heap.size [] ao n cap bs w1 (hr.still hst1) hs1 (ht.still hst1) h7 hlt)
 go_wp2_with fail
 refine hA.out.mono ?_
 rintro e w2 ⟨rfl, hs2, hf2⟩
 have hst2 : Still w w2 := hst1.to.trans (F := fun _ => False) hf2 fun k hk e => by omega
 have hV := hid (dvalue_still w.heap.size bs w2 (by simpa using hs2) (ht.still hst2))
 clear hA hs1 hs2 hf2 hlt h7
 go_wp2_with (go_at_call 48; refine hV.out.mono ?_; rintro e w3 ⟨rfl, hst3⟩)
 go_ret
 exact ⟨rfl, hst2.trans hst3⟩
end Go.Proofs.YtdmlgbcgbddkoaaGreatDoor
set_option maxRecDepth 100000
namespace Go.Proofs.YtdmlgbcgbddkoaaGreatDoor
open Go.RowKit
section
variable {P : Program}
end
end Go.Proofs.YtdmlgbcgbddkoaaGreatDoor
