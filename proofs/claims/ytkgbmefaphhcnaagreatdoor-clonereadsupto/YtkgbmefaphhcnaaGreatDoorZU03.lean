/- Parts of the proof, laid end to end. -/
import Derived.Test.YtkgbmefaphhcnaaGreatDoorProg
import Derived.Test.YtkgbmefaphhcnaaGreatDoorZU00
import Derived.Test.YtkgbmefaphhcnaaGreatDoorZU02
import Derived.KernelRfl
import Derived.Lib.SliceRun
import Derived.Deep.QuietTactic
import Derived.BigQuiet
import Derived.Deep.RegionWith
import Derived.Test.YtkgbmefaphhcnaaGreatDoorZU01
set_option maxRecDepth 100000
namespace Go.Proofs.YtkgbmefaphhcnaaGreatDoor
open Go.RowKit
theorem fold_any (n : Int) (h1 : -9223372036854775808 <= n) (h2 : n <= 9223372036854775807) (w : World) :
  Calls Tryz.prog 147 #[.int .i64 n] w fun e w' => e = .returned (.int .u64 (Cp.fold n : Int)) /\ w' = w := by
 have hsg : IntKind.i64.signed = true := rfl
 by_cases hc : n < 0
 ·have H : Hid ((Cp.fold n : Int) = 2 * (-n - 1) + 1) := by unfold Cp.fold; rw [if_pos hc]; show ((_ : Nat) : Int) = _; omega
  have HX := not64 n h1 h2
  go_enter Tryz.func147, Tryz.ntmps147
  go_wp2
  go_ret
  exact ⟨ret_int (by have := H.out; first | omega | (simp only [IntKind.wrap_u64]; omega)), rfl⟩
 ·have H : Hid ((Cp.fold n : Int) = 2 * n) := by unfold Cp.fold; rw [if_neg hc]; show ((_ : Nat) : Int) = _; omega
  go_enter Tryz.func147, Tryz.ntmps147
  go_wp2
  go_ret
  exact ⟨ret_int (by have := H.out; first | omega | (simp only [IntKind.wrap_u64]; omega)), rfl⟩
theorem unfold_any (n : Nat) (h : n < 18446744073709551616) (w : World) :
  Calls Tryz.prog 157 #[.int .u64 (n : Int)] w fun e w' => e = .returned (.int .i64 (Cp.unfold n)) /\ w' = w := by
 have hsg : IntKind.i64.signed = true := rfl
 have hw : wrap64 ((n : Int) / 2) = (n : Int) / 2 := IntWalk.wrap64_in _ ⟨by omega, by omega⟩
 by_cases hc : n % 2 = 1
 ·have H : Hid (Cp.unfold n = -1 - (n : Int) / 2) := by unfold Cp.unfold; rw [if_pos hc]; show _ = _; omega
  have hd : ((n : Int) % 2 == 1) = true := by simp; omega
  have HX := not64 ((n : Int) / 2) (by omega) (by omega)
  go_enter Tryz.func157, Tryz.ntmps157
  go_wp2
  go_ret
  exact ⟨ret_int (by rw [H.out]), rfl⟩
 ·have H : Hid (Cp.unfold n = (n : Int) / 2) := by unfold Cp.unfold; rw [if_neg hc]; show _ = _; omega
  have hd : ((n : Int) % 2 == 1) = false := by simp; omega
  go_enter Tryz.func157, Tryz.ntmps157
  go_wp2
  go_ret
  exact ⟨ret_int (by rw [H.out]), rfl⟩
theorem back_any (n : Nat) (h : n < 18446744073709551616) (w : World) :
  Calls Tryz.prog 132 #[.int .u64 (n : Int)] w fun e w' => e = .returned (.int .i64 (Cp.unfold n)) /\ w' = w := by
 have hw : wrap64 ((n : Int) / 2) = (n : Int) / 2 := IntWalk.wrap64_in _ ⟨by omega, by omega⟩
 by_cases hc : n % 2 = 1
 ·have H : Hid (Cp.unfold n = -((n : Int) / 2) - 1) := by unfold Cp.unfold; rw [if_pos hc]; show _ = _; omega
  have hd : ((n : Int) % 2 == 1) = true := by simp; omega
  go_enter Tryz.func132, Tryz.ntmps132
  go_wp2
  go_ret
  exact ⟨ret_int (by rw [H.out]), rfl⟩
 ·have H : Hid (Cp.unfold n = (n : Int) / 2) := by unfold Cp.unfold; rw [if_neg hc]; show _ = _; omega
  have hd : ((n : Int) % 2 == 1) = false := by simp; omega
  go_enter Tryz.func132, Tryz.ntmps132
  go_wp2
  go_ret
  exact ⟨ret_int (by rw [H.out]), rfl⟩
end Go.Proofs.YtkgbmefaphhcnaaGreatDoor
namespace Go.Proofs.YtkgbmefaphhcnaaGreatDoor
open Go.RowKit
theorem info_u8 : (Tryz.prog.info? 5).map (fun i => (i.zero, i.size, i.bytes)) = some (some (.int .u8 0), 1, 1) := by kernel_rfl
theorem Ow.one (wr : World) (b : UInt8) (x : Int) (hx : x = (b.toNat : Int)) : Ow 5 (wr.alloc (.cells #[.int .u8 x] 5)) (some ⟨wr.heap.size, 0, none⟩) 1 1 [b] :=
 Ow.fresh wr _ 1 1 [b] rfl (Nat.le_refl _) (by unfold maxLen; omega) rfl (fun j hj => by
  have : j = 0 := by simpa using hj
  subst this
  rw [hx]; rfl)
theorem Rd.one (wr : World) (b : UInt8) (x : Int) (hx : x = (b.toNat : Int)) : Rd (wr.alloc (.cells #[.int .u8 x] 5)) (some ⟨wr.heap.size, 0, none⟩) 1 1 [b] := (Ow.one wr b x hx).rd
theorem still_app {w wr w1 : World} {o : Obj} {ao ao' : Option Addr} (hs : Still w wr) (ha : ∀ a, ao = some a -> w.heap.size <= a.block) (hf : Fr (fun k => ∃ a, ao = some a /\ a.block = k) (wr.alloc o) w1)
  (hn : ∀ a, ao' = some a -> ao = some a \/ (wr.alloc o).heap.size <= a.block) : Still w w1 /\ ∀ a, ao' = some a -> w.heap.size <= a.block := by
 refine ⟨Fr.trans (Fr.alloc hs o) hf ?_, fun a h => ?_⟩
 ·rintro k hk ⟨a, h1, rfl⟩
  have := ha a h1
  omega
 ·rcases hn a h with h1 | h1
  ·exact ha a h1
  ·have := hs.size
   simp at h1
   omega
set_option maxHeartbeats 400000 in
theorem form_any (n : Nat) (h : n < 18446744073709551616) (w : World) :
  Calls Tryz.prog 146 #[.int .u64 (n : Int)] w fun e w' => ∃ ao cap, e = .returned (.slice ao (Cp.form n).length cap) /\ Ow 5 w' ao (Cp.form n).length cap (Cp.form n) /\ Still w w' /\ ∀ a, ao = some a -> w.heap.size <= a.block := by
 obtain ⟨i0, hi, hz, hs1, hb1⟩ := info_parts info_u8
 have hten := Cp.form_ten h
 go_enter Tryz.func146, Tryz.ntmps146
 go_wp2
 go_loopw [0, 3] (fun a v wr => ∃ (m k : Nat) (ao : Option Addr) (cap : Nat) (bs : List UInt8), m < 18446744073709551616 /\ a = .int .u64 (m : Int) /\ v = .slice ao k cap /\ Ow 5 wr ao k cap bs /\ bs ++ Cp.form m = Cp.form n /\ Still w wr /\ ∀ a, ao = some a -> w.heap.size <= a.block) (fun a _ _ => (intOf a).toNat)
 case atStart => exact ⟨n, 0, none, 0, [], h, rfl, rfl, Ow.empty _ _, rfl, Fr.refl _ _, fun _ h => by cases h⟩
 case round =>
  obtain ⟨m, k, ao, cap, bs, hm, rfl, rfl, ho, hbs, hst, hao⟩ := hrel
  have hk : k <= 10 := by
   have h1 := congrArg List.length hbs
   have h2 := ho.rd.len
   simp at h1
   omega
  have HB : Hid (bs ++ Cp.form m = Cp.form n) := hbs
  clear hbs
  by_cases hlt : m < 128
  ·have hx : (m : Int) = ((UInt8.ofNat m).toNat : Int) := by rw [Cp.ofNat_toNat (by omega)]
   have HX : Hid ((m : Int) = ((UInt8.ofNat m).toNat : Int)) := hx
   have HF : Hid (bs ++ [UInt8.ofNat m] = Cp.form n) := by rw [<- Cp.form_small hlt]; exact HB.out
   clear hx
   go_wp2_with (at_builtin; refine wpList_app _ rfl _ _ 38 rfl 5 i0 Tryz.underlying38 hi hz hs1 hb1 ao (some ⟨wr.heap.size, 0, none⟩) k cap 1 1 bs [UInt8.ofNat m] rfl rfl (ho.alloc _) (Rd.one wr _ _ HX.out) (by omega) ?_; intro ao' cap' w1 ho' hf' hn' _)
   obtain ⟨hst', hao'⟩ := still_app hst hao hf' hn'
   go_ret
   have hl : k + 1 = (Cp.form n).length := by rw [<- HF.out]; simp [ho.rd.len]
   rw [HF.out] at ho'
   rw [hl] at ho'
   exact ⟨ao', cap', by rw [<- hl]; rfl, ho', hst', hao'⟩
  ·have e1 : bits .and .u64 (m : Int) 127 = (m : Int) % 128 := and127_u64 _ (by omega) (by omega)
   have e2 : bits .or .u8 ((m : Int) % 128) 128 = (m : Int) % 128 + 128 := or128_u8 _ (by omega) (by omega)
   have HX : Hid ((m : Int) % 128 + 128 = ((UInt8.ofNat (m % 128 + 128)).toNat : Int)) := by
    show _ = _
    rw [Cp.ofNat_toNat (by omega)]; omega
   have HF : Hid ((bs ++ [UInt8.ofNat (m % 128 + 128)]) ++ Cp.form (m / 128) = Cp.form n) := by
    show _ = _
    rw [<- HB.out, Cp.form_great hlt]; simp
   go_wp2_with (at_builtin; refine wpList_app _ rfl _ _ 38 rfl 5 i0 Tryz.underlying38 hi hz hs1 hb1 ao (some ⟨wr.heap.size, 0, none⟩) k cap 1 1 bs [UInt8.ofNat (m % 128 + 128)] rfl rfl (ho.alloc _) (Rd.one wr _ _ HX.out) (by omega) ?_; intro ao' cap' w1 ho' hf' hn' _)
   obtain ⟨hst', hao'⟩ := still_app hst hao hf' hn'
   go_roundw
   case rel => exact ⟨m / 128, k + 1, ao', cap', _, by omega, by go_num, rfl, ho', HF.out, hst', hao'⟩
   case measure => simp [intOf]; omega
theorem clone_any (ao : Option Addr) (n cap : Nat) (bs : List UInt8) (w : World) (hr : Rd w ao n cap bs) (h47 : n <= 140737488355328) :
  Calls Tryz.prog 119 #[.slice ao n cap] w fun e w' => ∃ ao' cap', e = .returned (.slice ao' n cap') /\ Ow 5 w' ao' n cap' bs /\ Still w w' /\ ∀ a, ao' = some a -> w.heap.size <= a.block := by
 obtain ⟨i0, hi, hz, hs1, hb1⟩ := info_parts info_u8
 have hnil := fun (W : World) => Lib.run_eql_slice_nil (P := Tryz.prog) W 38 5 ao n cap 0 0 Tryz.underlying38
 cases ao with
 | none =>
  have h1 := hr.nil rfl
  have h2 := hr.le
  have h3 := hr.len
  obtain rfl : n = 0 := by omega
  obtain rfl : cap = 0 := by omega
  obtain rfl : bs = [] := List.eq_nil_of_length_eq_zero h3
  go_enter Tryz.func119, Tryz.ntmps119
  go_wp2
  go_ret
  exact ⟨none, 0, rfl, Ow.empty _ _, Fr.refl _ _, fun _ h => by cases h⟩
 | some a =>
  have hw1 : Ow 5 (w.alloc (.cells #[] 5)) (some ⟨w.heap.size, 0, none⟩) 0 0 [] := Ow.fresh w #[] 0 0 [] rfl (Nat.le_refl _) (by unfold maxLen; omega) rfl (fun j hj => by simp at hj)
  go_enter Tryz.func119, Tryz.ntmps119
  go_wp2_with (at_builtin; refine wpList_app _ rfl _ _ 38 rfl 5 i0 Tryz.underlying38 hi hz hs1 hb1 (some ⟨w.heap.size, 0, none⟩) (some a) 0 0 n cap [] bs rfl rfl hw1 (hr.alloc _) (by omega) ?_; intro ao' cap' w1 ho' hf' hn' _)
  go_ret
  have hst : Still w w1 := Fr.trans (Still.alloc w _) hf' (by rintro k hk ⟨a, h1, rfl⟩; cases h1; simp at hk)
  rw [Nat.zero_add] at ho'
  refine ⟨ao', cap', by rw [<- Nat.zero_add n]; rfl, by simpa using ho', hst, fun a h => ?_⟩
  rcases hn' a h with h1 | h1
  ·cases h1; exact Nat.le_refl _
  ·simp at h1; omega
end Go.Proofs.YtkgbmefaphhcnaaGreatDoor
namespace Go.Proofs.YtkgbmefaphhcnaaGreatDoor
open Go.RowKit
theorem three {w : World} {p : Nat} {x y z : Value} {t : TypeId} (h : w.heap[p]? = some (.cells #[x, y, z] t (0, 0))) :
  w.cell? ⟨p, 0, none⟩ = some x /\ w.cell? ⟨p, 1, none⟩ = some y /\ w.cell? ⟨p, 2, none⟩ = some z /\ ∀ o, w.frozen? ⟨p, o, none⟩ = false :=
 ⟨by rw [cell_of_row _ _ _ _ _ _ h]; rfl, by rw [cell_of_row _ _ _ _ _ _ h]; rfl, by rw [cell_of_row _ _ _ _ _ _ h]; rfl, fun o => frozen_of_row w p o _ t h⟩
theorem two {w : World} {p : Nat} {x y : Value} {t : TypeId} (h : w.heap[p]? = some (.cells #[x, y] t (0, 0))) :
  w.cell? ⟨p, 0, none⟩ = some x /\ w.cell? ⟨p, 1, none⟩ = some y /\ ∀ o, w.frozen? ⟨p, o, none⟩ = false :=
 ⟨by rw [cell_of_row _ _ _ _ _ _ h]; rfl, by rw [cell_of_row _ _ _ _ _ _ h]; rfl, fun o => frozen_of_row w p o _ t h⟩
theorem set0 {w : World} {p : Nat} {x v : Value} {l : List Value} {t : TypeId} (h : w.heap[p]? = some (.cells (x :: l).toArray t (0, 0))) : (w.setCell ⟨p, 0, none⟩ v).heap[p]? = some (.cells (v :: l).toArray t (0, 0)) := by
 rw [heap_setCell_same w p 0 _ t v h]; simp
theorem set1 {w : World} {p : Nat} {x y v : Value} {l : List Value} {t : TypeId} (h : w.heap[p]? = some (.cells (x :: y :: l).toArray t (0, 0))) : (w.setCell ⟨p, 1, none⟩ v).heap[p]? = some (.cells (x :: v :: l).toArray t (0, 0)) := by
 rw [heap_setCell_same w p 1 _ t v h]; simp
theorem set2 {w : World} {p : Nat} {x y z v : Value} {l : List Value} {t : TypeId} (h : w.heap[p]? = some (.cells (x :: y :: z :: l).toArray t (0, 0))) : (w.setCell ⟨p, 2, none⟩ v).heap[p]? = some (.cells (x :: y :: v :: l).toArray t (0, 0)) := by
 rw [heap_setCell_same w p 2 _ t v h]; simp
structure Wr (w : World) (p : Nat) (ao : Option Addr) (n cap : Nat) (room : Int) (bs : List UInt8) (e : Int) : Prop where
 blk : w.heap[p]? = some (.cells #[.int .i64 room, .slice ao n cap, .int .i64 e] 180 (0, 0))
 own : Ow 5 w ao n cap bs
theorem Wr.lt {w : World} {p : Nat} {ao : Option Addr} {n cap : Nat} {room : Int} {bs : List UInt8} {e : Int} (h : Wr w p ao n cap room bs e) : p < w.heap.size := block_lt h.blk
theorem Wr.apart {w : World} {p : Nat} {ao : Option Addr} {n cap : Nat} {room : Int} {bs : List UInt8} {e : Int} (h : Wr w p ao n cap room bs e) : ∀ a, ao = some a -> a.block ≠ p := by
 rintro a ha rfl
 obtain ⟨_, _, cur, hg, _⟩ := h.own.row a ha
 have := h.blk
 rw [hg] at this
 simp at this
theorem Wr.kept {F : Nat -> Prop} {w w' : World} {p : Nat} {ao : Option Addr} {n cap : Nat} {room : Int} {bs : List UInt8} {e : Int} (h : Wr w p ao n cap room bs e) (hf : Fr F w w') (hp : ¬ F p) (ha : ∀ a, ao = some a -> ¬ F a.block) : Wr w' p ao n cap room bs e :=
 ⟨hf.kept h.blk hp, h.own.kept hf ha⟩
def Wf (p : Nat) (ao : Option Addr) (k : Nat) : Prop := k = p \/ ∃ a, ao = some a /\ a.block = k
def Later (w : World) (ao ao' : Option Addr) : Prop := ∀ a, ao' = some a -> (∃ b, ao = some b /\ b.block = a.block) \/ w.heap.size <= a.block
theorem Later.refl (w : World) (ao : Option Addr) : Later w ao ao := fun a h => .inl ⟨a, h, rfl⟩
theorem Ow.drewN {e : TypeId} {w : World} {ao : Option Addr} {n cap : Nat} {bs : List UInt8} (h : Ow e w ao n cap bs) (k : Nat) : Ow e (w.drewN k) ao n cap bs := h.kept ((Fr.refl (fun _ => False) w).drewN k) fun _ _ e => e
theorem app_frame {w wr w1 : World} {p : Nat} {ao ao' ao2 : Option Addr} (hfr : Fr (Wf p ao) w wr) (hla : Later w ao ao') (hf2 : Fr (fun k => ∃ a, ao' = some a /\ a.block = k) wr w1) (hn2 : ∀ a, ao2 = some a -> ao' = some a \/ wr.heap.size <= a.block) :
  Fr (Wf p ao) w w1 /\ Later w ao ao2 := by
 refine ⟨hfr.trans hf2 ?_, fun a ha => ?_⟩
 ·rintro k hk ⟨a, h1, rfl⟩
  rcases hla a h1 with ⟨b, h2, h3⟩ | h2
  ·exact .inr ⟨b, h2, h3⟩
  ·omega
 ·rcases hn2 a ha with h1 | h1
  ·exact hla a h1
  ·exact .inr (Nat.le_trans hfr.size h1)
theorem lay_step {w wr w1 : World} {p : Nat} {ao ao' ao2 : Option Addr} {n cap' n2 cap2 : Nat} {room e : Int} {bs b2 : List UInt8} (hwr : Wr wr p ao' n cap' room bs e) (hfr : Fr (Wf p ao) w wr) (hla : Later w ao ao')
  (ho2 : Ow 5 w1 ao2 n2 cap2 b2) (hf2 : Fr (fun k => ∃ a, ao' = some a /\ a.block = k) wr w1) (hn2 : ∀ a, ao2 = some a -> ao' = some a \/ wr.heap.size <= a.block) :
  Wr (w1.setCell ⟨p, 1, none⟩ (.slice ao2 n2 cap2)) p ao2 n2 cap2 room b2 e /\ Fr (Wf p ao) w (w1.setCell ⟨p, 1, none⟩ (.slice ao2 n2 cap2)) /\ Later w ao ao2 := by
 have hb2 := hf2.kept hwr.blk (by rintro ⟨a, h1, h2⟩; exact hwr.apart a h1 h2)
 obtain ⟨hf, hl⟩ := app_frame hfr hla hf2 hn2
 refine ⟨⟨set1 hb2, ho2.kept ((Fr.refl (fun k => k = p) w1).setCell _ _ (.inl rfl)) ?_⟩, hf.setCell _ _ (.inl (.inl rfl)), hl⟩
 rintro a h1 h2
 obtain ⟨_, _, cur, hg, _⟩ := ho2.row a h1
 rw [h2, hb2] at hg
 simp at hg
def tot (M : Nat -> Nat) : Nat -> Nat | 0 => 0 | k + 1 => tot M k + M k
def cat (X : Nat -> List UInt8) : Nat -> List UInt8 | 0 => [] | k + 1 => cat X k ++ X k
theorem tot_mono (M : Nat -> Nat) {a b : Nat} (h : a <= b) : tot M a <= tot M b := by
  induction b with
  | zero => obtain rfl : a = 0 := by omega
            exact Nat.le_refl _
  | succ b ih =>
    by_cases e : a = b + 1
    · subst e; exact Nat.le_refl _
    · have := ih (by omega); simp only [tot]; omega
theorem cat_len (M : Nat -> Nat) (X : Nat -> List UInt8) (N : Nat) (h : ∀ j, j < N -> (X j).length = M j) : (cat X N).length = tot M N := by
 induction N with
 | zero => rfl
 | succ N ih => simp only [cat, tot, List.length_append, ih fun j hj => h j (by omega), h N (by omega)]
def layS (room : Int) (bs : List UInt8) (e : Int) (x : List UInt8) : List UInt8 × Int :=
 if e ≠ 0 then (bs, e) else if room < (bs.length : Int) + (x.length : Int) then ([], 22) else (bs ++ x, 0)
set_option maxHeartbeats 1000000 in
set_option maxRecDepth 100000 in
theorem lay_any (p q N : Nat) (ao : Option Addr) (n cap : Nat) (room : Int) (bs : List UInt8) (e : Int) (A : Nat -> Option Addr) (M C : Nat -> Nat) (X : Nat -> List UInt8) (w : World)
  (hw : Wr w p ao n cap room bs e) (hq : ∀ j, j < N -> w.cell? ⟨q, j, none⟩ = some (.slice (A j) (M j) (C j))) (hqp : q ≠ p) (hqa : ∀ a, ao = some a -> a.block ≠ q) (hql : q < w.heap.size) (hN : N <= 1000)
  (hx : ∀ j, j < N -> Rd w (A j) (M j) (C j) (X j)) (hxp : ∀ j, j < N -> ∀ a, A j = some a -> 0 < M j -> ¬ Wf p ao a.block)
  (h0 : 0 <= room) (h1 : room <= 9223372036854775807) (h47 : n + tot M N <= 140737488355328) :
  Calls Tryz.prog 145 #[.pointer (some ⟨p, 0, none⟩), .slice (some ⟨q, 0, none⟩) N N] w fun r w' => r = .returned (.tuple #[]) /\
   ∃ ao' n' cap', Wr w' p ao' n' cap' room (layS room bs e (cat X N)).1 (layS room bs e (cat X N)).2 /\ Fr (Wf p ao) w w' /\ Later w ao ao' := by
 obtain ⟨i0, hi, hz, hs1, hb1⟩ := info_parts info_u8
 obtain ⟨c0, c1, c2, cf⟩ := three hw.blk
 have hlen := hw.own.rd.len
 have HC : Hid ((cat X N).length = tot M N) := cat_len M X N fun j hj => (hx j hj).len
 by_cases he : e = 0
 ·subst he
  by_cases hr : room < (n : Int) + (tot M N : Int)
  ·have HL : Hid (layS room bs 0 (cat X N) = ([], 22)) := by
    unfold layS; rw [if_neg (by simp), hlen, HC.out, if_pos hr]; exact rfl
   go_enter Tryz.func145, Tryz.ntmps145
   go_wp2
   go_loop [4, 16] (fun s i => ∃ k : Nat, k <= N /\ i = .int .i64 (k : Int) /\ s = .int .i64 (tot M k : Int)) (fun _ i => N - (intOf i).toNat)
   case atStart => exact ⟨0, Nat.zero_le _, rfl, rfl⟩
   case round =>
    obtain ⟨k, hk, rfl, rfl⟩ := hrel
    by_cases hlt : k < N
    ·have hc := hq k hlt
     have hmono := tot_mono M (a := k + 1) (b := N) hlt
     simp only [tot] at hmono
     go_wp2
     go_round
     case rel => exact ⟨k + 1, by omega, by go_num, by simp only [tot]; go_num⟩
     case measure => simp [intOf]; omega
    ·obtain rfl : k = N := by omega
     go_wp2
     go_quiet (fail)
     go_wp2
     refine bodyPost_ret (results_none rfl _ _ _) rfl ?_
     refine ⟨rfl, none, 0, 0, ?_, (((Fr.refl _ w).drewN _).setCell _ _ (.inl (.inl rfl))).setCell _ _ (.inl (.inl rfl)), fun _ h => by cases h⟩
     rw [HL.out]
     exact ⟨set2 (set1 hw.blk), Ow.empty _ _⟩
  ·have HL : Hid (layS room bs 0 (cat X N) = (bs ++ cat X N, 0)) := by
    unfold layS; rw [if_neg (by simp), hlen, HC.out, if_neg hr]; exact rfl
   go_enter Tryz.func145, Tryz.ntmps145
   go_wp2
   go_loop [4, 16] (fun s i => ∃ k : Nat, k <= N /\ i = .int .i64 (k : Int) /\ s = .int .i64 (tot M k : Int)) (fun _ i => N - (intOf i).toNat)
   case atStart => exact ⟨0, Nat.zero_le _, rfl, rfl⟩
   case round =>
    obtain ⟨k, hk, rfl, rfl⟩ := hrel
    by_cases hlt : k < N
    ·have hc := hq k hlt
     have hmono := tot_mono M (a := k + 1) (b := N) hlt
     simp only [tot] at hmono
     go_wp2
     go_round
     case rel => exact ⟨k + 1, by omega, by go_num, by simp only [tot]; go_num⟩
     case measure => simp [intOf]; omega
    ·obtain rfl : k = N := by omega
     go_wp2
     go_quiet (fail)
     go_wp2
     go_loopw [45] (fun i wr => ∃ j : Nat, j <= k /\ i = .int .i64 (j : Int) /\ ∃ ao' cap', Wr wr p ao' (n + tot M j) cap' room (bs ++ cat X j) 0 /\ Fr (Wf p ao) w wr /\ Later w ao ao') (fun i _ => k - (intOf i).toNat)
     case atStart => exact ⟨0, Nat.zero_le _, rfl, ao, cap, ⟨hw.blk, by simpa [tot, cat] using hw.own.drewN nq⟩, (Fr.refl _ w).drewN _, Later.refl _ _⟩
     case round =>
      obtain ⟨j, hj, rfl, ao', cap', hwr, hfr, hla⟩ := hrel
      clear c0 c1 c2 cf
      obtain ⟨c0, c1, c2, cf⟩ := three hwr.blk
      by_cases hjk : j < k
      ·have hc : wr.cell? ⟨q, j, none⟩ = some (.slice (A j) (M j) (C j)) := (hfr.cell hql (fun h => by rcases h with h | ⟨a, h, h'⟩; exact hqp h; exact hqa a h h')).trans (hq j hjk)
       have hmono := tot_mono M (a := j + 1) (b := k) hjk
       simp only [tot] at hmono
       have hrd := (hx j hjk).kept hfr (hxp j hjk)
       have hpa := hwr.apart
       go_wp2_with (at_builtin; refine wpList_app _ rfl _ _ 38 rfl 5 i0 Tryz.underlying38 hi hz hs1 hb1 ao' (A j) (n + tot M j) cap' (M j) (C j) (bs ++ cat X j) (X j) rfl rfl hwr.own hrd (by omega) ?_; intro ao2 cap2 w1 ho2 hf2 hn2 _; have hb2 := hf2.kept hwr.blk (by rintro ⟨a, h1, h2⟩; exact hpa a h1 h2); obtain ⟨d0, d1, d2, df⟩ := three hb2)
       have R := lay_step hwr hfr hla ho2 hf2 hn2
       go_roundw
       case rel => exact ⟨j + 1, by omega, by go_num, ao2, cap2, by simp only [tot, cat]; rw [<- Nat.add_assoc, <- List.append_assoc]; exact R.1, R.2.1, R.2.2⟩
       case measure => simp [intOf]; omega
      ·obtain rfl : j = k := by omega
       go_wp2
       go_end0
       refine ⟨rfl, ao', n + tot M j, cap', ?_, hfr, hla⟩
       rw [HL.out]; exact hwr
 ·have HL : Hid (layS room bs e (cat X N) = (bs, e)) := by unfold layS; rw [if_pos he]; exact rfl
  have hne : (e != 0) = true := by simpa using he
  go_enter Tryz.func145, Tryz.ntmps145
  go_wp2
  refine bodyPost_ret (results_none rfl _ _ _) rfl ?_
  refine ⟨rfl, ao, n, cap, ?_, Fr.refl _ _, Later.refl _ _⟩
  rw [HL.out]; exact hw
end Go.Proofs.YtkgbmefaphhcnaaGreatDoor
namespace Go.Proofs.YtkgbmefaphhcnaaGreatDoor
open Go.RowKit
def Laid (w w' : World) (p : Nat) (ao : Option Addr) (room : Int) (bs : List UInt8) (e : Int) (x : List UInt8) : Prop :=
 ∃ ao' n' cap', Wr w' p ao' n' cap' room (layS room bs e x).1 (layS room bs e x).2 /\ Fr (Wf p ao) w w' /\ Later w ao ao'
theorem Laid.from {w w1 w' : World} {p : Nat} {ao : Option Addr} {room : Int} {bs : List UInt8} {e : Int} {x : List UInt8} (hs : Still w w1) (h : Laid w1 w' p ao room bs e x) : Laid w w' p ao room bs e x := by
 obtain ⟨ao', n', cap', h1, h2, h3⟩ := h
 refine ⟨ao', n', cap', h1, (Still.to hs).trans h2 (fun _ _ h => h), fun a ha => ?_⟩
 rcases h3 a ha with h | h
 ·exact .inl h
 ·exact .inr (Nat.le_trans hs.size h)
theorem Wr.still {w w' : World} {p : Nat} {ao : Option Addr} {n cap : Nat} {room : Int} {bs : List UInt8} {e : Int} (h : Wr w p ao n cap room bs e) (hs : Still w w') : Wr w' p ao n cap room bs e := h.kept hs (fun e => e) fun _ _ e => e
theorem Wr.wf_lt {w : World} {p : Nat} {ao : Option Addr} {n cap : Nat} {room : Int} {bs : List UInt8} {e : Int} (h : Wr w p ao n cap room bs e) : ∀ k, Wf p ao k -> k < w.heap.size := by
 rintro k (rfl | ⟨a, h1, rfl⟩)
 ·exact h.lt
 ·exact h.own.lt a h1
theorem lay_one (p : Nat) (ao : Option Addr) (n cap : Nat) (room : Int) (bs : List UInt8) (e : Int) (so : Option Addr) (m c : Nat) (cs : List UInt8) (w : World)
    (hw : Wr w p ao n cap room bs e) (hx : Rd w so m c cs) (hxp : ∀ a, so = some a -> 0 < m -> ¬ Wf p ao a.block) (h0 : 0 <= room) (h1 : room <= 9223372036854775807) (h47 : n + m <= 140737488355328) :
    Calls Tryz.prog 145 #[.pointer (some ⟨p, 0, none⟩), .slice (some ⟨w.heap.size, 0, none⟩) 1 1] (w.alloc (.cells #[.slice so m c] 38)) fun r w' => r = .returned (.tuple #[]) /\ Laid w w' p ao room bs e cs := by
  have hs := Still.alloc w (.cells #[.slice so m c] 38)
  have h := lay_any p w.heap.size 1 ao n cap room bs e (fun _ => so) (fun _ => m) (fun _ => c) (fun _ => cs) (w.alloc (.cells #[.slice so m c] 38)) (hw.still hs)
    (fun j hj => by obtain rfl : j = 0 := by omega
                    rw [cell_of_row _ _ _ _ _ _ (heap_alloc_new w _)]; rfl)
    (fun h => by have := hw.lt; omega) (fun a ha h => by have := hw.own.lt a ha; omega) (by simp) (by omega) (fun _ _ => hx.still hs) (fun _ _ => hxp) h0 h1 (by simp only [tot]; omega)
  refine h.mono ?_
  rintro r w' ⟨rfl, h⟩
  simp only [cat, List.nil_append] at h
  exact ⟨rfl, Laid.from hs h⟩
theorem wuint_any (p : Nat) (ao : Option Addr) (n cap : Nat) (room : Int) (bs : List UInt8) (e : Int) (m : Nat) (hm : m < 18446744073709551616) (w : World)
  (hw : Wr w p ao n cap room bs e) (h0 : 0 <= room) (h1 : room <= 9223372036854775807) (h47 : n + 10 <= 140737488355328) :
  Calls Tryz.prog 150 #[.pointer (some ⟨p, 0, none⟩), .int .u64 (m : Int)] w fun r w' => r = .returned (.tuple #[]) /\ Laid w w' p ao room bs e (Cp.form m) := by
 have hten := Cp.form_ten hm
 go_enter Tryz.func150, Tryz.ntmps150
 go_wp2_with fail
 refine (form_any m hm _).mono ?_
 rintro r w1 ⟨so, c, rfl, ho, hst, hso⟩
 have hlt := hw.wf_lt
 go_wp2_with fail
 refine (lay_one p ao n cap room bs e so _ c _ w1 (hw.still hst) ho.rd (fun a ha _ hf => by have := hlt _ hf; have := hso a ha; omega) h0 h1 (by omega)).mono ?_
 rintro r w2 ⟨rfl, hl⟩
 go_wp2
 go_end0
 exact ⟨rfl, Laid.from hst hl⟩
theorem wint_any (p : Nat) (ao : Option Addr) (n cap : Nat) (room : Int) (bs : List UInt8) (e : Int) (m : Int) (hm : -9223372036854775808 <= m) (hm2 : m <= 9223372036854775807) (w : World)
  (hw : Wr w p ao n cap room bs e) (h0 : 0 <= room) (h1 : room <= 9223372036854775807) (h47 : n + 10 <= 140737488355328) :
  Calls Tryz.prog 98 #[.pointer (some ⟨p, 0, none⟩), .int .i64 m] w fun r w' => r = .returned (.tuple #[]) /\ Laid w w' p ao room bs e (Cp.form (Cp.fold m)) := by
 have hf := Cp.fold_lt hm hm2
 have hten := Cp.form_ten hf
 go_enter Tryz.func98, Tryz.ntmps98
 go_wp2_with fail
 refine (fold_any m hm hm2 _).mono ?_
 rintro r w0 ⟨rfl, rfl⟩
 go_wp2_with fail
 refine (form_any (Cp.fold m) hf _).mono ?_
 rintro r w1 ⟨so, c, rfl, ho, hst, hso⟩
 have hlt := hw.wf_lt
 go_wp2_with fail
 refine (lay_one p ao n cap room bs e so _ c _ w1 (hw.still hst) ho.rd (fun a ha _ hf => by have := hlt _ hf; have := hso a ha; omega) h0 h1 (by omega)).mono ?_
 rintro r w2 ⟨rfl, hl⟩
 go_wp2
 go_end0
 exact ⟨rfl, Laid.from hst hl⟩
theorem wbyte_any (p : Nat) (ao : Option Addr) (n cap : Nat) (room : Int) (bs : List UInt8) (e : Int) (m : UInt8) (x : Int) (hm : x = (m.toNat : Int)) (w : World)
  (hw : Wr w p ao n cap room bs e) (h0 : 0 <= room) (h1 : room <= 9223372036854775807) (h47 : n + 10 <= 140737488355328) :
  Calls Tryz.prog 97 #[.pointer (some ⟨p, 0, none⟩), .int .u8 x] w fun r w' => r = .returned (.tuple #[]) /\ Laid w w' p ao room bs e [m] := by
 have ho := Ow.one w m x hm
 have hst := Still.alloc w (.cells #[.int .u8 x] 5)
 have hlt := hw.wf_lt
 have hc := lay_one p ao n cap room bs e (some ⟨w.heap.size, 0, none⟩) 1 1 [m] (w.alloc (.cells #[.int .u8 x] 5)) (hw.still hst) ho.rd (fun a ha _ hf => by have := hlt _ hf; cases ha; simp at this) h0 h1 (by omega)
 have HM : Hid (x = (m.toNat : Int)) := hm
 clear hm
 have hsz : (w.alloc (.cells #[.int .u8 x] 5)).heap.size = w.heap.size + 1 := by simp
 rw [hsz] at hc
 have HC := hid hc
 clear hc hsz
 go_enter Tryz.func97, Tryz.ntmps97
 go_wp2_with fail
 refine HC.out.mono ?_
 rintro r w2 ⟨rfl, hl⟩
 go_wp2
 go_end0
 exact ⟨rfl, Laid.from hst hl⟩
theorem lay_two (p : Nat) (ao : Option Addr) (n cap : Nat) (room : Int) (bs : List UInt8) (e : Int) (fo so : Option Addr) (l d m c : Nat) (fs cs : List UInt8) (w : World)
  (hw : Wr w p ao n cap room bs e) (hf : Rd w fo l d fs) (hfp : ∀ a, fo = some a -> 0 < l -> ¬ Wf p ao a.block) (hx : Rd w so m c cs) (hxp : ∀ a, so = some a -> 0 < m -> ¬ Wf p ao a.block) (h0 : 0 <= room) (h1 : room <= 9223372036854775807) (h47 : n + l + m <= 140737488355328) :
  Calls Tryz.prog 145 #[.pointer (some ⟨p, 0, none⟩), .slice (some ⟨w.heap.size, 0, none⟩) 2 2] (w.alloc (.cells #[.slice fo l d, .slice so m c] 38)) fun r w' => r = .returned (.tuple #[]) /\ Laid w w' p ao room bs e (fs ++ cs) := by
 have hs := Still.alloc w (.cells #[.slice fo l d, .slice so m c] 38)
 have h := lay_any p w.heap.size 2 ao n cap room bs e (fun j => if j = 0 then fo else so) (fun j => if j = 0 then l else m) (fun j => if j = 0 then d else c) (fun j => if j = 0 then fs else cs) (w.alloc (.cells #[.slice fo l d, .slice so m c] 38)) (hw.still hs)
  (fun j hj => by
   rcases (show j = 0 \/ j = 1 by omega) with rfl | rfl
   ·rw [cell_of_row _ _ _ _ _ _ (heap_alloc_new w _)]; rfl
   ·rw [cell_of_row _ _ _ _ _ _ (heap_alloc_new w _)]; rfl)
  (fun h => by have := hw.lt; omega) (fun a ha h => by have := hw.own.lt a ha; omega) (by simp) (by omega)
  (fun j hj => by
   rcases (show j = 0 \/ j = 1 by omega) with rfl | rfl
   ·exact hf.still hs
   ·exact hx.still hs)
  (fun j hj => by
   rcases (show j = 0 \/ j = 1 by omega) with rfl | rfl
   ·exact hfp
   ·exact hxp) h0 h1 (by simp [tot]; omega)
 refine h.mono ?_
 rintro r w' ⟨rfl, h⟩
 have e2 : cat (fun j => if j = 0 then fs else cs) 2 = fs ++ cs := by simp [cat]
 rw [e2] at h
 exact ⟨rfl, Laid.from hs h⟩
theorem wbytes_any (p : Nat) (ao : Option Addr) (n cap : Nat) (room : Int) (bs : List UInt8) (e : Int) (so : Option Addr) (m c : Nat) (cs : List UInt8) (w : World)
  (hw : Wr w p ao n cap room bs e) (hx : Rd w so m c cs) (hxp : ∀ a, so = some a -> 0 < m -> ¬ Wf p ao a.block) (h0 : 0 <= room) (h1 : room <= 9223372036854775807) (h47 : n + (Cp.form m).length + m <= 140737488355328) :
  Calls Tryz.prog 152 #[.pointer (some ⟨p, 0, none⟩), .slice so m c] w fun r w' => r = .returned (.tuple #[]) /\ Laid w w' p ao room bs e (Cp.counted cs) := by
 have hm := hx.small
 have hlt := hw.wf_lt
 have HX : Hid (Cp.counted cs = Cp.form m ++ cs) := by unfold Cp.counted; rw [hx.len]; exact rfl
 go_enter Tryz.func152, Tryz.ntmps152
 go_wp2_with fail
 refine (form_any m (by omega) _).mono ?_
 rintro r w1 ⟨fo, d, rfl, ho, hst, hfo⟩
 go_wp2_with fail
 refine (lay_two p ao n cap room bs e fo so _ d m c _ cs w1 (hw.still hst) ho.rd (fun a ha _ hf => by have := hlt _ hf; have := hfo a ha; omega) (hx.still hst) hxp h0 h1 h47).mono ?_
 rintro r w2 ⟨rfl, hl⟩
 go_wp2
 go_end0
 refine ⟨rfl, ?_⟩
 rw [HX.out]
 exact Laid.from hst hl
theorem newWriter_any (most : Int) (h1 : -9223372036854775808 <= most) (h2 : most <= 9223372036854775807) (w : World) :
  Calls Tryz.prog 95 #[.int .i64 most] w fun r w' => r = .returned (.pointer (some ⟨w.heap.size, 0, none⟩)) /\ Wr w' w.heap.size none 0 0 (max most 0) [] 0 /\ Still w w' := by
 by_cases hm : most < 0
 ·have e : max most 0 = 0 := by omega
  rw [e]
  go_enter Tryz.func95, Tryz.ntmps95
  go_wp2
  go_ret
  exact ⟨rfl, ⟨heap_alloc_new w _, Ow.empty _ _⟩, Still.alloc w _⟩
 ·have e : max most 0 = most := by omega
  rw [e]
  go_enter Tryz.func95, Tryz.ntmps95
  go_wp2
  go_ret
  exact ⟨rfl, ⟨heap_alloc_new w _, Ow.empty _ _⟩, Still.alloc w _⟩
theorem wdone_any (p : Nat) (ao : Option Addr) (n cap : Nat) (room : Int) (bs : List UInt8) (e : Int) (w : World) (hw : Wr w p ao n cap room bs e) (h47 : n <= 140737488355328) :
  Calls Tryz.prog 96 #[.pointer (some ⟨p, 0, none⟩)] w fun r w' => ∃ ao' cap', r = .returned (.tuple #[.slice ao' n cap', .int .i64 e]) /\ Ow 5 w' ao' n cap' bs /\ Still w w' /\ ∀ a, ao' = some a -> w.heap.size <= a.block := by
 have hr := hw.own.rd
 have hb := hw.blk
 obtain ⟨c0, c1, c2, cf⟩ := three hw.blk
 go_enter Tryz.func96, Tryz.ntmps96
 go_wp2
 go_region_with (go_at_call 119; refine (clone_any ao n cap bs _ (by first | exact hr | exact hr.drew | exact hr.drewN _) h47).mono ?_; rintro r w1 ⟨ao', cap', rfl, ho, hst, hao⟩; obtain ⟨d0, d1, d2, df⟩ := three (Fr.kept_still hst hb))
 all_goals go_wp2
 all_goals go_ret2
 all_goals exact ⟨ao', cap', rfl, ho, hst.undrew, hao⟩
end Go.Proofs.YtkgbmefaphhcnaaGreatDoor
namespace Go.Proofs.YtkgbmefaphhcnaaGreatDoor
open Go.RowKit
theorem num_ret {x y : Int} {a b : Int} (h : x = a) (h2 : y = b) : Ending.returned (.tuple #[.int .u64 x, .int .i64 y, .int .i64 0]) = .returned (.tuple #[.int .u64 a, .int .i64 b, .int .i64 0]) := by rw [h, h2]
set_option maxHeartbeats 2000000 in
set_option maxRecDepth 100000 in
theorem number_any (ao : Option Addr) (n cap : Nat) (bs : List UInt8) (w : World) (hr : Rd w ao n cap bs) :
  Calls Tryz.prog 156 #[.slice ao n cap] w fun r w' => r = .returned (.tuple #[.int .u64 ((Cp.num 0 0 bs).1 : Int), .int .i64 ((Cp.num 0 0 bs).2.1 : Int), .int .i64 (Cp.num 0 0 bs).2.2]) /\ w' = w := by
 have hlen := hr.len
 have hsm := hr.small
 go_enter Tryz.func156, Tryz.ntmps156
 go_wp2
 go_loop [5, 13] (fun a i => ∃ k acc : Nat, k <= n /\ k <= 9 /\ acc < 128 ^ k /\ a = .int .u64 (acc : Int) /\ i = .int .i64 (k : Int) /\ Cp.num k acc (bs.drop k) = Cp.num 0 0 bs) (fun _ i => n - (intOf i).toNat)
 case atStart => exact ⟨0, 0, Nat.zero_le _, by omega, by simp, rfl, rfl, rfl⟩
 case round =>
  obtain ⟨k, acc, hk, hk9, hacc, rfl, rfl, hnum⟩ := hrel
  have hpow := Cp.pow9 k hk9
  have HN := hid hnum
  have HA := hid hacc
  clear hnum hacc
  have hal : acc < 9223372036854775808 := by have := HA.out; omega
  by_cases hlt : k < n
  ·obtain ⟨b, o, rfl⟩ := hr.addr (by omega)
   have hc := hr.byte (k := k) (by omega)
   have hd : Hid (bs.drop k = bs[k] :: bs.drop (k + 1)) := List.drop_eq_getElem_cons (by omega)
   have hcl := bs[k].toNat_lt
   obtain ⟨c, hcc⟩ : ∃ c, c = bs[k] := ⟨_, rfl⟩
   rw [<- hcc] at hc hd hcl
   clear hcc
   have e1 : bits .and .u8 (c.toNat : Int) 127 = (c.toNat : Int) % 128 := and127_u8 _ (by omega) (by omega)
   have bad : (9 <= k /\ 1 < c.toNat) \/ (c.toNat < 1 /\ 0 < k) -> Hid (Cp.num 0 0 bs = (0, 0, 21)) := fun h => by
    show _ = _
    rw [<- HN.out, hd.out, Cp.num_bad (by omega)]
   have good : ¬ ((9 <= k /\ 1 < c.toNat) \/ (c.toNat < 1 /\ 0 < k)) -> c.toNat < 128 -> Hid (Cp.num 0 0 bs = (acc + c.toNat % 128 * 128 ^ k, k + 1, 0)) := fun h h2 => by
    show _ = _
    rw [<- HN.out, hd.out, Cp.num_end (by omega) h2]
   have HO : Hid (¬ ((9 <= k /\ 1 < c.toNat) \/ (c.toNat < 1 /\ 0 < k)) -> bits .or .u64 (acc : Int) (IntKind.u64.wrap ((c.toNat : Int) % 128 * 2 ^ (7 * k))) = ((acc + c.toNat % 128 * 128 ^ k : Nat) : Int)) := fun h => by
    rw [show (c.toNat : Int) % 128 = ((c.toNat % 128 : Nat) : Int) by omega]
    refine or_group acc (c.toNat % 128) k HA.out ?_ hk9
    by_cases h9 : k = 9
    ·subst h9
     have h1 : c.toNat % 128 * 128 ^ 9 <= 1 * 128 ^ 9 := Nat.mul_le_mul_right _ (by omega)
     omega
    ·have h2 : 128 ^ (k + 1) <= 9223372036854775808 := Cp.pow9 (k + 1) (by omega)
     rw [Nat.pow_succ] at h2
     have h1 : c.toNat % 128 * 128 ^ k <= 127 * 128 ^ k := Nat.mul_le_mul_right _ (by omega)
     omega
   have HB := hid bad
   have HG := hid good
   clear bad good hpow
   by_cases h9 : 9 <= k
   ·by_cases h1 : 1 < c.toNat
    ·have HE := HB.out (.inl ⟨h9, h1⟩)
     by_cases h128 : c.toNat < 128
     all_goals
      go_wp2
      go_ret3
      exact ⟨by rw [HE.out]; rfl, rfl⟩
    ·by_cases h0 : c.toNat < 1
     ·have HE := HB.out (.inr ⟨h0, by omega⟩)
      go_wp2
      go_ret3
      exact ⟨by rw [HE.out]; rfl, rfl⟩
     ·have HE := HG.out (by omega) (by omega)
      have H9 : Hid (bits .or .u64 (acc : Int) ((c.toNat : Int) % 128 * 9223372036854775808) = ((acc + c.toNat % 128 * 128 ^ k : Nat) : Int)) := by
       have h := HO.out (by omega)
       rw [show 7 * k = 63 by omega, IntKind.wrap_u64, show ((c.toNat : Int) % 128 * 2 ^ 63) % 18446744073709551616 = (c.toNat : Int) % 128 * 9223372036854775808 by omega] at h
       exact h
      go_wp2
      go_ret3
      exact ⟨by rw [HE.out]; exact num_ret H9.out (by show (10 : Int) = ((k + 1 : Nat) : Int); omega), rfl⟩
   ·by_cases h128 : c.toNat < 128
    ·by_cases h0 : c.toNat < 1
     ·by_cases hk0 : 0 < k
      ·have HE := HB.out (.inr ⟨h0, hk0⟩)
       go_wp2
       go_ret3
       exact ⟨by rw [HE.out]; rfl, rfl⟩
      ·have HE := HG.out (by omega) (by omega)
       have H0 : Hid (bits .or .u64 (acc : Int) (IntKind.u64.wrap (IntKind.u64.wrap (bits .and .u8 0 127) * 2 ^ (7 * k))) = ((acc + c.toNat % 128 * 128 ^ k : Nat) : Int)) := by
        have h := HO.out (by omega)
        rw [show (c.toNat : Int) = 0 by omega] at h
        rw [and127_u8 0 (by omega) (by omega)]
        exact h
       go_wp2
       go_ret3
       exact ⟨by rw [HE.out]; exact num_ret H0.out rfl, rfl⟩
     ·have HE := HG.out (by omega) (by omega)
      go_wp2
      go_ret3
      exact ⟨by rw [HE.out]; exact num_ret (HO.out (by omega)) rfl, rfl⟩
    ·have HO' := hid (HO.out (by omega))
     go_wp2
     go_round
     case rel =>
      refine ⟨k + 1, acc + c.toNat % 128 * 128 ^ k, by omega, by omega, ?_, by rw [HO'.out], by go_num, ?_⟩
      ·rw [Nat.pow_succ]
       have h1 : c.toNat % 128 * 128 ^ k <= 127 * 128 ^ k := Nat.mul_le_mul_right _ (by omega)
       have := HA.out
       omega
      ·rw [<- HN.out, hd.out, Cp.num_more (by omega) (by omega)]
     case measure => simp [intOf]; omega
  ·have HE : Hid (Cp.num 0 0 bs = (0, 0, 20)) := by
    show _ = _
    rw [<- HN.out, List.drop_of_length_le (by omega)]; rfl
   go_wp2
   go_ret3
   exact ⟨by rw [HE.out]; rfl, rfl⟩
end Go.Proofs.YtkgbmefaphhcnaaGreatDoor
namespace Go.Proofs.YtkgbmefaphhcnaaGreatDoor
open Go.RowKit
structure Rr (w : World) (p : Nat) (ao : Option Addr) (n cap : Nat) (bs : List UInt8) (e : Int) : Prop where
 blk : w.heap[p]? = some (.cells #[.slice ao n cap, .int .i64 e] 163 (0, 0))
 rd : Rd w ao n cap bs
theorem Rr.lt {w : World} {p : Nat} {ao : Option Addr} {n cap : Nat} {bs : List UInt8} {e : Int} (h : Rr w p ao n cap bs e) : p < w.heap.size := block_lt h.blk
theorem Rr.kept {F : Nat -> Prop} {w w' : World} {p : Nat} {ao : Option Addr} {n cap : Nat} {bs : List UInt8} {e : Int} (h : Rr w p ao n cap bs e) (hf : Fr F w w') (hp : ¬ F p) (ha : ∀ a, ao = some a -> 0 < n -> ¬ F a.block) : Rr w' p ao n cap bs e :=
 ⟨hf.kept h.blk hp, h.rd.kept hf ha⟩
theorem Rr.still {w w' : World} {p : Nat} {ao : Option Addr} {n cap : Nat} {bs : List UInt8} {e : Int} (h : Rr w p ao n cap bs e) (hs : Still w w') : Rr w' p ao n cap bs e := h.kept hs (fun e => e) fun _ _ _ e => e
theorem Rr.apart {w : World} {p : Nat} {ao : Option Addr} {n cap : Nat} {bs : List UInt8} {e : Int} (h : Rr w p ao n cap bs e) : ∀ a, ao = some a -> 0 < n -> a.block ≠ p := by
 rintro a ha hn rfl
 have hc := h.rd.cells a ha 0 (by have := h.rd.len; omega)
 rw [cell_of_row _ _ _ _ _ _ h.blk] at hc
 rcases Nat.lt_or_ge (a.off + 0) 2 with h2 | h2
 ·rcases (show a.off + 0 = 0 \/ a.off + 0 = 1 by omega) with h0 | h0 <;> rw [h0] at hc <;> simp at hc
 ·rw [Array.getElem?_eq_none (by simpa using h2)] at hc; cases hc
def Same (ao ao' : Option Addr) : Prop := ∀ a, ao' = some a -> ∃ b, ao = some b /\ b.block = a.block
theorem Same.refl (ao : Option Addr) : Same ao ao := fun a h => ⟨a, h, rfl⟩
theorem same_cut (ao : Option Addr) (cap i : Nat) : Same ao (cutAt ao cap i) := fun a h => by
 obtain ⟨b, h1, h2⟩ := cutAt_block a h
 exact ⟨b, h1, h2.symm⟩
def Took (w w' : World) (p : Nat) (ao : Option Addr) (bs' : List UInt8) (e' : Int) : Prop :=
 ∃ ao' n' cap', Rr w' p ao' n' cap' bs' e' /\ Fr (fun k => k = p) w w' /\ Same ao ao'
theorem Took.same {w : World} {p : Nat} {ao : Option Addr} {n cap : Nat} {bs : List UInt8} {e : Int} (h : Rr w p ao n cap bs e) : Took w w p ao bs e := ⟨ao, n, cap, h, Fr.refl _ _, Same.refl _⟩
theorem Took.err {w w1 : World} {p : Nat} {ao : Option Addr} {n cap : Nat} {bs : List UInt8} {e : Int} (h : Rr w p ao n cap bs e) (hs : Still w w1) (e' : Int) : Took w (w1.setCell ⟨p, 1, none⟩ (.int .i64 e')) p ao bs e' := by
 have h1 := h.still hs
 refine ⟨ao, n, cap, ⟨set1 h1.blk, h1.rd.kept ((Fr.refl (fun k => k = p) w1).setCell _ _ (.inl rfl)) ?_⟩, (Still.to hs).setCell _ _ (.inl rfl), Same.refl _⟩
 intro a ha hn
 exact h1.apart a ha hn
theorem Took.ok {w w1 : World} {p : Nat} {ao : Option Addr} {n cap : Nat} {bs : List UInt8} {e : Int} (h : Rr w p ao n cap bs e) (hs : Still w w1) (i : Nat) (hi : i <= n) : Took w (w1.setCell ⟨p, 0, none⟩ (.slice (cutAt ao cap i) (n - i) (cap - i))) p ao (bs.drop i) e := by
 have h1 := h.still hs
 refine ⟨cutAt ao cap i, n - i, cap - i, ⟨set0 h1.blk, (h1.rd.drop hi).kept ((Fr.refl (fun k => k = p) w1).setCell _ _ (.inl rfl)) ?_⟩, (Still.to hs).setCell _ _ (.inl rfl), same_cut _ _ _⟩
 intro a ha hn
 obtain ⟨b, h2, h3⟩ := cutAt_block a ha
 rw [h3]
 exact h1.apart b h2 (by omega)
theorem take_uint (p : Nat) (ao : Option Addr) (n cap : Nat) (bs : List UInt8) (e : Int) (V : Nat) (sz : Nat) (er : Int) (w : World) (hr : Rr w p ao n cap bs e) (hsz : sz <= n)
  (hfind : Calls Tryz.prog 156 #[.slice ao n cap] w fun r w1 => r = .returned (.tuple #[.int .u64 (V : Int), .int .i64 (sz : Int), .int .i64 er]) /\ w1 = w) :
  Calls Tryz.prog 179 #[.pointer (some ⟨p, 0, none⟩), .func (Fn.func 156) #[] #[]] w fun r w' =>
   (e ≠ 0 /\ r = .returned (.int .u64 0) /\ w' = w) \/ (e = 0 /\ er ≠ 0 /\ r = .returned (.int .u64 0) /\ Took w w' p ao bs er) \/ (e = 0 /\ er = 0 /\ r = .returned (.int .u64 (V : Int)) /\ Took w w' p ao (bs.drop sz) 0) := by
 obtain ⟨i0, hi, hz, hs1, hb1⟩ := info_parts info_u8
 obtain ⟨c0, c1, cf⟩ := two hr.blk
 have hsm := hr.rd.small
 have HF := hid hfind
 clear hfind
 by_cases he : e = 0
 ·subst he
  by_cases hr0 : er = 0
  ·subst hr0
   have hsl : ∀ W : World, (Instr.slice 38 (.slice ao n cap) (some (.int .i64 (sz : Int))) none none).run Tryz.prog W = .ok (.slice (cutAt ao cap sz) (n - sz) (cap - sz)) W := fun W => by
    have := run_from (P := Tryz.prog) W 38 5 i0 Tryz.underlying38 hi hs1 .i64 ao n cap (sz : Int) (by omega) (by omega)
    simpa using this
   go_enter Tryz.func179, Tryz.ntmps179
   go_wp2_with fail
   refine HF.out.mono ?_
   rintro r w1 ⟨rfl, rfl⟩
   go_wp2
   go_ret
   exact .inr (.inr ⟨trivial, trivial, rfl, Took.ok hr (Fr.refl _ _) sz hsz⟩)
  ·have hne : (er != 0) = true := by simpa using hr0
   go_enter Tryz.func179, Tryz.ntmps179
   go_wp2_with fail
   refine HF.out.mono ?_
   rintro r w1 ⟨rfl, rfl⟩
   go_wp2
   go_ret
   exact .inr (.inl ⟨trivial, hr0, rfl, Took.err hr (Fr.refl _ _) er⟩)
 ·have hne : (e != 0) = true := by simpa using he
  go_enter Tryz.func179, Tryz.ntmps179
  go_wp2
  go_ret
  exact .inl ⟨he, rfl, rfl⟩
theorem take_int (p : Nat) (ao : Option Addr) (n cap : Nat) (bs : List UInt8) (e : Int) (V : Int) (sz : Nat) (er : Int) (w : World) (hr : Rr w p ao n cap bs e) (hsz : sz <= n)
  (hfind : Calls Tryz.prog 155 #[.slice ao n cap] w fun r w1 => r = .returned (.tuple #[.int .i64 V, .int .i64 (sz : Int), .int .i64 er]) /\ w1 = w) :
  Calls Tryz.prog 154 #[.pointer (some ⟨p, 0, none⟩), .func (Fn.func 155) #[] #[]] w fun r w' =>
   (e ≠ 0 /\ r = .returned (.int .i64 0) /\ w' = w) \/ (e = 0 /\ er ≠ 0 /\ r = .returned (.int .i64 0) /\ Took w w' p ao bs er) \/ (e = 0 /\ er = 0 /\ r = .returned (.int .i64 V) /\ Took w w' p ao (bs.drop sz) 0) := by
 obtain ⟨i0, hi, hz, hs1, hb1⟩ := info_parts info_u8
 obtain ⟨c0, c1, cf⟩ := two hr.blk
 have hsm := hr.rd.small
 have HF := hid hfind
 clear hfind
 by_cases he : e = 0
 ·subst he
  by_cases hr0 : er = 0
  ·subst hr0
   have hsl : ∀ W : World, (Instr.slice 38 (.slice ao n cap) (some (.int .i64 (sz : Int))) none none).run Tryz.prog W = .ok (.slice (cutAt ao cap sz) (n - sz) (cap - sz)) W := fun W => by
    have := run_from (P := Tryz.prog) W 38 5 i0 Tryz.underlying38 hi hs1 .i64 ao n cap (sz : Int) (by omega) (by omega)
    simpa using this
   go_enter Tryz.func154, Tryz.ntmps154
   go_wp2_with fail
   refine HF.out.mono ?_
   rintro r w1 ⟨rfl, rfl⟩
   go_wp2
   go_ret
   exact .inr (.inr ⟨trivial, trivial, rfl, Took.ok hr (Fr.refl _ _) sz hsz⟩)
  ·have hne : (er != 0) = true := by simpa using hr0
   go_enter Tryz.func154, Tryz.ntmps154
   go_wp2_with fail
   refine HF.out.mono ?_
   rintro r w1 ⟨rfl, rfl⟩
   go_wp2
   go_ret
   exact .inr (.inl ⟨trivial, hr0, rfl, Took.err hr (Fr.refl _ _) er⟩)
 ·have hne : (e != 0) = true := by simpa using he
  go_enter Tryz.func154, Tryz.ntmps154
  go_wp2
  go_ret
  exact .inl ⟨he, rfl, rfl⟩
theorem take_byte (p : Nat) (ao : Option Addr) (n cap : Nat) (bs : List UInt8) (e : Int) (V : UInt8) (sz : Nat) (er : Int) (w : World) (hr : Rr w p ao n cap bs e) (hsz : sz <= n)
  (hfind : Calls Tryz.prog 178 #[.slice ao n cap] w fun r w1 => r = .returned (.tuple #[.int .u8 (V.toNat : Int), .int .i64 (sz : Int), .int .i64 er]) /\ w1 = w) :
  Calls Tryz.prog 177 #[.pointer (some ⟨p, 0, none⟩), .func (Fn.func 178) #[] #[]] w fun r w' =>
   (e ≠ 0 /\ r = .returned (.int .u8 0) /\ w' = w) \/ (e = 0 /\ er ≠ 0 /\ r = .returned (.int .u8 0) /\ Took w w' p ao bs er) \/ (e = 0 /\ er = 0 /\ r = .returned (.int .u8 (V.toNat : Int)) /\ Took w w' p ao (bs.drop sz) 0) := by
 obtain ⟨i0, hi, hz, hs1, hb1⟩ := info_parts info_u8
 obtain ⟨c0, c1, cf⟩ := two hr.blk
 have hsm := hr.rd.small
 have HF := hid hfind
 clear hfind
 by_cases he : e = 0
 ·subst he
  by_cases hr0 : er = 0
  ·subst hr0
   have hsl : ∀ W : World, (Instr.slice 38 (.slice ao n cap) (some (.int .i64 (sz : Int))) none none).run Tryz.prog W = .ok (.slice (cutAt ao cap sz) (n - sz) (cap - sz)) W := fun W => by
    have := run_from (P := Tryz.prog) W 38 5 i0 Tryz.underlying38 hi hs1 .i64 ao n cap (sz : Int) (by omega) (by omega)
    simpa using this
   go_enter Tryz.func177, Tryz.ntmps177
   go_wp2_with fail
   refine HF.out.mono ?_
   rintro r w1 ⟨rfl, rfl⟩
   go_wp2
   go_ret
   exact .inr (.inr ⟨trivial, trivial, rfl, Took.ok hr (Fr.refl _ _) sz hsz⟩)
  ·have hne : (er != 0) = true := by simpa using hr0
   go_enter Tryz.func177, Tryz.ntmps177
   go_wp2_with fail
   refine HF.out.mono ?_
   rintro r w1 ⟨rfl, rfl⟩
   go_wp2
   go_ret
   exact .inr (.inl ⟨trivial, hr0, rfl, Took.err hr (Fr.refl _ _) er⟩)
 ·have hne : (e != 0) = true := by simpa using he
  go_enter Tryz.func177, Tryz.ntmps177
  go_wp2
  go_ret
  exact .inl ⟨he, rfl, rfl⟩
theorem uint_any (p : Nat) (ao : Option Addr) (n cap : Nat) (bs : List UInt8) (e : Int) (w : World) (hr : Rr w p ao n cap bs e) :
  Calls Tryz.prog 160 #[.pointer (some ⟨p, 0, none⟩)] w fun r w' => r = .returned (.int .u64 ((Cp.uintS bs e).1 : Int)) /\ Took w w' p ao (Cp.uintS bs e).2.1 (Cp.uintS bs e).2.2 := by
 have hlen := hr.rd.len
 have HN := hid (Cp.num_err bs)
 have HC := hid (take_uint p ao n cap bs e (Cp.num 0 0 bs).1 (Cp.num 0 0 bs).2.1 (Cp.num 0 0 bs).2.2 w hr (by have := HN.out; omega) (number_any ao n cap bs w hr.rd))
 go_enter Tryz.func160, Tryz.ntmps160
 go_wp2_with fail
 refine HC.out.mono ?_
 rintro r w1 (⟨he, rfl, rfl⟩ | ⟨he, hr0, rfl, ht⟩ | ⟨he, hr0, rfl, ht⟩)
 ·have HU : Hid (Cp.uintS bs e = (0, bs, e)) := by unfold Cp.uintS; rw [if_pos he]; exact rfl
  go_wp2
  go_ret
  rw [HU.out]
  exact ⟨rfl, Took.same hr⟩
 ·have HU : Hid (Cp.uintS bs e = (0, bs, (Cp.num 0 0 bs).2.2)) := by unfold Cp.uintS; rw [if_neg (by omega), if_pos hr0]; exact rfl
  have HR := hid hr0
  have HE := hid he
  clear hr0 he
  go_wp2
  go_ret
  rw [HU.out]
  exact ⟨rfl, ht⟩
 ·have HU : Hid (Cp.uintS bs e = ((Cp.num 0 0 bs).1, bs.drop (Cp.num 0 0 bs).2.1, 0)) := by unfold Cp.uintS; rw [if_neg (by omega), if_neg (by omega)]; exact rfl
  have HR := hid hr0
  have HE := hid he
  clear hr0 he
  go_wp2
  go_ret
  rw [HU.out]
  exact ⟨rfl, ht⟩
theorem int1_any (ao : Option Addr) (n cap : Nat) (bs : List UInt8) (w : World) (hr : Rd w ao n cap bs) :
  Calls Tryz.prog 155 #[.slice ao n cap] w fun r w' => r = .returned (.tuple #[.int .i64 (Cp.unfold (Cp.num 0 0 bs).1), .int .i64 ((Cp.num 0 0 bs).2.1 : Int), .int .i64 (Cp.num 0 0 bs).2.2]) /\ w' = w := by
 have HN := hid (Cp.num_err bs)
 go_enter Tryz.func155, Tryz.ntmps155
 go_wp2_with fail
 refine (number_any ao n cap bs w hr).mono ?_
 rintro r w1 ⟨rfl, rfl⟩
 go_wp2_with fail
 refine (unfold_any _ (by have := HN.out; omega) _).mono ?_
 rintro r w2 ⟨rfl, rfl⟩
 go_wp2
 go_ret3
 exact ⟨rfl, rfl⟩
theorem int_any (p : Nat) (ao : Option Addr) (n cap : Nat) (bs : List UInt8) (e : Int) (w : World) (hr : Rr w p ao n cap bs e) :
  Calls Tryz.prog 121 #[.pointer (some ⟨p, 0, none⟩)] w fun r w' => r = .returned (.int .i64 (Cp.unfold (Cp.uintS bs e).1)) /\ Took w w' p ao (Cp.uintS bs e).2.1 (Cp.uintS bs e).2.2 := by
 have hlen := hr.rd.len
 have HN := hid (Cp.num_err bs)
 have HC := hid (take_int p ao n cap bs e (Cp.unfold (Cp.num 0 0 bs).1) (Cp.num 0 0 bs).2.1 (Cp.num 0 0 bs).2.2 w hr (by have := HN.out; omega) (int1_any ao n cap bs w hr.rd))
 have HZ : Hid (Cp.unfold 0 = 0) := rfl
 go_enter Tryz.func121, Tryz.ntmps121
 go_wp2_with fail
 refine HC.out.mono ?_
 rintro r w1 (⟨he, rfl, rfl⟩ | ⟨he, hr0, rfl, ht⟩ | ⟨he, hr0, rfl, ht⟩)
 ·have HU : Hid (Cp.uintS bs e = (0, bs, e)) := by unfold Cp.uintS; rw [if_pos he]; exact rfl
  go_wp2
  go_ret
  rw [HU.out]
  exact ⟨by show Ending.returned (.int .i64 0) = .returned (.int .i64 (Cp.unfold 0)); rw [HZ.out], Took.same hr⟩
 ·have HU : Hid (Cp.uintS bs e = (0, bs, (Cp.num 0 0 bs).2.2)) := by unfold Cp.uintS; rw [if_neg (by omega), if_pos hr0]; exact rfl
  have HR := hid hr0
  have HE := hid he
  clear hr0 he
  go_wp2
  go_ret
  rw [HU.out]
  exact ⟨by show Ending.returned (.int .i64 0) = .returned (.int .i64 (Cp.unfold 0)); rw [HZ.out], ht⟩
 ·have HU : Hid (Cp.uintS bs e = ((Cp.num 0 0 bs).1, bs.drop (Cp.num 0 0 bs).2.1, 0)) := by unfold Cp.uintS; rw [if_neg (by omega), if_neg (by omega)]; exact rfl
  have HR := hid hr0
  have HE := hid he
  clear hr0 he
  go_wp2
  go_ret
  rw [HU.out]
  exact ⟨rfl, ht⟩
end Go.Proofs.YtkgbmefaphhcnaaGreatDoor
namespace Go.Proofs.YtkgbmefaphhcnaaGreatDoor
open Go.RowKit
theorem firstByte_none (ao : Option Addr) (cap : Nat) (w : World) :
  Calls Tryz.prog 178 #[.slice ao 0 cap] w fun r w' => r = .returned (.tuple #[.int .u8 0, .int .i64 0, .int .i64 20]) /\ w' = w := by
 go_enter Tryz.func178, Tryz.ntmps178
 go_wp2
 go_ret3
 exact ⟨rfl, rfl⟩
theorem firstByte_some (ao : Option Addr) (n cap : Nat) (b : UInt8) (bs : List UInt8) (w : World) (hr : Rd w ao n cap (b :: bs)) :
  Calls Tryz.prog 178 #[.slice ao n cap] w fun r w' => r = .returned (.tuple #[.int .u8 (b.toNat : Int), .int .i64 1, .int .i64 0]) /\ w' = w := by
 have hl := hr.len
 simp at hl
 have hn : 0 < n := by omega
 have hsm := hr.small
 clear hl
 obtain ⟨q, o, rfl⟩ := hr.addr hn
 have hc : w.cell? ⟨q, o, none⟩ = some (.int .u8 (b.toNat : Int)) := by
  have h := hr.byte (k := 0) (by simp)
  rw [Nat.add_zero] at h
  exact h
 go_enter Tryz.func178, Tryz.ntmps178
 go_wp2
 go_ret3
 exact ⟨rfl, rfl⟩
theorem byte_any (p : Nat) (ao : Option Addr) (n cap : Nat) (bs : List UInt8) (e : Int) (w : World) (hr : Rr w p ao n cap bs e) :
  Calls Tryz.prog 153 #[.pointer (some ⟨p, 0, none⟩)] w fun r w' => r = .returned (.int .u8 ((Cp.byteS bs e).1.toNat : Int)) /\ Took w w' p ao (Cp.byteS bs e).2.1 (Cp.byteS bs e).2.2 := by
 have hlen := hr.rd.len
 cases bs with
 | nil =>
  simp at hlen
  subst hlen
  have HC := hid (take_byte p ao 0 cap [] e 0 0 20 w hr (by omega) (firstByte_none ao cap w))
  go_enter Tryz.func153, Tryz.ntmps153
  go_wp2_with fail
  refine HC.out.mono ?_
  rintro r w1 (⟨he, rfl, rfl⟩ | ⟨he, hr0, rfl, ht⟩ | ⟨he, hr0, rfl, ht⟩)
  ·have HU : Hid (Cp.byteS [] e = (0, [], e)) := by unfold Cp.byteS; rw [if_pos he]; exact rfl
   go_wp2
   go_ret
   rw [HU.out]
   exact ⟨rfl, Took.same hr⟩
  ·have HU : Hid (Cp.byteS [] e = (0, [], 20)) := by unfold Cp.byteS; rw [if_neg (by omega)]; exact rfl
   clear hr0 he
   go_wp2
   go_ret
   rw [HU.out]
   exact ⟨rfl, ht⟩
  ·omega
 | cons b bs =>
  simp at hlen
  have hn : 1 <= n := by omega
  clear hlen
  have HC := hid (take_byte p ao n cap (b :: bs) e b 1 0 w hr hn (firstByte_some ao n cap b bs w hr.rd))
  go_enter Tryz.func153, Tryz.ntmps153
  go_wp2_with fail
  refine HC.out.mono ?_
  rintro r w1 (⟨he, rfl, rfl⟩ | ⟨he, hr0, rfl, ht⟩ | ⟨he, hr0, rfl, ht⟩)
  ·have HU : Hid (Cp.byteS (b :: bs) e = (0, b :: bs, e)) := by unfold Cp.byteS; rw [if_pos he]; exact rfl
   go_wp2
   go_ret
   rw [HU.out]
   exact ⟨rfl, Took.same hr⟩
  ·omega
  ·have HU : Hid (Cp.byteS (b :: bs) e = (b, bs, 0)) := by unfold Cp.byteS; rw [if_neg (by omega)]; exact rfl
   clear hr0 he
   go_wp2
   go_ret
   rw [HU.out]
   exact ⟨rfl, ht⟩
theorem left_any (p : Nat) (ao : Option Addr) (n cap : Nat) (bs : List UInt8) (e : Int) (w : World) (hr : Rr w p ao n cap bs e) :
  Calls Tryz.prog 161 #[.pointer (some ⟨p, 0, none⟩)] w fun r w' => r = .returned (.int .i64 (bs.length : Int)) /\ w' = w := by
 obtain ⟨c0, c1, cf⟩ := two hr.blk
 have hsm := hr.rd.small
 rw [hr.rd.len]
 go_enter Tryz.func161, Tryz.ntmps161
 go_wp2
 go_ret
 exact ⟨rfl, rfl⟩
theorem rdone_any (p : Nat) (ao : Option Addr) (n cap : Nat) (bs : List UInt8) (e : Int) (w : World) (hr : Rr w p ao n cap bs e) :
  Calls Tryz.prog 76 #[.pointer (some ⟨p, 0, none⟩)] w fun r w' => r = .returned (.int .i64 (if e = 0 /\ 0 < bs.length then 23 else e)) /\ w' = w := by
 obtain ⟨c0, c1, cf⟩ := two hr.blk
 have hsm := hr.rd.small
 rw [hr.rd.len]
 by_cases he : e = 0
 ·subst he
  by_cases hn : 0 < n
  ·rw [if_pos ⟨rfl, hn⟩]
   go_enter Tryz.func76, Tryz.ntmps76
   go_wp2
   go_ret
   exact ⟨rfl, rfl⟩
  ·rw [if_neg (by omega)]
   go_enter Tryz.func76, Tryz.ntmps76
   go_wp2
   go_ret
   exact ⟨rfl, rfl⟩
 ·rw [if_neg (by omega)]
  have hne : (e == 0) = false := by simpa using he
  go_enter Tryz.func76, Tryz.ntmps76
  go_wp2
  go_ret
  exact ⟨rfl, rfl⟩
end Go.Proofs.YtkgbmefaphhcnaaGreatDoor
namespace Go.Proofs.YtkgbmefaphhcnaaGreatDoor
open Go.RowKit
end Go.Proofs.YtkgbmefaphhcnaaGreatDoor
