/- A sum that takes bytes in (stage 3), with the digest's table alone. -/
import Derived.Test.YtaaongbdincimaaGreatDoorK4
import Derived.Deep.RegionWith
import Derived.BigRegion
set_option maxRecDepth 100000
namespace Go.Proofs.YtaaongbdincimaaGreatDoor
open Go.RowKit

/-- the digest's table, with the factor of a byte -/
structure FTab (w : World) : Prop where
  d : DTab w
  f2 : w.cell? ⟨6, 2, none⟩ = some (.int .u64 1099511628211)
theorem FTab.on {F : Nat → Prop} {w w' : World} (h : FTab w) (hf : Fr F w w') (hn : ¬ F 6) : FTab w' := ⟨h.d.on hf hn, cell_on hf h.f2 hn⟩
theorem FTab.still {w w' : World} (h : FTab w) (hs : Still w w') : FTab w' := h.on hs fun e => e
theorem FTab.size {w : World} (h : FTab w) : 6 < w.heap.size := h.d.size
theorem FTab.drewN {w : World} (h : FTab w) (k : Nat) : FTab (w.drewN k) := h.still ((Fr.refl _ w).drewN k)
/-- A block of two cells, none frozen. -/
theorem twoD {w : World} {p : Nat} {x y : Value} {t : TypeId} (h : w.heap[p]? = some (.cells #[x, y] t (0, 0))) :
    w.cell? ⟨p, 0, none⟩ = some x ∧ w.cell? ⟨p, 1, none⟩ = some y ∧ ∀ o, w.frozen? ⟨p, o, none⟩ = false :=
  ⟨by rw [cell_of_row _ _ _ _ _ _ h]; rfl, by rw [cell_of_row _ _ _ _ _ _ h]; rfl, fun o => frozen_of_row w p o _ t h⟩
theorem set0D {w : World} {p : Nat} {x v : Value} {l : List Value} {t : TypeId} (h : w.heap[p]? = some (.cells (x :: l).toArray t (0, 0))) : (w.setCell ⟨p, 0, none⟩ v).heap[p]? = some (.cells (v :: l).toArray t (0, 0)) := by
  rw [heap_setCell_same w p 0 _ t v h]; simp
theorem set1D {w : World} {p : Nat} {x y v : Value} {l : List Value} {t : TypeId} (h : w.heap[p]? = some (.cells (x :: y :: l).toArray t (0, 0))) : (w.setCell ⟨p, 1, none⟩ v).heap[p]? = some (.cells (x :: v :: l).toArray t (0, 0)) := by
  rw [heap_setCell_same w p 1 _ t v h]; simp

/-- one byte more -/
def stepI (h : Int) (c : Int) : Int := mulI (bits .xor .u64 h c) 1099511628211
/-- the block of a sum -/
def DBlk (w : World) (p : Nat) (h n : Int) : Prop := w.heap[p]? = some (.cells #[.int .u64 h, .int .u64 n] 102 (0, 0))

set_option maxRecDepth 100000 in
theorem dtake_any (p : Nat) (h n c : Int) (c0 : 0 ≤ c) (c1 : c < 256) (w : World) (hb : DBlk w p h n) (ht : FTab w) :
    Calls Tryz.prog 63 #[.pointer (some ⟨p, 0, none⟩), .int .u8 c] w fun e w' => e = .returned (.tuple #[]) ∧ DBlk w' p (stepI h c) (IntKind.u64.wrap (n + 1)) ∧ Fr (fun k => k = p) w w' := by
  have f2 := ht.f2
  obtain ⟨d0, d1, df⟩ := twoD hb
  have g0 := df 0
  have g1 := df 1
  go_enter Tryz.func63, Tryz.ntmps63
  go_wp2
  go_region
  go_wp2
  go_end0
  exact ⟨rfl, set1D (set0D hb), (((Fr.refl (fun k => k = p) w).setCell ⟨p, 0, none⟩ _ (.inl rfl)).setCell ⟨p, 1, none⟩ _ (.inl rfl)).drew⟩
def foldI (h : Int) (bs : List UInt8) : Int := bs.foldl (fun h c => stepI h (c.toNat : Int)) h
theorem foldI_append (h : Int) (a b : List UInt8) : foldI h (a ++ b) = foldI (foldI h a) b := List.foldl_append ..
theorem foldI_one (h : Int) (c : UInt8) : foldI h [c] = stepI h (c.toNat : Int) := rfl
theorem wrap_nextD (m : Int) : IntKind.u64.wrap (IntKind.u64.wrap m + 1) = IntKind.u64.wrap (m + 1) := by
  rw [IntKind.wrap_u64, IntKind.wrap_u64, IntKind.wrap_u64]; omega
set_option maxHeartbeats 1000000 in
set_option maxRecDepth 100000 in
theorem deach_any (p : Nat) (h : Int) (m : Nat) (ao : Option Addr) (n cap : Nat) (bs : List UInt8) (w : World) (hr : Rd w ao n cap bs) (hb : DBlk w p h (IntKind.u64.wrap m)) (ht : FTab w) (hp : 6 < p) (hne : ∀ a, ao = some a → 0 < n → a.block ≠ p) :
    Calls Tryz.prog 62 #[.slice ao n cap, .func (.func 63) #[.pointer (some ⟨p, 0, none⟩)] #[]] w fun e w' => e = .returned (.tuple #[]) ∧ DBlk w' p (foldI h bs) (IntKind.u64.wrap ((m + bs.length : Nat) : Int)) ∧ Fr (fun k => k = p) w w' := by
  have hlen := hr.len
  have hsm := hr.small
  go_enter Tryz.func62, Tryz.ntmps62
  go_wp2
  go_loopw [8] (fun vi wr => ∃ k : Nat, k ≤ n ∧ vi = .int .i64 (k : Int) ∧ DBlk wr p (foldI h (bs.take k)) (IntKind.u64.wrap ((m + k : Nat) : Int)) ∧ Fr (fun k => k = p) w wr) (fun vi _ => n - (intOf vi).toNat)
  case atStart => exact ⟨0, Nat.zero_le _, rfl, by simpa [foldI] using hb, Fr.refl _ _⟩
  case round =>
    obtain ⟨k, hk, rfl, hbk, hf⟩ := hrel
    by_cases hlt : k < n
    · have hkl : k < bs.length := by omega
      obtain ⟨b, o, rfl⟩ := hr.addr (by omega)
      have hc := (hr.kept hf fun a ha hn => hne a ha hn).byte hkl
      have hT := hid (dtake_any p _ _ (bs[k].toNat : Int) (by omega) (by have := bs[k].toNat_lt; omega) wr hbk (ht.on hf fun e => by omega))
      have HS : Hid (foldI h (bs.take (k + 1)) = stepI (foldI h (bs.take k)) (bs[k].toNat : Int)) := by
        show _ = _
        rw [List.take_succ_eq_append_getElem hkl, foldI_append, foldI_one]
      have HF := hid hf
      have HL := hid hlen
      clear hbk hf hr hb hne hlen
      obtain ⟨x, hx⟩ : ∃ x, x = bs[k].toNat := ⟨_, rfl⟩
      rw [← hx] at hc hT HS
      clear hx
      go_wp2_with (go_at_call 63; refine hT.out.mono ?_; rintro e w2 ⟨rfl, hb2, hf2⟩)
      go_roundw
      case rel =>
        refine ⟨k + 1, by omega, by go_num, ?_, HF.out.trans hf2 fun _ _ h => h⟩
        rw [HS.out, show ((m + (k + 1) : Nat) : Int) = ((m + k : Nat) : Int) + 1 by omega, ← wrap_nextD]
        exact hb2
      case measure => simp [intOf]; omega
    · have hkn : k = n := by omega
      subst hkn
      rw [List.take_of_length_le (by omega)] at hbk
      go_wp2
      go_end0
      rw [hlen]
      exact ⟨rfl, hbk, hf⟩
set_option maxRecDepth 100000 in
theorem dadd_any (p : Nat) (h : Int) (m : Nat) (ao : Option Addr) (n cap : Nat) (bs : List UInt8) (w : World) (hr : Rd w ao n cap bs) (hb : DBlk w p h (IntKind.u64.wrap m)) (ht : FTab w) (hp : 6 < p) (hne : ∀ a, ao = some a → 0 < n → a.block ≠ p) :
    Calls Tryz.prog 39 #[.pointer (some ⟨p, 0, none⟩), .slice ao n cap] w fun e w' => e = .returned (.tuple #[]) ∧ DBlk w' p (foldI h bs) (IntKind.u64.wrap ((m + bs.length : Nat) : Int)) ∧ Fr (fun k => k = p) w w' := by
  have hmf : ∀ (fn : Fn) (first cap : Array Value) (w : World), (Instr.makeFunc fn first cap).run Tryz.prog w = .ok (.func fn first cap) w := fun _ _ _ _ => rfl
  have hE := hid (deach_any p h m ao n cap bs w hr hb ht hp hne)
  clear hr hb ht hne
  go_enter Tryz.func39, Tryz.ntmps39
  go_wp2_with (go_at_call 62; refine hE.out.mono ?_; rintro e w2 ⟨rfl, h2⟩)
  go_end0
  exact ⟨rfl, h2⟩
/-- A sum in block p that has the bytes bs. -/
def DSm (w : World) (p : Nat) (bs : List UInt8) : Prop := DBlk w p (foldI 14695981039346656037 bs) (IntKind.u64.wrap (bs.length : Int))
theorem DSm.lt {w : World} {p : Nat} {bs : List UInt8} (h : DSm w p bs) : p < w.heap.size := block_lt h
theorem DSm.kept {F : Nat → Prop} {w w' : World} {p : Nat} {bs : List UInt8} (h : DSm w p bs) (hf : Fr F w w') (hn : ¬ F p) : DSm w' p bs := hf.kept h hn
/-- the sum of bytes -/
def ofI (bs : List UInt8) : Int := mixI (IntKind.u64.wrap (foldI 14695981039346656037 bs + IntKind.u64.wrap (bs.length : Int)))
theorem dadd_sm (p : Nat) (cs : List UInt8) (ao : Option Addr) (n cap : Nat) (bs : List UInt8) (w : World) (hr : Rd w ao n cap bs) (hs : DSm w p cs) (ht : FTab w) (hp : 6 < p) (hne : ∀ a, ao = some a → 0 < n → a.block ≠ p) :
    Calls Tryz.prog 39 #[.pointer (some ⟨p, 0, none⟩), .slice ao n cap] w fun e w' => e = .returned (.tuple #[]) ∧ DSm w' p (cs ++ bs) ∧ Fr (fun k => k = p) w w' := by
  refine (dadd_any p _ cs.length ao n cap bs w hr hs ht hp hne).mono ?_
  rintro e w' ⟨rfl, h1, h2⟩
  refine ⟨rfl, ?_, h2⟩
  unfold DSm
  rw [foldI_append, List.length_append]
  exact h1
set_option maxRecDepth 100000 in
theorem dnew_any (w : World) : Calls Tryz.prog 38 #[] w fun e w' => e = .returned (.pointer (some ⟨w.heap.size, 0, none⟩)) ∧ DSm w' w.heap.size [] ∧ Still w w' := by
  have h0 : IntKind.u64.wrap 0 = 0 := by decide
  go_enter Tryz.func38, Tryz.ntmps38
  go_wp2
  go_ret
  refine ⟨rfl, ?_, Still.alloc w _⟩
  have := heap_alloc_new w (.cells #[.int .u64 14695981039346656037, .int .u64 0] 102)
  unfold DSm
  rw [show IntKind.u64.wrap (([] : List UInt8).length : Int) = 0 from h0]
  exact this
set_option maxRecDepth 100000 in
theorem dvalue_any (p : Nat) (bs : List UInt8) (w : World) (hs : DSm w p bs) (ht : FTab w) : Calls Tryz.prog 40 #[.pointer (some ⟨p, 0, none⟩)] w fun e w' => e = .returned (.int .u64 (ofI bs)) ∧ ∃ k, w' = w.drewN k := by
  obtain ⟨d0, d1, df⟩ := twoD hs
  go_enter Tryz.func40, Tryz.ntmps40
  go_wp2
  go_quiet ((go_at_call 64; exact Calls.quiet_of (mix_any _ _ (ht.drewN _).d)))
  go_wp2
  go_ret
  exact ⟨rfl, _, rfl⟩
theorem dvalue_still (p : Nat) (bs : List UInt8) (w : World) (hs : DSm w p bs) (ht : FTab w) : Calls Tryz.prog 40 #[.pointer (some ⟨p, 0, none⟩)] w fun e w' => e = .returned (.int .u64 (ofI bs)) ∧ Still w w' := by
  refine (dvalue_any p bs w hs ht).mono ?_
  rintro e w' ⟨rfl, k, rfl⟩
  exact ⟨rfl, (Fr.refl _ w).drewN k⟩
set_option maxRecDepth 100000 in
theorem dof_any (ao : Option Addr) (n cap : Nat) (bs : List UInt8) (w : World) (hr : Rd w ao n cap bs) (ht : FTab w) :
    Calls Tryz.prog 24 #[.slice ao n cap] w fun e w' => e = .returned (.int .u64 (ofI bs)) ∧ Still w w' := by
  have h7 := ht.size
  have hlt : ∀ a, ao = some a → 0 < n → a.block ≠ w.heap.size := fun a ha hn e => by have := hr.lt hn a ha; omega
  go_enter Tryz.func24, Tryz.ntmps24
  go_wp2_with fail
  refine (dnew_any w).mono ?_
  rintro e w1 ⟨rfl, hs1, hst1⟩
  have hA := hid (dadd_sm w.heap.size [] ao n cap bs w1 (hr.still hst1) hs1 (ht.still hst1) h7 hlt)
  go_wp2_with fail
  refine hA.out.mono ?_
  rintro e w2 ⟨rfl, hs2, hf2⟩
  have hst2 : Still w w2 := hst1.to.trans (F := fun _ => False) hf2 fun k hk e => by omega
  have hV := hid (dvalue_still w.heap.size bs w2 (by simpa using hs2) (ht.still hst2))
  clear hA hs1 hs2 hf2 hlt h7
  go_wp2_with (go_at_call 40; refine hV.out.mono ?_; rintro e w3 ⟨rfl, hst3⟩)
  go_ret
  exact ⟨rfl, hst2.trans hst3⟩
set_option maxHeartbeats 1000000 in
set_option maxRecDepth 100000 in
theorem rdof_any (ao : Option Addr) (n cap : Nat) (bs : List UInt8) (w : World) (hr : Rd w ao n cap bs) :
    Calls Tryz.prog 30 #[.slice ao n cap] w fun e w' => e = .returned (.int .u64 (ofI bs)) ∧ Still w w' := by
  have hlen := hr.len
  have hsm := hr.small
  go_enter Tryz.func30, Tryz.ntmps30
  go_wp2
  go_loopw [3, 4] (fun vh vi wr => ∃ (k : Nat) (a : Int), k ≤ n ∧ vh = .int .u64 a ∧ vi = .int .i64 (k : Int) ∧ Hid (a = foldI 14695981039346656037 (bs.take k)) ∧ wr = w) (fun _ vi _ => n - (intOf vi).toNat)
  case atStart => exact ⟨0, _, Nat.zero_le _, rfl, rfl, rfl, rfl⟩
  case round =>
    obtain ⟨k, a, hk, rfl, rfl, HA, rfl⟩ := hrel
    by_cases hlt : k < n
    · have hkl : k < bs.length := by omega
      obtain ⟨b, o, rfl⟩ := hr.addr (by omega)
      have hc := hr.byte hkl
      have HS : Hid (stepI a (bs[k].toNat : Int) = foldI 14695981039346656037 (bs.take (k + 1))) := by
        show _ = _
        rw [List.take_succ_eq_append_getElem hkl, foldI_append, foldI_one, ← HA.out]
      have hx8 := bs[k].toNat_lt
      obtain ⟨x, hx⟩ : ∃ x, x = bs[k].toNat := ⟨_, rfl⟩
      rw [← hx] at hc HS hx8
      clear hx hlen
      go_wp2
      go_roundw
      case rel => exact ⟨k + 1, _, by omega, rfl, by go_num, HS, by trivial⟩
      case measure => simp [intOf]; omega
    · have hkn : k = n := by omega
      subst hkn
      rw [List.take_of_length_le (by omega)] at HA
      have HL := hid hlen
      clear hlen hr
      go_wp2_with fail
      refine (rmix_w _ _).mono ?_
      rintro e w2 ⟨y, rfl, HY, rfl⟩
      go_wp2_with fail
      go_ret
      refine ⟨?_, Fr.refl _ _⟩
      have e1 := HY.out
      have e2 : IntKind.u64.wrap (bs.length : Int) = (k : Int) := by
        rw [HL.out, IntKind.wrap_u64]; omega
      rw [HA.out] at e1
      have e3 : ofI bs = y := by
        rw [e1]
        unfold ofI
        rw [e2]
      rw [e3]
      rfl
end Go.Proofs.YtaaongbdincimaaGreatDoor
