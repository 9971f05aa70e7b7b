/- Contracts: the document's reader: the number at its place. -/
import Derived.Test.YthgjhfooodcfbaaRt
namespace Go.Proofs.Ythgjhfooodcfbaa
open Go.RowKit

/-- The document's reader in block p: its bytes, its place, its error. -/
structure Rf (w : World) (p : Nat) (ao : Option Addr) (n cap : Nat) (B : List UInt8) (At : Nat) (e : Int) : Prop where
  blk : w.heap[p]? = some (.cells #[.slice ao n cap, .int .i64 (At : Int), .int .i64 e] 72 (0, 0))
  rd : Rd w ao n cap B
  le : At ≤ n
theorem Rf.lt {w : World} {p : Nat} {ao : Option Addr} {n cap : Nat} {B : List UInt8} {At : Nat} {e : Int} (h : Rf w p ao n cap B At e) : p < w.heap.size := block_lt h.blk
theorem Rf.kept {F : Nat → Prop} {w w' : World} {p : Nat} {ao : Option Addr} {n cap : Nat} {B : List UInt8} {At : Nat} {e : Int} (h : Rf w p ao n cap B At e) (hf : Fr F w w') (hp : ¬ F p) (ha : ∀ a, ao = some a → 0 < n → ¬ F a.block) : Rf w' p ao n cap B At e :=
  ⟨hf.kept h.blk hp, h.rd.kept hf ha, h.le⟩
theorem Rf.still {w w' : World} {p : Nat} {ao : Option Addr} {n cap : Nat} {B : List UInt8} {At : Nat} {e : Int} (h : Rf w p ao n cap B At e) (hs : Still w w') : Rf w' p ao n cap B At e := h.kept hs (fun e => e) fun _ _ _ e => e
theorem Still.drewN (w : World) (k : Nat) : Still w (w.drewN k) := (Fr.refl _ w).drewN k
theorem num_ret' {x y z a b c : Int} (h : x = a) (h2 : y = b) (h3 : z = c) : Ending.returned (.tuple #[.int .u64 x, .int .i64 y, .int .i64 z]) = .returned (.tuple #[.int .u64 a, .int .i64 b, .int .i64 c]) := by rw [h, h2, h3]

set_option maxHeartbeats 4000000 in
set_option maxRecDepth 100000 in
theorem fnumber_any (p : Nat) (ao : Option Addr) (n cap : Nat) (B : List UInt8) (At : Nat) (e : Int) (w : World) (hr : Rf w p ao n cap B At e) :
    Calls Try.prog 54 #[.pointer (some ⟨p, 0, none⟩)] w fun r w' => r = .returned (.tuple #[.int .u64 ((Cp.num 0 0 (B.drop At)).1 : Int), .int .i64 ((Cp.num 0 0 (B.drop At)).2.1 : Int), .int .i64 (Cp.num 0 0 (B.drop At)).2.2]) ∧ Still w w' := by
  have hlen := hr.rd.len
  have hcap := hr.rd.le
  have hmax := hr.rd.max
  have hat := hr.le
  have h63 : n ≤ 9223372036854775807 := hr.rd.small
  have HLN := hid hlen
  clear hlen
  go_enter Try.func54, Try.ntmps54
  go_wp2
  go_loopw [5, 6, 7] (fun a u i wr => ∃ k acc U : Nat, k ≤ 9 ∧ At + k ≤ n ∧ acc < 128 ^ k ∧ U = 128 ^ k ∧ a = .int .u64 (acc : Int) ∧ u = .int .u64 (U : Int) ∧ i = .int .i64 (k : Int) ∧ Cp.num k acc ((B.drop At).drop k) = Cp.num 0 0 (B.drop At) ∧ Still w wr) (fun _ _ i _ => 10 - (intOf i).toNat)
  case atStart => exact ⟨0, 0, 1, by omega, by omega, by simp, rfl, rfl, rfl, rfl, rfl, Fr.refl _ _⟩
  case round =>
    obtain ⟨k, acc, U, hk9, hkn, hacc, hU, rfl, rfl, rfl, hnum, hst⟩ := hrel
    have hpow := Cp.pow9 k hk9
    have hr1 := hr.still hst
    obtain ⟨c0, c1, c2, cf⟩ := three hr1.blk
    have HN := hid hnum
    have HA := hid hacc
    have HU := hid hU
    have hUl : U ≤ 9223372036854775808 := by rw [hU]; exact hpow
    have hal : acc < 9223372036854775808 := by omega
    clear hnum hacc hU hpow
    have fin : ∀ nq, Still w (wr.drewN nq) := fun nq => hst.trans (Still.drewN wr nq)
    by_cases hlt : At + k < n
    · obtain ⟨b, o, rfl⟩ := hr1.rd.addr (by omega)
      have hBl : At + k < B.length := by have := HLN.out; omega
      have hc := hr1.rd.byte hBl
      have hd : Hid ((B.drop At).drop k = B[At + k] :: (B.drop At).drop (k + 1)) := by
        show _ = _
        rw [List.drop_drop, List.drop_drop, List.drop_eq_getElem_cons hBl]; rfl
      have hcl := B[At + k].toNat_lt
      obtain ⟨c, hcc⟩ : ∃ c, c = B[At + k] := ⟨_, rfl⟩
      rw [← hcc] at hc hd hcl
      clear hcc
      have bad : (9 ≤ k ∧ 1 < c.toNat) ∨ (c.toNat < 1 ∧ 0 < k) → Hid (Cp.num 0 0 (B.drop At) = (0, 0, 21)) := fun h => by
        show _ = _
        rw [← HN.out, hd.out, Cp.num_bad (by omega)]
      have good : ¬ ((9 ≤ k ∧ 1 < c.toNat) ∨ (c.toNat < 1 ∧ 0 < k)) → c.toNat < 128 → Hid (Cp.num 0 0 (B.drop At) = (acc + c.toNat % 128 * 128 ^ k, k + 1, 0)) := fun h h2 => by
        show _ = _
        rw [← HN.out, hd.out, Cp.num_end (by omega) h2]
      obtain ⟨Pm, hPm⟩ : ∃ Pm, Pm = c.toNat % 128 * 128 ^ k := ⟨_, rfl⟩
      rw [← hPm] at good
      have HPM := hid hPm
      have hsum : ¬ ((9 ≤ k ∧ 1 < c.toNat) ∨ (c.toNat < 1 ∧ 0 < k)) → acc + Pm < 18446744073709551616 ∧ (k < 9 → acc + Pm < 128 ^ (k + 1)) := fun h => by
        have ha := HA.out
        have hp := Cp.pow9 k hk9
        have h1 : c.toNat % 128 * 128 ^ k ≤ 127 * 128 ^ k := Nat.mul_le_mul_right _ (by omega)
        refine ⟨?_, fun h9 => by rw [Nat.pow_succ, hPm]; omega⟩
        by_cases h9 : k = 9
        · have h3 : c.toNat % 128 * 128 ^ k ≤ 1 * 128 ^ k := Nat.mul_le_mul_right _ (by omega)
          omega
        · have h2 : 128 ^ (k + 1) ≤ 9223372036854775808 := Cp.pow9 (k + 1) (by omega)
          rw [Nat.pow_succ] at h2
          omega
      have hmul : ¬ ((9 ≤ k ∧ 1 < c.toNat) ∨ (c.toNat < 1 ∧ 0 < k)) → IntKind.u64.wrap ((c.toNat : Int) % 128 * (U : Int)) = (Pm : Int) := fun h => by
        have h1 := (hsum h).1
        rw [HU.out, show (c.toNat : Int) % 128 = ((c.toNat % 128 : Nat) : Int) by omega, ← Int.natCast_mul, ← hPm, IntKind.wrap_u64]
        omega
      have HB := hid bad
      have HG := hid good
      have HSU := hid hsum
      have HMU := hid hmul
      clear bad good hPm hsum hmul
      by_cases h9 : 9 ≤ k
      · by_cases h1 : 1 < c.toNat
        · have HE := HB.out (.inl ⟨h9, h1⟩)
          go_wp2
          go_quiet (fail)
          go_wp2
          go_quiet (fail)
          go_wp2
          go_ret3
          exact ⟨by rw [HE.out]; rfl, fin _⟩
        · by_cases h0 : c.toNat < 1
          · have HE := HB.out (.inr ⟨h0, by omega⟩)
            go_wp2
            go_quiet (fail)
            go_wp2
            go_quiet (fail)
            go_wp2
            go_ret3
            exact ⟨by rw [HE.out]; rfl, fin _⟩
          · have HE := HG.out (by omega) (by omega)
            have hs := (HSU.out (by omega)).1
            have hm := HMU.out (by omega)
            go_wp2
            go_quiet (fail)
            go_wp2
            go_quiet (fail)
            go_wp2
            go_ret3
            exact ⟨by rw [HE.out]; exact num_ret' (by go_num) (by go_num) rfl, fin _⟩
      · by_cases h128 : c.toNat < 128
        · by_cases h0 : c.toNat < 1
          · by_cases hk0 : 0 < k
            · have HE := HB.out (.inr ⟨h0, hk0⟩)
              go_wp2
              go_quiet (fail)
              go_wp2
              go_quiet (fail)
              go_wp2
              go_ret3
              exact ⟨by rw [HE.out]; rfl, fin _⟩
            · have HE := HG.out (by omega) (by omega)
              have hs := (HSU.out (by omega)).1
              have hm := HMU.out (by omega)
              go_wp2
              go_quiet (fail)
              go_wp2
              go_quiet (fail)
              go_wp2
              go_ret3
              have hP0 : Pm = 0 := by rw [HPM.out, show c.toNat = 0 by omega]; simp
              exact ⟨by rw [HE.out, hP0]; exact num_ret' (by simp) (by go_num) rfl, fin _⟩
          · have HE := HG.out (by omega) (by omega)
            have hs := (HSU.out (by omega)).1
            have hm := HMU.out (by omega)
            go_wp2
            go_quiet (fail)
            go_wp2
            go_quiet (fail)
            go_wp2
            go_ret3
            exact ⟨by rw [HE.out]; exact num_ret' (by go_num) (by go_num) rfl, fin _⟩
        · have hs := (HSU.out (by omega)).1
          have HS2 := hid ((HSU.out (by omega)).2 (by omega))
          have hm := HMU.out (by omega)
          have hU9 : U * 128 ≤ 9223372036854775808 := by
            have := Cp.pow9 (k + 1) (by omega)
            rw [Nat.pow_succ, ← HU.out] at this
            exact this
          go_wp2
          go_quiet (fail)
          go_wp2
          go_quiet (fail)
          go_wp2
          go_roundw
          case rel =>
            refine ⟨k + 1, acc + Pm, U * 128, by omega, by omega, HS2.out, by rw [Nat.pow_succ, ← HU.out], by go_num, by go_num, by go_num, ?_, fin _⟩
            rw [← HN.out, hd.out, Cp.num_more (by omega) (by omega), HPM.out]
          case measure => simp [intOf]; omega
    · have HE : Hid (Cp.num 0 0 (B.drop At) = (0, 0, 20)) := by
        show _ = _
        rw [← HN.out, List.drop_drop, List.drop_of_length_le (by have := HLN.out; omega)]; rfl
      go_wp2
      go_quiet (fail)
      go_wp2
      go_ret3
      exact ⟨by rw [HE.out]; rfl, fin _⟩
end Go.Proofs.Ythgjhfooodcfbaa
