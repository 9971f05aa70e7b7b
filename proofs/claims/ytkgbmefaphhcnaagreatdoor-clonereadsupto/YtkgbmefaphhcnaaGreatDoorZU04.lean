/- Parts of the proof, laid end to end. -/
import Derived.Test.YtkgbmefaphhcnaaGreatDoorZU03
import Derived.Test.YtkgbmefaphhcnaaGreatDoorZU02
import Derived.Deep.RegionLaw
import Derived.Test.YtkgbmefaphhcnaaGreatDoorZU00
set_option maxRecDepth 100000
namespace Go.Proofs.YtkgbmefaphhcnaaGreatDoor
open Go.RowKit
structure Rf (w : World) (p : Nat) (ao : Option Addr) (n cap : Nat) (B : List UInt8) (At : Nat) (e : Int) : Prop where
 blk : w.heap[p]? = some (.cells #[.slice ao n cap, .int .i64 (At : Int), .int .i64 e] 121 (0, 0))
 rd : Rd w ao n cap B
 le : At <= n
theorem Rf.lt {w : World} {p : Nat} {ao : Option Addr} {n cap : Nat} {B : List UInt8} {At : Nat} {e : Int} (h : Rf w p ao n cap B At e) : p < w.heap.size := block_lt h.blk
theorem Rf.kept {F : Nat -> Prop} {w w' : World} {p : Nat} {ao : Option Addr} {n cap : Nat} {B : List UInt8} {At : Nat} {e : Int} (h : Rf w p ao n cap B At e) (hf : Fr F w w') (hp : ¬ F p) (ha : ∀ a, ao = some a -> 0 < n -> ¬ F a.block) : Rf w' p ao n cap B At e :=
 ⟨hf.kept h.blk hp, h.rd.kept hf ha, h.le⟩
theorem Rf.still {w w' : World} {p : Nat} {ao : Option Addr} {n cap : Nat} {B : List UInt8} {At : Nat} {e : Int} (h : Rf w p ao n cap B At e) (hs : Still w w') : Rf w' p ao n cap B At e := h.kept hs (fun e => e) fun _ _ _ e => e
theorem Still.drewN (w : World) (k : Nat) : Still w (w.drewN k) := (Fr.refl _ w).drewN k
theorem num_ret' {x y z a b c : Int} (h : x = a) (h2 : y = b) (h3 : z = c) : Ending.returned (.tuple #[.int .u64 x, .int .i64 y, .int .i64 z]) = .returned (.tuple #[.int .u64 a, .int .i64 b, .int .i64 c]) := by rw [h, h2, h3]
set_option maxHeartbeats 4000000 in
set_option maxRecDepth 100000 in
theorem fnumber_any (p : Nat) (ao : Option Addr) (n cap : Nat) (B : List UInt8) (At : Nat) (e : Int) (w : World) (hr : Rf w p ao n cap B At e) :
  Calls Tryz.prog 80 #[.pointer (some ⟨p, 0, none⟩)] w fun r w' => r = .returned (.tuple #[.int .u64 ((Cp.num 0 0 (B.drop At)).1 : Int), .int .i64 ((Cp.num 0 0 (B.drop At)).2.1 : Int), .int .i64 (Cp.num 0 0 (B.drop At)).2.2]) /\ Still w w' := by
 have hlen := hr.rd.len
 have hcap := hr.rd.le
 have hmax := hr.rd.max
 have hat := hr.le
 have h63 : n <= 9223372036854775807 := hr.rd.small
 have HLN := hid hlen
 clear hlen
 go_enter Tryz.func80, Tryz.ntmps80
 go_wp2
 go_loopw [5, 6, 7] (fun a u i wr => ∃ k acc U : Nat, k <= 9 /\ At + k <= n /\ acc < 128 ^ k /\ U = 128 ^ k /\ a = .int .u64 (acc : Int) /\ u = .int .u64 (U : Int) /\ i = .int .i64 (k : Int) /\ Cp.num k acc ((B.drop At).drop k) = Cp.num 0 0 (B.drop At) /\ Still w wr) (fun _ _ i _ => 10 - (intOf i).toNat)
 case atStart => exact ⟨0, 0, 1, by omega, by omega, by simp, rfl, rfl, rfl, rfl, rfl, Fr.refl _ _⟩
 case round =>
  obtain ⟨k, acc, U, hk9, hkn, hacc, hU, rfl, rfl, rfl, hnum, hst⟩ := hrel
  have hpow := Cp.pow9 k hk9
  have hr1 := hr.still hst
  obtain ⟨c0, c1, c2, cf⟩ := three hr1.blk
  have HN := hid hnum
  have HA := hid hacc
  have HU := hid hU
  have hUl : U <= 9223372036854775808 := by rw [hU]; exact hpow
  have hal : acc < 9223372036854775808 := by omega
  clear hnum hacc hU hpow
  have fin : ∀ nq, Still w (wr.drewN nq) := fun nq => hst.trans (Still.drewN wr nq)
  by_cases hlt : At + k < n
  ·obtain ⟨b, o, rfl⟩ := hr1.rd.addr (by omega)
   have hBl : At + k < B.length := by have := HLN.out; omega
   have hc := hr1.rd.byte hBl
   have hd : Hid ((B.drop At).drop k = B[At + k] :: (B.drop At).drop (k + 1)) := by
    show _ = _
    rw [List.drop_drop, List.drop_drop, List.drop_eq_getElem_cons hBl]; rfl
   have hcl := B[At + k].toNat_lt
   obtain ⟨c, hcc⟩ : ∃ c, c = B[At + k] := ⟨_, rfl⟩
   rw [<- hcc] at hc hd hcl
   clear hcc
   have bad : (9 <= k /\ 1 < c.toNat) \/ (c.toNat < 1 /\ 0 < k) -> Hid (Cp.num 0 0 (B.drop At) = (0, 0, 21)) := fun h => by
    show _ = _
    rw [<- HN.out, hd.out, Cp.num_bad (by omega)]
   have good : ¬ ((9 <= k /\ 1 < c.toNat) \/ (c.toNat < 1 /\ 0 < k)) -> c.toNat < 128 -> Hid (Cp.num 0 0 (B.drop At) = (acc + c.toNat % 128 * 128 ^ k, k + 1, 0)) := fun h h2 => by
    show _ = _
    rw [<- HN.out, hd.out, Cp.num_end (by omega) h2]
   obtain ⟨Pm, hPm⟩ : ∃ Pm, Pm = c.toNat % 128 * 128 ^ k := ⟨_, rfl⟩
   rw [<- hPm] at good
   have HPM := hid hPm
   have hsum : ¬ ((9 <= k /\ 1 < c.toNat) \/ (c.toNat < 1 /\ 0 < k)) -> acc + Pm < 18446744073709551616 /\ (k < 9 -> acc + Pm < 128 ^ (k + 1)) := fun h => by
    have ha := HA.out
    have hp := Cp.pow9 k hk9
    have h1 : c.toNat % 128 * 128 ^ k <= 127 * 128 ^ k := Nat.mul_le_mul_right _ (by omega)
    refine ⟨?_, fun h9 => by rw [Nat.pow_succ, hPm]; omega⟩
    by_cases h9 : k = 9
    ·have h3 : c.toNat % 128 * 128 ^ k <= 1 * 128 ^ k := Nat.mul_le_mul_right _ (by omega)
     omega
    ·have h2 : 128 ^ (k + 1) <= 9223372036854775808 := Cp.pow9 (k + 1) (by omega)
     rw [Nat.pow_succ] at h2
     omega
   have hmul : ¬ ((9 <= k /\ 1 < c.toNat) \/ (c.toNat < 1 /\ 0 < k)) -> IntKind.u64.wrap ((c.toNat : Int) % 128 * (U : Int)) = (Pm : Int) := fun h => by
    have h1 := (hsum h).1
    rw [HU.out, show (c.toNat : Int) % 128 = ((c.toNat % 128 : Nat) : Int) by omega, <- Int.natCast_mul, <- hPm, IntKind.wrap_u64]
    omega
   have HB := hid bad
   have HG := hid good
   have HSU := hid hsum
   have HMU := hid hmul
   clear bad good hPm hsum hmul
   by_cases h9 : 9 <= k
   ·by_cases h1 : 1 < c.toNat
    ·have HE := HB.out (.inl ⟨h9, h1⟩)
     go_wp2
     go_quiet (fail)
     go_wp2
     go_quiet (fail)
     go_wp2
     go_ret3
     exact ⟨by rw [HE.out]; rfl, fin _⟩
    ·by_cases h0 : c.toNat < 1
     ·have HE := HB.out (.inr ⟨h0, by omega⟩)
      go_wp2
      go_quiet (fail)
      go_wp2
      go_quiet (fail)
      go_wp2
      go_ret3
      exact ⟨by rw [HE.out]; rfl, fin _⟩
     ·have HE := HG.out (by omega) (by omega)
      have hs := (HSU.out (by omega)).1
      have hm := HMU.out (by omega)
      go_wp2
      go_quiet (fail)
      go_wp2
      go_quiet (fail)
      go_wp2
      go_ret3
      exact ⟨by rw [HE.out]; exact num_ret' (by go_num) (by go_num) rfl, fin _⟩
   ·by_cases h128 : c.toNat < 128
    ·by_cases h0 : c.toNat < 1
     ·by_cases hk0 : 0 < k
      ·have HE := HB.out (.inr ⟨h0, hk0⟩)
       go_wp2
       go_quiet (fail)
       go_wp2
       go_quiet (fail)
       go_wp2
       go_ret3
       exact ⟨by rw [HE.out]; rfl, fin _⟩
      ·have HE := HG.out (by omega) (by omega)
       have hs := (HSU.out (by omega)).1
       have hm := HMU.out (by omega)
       go_wp2
       go_quiet (fail)
       go_wp2
       go_quiet (fail)
       go_wp2
       go_ret3
       have hP0 : Pm = 0 := by rw [HPM.out, show c.toNat = 0 by omega]; simp
       exact ⟨by rw [HE.out, hP0]; exact num_ret' (by simp) (by go_num) rfl, fin _⟩
     ·have HE := HG.out (by omega) (by omega)
      have hs := (HSU.out (by omega)).1
      have hm := HMU.out (by omega)
      go_wp2
      go_quiet (fail)
      go_wp2
      go_quiet (fail)
      go_wp2
      go_ret3
      exact ⟨by rw [HE.out]; exact num_ret' (by go_num) (by go_num) rfl, fin _⟩
    ·have hs := (HSU.out (by omega)).1
     have HS2 := hid ((HSU.out (by omega)).2 (by omega))
     have hm := HMU.out (by omega)
     have hU9 : U * 128 <= 9223372036854775808 := by
      have := Cp.pow9 (k + 1) (by omega)
      rw [Nat.pow_succ, <- HU.out] at this
      exact this
     go_wp2
     go_quiet (fail)
     go_wp2
     go_quiet (fail)
     go_wp2
     go_roundw
     case rel =>
      refine ⟨k + 1, acc + Pm, U * 128, by omega, by omega, HS2.out, by rw [Nat.pow_succ, <- HU.out], by go_num, by go_num, by go_num, ?_, fin _⟩
      rw [<- HN.out, hd.out, Cp.num_more (by omega) (by omega), HPM.out]
     case measure => simp [intOf]; omega
  ·have HE : Hid (Cp.num 0 0 (B.drop At) = (0, 0, 20)) := by
    show _ = _
    rw [<- HN.out, List.drop_drop, List.drop_of_length_le (by have := HLN.out; omega)]; rfl
   go_wp2
   go_quiet (fail)
   go_wp2
   go_ret3
   exact ⟨by rw [HE.out]; rfl, fin _⟩
end Go.Proofs.YtkgbmefaphhcnaaGreatDoor
namespace Go.Proofs.YtkgbmefaphhcnaaGreatDoor
open Go.RowKit
def TookF (w w' : World) (p : Nat) (ao : Option Addr) (n cap : Nat) (B rest' : List UInt8) (e' : Int) : Prop :=
 ∃ At', Rf w' p ao n cap B At' e' /\ B.drop At' = rest' /\ Fr (fun k => k = p) w w'
theorem Rf.apart {w : World} {p : Nat} {ao : Option Addr} {n cap : Nat} {B : List UInt8} {At : Nat} {e : Int} (h : Rf w p ao n cap B At e) : ∀ a, ao = some a -> 0 < n -> a.block ≠ p := by
 rintro a ha hn rfl
 have hc := h.rd.cells a ha 0 (by have := h.rd.len; omega)
 rw [cell_of_row _ _ _ _ _ _ h.blk] at hc
 rcases Nat.lt_or_ge (a.off + 0) 3 with h2 | h2
 ·rcases (show a.off + 0 = 0 \/ a.off + 0 = 1 \/ a.off + 0 = 2 by omega) with h0 | h0 | h0 <;> rw [h0] at hc <;> simp at hc
 ·rw [Array.getElem?_eq_none (by simpa using h2)] at hc; cases hc
theorem Rf.put {w w1 w2 : World} {p : Nat} {ao : Option Addr} {n cap : Nat} {B : List UInt8} {At At' : Nat} {e e' : Int} (h : Rf w p ao n cap B At e) (hs : Still w w1) (hf : Fr (fun k => k = p) w1 w2) (hle : At' <= n)
  (hb : w2.heap[p]? = some (.cells #[.slice ao n cap, .int .i64 (At' : Int), .int .i64 e'] 121 (0, 0))) : Rf w2 p ao n cap B At' e' /\ Fr (fun k => k = p) w w2 :=
 ⟨⟨hb, (h.rd.still hs).kept hf (fun a ha hn => h.apart a ha hn), hle⟩, (Still.to hs).trans hf fun _ _ h => h⟩
theorem fuint_any (p : Nat) (ao : Option Addr) (n cap : Nat) (B : List UInt8) (At : Nat) (e : Int) (w : World) (hr : Rf w p ao n cap B At e) :
  Calls Tryz.prog 52 #[.pointer (some ⟨p, 0, none⟩)] w fun r w' => r = .returned (.int .u64 ((Cp.uintS (B.drop At) e).1 : Int)) /\ TookF w w' p ao n cap B (Cp.uintS (B.drop At) e).2.1 (Cp.uintS (B.drop At) e).2.2 := by
 obtain ⟨c0, c1, c2, cf⟩ := three hr.blk
 have hblk := hr.blk
 by_cases he : e = 0
 ·subst he
  have hlen := hr.rd.len
  have hle := hr.le
  have hsm := hr.rd.small
  have hu : Cp.uintS (B.drop At) 0 = Cp.uintS (B.drop At) 0 := rfl
  conv at hu => rhs; unfold Cp.uintS
  rw [if_neg (by simp)] at hu
  have hne := Cp.num_err (B.drop At)
  have hc := fnumber_any p ao n cap B At 0 w hr
  obtain ⟨N, K, E, hnum⟩ : ∃ N K E, Cp.num 0 0 (B.drop At) = (N, K, E) := ⟨_, _, _, rfl⟩
  rw [hnum] at hu hne hc
  dsimp only at hu hne hc
  rw [List.length_drop, hlen] at hne
  have hK : At + K <= n := by omega
  have HU : Hid (Cp.uintS (B.drop At) 0 = (N, B.drop (At + K), E)) := by
   show _ = _
   rw [hu]
   by_cases hE : E = 0
   ·rw [if_neg (by omega), hE, List.drop_drop]
   ·rw [if_pos hE]
    have h1 : N = 0 := by omega
    have h2 : K = 0 := by omega
    rw [h1, h2, Nat.add_zero]
  have HC := hid hc
  clear hc hu hne hnum
  go_enter Tryz.func52, Tryz.ntmps52
  go_wp2_with fail
  refine HC.out.mono ?_
  rintro r w1 ⟨rfl, hst⟩
  have hb1 := Fr.kept_still hst hblk
  obtain ⟨d0, d1, d2, df⟩ := three hb1
  have hb2 := set2 (v := .int .i64 E) hb1
  obtain ⟨e0, e1, e2, ef⟩ := three hb2
  have hb3 := set1 (v := .int .i64 ((At + K : Nat) : Int)) hb2
  go_wp2
  go_ret
  have hR := hr.put (At' := At + K) (e' := E) hst (((Fr.refl (fun k => k = p) w1).setCell ⟨p, 2, none⟩ (.int .i64 E) (.inl rfl)).setCell ⟨p, 1, none⟩ (.int .i64 ((At + K : Nat) : Int)) (.inl rfl)) hK hb3
  rw [HU.out]
  exact ⟨rfl, At + K, hR.1, rfl, hR.2⟩
 ·have hne : (e != 0) = true := by simpa using he
  have HU : Hid (Cp.uintS (B.drop At) e = (0, B.drop At, e)) := by unfold Cp.uintS; rw [if_pos he]; exact rfl
  go_enter Tryz.func52, Tryz.ntmps52
  go_wp2
  go_ret
  rw [HU.out]
  exact ⟨rfl, At, hr, rfl, Fr.refl _ _⟩
theorem uintS_lt (bs : List UInt8) (e : Int) : (Cp.uintS bs e).1 < 18446744073709551616 := by
 unfold Cp.uintS
 have := Cp.num_err bs
 repeat' split
 all_goals simp
 all_goals omega
theorem fint_any (p : Nat) (ao : Option Addr) (n cap : Nat) (B : List UInt8) (At : Nat) (e : Int) (w : World) (hr : Rf w p ao n cap B At e) :
  Calls Tryz.prog 78 #[.pointer (some ⟨p, 0, none⟩)] w fun r w' => r = .returned (.int .i64 (Cp.unfold (Cp.uintS (B.drop At) e).1)) /\ TookF w w' p ao n cap B (Cp.uintS (B.drop At) e).2.1 (Cp.uintS (B.drop At) e).2.2 := by
 have hlt := uintS_lt (B.drop At) e
 go_enter Tryz.func78, Tryz.ntmps78
 go_wp2_with fail
 refine (fuint_any p ao n cap B At e w hr).mono ?_
 rintro r w1 ⟨rfl, ht⟩
 go_wp2_with fail
 refine (back_any _ hlt _).mono ?_
 rintro r w2 ⟨rfl, rfl⟩
 go_wp2
 go_ret
 exact ⟨rfl, ht⟩
theorem fdone_any (p : Nat) (ao : Option Addr) (n cap : Nat) (B : List UInt8) (At : Nat) (e : Int) (w : World) (hr : Rf w p ao n cap B At e) :
  Calls Tryz.prog 54 #[.pointer (some ⟨p, 0, none⟩)] w fun r w' => r = .returned (.int .i64 (if e = 0 /\ 0 < (B.drop At).length then 23 else e)) /\ Still w w' := by
 obtain ⟨c0, c1, c2, cf⟩ := three hr.blk
 have hle := hr.le
 have hsm := hr.rd.small
 have hL : (B.drop At).length = n - At := by rw [List.length_drop, hr.rd.len]
 rw [hL]
 clear hL
 by_cases he : e = 0
 ·subst he
  by_cases hn : At < n
  ·rw [if_pos ⟨rfl, by omega⟩]
   go_enter Tryz.func54, Tryz.ntmps54
   go_wp2
   go_quiet (fail)
   go_wp2
   go_ret
   exact ⟨rfl, Still.drewN _ _⟩
  ·rw [if_neg (by omega)]
   go_enter Tryz.func54, Tryz.ntmps54
   go_wp2
   go_quiet (fail)
   go_wp2
   go_ret
   exact ⟨rfl, Still.drewN _ _⟩
 ·rw [if_neg (by omega)]
  have hne : (e == 0) = false := by simpa using he
  go_enter Tryz.func54, Tryz.ntmps54
  go_wp2
  go_quiet (fail)
  go_wp2
  go_ret
  exact ⟨rfl, Still.drewN _ _⟩
end Go.Proofs.YtkgbmefaphhcnaaGreatDoor
namespace Go.Proofs.YtkgbmefaphhcnaaGreatDoor
end Go.Proofs.YtkgbmefaphhcnaaGreatDoor
namespace Go.Proofs.YtkgbmefaphhcnaaGreatDoor
open Go.RowKit
theorem fbyte_any (p : Nat) (ao : Option Addr) (n cap : Nat) (B : List UInt8) (At : Nat) (e : Int) (w : World) (hr : Rf w p ao n cap B At e) :
  Calls Tryz.prog 77 #[.pointer (some ⟨p, 0, none⟩)] w fun r w' => r = .returned (.int .u8 ((Cp.byteS (B.drop At) e).1.toNat : Int)) /\ TookF w w' p ao n cap B (Cp.byteS (B.drop At) e).2.1 (Cp.byteS (B.drop At) e).2.2 := by
 obtain ⟨c0, c1, c2, cf⟩ := three hr.blk
 have hblk := hr.blk
 have hlen := hr.rd.len
 have hle := hr.le
 have hsm := hr.rd.small
 by_cases he : e = 0
 ·subst he
  by_cases hn : At < n
  ·obtain ⟨b, o, rfl⟩ := hr.rd.addr (by omega)
   have hBl : At < B.length := by omega
   have hc := hr.rd.byte hBl
   have HU : Hid (Cp.byteS (B.drop At) 0 = (B[At], B.drop (At + 1), 0)) := by
    show _ = _
    rw [List.drop_eq_getElem_cons hBl]
    unfold Cp.byteS
    rw [if_neg (by simp)]
   obtain ⟨c, hcc⟩ : ∃ c, c = B[At] := ⟨_, rfl⟩
   rw [<- hcc] at hc HU
   clear hcc
   have HLN := hid hlen
   clear hlen
   go_enter Tryz.func77, Tryz.ntmps77
   go_wp2
   go_quiet (fail)
   have hb3 := fun nq => set1 (w := w.drewN nq) (v := .int .i64 ((At : Int) + 1)) hblk
   have hc3 : ∀ nq, ((w.drewN nq).setCell ⟨p, 1, none⟩ (.int .i64 ((At : Int) + 1))).cell? ⟨b, o + At, none⟩ = some (.int .u8 (c.toNat : Int)) := fun nq =>
    (World.cell?_of_block (w := w.drewN nq) (a := ⟨b, o + At, none⟩) (Below.heap_setCell (w.drewN nq) ⟨p, 1, none⟩ _ b (hr.apart _ rfl (by omega)))).trans hc
   have e0 := fun nq => (three (hb3 nq)).1
   have e1 := fun nq => (three (hb3 nq)).2.1
   go_wp2
   go_quiet (fail)
   go_wp2
   go_ret
   rw [HU.out]
   have hR := fun n1 n2 => hr.put (At' := At + 1) (e' := 0) (w1 := w.drewN n1) (w2 := ((w.drewN n1).setCell ⟨p, 1, none⟩ (.int .i64 ((At : Int) + 1))).drewN n2) (Still.drewN w n1) (((Fr.refl (fun k => k = p) (w.drewN n1)).setCell ⟨p, 1, none⟩ _ (.inl rfl)).drewN n2) hn (hb3 n1)
   exact ⟨rfl, At + 1, (hR _ _).1, rfl, (hR _ _).2⟩
  ·have HU : Hid (Cp.byteS (B.drop At) 0 = (0, B.drop At, 20)) := by
    show _ = _
    rw [List.drop_of_length_le (by omega)]
    rfl
   go_enter Tryz.func77, Tryz.ntmps77
   go_wp2
   go_quiet (fail)
   go_wp2
   go_ret
   rw [HU.out]
   have hR := fun n1 => hr.put (At' := At) (e' := 20) (w1 := w.drewN n1) (w2 := (w.drewN n1).setCell ⟨p, 2, none⟩ (.int .i64 20)) (Still.drewN w n1) ((Fr.refl (fun k => k = p) (w.drewN n1)).setCell ⟨p, 2, none⟩ _ (.inl rfl)) hle (set2 (w := w.drewN n1) hblk)
   exact ⟨rfl, At, (hR _).1, rfl, (hR _).2⟩
 ·have hne : (e != 0) = true := by simpa using he
  have HU : Hid (Cp.byteS (B.drop At) e = (0, B.drop At, e)) := by unfold Cp.byteS; rw [if_pos he]; exact rfl
  go_enter Tryz.func77, Tryz.ntmps77
  go_wp2
  go_ret
  rw [HU.out]
  exact ⟨rfl, At, hr, rfl, Fr.refl _ _⟩
end Go.Proofs.YtkgbmefaphhcnaaGreatDoor
