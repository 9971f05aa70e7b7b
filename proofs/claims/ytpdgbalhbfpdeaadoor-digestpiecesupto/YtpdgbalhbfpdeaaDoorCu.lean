/- DigestCuts: the walk. -/
import Derived.Test.YtpdgbalhbfpdeaaDoorNm
import Derived.Test.YtpdgbalhbfpdeaaDoorLf
namespace Go.Proofs.YtpdgbalhbfpdeaaDoor
open Go.RowKit

/-- Cuts that came in. -/
def Ks (w : World) (ko : Option Addr) (kn : Nat) (K : Nat → Int) : Prop :=
  ∀ i, i < kn → ∃ b o, ko = some ⟨b, o, none⟩ ∧ w.cell? ⟨b, o + i, none⟩ = some (.int .i64 (K i)) ∧ -9223372036854775808 ≤ K i ∧ K i ≤ 9223372036854775807
set_option maxHeartbeats 2000000 in
set_option maxRecDepth 100000 in
theorem cuts_walk (ao : Option Addr) (n cap : Nat) (bs : List UInt8) (ko : Option Addr) (kn kc : Nat) (K : Nat → Int) (w : World) (hr : Rd w ao n cap bs) (hk : Ks w ko kn K) (hkn : kn ≤ 9223372036854775807) (ht : Tab w) :
    Calls Tryd.prog 7 #[.slice ao n cap, .slice ko kn kc] w fun e w' => e = .returned (.bool true) ∧ Still w w' := by
  have h7 := ht.size
  have hlow : ∀ a, ao = some a → 0 < n → a.block < w.heap.size := fun a ha hn => hr.lt hn a ha
  obtain ⟨i0, hi, hz, hz1, hz2⟩ := info_parts info_u8
  have HUP := hid fun (ro : Option Addr) (rn rc m : Nat) (h : m ≤ rc) (W : World) => run_upto (P := Tryd.prog) W 32 5 i0 Tryd.underlying32 hi hz1 .i64 ro rn rc (m : Int) (by omega) (by omega)
  have HFR := hid fun (ro : Option Addr) (rn rc m : Nat) (h : m ≤ rn) (W : World) => run_from (P := Tryd.prog) W 32 5 i0 Tryd.underlying32 hi hz1 .i64 ro rn rc (m : Int) (by omega) (by omega)
  have HFT := hid fun (m : Nat) (h : m + 1 ≤ cap) (W : World) => run_fromto (P := Tryd.prog) W 32 5 i0 Tryd.underlying32 hi hz1 .i64 ao n cap (m : Int) ((m : Int) + 1) (by omega) (by omega) (by omega)
  clear hi hz hz1 hz2
  go_enter Tryd.func7, Tryd.ntmps7
  go_wp2_with fail
  refine (awake_any _ ht).mono ?_
  rintro e w1 ⟨rfl, h1⟩
  go_wp2_with fail
  refine (new_any w1).mono ?_
  rintro e w2 ⟨rfl, hs2, h2⟩
  go_wp2_with fail
  refine (new_any w2).mono ?_
  rintro e w3 ⟨rfl, ht3, h3⟩
  have hp7 : w.heap.size ≤ w1.heap.size := h1.size
  have hpq : w1.heap.size < w2.heap.size := hs2.lt
  have hst3 : Still w w3 := h1.trans (h2.trans h3)
  have hs3 := hs2.kept h3 (fun e => e)
  generalize w1.heap.size = p at hs3 hp7 hpq ⊢
  generalize w2.heap.size = q at ht3 hpq ⊢
  clear hs2 h1 h2 h3 w1 w2
  go_wp2_with fail
  go_loopw [8, 9] (fun vr vi wr => ∃ (i : Nat) (ro : Option Addr) (rn rc : Nat) (rem dn : List UInt8), i ≤ kn ∧ vr = .slice ro rn rc ∧ vi = .int .i64 (i : Int) ∧ Rd wr ro rn rc rem ∧ (∀ a, ro = some a → 0 < rn → a.block < w.heap.size) ∧ Hid (dn ++ rem = bs) ∧ Sm wr p dn ∧ Sm wr q [] ∧ Still w wr) (fun _ vi _ => kn - (intOf vi).toNat)
  case atStart => exact ⟨0, ao, n, cap, bs, [], Nat.zero_le _, rfl, rfl, hr.still hst3, hlow, rfl, hs3, ht3, hst3⟩
  case round =>
    obtain ⟨i, ro, rn, rc, rem, dn, hik, rfl, rfl, hrd, hlo, HD, hsp, hsq, hst⟩ := hrel
    have hrs := hrd.small
    have hrm := hrd.le
    by_cases hlt : i < kn
    · obtain ⟨b, o, rfl, hc, k0, k1⟩ := hk i hlt
      have hc' := (hst.cell (World.block_lt_of_cell? w _ hc) (fun e => e)).trans hc
      obtain ⟨x, hx⟩ : ∃ x, x = K i := ⟨_, rfl⟩
      rw [← hx] at hc' k0 k1
      by_cases hneg : x < 0
      · have HR := hid (And.intro hrd (And.intro hlo (And.intro hsp (And.intro hsq hst))))
        clear hc hx hrd hlo hsp hsq hst hr hk ht hlow hs3 ht3 hst3
        go_wp2
        obtain ⟨r1, r2, r3, r4, r5⟩ := HR.out
        exact ⟨⟨i + 1, ro, rn, rc, rem, dn, by omega, rfl, by go_num, r1, r2, HD, r3, r4, r5⟩, by simp [intOf]; omega⟩
      · by_cases hbig : (rn : Int) < x
        · have HR := hid (And.intro hrd (And.intro hlo (And.intro hsp (And.intro hsq hst))))
          clear hc hx hrd hlo hsp hsq hst hr hk ht hlow hs3 ht3 hst3
          go_wp2
          obtain ⟨r1, r2, r3, r4, r5⟩ := HR.out
          exact ⟨⟨i + 1, ro, rn, rc, rem, dn, by omega, rfl, by go_num, r1, r2, HD, r3, r4, r5⟩, by simp [intOf]; omega⟩
        · obtain ⟨m, rfl⟩ : ∃ m : Nat, x = (m : Int) := ⟨x.toNat, by omega⟩
          have hm : m ≤ rn := by omega
          have hup := HUP.out ro rn rc m (by omega)
          have hfr := HFR.out ro rn rc m hm
          rw [Int.toNat_natCast] at hup hfr
          have hA := hid (add_sm p dn ro m rc (rem.take m) wr (hrd.take hm) hsp (ht.still hst) (by omega) (fun a ha hn e => by have := hlo a ha (by omega); omega))
          have HR := hid (And.intro hrd (And.intro hlo (And.intro hsq hst)))
          have HM := hid hm
          clear hc hx hrd hlo hsp hsq hst hr hk ht hlow hs3 ht3 hst3 hneg
          go_wp2_with fail
          refine hA.out.mono ?_
          rintro e w4 ⟨rfl, hs4, hf4⟩
          have HF := hid (And.intro hs4 hf4)
          clear hs4 hf4 hA
          go_wp2_with fail
          obtain ⟨r1, r2, r4, r5⟩ := HR.out
          obtain ⟨hs4, hf4⟩ := HF.out
          have hst4 : Still w w4 := Fr.trans (F := fun _ => False) r5 hf4 fun k hk e => by omega
          refine ⟨⟨i + 1, cutAt ro rc m, rn - m, rc - m, rem.drop m, dn ++ rem.take m, by omega, rfl, by go_num, (r1.kept hf4 fun a ha hn e => by have := r2 a ha hn; omega).drop HM.out, ?_, ?_, hs4, r4.kept hf4 (by omega), hst4⟩, by simp [intOf]; omega⟩
          · intro a ha hn
            obtain ⟨a0, h0, e0⟩ := cutAt_block a ha
            rw [e0]
            exact r2 a0 h0 (by omega)
          · show _ = _
            rw [List.append_assoc, List.take_append_drop]
            exact HD.out
    · have hA := hid (add_sm p dn ro rn rc rem wr hrd hsp (ht.still hst) (by omega) (fun a ha hn e => by have := hlo a ha hn; omega))
      clear hrd hlo hsp hs3 ht3 hk hst3
      go_wp2_with fail
      refine hA.out.mono ?_
      rintro e w4 ⟨rfl, hs4, hf4⟩
      have hst4 : Still w w4 := Fr.trans (F := fun _ => False) hst hf4 fun k hk e => by omega
      have hsq4 := hsq.kept hf4 (by omega)
      rw [HD.out] at hs4
      have hlen := hid hr.len
      have hns := hr.small
      clear hA hf4 hst hsq HUP HFR
      go_wp2_with fail
      go_loopw [11] (fun vi wr => ∃ i : Nat, i ≤ n ∧ vi = .int .i64 (i : Int) ∧ Sm wr p bs ∧ Sm wr q (bs.take i) ∧ Still w wr) (fun vi _ => n - (intOf vi).toNat)
      case atStart => exact ⟨0, Nat.zero_le _, rfl, hs4, by simpa using hsq4, hst4⟩
      case round =>
        obtain ⟨i, hin, rfl, hsp, hsq, hst⟩ := hrel
        clear hs4 hsq4 hst4
        by_cases hlt2 : i < n
        · have hft := HFT.out i (by have := hr.le; omega)
          rw [Int.toNat_natCast, show ((i : Int) + 1).toNat - i = 1 by omega] at hft
          have hrd := ((hr.still hst).drop (i := i) (by omega)).take (i := 1) (by omega)
          have hA := hid (add_sm q (bs.take i) (cutAt ao cap i) 1 (cap - i) ((bs.drop i).take 1) wr hrd hsq (ht.still hst) (by omega) (fun a ha hn e => by
            obtain ⟨a0, h0, e0⟩ := cutAt_block a ha
            have := hlow a0 h0 (by omega)
            omega))
          have HR := hid (And.intro hsp hst)
          have HE : Hid (bs.take i ++ (bs.drop i).take 1 = bs.take (i + 1)) := by
            show _ = _
            rw [List.take_add]
          clear hrd hsp hsq hst hr ht hlow HFT
          go_wp2_with fail
          refine hA.out.mono ?_
          rintro e w5 ⟨rfl, hs5, hf5⟩
          rw [HE.out] at hs5
          have HF := hid (And.intro hs5 hf5)
          clear hs5 hf5 hA
          go_wp2_with fail
          obtain ⟨r1, r2⟩ := HR.out
          obtain ⟨hs5, hf5⟩ := HF.out
          refine ⟨⟨i + 1, by omega, by go_num, r1.kept hf5 (by omega), hs5, Fr.trans (F := fun _ => False) r2 hf5 fun k hk e => by omega⟩, by simp [intOf]; omega⟩
        · have hin' : i = n := by omega
          subst hin'
          rw [List.take_of_length_le (by have := hlen.out; omega)] at hsq
          clear HFT hlow
          go_wp2_with fail
          refine (value_still p bs wr hsp (ht.still hst)).mono ?_
          rintro e w5 ⟨rfl, h5⟩
          go_wp2_with fail
          refine (of_any ao i cap bs w5 ((hr.still hst).still h5) ((ht.still hst).still h5)).mono ?_
          rintro e w6 ⟨rfl, h6⟩
          have h56 := h5.trans h6
          go_wp2_with fail
          refine (value_still q bs w6 (hsq.kept h56 fun e => e) ((ht.still hst).still h56)).mono ?_
          rintro e w7 ⟨rfl, h7⟩
          have h57 := h56.trans h7
          go_wp2_with fail
          refine (value_still p bs w7 (hsp.kept h57 fun e => e) ((ht.still hst).still h57)).mono ?_
          rintro e w8 ⟨rfl, h8⟩
          go_wp2_with fail
          go_ret
          exact ⟨rfl, hst.trans (h57.trans h8)⟩
end Go.Proofs.YtpdgbalhbfpdeaaDoor
