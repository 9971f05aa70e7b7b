/- Contracts: the document's reader: a byte, bytes. -/
import Derived.Test.YthgjhfooodcfbaaFu
import Derived.Test.YthgjhfooodcfbaaCu
import Derived.Test.YthgjhfooodcfbaaRa
namespace Go.Proofs.Ythgjhfooodcfbaa
open Go.RowKit

theorem fbyte_any (p : Nat) (ao : Option Addr) (n cap : Nat) (B : List UInt8) (At : Nat) (e : Int) (w : World) (hr : Rf w p ao n cap B At e) :
    Calls Try.prog 37 #[.pointer (some ⟨p, 0, none⟩)] w fun r w' => r = .returned (.int .u8 ((Cp.byteS (B.drop At) e).1.toNat : Int)) ∧ TookF w w' p ao n cap B (Cp.byteS (B.drop At) e).2.1 (Cp.byteS (B.drop At) e).2.2 := by
  obtain ⟨c0, c1, c2, cf⟩ := three hr.blk
  have hblk := hr.blk
  have hlen := hr.rd.len
  have hle := hr.le
  have hsm := hr.rd.small
  by_cases he : e = 0
  · subst he
    by_cases hn : At < n
    · obtain ⟨b, o, rfl⟩ := hr.rd.addr (by omega)
      have hBl : At < B.length := by omega
      have hc := hr.rd.byte hBl
      have HU : Hid (Cp.byteS (B.drop At) 0 = (B[At], B.drop (At + 1), 0)) := by
        show _ = _
        rw [List.drop_eq_getElem_cons hBl]
        unfold Cp.byteS
        rw [if_neg (by simp)]
      obtain ⟨c, hcc⟩ : ∃ c, c = B[At] := ⟨_, rfl⟩
      rw [← hcc] at hc HU
      clear hcc
      have HLN := hid hlen
      clear hlen
      go_enter Try.func37, Try.ntmps37
      go_wp2
      go_quiet (fail)
      have hb3 := fun nq => set1 (w := w.drewN nq) (v := .int .i64 ((At : Int) + 1)) hblk
      have hc3 : ∀ nq, ((w.drewN nq).setCell ⟨p, 1, none⟩ (.int .i64 ((At : Int) + 1))).cell? ⟨b, o + At, none⟩ = some (.int .u8 (c.toNat : Int)) := fun nq =>
        (World.cell?_of_block (w := w.drewN nq) (a := ⟨b, o + At, none⟩) (Below.heap_setCell (w.drewN nq) ⟨p, 1, none⟩ _ b (hr.apart _ rfl (by omega)))).trans hc
      have e0 := fun nq => (three (hb3 nq)).1
      have e1 := fun nq => (three (hb3 nq)).2.1
      go_wp2
      go_quiet (fail)
      go_wp2
      go_ret
      rw [HU.out]
      have hR := fun n1 n2 => hr.put (At' := At + 1) (e' := 0) (w1 := w.drewN n1) (w2 := ((w.drewN n1).setCell ⟨p, 1, none⟩ (.int .i64 ((At : Int) + 1))).drewN n2) (Still.drewN w n1) (((Fr.refl (fun k => k = p) (w.drewN n1)).setCell ⟨p, 1, none⟩ _ (.inl rfl)).drewN n2) hn (hb3 n1)
      exact ⟨rfl, At + 1, (hR _ _).1, rfl, (hR _ _).2⟩
    · have HU : Hid (Cp.byteS (B.drop At) 0 = (0, B.drop At, 20)) := by
        show _ = _
        rw [List.drop_of_length_le (by omega)]
        rfl
      go_enter Try.func37, Try.ntmps37
      go_wp2
      go_quiet (fail)
      go_wp2
      go_ret
      rw [HU.out]
      have hR := fun n1 => hr.put (At' := At) (e' := 20) (w1 := w.drewN n1) (w2 := (w.drewN n1).setCell ⟨p, 2, none⟩ (.int .i64 20)) (Still.drewN w n1) ((Fr.refl (fun k => k = p) (w.drewN n1)).setCell ⟨p, 2, none⟩ _ (.inl rfl)) hle (set2 (w := w.drewN n1) hblk)
      exact ⟨rfl, At, (hR _).1, rfl, (hR _).2⟩
  · have hne : (e != 0) = true := by simpa using he
    have HU : Hid (Cp.byteS (B.drop At) e = (0, B.drop At, e)) := by unfold Cp.byteS; rw [if_pos he]; exact rfl
    go_enter Try.func37, Try.ntmps37
    go_wp2
    go_ret
    rw [HU.out]
    exact ⟨rfl, At, hr, rfl, Fr.refl _ _⟩

theorem fbytes_end {w w1 w2 : World} {p : Nat} {ao fo : Option Addr} {n cap d : Nat} {B X : List UInt8} {At K N nq : Nat} (hr : Rf w p ao n cap B At 0) (hst : Still w w1) (hle : At + K + N ≤ n)
    (hf : Fr (fun k => ∃ a : Addr, none = some a ∧ a.block = k) ((w1.drewN nq).setCell ⟨p, 1, none⟩ (.int .i64 ((At : Int) + (K : Int) + (N : Int)))).drew w2) (ho : Ow 5 w2 fo (0 + N) d ([] ++ X))
    (hn : ∀ a, fo = some a → none = some a ∨ ((w1.drewN nq).setCell ⟨p, 1, none⟩ (.int .i64 ((At : Int) + (K : Int) + (N : Int)))).drew.heap.size ≤ a.block) :
    Rd w2 fo N d X ∧ (∀ a, fo = some a → w.heap.size ≤ a.block) ∧ Rf w2 p ao n cap B (At + K + N) 0 ∧ Fr (fun k => k = p) w w2 := by
  have hst2 : Still ((w1.drewN nq).setCell ⟨p, 1, none⟩ (.int .i64 ((At : Int) + (K : Int) + (N : Int)))) w2 := Still.undrew (hf.mono (by rintro k hk ⟨a, h, _⟩; cases h))
  have hb := set1 (w := w1.drewN nq) (v := .int .i64 ((At : Int) + (K : Int) + (N : Int))) (Fr.kept_still hst hr.blk)
  have hput := hr.put (At' := At + K + N) (e' := 0) (hst.trans (Still.drewN w1 nq)) ((Fr.refl (fun k => k = p) (w1.drewN nq)).setCell ⟨p, 1, none⟩ (.int .i64 ((At : Int) + (K : Int) + (N : Int))) (.inl rfl)) hle hb
  rw [Nat.zero_add, List.nil_append] at ho
  refine ⟨ho.rd, fun a ha => ?_, hput.1.still hst2, hput.2.trans (Still.to hst2) fun _ _ h => h⟩
  rcases hn a ha with h | h
  · cases h
  · have h1 := hst.size
    have h2 : ((w1.drewN nq).setCell ⟨p, 1, none⟩ (.int .i64 ((At : Int) + (K : Int) + (N : Int)))).drew.heap.size = w1.heap.size := by simp [World.setCell]
    omega

theorem fbytes_any (p : Nat) (ao : Option Addr) (n cap : Nat) (B : List UInt8) (At : Nat) (e : Int) (most : Int) (hm1 : -9223372036854775808 ≤ most) (hm2 : most ≤ 9223372036854775807) (w : World) (hr : Rf w p ao n cap B At e) (h47 : n ≤ 140737488355328) :
    Calls Try.prog 38 #[.pointer (some ⟨p, 0, none⟩), .int .i64 most] w fun r w' => ∃ fo d, r = .returned (.slice fo (Cp.bytesS most (B.drop At) e).1.length d) ∧ Rd w' fo (Cp.bytesS most (B.drop At) e).1.length d (Cp.bytesS most (B.drop At) e).1 ∧
      (∀ a, fo = some a → w.heap.size ≤ a.block) ∧ TookF w w' p ao n cap B (Cp.bytesS most (B.drop At) e).2.1 (Cp.bytesS most (B.drop At) e).2.2 := by
  obtain ⟨i0, hi, hz, hs1, hb1'⟩ := info_parts info_u8
  obtain ⟨c0, c1, c2, cf⟩ := three hr.blk
  have hblk := hr.blk
  have hlen := hr.rd.len
  have hle := hr.le
  have hsm := hr.rd.small
  by_cases he : e = 0
  · subst he
    have hne := Cp.num_err (B.drop At)
    have hc := fnumber_any p ao n cap B At 0 w hr
    obtain ⟨N, K, E, hnum⟩ : ∃ N K E, Cp.num 0 0 (B.drop At) = (N, K, E) := ⟨_, _, _, rfl⟩
    rw [hnum] at hne hc
    dsimp only at hne hc
    rw [List.length_drop, hlen] at hne
    have hdl : (B.drop At).length = n - At := by rw [List.length_drop, hlen]
    have HC := hid hc
    have HNUM := hid hnum
    have HDL := hid hdl
    clear hc hnum hdl
    by_cases hE : E = 0
    · subst hE
      have hN : N < 18446744073709551616 := by omega
      have hK : At + K ≤ n := by omega
      clear hne
      by_cases hm0 : most < 0
      · have HU := hid (Cp.bytesS_long (most := most) HNUM.out (.inl hm0))
        go_enter Try.func38, Try.ntmps38
        go_wp2_with fail
        refine HC.out.mono ?_
        rintro r w1 ⟨rfl, hst⟩
        obtain ⟨d0, d1, d2, df⟩ := three (Fr.kept_still hst hblk)
        go_wp2
        go_ret
        have hR := hr.put (At' := At) (e' := 22) hst ((Fr.refl (fun k => k = p) w1).setCell ⟨p, 2, none⟩ (.int .i64 22) (.inl rfl)) hle (set2 (Fr.kept_still hst hblk))
        rw [HU.out]
        exact ⟨none, 0, rfl, Rd.empty _, fun _ h => (by cases h), At, hR.1, rfl, hR.2⟩
      · by_cases hmN : most < (N : Int)
        · have HU := hid (Cp.bytesS_long (most := most) HNUM.out (.inr hmN))
          go_enter Try.func38, Try.ntmps38
          go_wp2_with fail
          refine HC.out.mono ?_
          rintro r w1 ⟨rfl, hst⟩
          obtain ⟨d0, d1, d2, df⟩ := three (Fr.kept_still hst hblk)
          go_wp2
          go_ret
          have hR := hr.put (At' := At) (e' := 22) hst ((Fr.refl (fun k => k = p) w1).setCell ⟨p, 2, none⟩ (.int .i64 22) (.inl rfl)) hle (set2 (Fr.kept_still hst hblk))
          rw [HU.out]
          exact ⟨none, 0, rfl, Rd.empty _, fun _ h => (by cases h), At, hR.1, rfl, hR.2⟩
        · by_cases hsh : n - At - K < N
          · have HU := hid (Cp.bytesS_short (most := most) HNUM.out (by omega) (by rw [HDL.out]; exact hsh))
            go_enter Try.func38, Try.ntmps38
            go_wp2_with fail
            refine HC.out.mono ?_
            rintro r w1 ⟨rfl, hst⟩
            have hb1 := Fr.kept_still hst hblk
            obtain ⟨d0, d1, d2, df⟩ := three hb1
            go_wp2
            go_quiet (fail)
            go_wp2
            go_ret
            have hR := fun n1 => hr.put (At' := At) (e' := 20) (hst.trans (Still.drewN w1 n1)) ((Fr.refl (fun k => k = p) (w1.drewN n1)).setCell ⟨p, 2, none⟩ (.int .i64 20) (.inl rfl)) hle (set2 (w := w1.drewN n1) hb1)
            rw [HU.out]
            exact ⟨none, 0, rfl, Rd.empty _, fun _ h => (by cases h), At, (hR _).1, rfl, (hR _).2⟩
          · have HU := hid (Cp.bytesS_ok (most := most) HNUM.out (by omega) (by rw [HDL.out]; exact hsh))
            go_enter Try.func38, Try.ntmps38
            go_wp2_with fail
            refine HC.out.mono ?_
            rintro r w1 ⟨rfl, hst⟩
            have hb1 := Fr.kept_still hst hblk
            obtain ⟨d0, d1, d2, df⟩ := three hb1
            go_wp2
            go_quiet (fail)
            go_wp2
            have hb3 := fun nq => set1 (w := w1.drewN nq) (v := .int .i64 ((At : Int) + (K : Int) + (N : Int))) hb1
            have e0 := fun nq => (three (hb3 nq)).1
            have e1 := fun nq => (three (hb3 nq)).2.1
            have hcap := hr.rd.le
            have hslc : ∀ W : World, (Instr.slice 26 (.slice ao n cap) (some (.int .i64 ((At : Int) + (K : Int)))) (some (.int .i64 ((At : Int) + (K : Int) + (N : Int)))) none).run Try.prog W = .ok (.slice (cutAt ao cap (At + K)) N (cap - (At + K))) W := fun W => by
              have := run_fromto (P := Try.prog) W 26 5 i0 Try.underlying26 hi hs1 .i64 ao n cap ((At : Int) + (K : Int)) ((At : Int) + (K : Int) + (N : Int)) (by omega) (by omega) (by omega)
              rw [this, show ((At : Int) + (K : Int)).toNat = At + K by omega, show ((At : Int) + (K : Int) + (N : Int)).toNat = At + K + N by omega, show At + K + N - (At + K) = N by omega]
            have hrd : ∀ n1, Rd ((w1.drewN n1).setCell ⟨p, 1, none⟩ (.int .i64 ((At : Int) + (K : Int) + (N : Int)))) (cutAt ao cap (At + K)) N (cap - (At + K)) ((B.drop (At + K)).take N) := fun n1 => by
              have h1 := (((hr.rd.still hst).drewN n1).kept ((Fr.refl (fun k => k = p) (w1.drewN n1)).setCell ⟨p, 1, none⟩ (.int .i64 ((At : Int) + (K : Int) + (N : Int))) (.inl rfl)) (fun a ha hn => hr.apart a ha hn))
              exact (h1.drop hK).take (i := N) (by omega)
            have hRD := hid hrd
            clear hrd
            go_region_law (refine step_app rfl (.tmp 69) (.tmp 79) 26 rfl 5 i0 Try.underlying26 hi hz hs1 hb1' none (cutAt ao cap (At + K)) 0 0 N (cap - (At + K)) [] ((B.drop (At + K)).take N) (by simp [Act.eval, Act.put]) (by simp [Act.eval, Act.put]) (Ow.empty _ _) (by first | exact hRD.out _ | exact (hRD.out _).drew | exact (hRD.out _).drewN _) (by omega) ?_; intro fo d w2 ho hf hn _)
            all_goals go_wp2
            all_goals go_ret
            all_goals
              have hE := fbytes_end hr hst (by omega) hf ho hn
              have hX : (B.drop At).drop K = B.drop (At + K) := by rw [List.drop_drop]
              have hXl : ((B.drop (At + K)).take N).length = N := by rw [List.length_take, List.length_drop, hlen]; omega
              rw [HU.out]
              dsimp only
              rw [hX, hXl]
              exact ⟨fo, d, by rw [← Nat.zero_add N]; rfl, hE.1, hE.2.1, At + K + N, hE.2.2.1, by rw [List.drop_drop, Nat.add_assoc], hE.2.2.2⟩
    · have HU := hid (Cp.bytesS_err (most := most) HNUM.out hE)
      have hEb : (E != 0) = true := by simpa using hE
      clear hne
      go_enter Try.func38, Try.ntmps38
      go_wp2_with fail
      refine HC.out.mono ?_
      rintro r w1 ⟨rfl, hst⟩
      obtain ⟨d0, d1, d2, df⟩ := three (Fr.kept_still hst hblk)
      go_wp2
      go_ret
      have hR := hr.put (At' := At) (e' := E) hst ((Fr.refl (fun k => k = p) w1).setCell ⟨p, 2, none⟩ (.int .i64 E) (.inl rfl)) hle (set2 (Fr.kept_still hst hblk))
      rw [HU.out]
      exact ⟨none, 0, rfl, Rd.empty _, fun _ h => (by cases h), At, hR.1, rfl, hR.2⟩
  · have hne : (e != 0) = true := by simpa using he
    have HU : Hid (Cp.bytesS most (B.drop At) e = ([], B.drop At, e)) := by unfold Cp.bytesS; rw [if_pos he]; exact rfl
    go_enter Try.func38, Try.ntmps38
    go_wp2
    go_ret
    rw [HU.out]
    exact ⟨none, 0, rfl, Rd.empty _, fun _ h => (by cases h), At, hr, rfl, Fr.refl _ _⟩
end Go.Proofs.Ythgjhfooodcfbaa
