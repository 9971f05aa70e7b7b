/- The program's writer of a datagram: commands, the whole; Encode. -/
import Derived.Test.YtaaongbdincimaaGreatDoorWwb
import Derived.Test.YtaaongbdincimaaGreatDoorCla
namespace Go.Proofs.YtaaongbdincimaaGreatDoor
open Go.RowKit
open Wp Vp
set_option maxRecDepth 100000
set_option linter.unusedVariables false

theorem csB_take {mk : Int} {L : List Cc} {i : Nat} (h : i < L.length) : csB mk (L.take (i + 1)) = csB mk (L.take i) ++ cmB mk (cc L i) := by
  unfold csB
  rw [List.take_succ_eq_append_getElem h, cc_at h, List.flatMap_append]
  simp only [List.flatMap_cons, List.flatMap_nil, List.append_nil]
theorem csB_take_le {mk : Int} (hm : 0 ≤ mk ∧ mk ≤ 1099511627776) {L : List Cc} (h : ∀ x ∈ L, (1 ≤ x.fr ∧ x.fr ≤ 1099511627776) ∧ chkO x.v x.a x.b x.c = 0) (i : Nat) : (csB mk (L.take i)).length ≤ 31 * i := by
  have h1 := csB_le hm (L.take i) (fun x hx => h x (List.mem_of_mem_take hx))
  have : (L.take i).length ≤ i := by simp; omega
  omega
theorem chk_i64 {v a b c : Int} (h : chkO v a b c = 0) : ∀ x ∈ [a, b, c], -9223372036854775808 ≤ x ∧ x ≤ 9223372036854775807 := by
  obtain ⟨_, ha, hb, h0⟩ := chk_args h
  have hc : c = 0 := by rcases h0 with h0 | h0 | h0 <;> omega
  intro x hx
  simp only [List.mem_cons, List.not_mem_nil, or_false] at hx
  rcases hx with rfl | rfl | rfl <;> omega
abbrev dgo (d : Dg) (co : Option Addr) (cn cp : Nat) : Obj := .cells (dgc d co cn cp) 25 (0, 0)
abbrev cmo (x : Cc) : Obj := .cells (kmc x) 42 (0, 0)
set_option maxHeartbeats 4000000 in
theorem zcmds_any (p : Nat) (ao : Option Addr) (bs : List UInt8) (d : Dg) (co : Option Addr) (cn cp : Nat) (hm : 0 ≤ d.mrk ∧ d.mrk ≤ 1099511627776) (hall : ∀ x ∈ d.cs, (1 ≤ x.fr ∧ x.fr ≤ 1099511627776) ∧ chkO x.v x.a x.b x.c = 0) (hcn : cn ≤ 336) (hb : bs.length ≤ 100) (w : World) (hw : Wz w p ao bs) (hr : RdG KCc w co cn d.cs) (hne : ∀ a, co = some a → 0 < cn → ¬ Wf p ao a.block) :
    Calls Tryz.prog 36 #[wzv p, dgv d co cn cp] w fun r w' => r = .returned (.tuple #[]) ∧ ∃ ao', Lz w w' p ao ao' bs (Cp.form cn ++ csB d.mrk d.cs) := by
  have A0 := Still.alloc w (.cells #[.pointer (some ⟨p, 0, none⟩)] 50)
  have B0 := Ofz.new hw #[.pointer (some ⟨p, 0, none⟩)] 50
  have A1 := Still.alloc (w.alloc (.cells #[.pointer (some ⟨p, 0, none⟩)] 50)) (.cells (dgc d co cn cp) 25)
  have B1 := Ofz.new (hw.still A0) (dgc d co cn cp) 25
  have B0 := B0.still A1
  have A0 := A0.trans A1
  obtain ⟨W, eW⟩ : ∃ W, (w.alloc (.cells #[.pointer (some ⟨p, 0, none⟩)] 50)).alloc (.cells (dgc d co cn cp) 25) = W := ⟨_, rfl⟩
  rw [size_alloc] at B1
  obtain ⟨g, eg⟩ : ∃ g, w.heap.size = g := ⟨_, rfl⟩
  rw [eW] at A0 B0 B1
  rw [eg] at B0 B1
  have HA := hid A0
  have HB := hid B0
  have HO := hid B1
  have HW := hid (hw.still A0)
  have HR := hid (hr.still A0)
  have HNe := hid hne
  have HAl := hid hall
  have hln := hr.1
  have hsm := hr.2.1
  clear A0 A1 B0 B1 hw hr hne hall
  have c0 := HB.out.wr
  have d6 := HO.out.cell 6
  simp only [List.getElem?_cons_zero, List.getElem?_cons_succ] at d6
  have hcv : IntKind.u64.wrap (cn : Int) = (cn : Int) := by rw [IntKind.wrap_u64]; omega
  have HC := hid (zuint_any p ao bs cn (by omega) (by omega) W HW.out)
  have HLn := hid hln
  clear hln
  go_enter Tryz.func36, Tryz.ntmps36
  go_wp2_with fail
  refine HC.out.mono ?_
  rintro e w1 ⟨he, ao1, h1⟩
  rw [he]
  clear c0 d6 HC
  have HL1 := hid h1
  have d6 := (HO.out.on h1).cell 6
  simp only [List.getElem?_cons_zero, List.getElem?_cons_succ] at d6
  clear he h1
  go_wp2_with fail
  clear d6
  go_loopw [16] (fun u16 wr => ∃ (i : Nat) (ao2 : Option Addr), i ≤ cn ∧ u16 = .int .i64 (i : Int) ∧ Hid (Lz W wr p ao ao2 bs (Cp.form cn ++ csB d.mrk (d.cs.take i)))) (fun u16 _ => cn - (intOf u16).toNat)
  case atStart => exact ⟨0, ao1, by omega, rfl, hid (by simpa [csB] using HL1.out)⟩
  case round =>
    obtain ⟨i, ao2, hi, rfl, HLr⟩ := hrel
    by_cases hin : i < cn
    · have hlt : (i : Int) < (cn : Int) := by omega
      obtain ⟨B, o, eco⟩ := HR.out.at (by omega)
      subst eco
      have hil : i < d.cs.length := by rw [HLn.out]; exact hin
      obtain ⟨k0, k1, k2, k3, k4, k5, k6⟩ := rdCc (HR.out.keepZ HLr.out.f HNe.out) hin
      have HXx := hid (HAl.out (cc d.cs i) (by rw [cc_at hil]; exact List.getElem_mem hil))
      have HT := hid (csB_take (mk := d.mrk) hil)
      have HLe := hid (csB_take_le hm HAl.out i)
      obtain ⟨x, ex⟩ : ∃ x, cc d.cs i = x := ⟨_, rfl⟩
      rw [ex] at k0 k1 k2 k3 k4 k5 k6 HXx HT
      have hxf := HXx.out.1
      have hwr : IntKind.i64.wrap (x.fr - d.mrk) = x.fr - d.mrk := wr64 (by omega) (by omega)
      have A2 := Still.alloc wr (.cells (kmc x) 42)
      have B2 := Ofz.new HLr.out.q (kmc x) 42
      have HB2 := hid ((HB.out.on HLr.out).still A2)
      have HO2 := hid ((HO.out.on HLr.out).still A2)
      have c0 := HB2.out.wr
      have d4 := HO2.out.cell 4
      simp only [List.getElem?_cons_zero, List.getElem?_cons_succ] at d4
      have hlen : (bs ++ (Cp.form cn ++ csB d.mrk (d.cs.take i))).length + 61 ≤ 16384 := by
        have := Cp.form_ten (n := cn) (by omega)
        have := HLe.out
        simp only [List.length_append]
        omega
      have HC := hid (zint_any p ao2 _ (x.fr - d.mrk) (by omega) (by omega) (by omega) _ (HLr.out.q.still A2))
      have HLs := hid (HLr.out.still A2)
      obtain ⟨W2, eW2⟩ : ∃ W, wr.alloc (.cells (kmc x) 42) = W := ⟨_, rfl⟩
      obtain ⟨n3, en3⟩ : ∃ g, wr.heap.size = g := ⟨_, rfl⟩
      have HE2 := hid (And.intro eW2 en3)
      have HK := hid B2
      clear ex A2 B2 eW2 en3
      go_wp2_with fail
      refine HC.out.mono ?_
      rintro e w3 ⟨he, ao3, h3⟩
      rw [he]
      have hK3 := HK.out.on h3
      have c0' := (HB2.out.on h3).wr
      rw [HE2.out.2] at hK3
      have e3 := hK3.cell 3
      have e4 := hK3.cell 4
      have e5 := hK3.cell 5
      have e6 := hK3.cell 6
      simp only [List.getElem?_cons_zero, List.getElem?_cons_succ] at e3 e4 e5 e6
      have hsg := sgB_le (n := x.fr - d.mrk) (by omega) (by omega)
      have HC2 := hid (zorder_any p ao3 _ x.v x.a x.b x.c (chk_args HXx.out.2).1 (chk_i64 HXx.out.2) (by simp only [List.length_append] at hlen hsg ⊢; omega) w3 h3.q)
      have HL3 := hid (HLs.out.trans h3)
      rw [HE2.out.2]
      clear he h3 hK3 c0 HC HB2 HO2 HK HLs HLr d4
      have c0 := c0'
      clear c0'
      go_wp2_with fail
      refine HC2.out.mono ?_
      rintro e w4 ⟨he, ao4, h4⟩
      rw [he]
      have HL4 : Hid (Lz W w4 p ao ao4 bs (Cp.form cn ++ csB d.mrk (d.cs.take (i + 1)))) := hid (by
        rw [List.append_assoc] at h4
        have := HL3.out.trans h4
        rw [HT.out]
        unfold cmB
        simpa only [List.append_assoc] using this)
      clear he h4 HC2 HL3 c0 e3 e4 e5 e6
      go_wp2_with fail
      go_roundw
      case rel => exact ⟨i + 1, ao4, by omega, by go_num, HL4⟩
      case measure => simp [intOf]; omega
    · obtain rfl : i = cn := by omega
      have HL4 : Hid (Lz w wr p ao ao2 bs (Cp.form i ++ csB d.mrk d.cs)) := hid (by
        have := HLr.out.from HA.out
        rw [List.take_of_length_le (by rw [HLn.out]; omega)] at this
        exact this)
      go_wp2_with fail
      go_end0
      exact ⟨rfl, ao2, HL4.out⟩
end Go.Proofs.YtaaongbdincimaaGreatDoor
