/- Contracts: lent, still. -/
import Derived.Test.YtpdgbalhbfpdeaaDoorLe
namespace Go.Proofs.YtpdgbalhbfpdeaaDoor
open Go.RowKit

set_option maxHeartbeats 1000000 in
set_option maxRecDepth 100000 in
theorem lent_any (so : Option Addr) (n c sp : Nat) (hsp : sp ≤ 3) (hs1 : 1 ≤ sp) (cs : List UInt8) (w : World) (hr : Rd w so n c cs) (h47 : n + 4 ≤ 140737488355328) :
    Calls Tryd.prog 18 #[.slice so n c, .int .i64 (sp : Int)] w fun r w' => ∃ g, r = .returned (.slice (some ⟨g, 0, none⟩) n (n + sp)) ∧ Ow 5 w' (some ⟨g, 0, none⟩) (n + sp) (n + sp) (cs ++ pads n sp) ∧ Still w w' ∧ w.heap.size ≤ g := by
  have hlen := hr.len
  have hmk : ∀ W : World, (Instr.makeSlice 32 (.int .i64 ((n : Int) + (sp : Int))) (.int .i64 ((n : Int) + (sp : Int)))).run Tryd.prog W = .ok (.slice (some ⟨W.heap.size, 0, none⟩) (n + sp) (n + sp)) (W.alloc (.cells (madeCells #[.int .u8 0] (n + sp)) 5)) := fun W => by
    have := run_make_row' (P := Tryd.prog) 32 5 (.int .u8 0) 1 Tryd.underlying32 info_u8 rfl .i64 .i64 (n + sp) (by omega) (by omega) W
    rw [Int.natCast_add] at this
    exact this
  have hfresh : Ow 5 (w.alloc (.cells (madeCells #[.int .u8 0] (n + sp)) 5)) (some ⟨w.heap.size, 0, none⟩) (n + sp) (n + sp) (List.replicate (n + sp) 0) :=
    Ow.fresh w _ (n + sp) (n + sp) (List.replicate (n + sp) 0) (by simp) (Nat.le_refl _) (by unfold maxLen; omega) (by rw [size_madeCells]) (fun j hj => by
      simp at hj
      simp [madeCells, hj]
      rw [Nat.mod_one]; rfl)
  obtain ⟨W1, hcp, ho1, hf1⟩ := copy_ow hfresh (hr.alloc _) (by omega)
  have hst1 : Still w W1 := Fr.trans (F := fun _ => False) (Still.alloc w _) hf1 fun k hk e => by omega
  rw [List.drop_replicate, show n + sp - n = sp by omega] at ho1
  have HL := hid hlen
  have hup := fun W => run_upto (P := Tryd.prog) W 32 5 (Classical.choose (info_parts info_u8)) Tryd.underlying32 (Classical.choose_spec (info_parts info_u8)).1 (Classical.choose_spec (info_parts info_u8)).2.2.1 .i64 (some ⟨w.heap.size, 0, none⟩) (n + sp) (n + sp) (n : Int) (by omega) (by omega)
  obtain ⟨CS, hCS⟩ : ∃ CS, CS = madeCells #[.int .u8 0] (n + sp) := ⟨_, rfl⟩
  rw [← hCS] at hfresh hcp
  simp only [← hCS] at hmk
  clear hCS hlen hfresh hf1 hr
  go_enter Tryd.func18, Tryd.ntmps18
  go_wp2
  go_loopw [6] (fun i wr => ∃ j : Nat, j ≤ sp ∧ i = .int .i64 ((n : Int) + (j : Int)) ∧ Ow 5 wr (some ⟨w.heap.size, 0, none⟩) (n + sp) (n + sp) (cs ++ pads n j ++ List.replicate (sp - j) 0) ∧ Still w wr) (fun i _ => n + sp - (intOf i).toNat)
  case atStart => exact ⟨0, by omega, by simp, by simpa [pads] using ho1, hst1⟩
  case round =>
    obtain ⟨j, hj, rfl, ho2, hst2⟩ := hrel
    by_cases hlt2 : j < sp
    · obtain ⟨⟨v, hv⟩, hfz⟩ := ho2.cellAt (k := n + j) (by omega)
      have R := ho2.set (k := n + j) (b := pb (n + j)) (x := IntKind.u8.wrap (200 + ((n : Int) + (j : Int)))) (by omega) (by rw [← Int.natCast_add]; exact pb_is (n + j))
      rw [zeros_cons hlt2, set_mid (by simp [pads_length]; exact HL.out)] at R
      have R2 := hst2.setCell ⟨w.heap.size, n + j, none⟩ (.int .u8 (IntKind.u8.wrap (200 + ((n : Int) + (j : Int))))) (.inr (Nat.le_refl _))
      have HR : Hid (cs ++ pads n j ++ pb (n + j) :: List.replicate (sp - (j + 1)) 0 = cs ++ pads n (j + 1) ++ List.replicate (sp - (j + 1)) 0) := by
        show _ = _
        simp [pads, List.append_assoc]
      rw [HR.out] at R
      clear hup hcp hmk
      go_wp2
      go_roundw
      case rel => exact ⟨j + 1, by omega, by go_num, R, R2⟩
      case measure => simp [intOf]; omega
    · have hj3 : j = sp := by omega
      rw [hj3] at ho2
      clear hj3
      go_wp2
      go_ret
      exact ⟨w.heap.size, rfl, by simpa using ho2, hst2, Nat.le_refl _⟩

set_option maxHeartbeats 1000000 in
set_option maxRecDepth 100000 in
theorem still_any (g : Nat) (so : Option Addr) (n c sp : Nat) (hsp : sp ≤ 3) (cs : List UInt8) (w : World) (hr : Rd w so n c cs) (hl : Rd w (some ⟨g, 0, none⟩) (n + sp) (n + sp) (cs ++ pads n sp)) (h47 : n + 4 ≤ 140737488355328) :
    Calls Tryd.prog 20 #[.slice (some ⟨g, 0, none⟩) n (n + sp), .slice so n c, .int .i64 (sp : Int)] w fun r w' => r = .returned (.bool true) ∧ Still w w' := by
  have hlen := hr.len
  have hlr : Rd w (some ⟨g, 0, none⟩) n (n + sp) cs := by
    have := hl.take (i := n) (by omega)
    rwa [List.take_left' hlen] at this
  have hc1 := run_string (P := Tryd.prog) w 32 5 9 Tryd.underlying32 Tryd.underlying5 Tryd.underlying9 hr
  have hc2 := run_string (P := Tryd.prog) w 32 5 9 Tryd.underlying32 Tryd.underlying5 Tryd.underlying9 hlr
  have hup := fun W => run_upto (P := Tryd.prog) W 32 5 (Classical.choose (info_parts info_u8)) Tryd.underlying32 (Classical.choose_spec (info_parts info_u8)).1 (Classical.choose_spec (info_parts info_u8)).2.2.1 .i64 (some ⟨g, 0, none⟩) n (n + sp) ((n : Int) + (sp : Int)) (by omega) (by omega)
  have hb : ∀ j, j < sp → w.cell? ⟨g, n + j, none⟩ = some (.int .u8 ((pb (n + j)).toNat : Int)) := fun j hj => by
    have := hl.byte (k := n + j) (by simp [pads_length, hlen]; exact hj)
    rw [Nat.zero_add, List.getElem_append_right (by omega)] at this
    rw [this]
    simp only [hlen, Nat.add_sub_cancel_left]
    rw [pads_get n sp j hj]
  have e1 : ((n : Int) + (sp : Int)).toNat = n + sp := by omega
  rw [e1] at hup
  clear hlen hlr hl hr e1
  go_enter Tryd.func20, Tryd.ntmps20
  go_wp2
  go_loopw [8] (fun i wr => ∃ j : Nat, j ≤ sp ∧ i = .int .i64 ((n : Int) + (j : Int)) ∧ wr = w) (fun i _ => n + sp - (intOf i).toNat)
  case atStart => exact ⟨0, by omega, by simp, rfl⟩
  case round =>
    obtain ⟨j, hj, rfl, rfl⟩ := hrel
    by_cases hlt : j < sp
    · have hcell := hb j hlt
      rw [← pb_is (n + j), Int.natCast_add] at hcell
      clear hb hc1 hc2 hup
      go_wp2
      go_roundw
      case rel => exact ⟨j + 1, by omega, by go_num, by trivial⟩
      case measure => simp [intOf]; omega
    · clear hb hc1 hc2 hup
      go_wp2
      go_ret
      exact ⟨rfl, Fr.refl _ _⟩
end Go.Proofs.YtpdgbalhbfpdeaaDoor
