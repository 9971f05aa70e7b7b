/- The program's Clone. -/
import Derived.Test.YtdmgalaajgebkaaQup
import Derived.Lib.SliceRun
namespace Go.Proofs.Ytdmgalaajgebkaa
open Go.RowKit
set_option maxRecDepth 100000

theorem OwG.none0 (w : World) : OwG KE 44 (w.alloc (.cells #[] 44)) w.heap.size (.slice (some ⟨w.heap.size, 0, none⟩) 0 0) [] := by
  have := World.ownsRow_lit (base := w.heap.size) (e := 44) (size := KE.k) w #[] 0 (Nat.le_refl _) (by unfold maxLen; omega) (by simp)
  exact this
theorem qclo_any (L : List En) (B : Nat) (v : Value) (hl : L.length ≤ 4096) (w : World) (ho : OwG KE 44 w B v L) : Calls Try.prog 53 #[v] w fun e w' => ∃ v', e = .returned v' ∧ OwG KE 44 w' w.heap.size v' L ∧ Still w w' := by
  have hnil := fun (W : World) ao n cap => Lib.run_eql_slice_nil (P := Try.prog) W 88 44 ao n cap 0 0 Try.underlying88
  rcases ho.2 with ⟨rfl, h0⟩ | ⟨g, cap, cur, rfl, hb, hg, hn, hm, hs, ht⟩
  · obtain rfl : L = [] := List.eq_nil_of_length_eq_zero h0
    clear ho h0
    go_enter Try.func53, Try.ntmps53
    go_wp2_with fail
    go_ret
    exact ⟨_, rfl, OwG.nil _ _, Fr.refl _ _⟩
  · have A1 := Still.alloc w (.cells #[] 44)
    have HO1 := hid (OwG.none0 w)
    have HS1 := hid A1
    have HNW := hid (World.ownsRow.cells (ho.still A1) (g := g) rfl)
    obtain ⟨i, hi, hz, h1, h2⟩ := infoE
    have HI := hid (And.intro hi (And.intro hz (And.intro h1 h2)))
    have HL := hid (show 0 + L.length ≤ maxLen ∧ (0 + L.length) * 64 ≤ 140737488355328 from ⟨by unfold maxLen; omega, by omega⟩)
    have HB := hid (show w.heap.size ≤ (w.alloc (.cells #[] 44)).heap.size by simp)
    clear ho A1 hb hg hn hm hs ht hi hz h1 h2
    go_enter Try.func53, Try.ntmps53
    go_wp2_with (at_builtin; refine wpList_append_own (P := Try.prog) _ rfl _ _ _ rfl w.heap.size 44 i (.agg (KE.f KE.d).toArray) KE.k 64 rfl HI.out.1 HI.out.2.1 HI.out.2.2.1 HI.out.2.2.2 (by simp [Value.cells, KE.len]) KE.pos (.slice (some ⟨w.heap.size, 0, none⟩) 0 0) 0 [] rfl HO1.out ⟨g, 0, none⟩ L.length cap (KE.row L) rfl (by rw [KE.row_len]) HNW.out (KE.row_one L) HL.out.1 HL.out.2 HB.out ?_; intro v' w' hown hgr _)
    have ho2 : OwG KE 44 w' w.heap.size v' L := by
      unfold OwG
      rw [Nat.zero_add, List.nil_append] at hown
      exact hown
    have HO2 := hid ho2
    have HS2 : Hid (Still w w') := hid (Fr.trans HS1.out (F := fun _ => False) (G := fun k => k = w.heap.size) ⟨hgr.os, hgr.tape, hgr.output, hgr.size, fun k hk hn => hgr.block k hk (fun e => hn (by simpa [Value.ownBlock] using e))⟩ (fun k hk e => by omega))
    obtain ⟨ao2, cap2, e2, _⟩ := ho2.slice
    subst e2
    clear hown hgr ho2
    go_ret
    exact ⟨_, rfl, HO2.out, HS2.out⟩
theorem Qk.less {w : World} {B B' p : Nat} {v : Value} {L : List En} (h : Qk w B p v L) (hb : B' ≤ B) : Qk w B' p v L := ⟨h.bk, h.ow.less hb, by have := h.lo; omega⟩
end Go.Proofs.Ytdmgalaajgebkaa
