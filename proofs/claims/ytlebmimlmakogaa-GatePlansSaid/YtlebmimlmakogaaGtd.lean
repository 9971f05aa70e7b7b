/- Stage 21, the program's Marks, least, Least. -/
import Derived.Test.YtlebmimlmakogaaGtc
import Derived.Test.YtlebmimlmakogaaSlD
import Derived.Deep.RegionHeld3
namespace Go.Proofs.Ytlebmimlmakogaa
open Go.RowKit
set_option maxRecDepth 100000

theorem OwG.noneJ (w : World) : OwG KJ i64T (w.alloc (.cells #[] i64T)) w.heap.size (.slice (some ⟨w.heap.size, 0, none⟩) 0 0) [] := by
  have := World.ownsRow_lit (base := w.heap.size) (e := i64T) (size := KJ.k) w #[] 0 (Nat.le_refl _) (by unfold maxLen; omega) (by simp)
  exact this
/-- a row of its own -/
def Nr (w : World) (e : Ending) (w' : World) (n : Nat) (L : List Int) : Prop := ∃ g c, e = .returned (.slice (some ⟨g, 0, none⟩) n c) ∧ OwG KJ i64T w' w.heap.size (.slice (some ⟨g, 0, none⟩) n c) L ∧ Still w w'
set_option maxHeartbeats 1000000 in
theorem gclo_any {w : World} {t : TypeId} {B p s g n : Nat} {L : List Int} (h : Gt t w B p s g n L) : Calls Try.prog 20 #[.slice (some ⟨g, 0, none⟩) n n] w fun e w' => Nr w e w' n L := by
  have hnil := fun (W : World) ao n cap => Lib.run_eql_slice_nil (P := Try.prog) W rowT i64T ao n cap 0 0 Try.underlying35
  have A1 := Still.alloc w (.cells #[] i64T)
  have HO1 := hid (OwG.noneJ w)
  have HS1 := hid A1
  have HNW := hid (World.ownsRow.cells (h.ow.still A1) (g := g) rfl)
  obtain ⟨i, hi, hz, h1, h2⟩ := infoJ
  have HI := hid (And.intro hi (And.intro hz (And.intro h1 h2)))
  have HN := hid h.len
  have hl6 := h.l6
  have HL := hid (show 0 + n ≤ maxLen ∧ (0 + n) * 8 ≤ 140737488355328 from ⟨by unfold maxLen; omega, by omega⟩)
  have HP := hid (show 0 < n by have := h.l2; omega)
  have HB := hid (show w.heap.size ≤ (w.alloc (.cells #[] i64T)).heap.size by simp)
  clear h A1 hi hz h1 h2
  go_enter Try.func20, Try.ntmps20
  go_wp2_with (at_builtin; refine wpList_append_own (P := Try.prog) _ rfl _ _ _ rfl w.heap.size i64T i (.int .i64 0) KJ.k 8 rfl HI.out.1 HI.out.2.1 HI.out.2.2.1 HI.out.2.2.2 rfl KJ.pos (.slice (some ⟨w.heap.size, 0, none⟩) 0 0) 0 [] rfl HO1.out ⟨g, 0, none⟩ n n (KJ.row L) rfl (by rw [KJ.row_len, HN.out]) HNW.out (KJ.row_one L) HL.out.1 HL.out.2 HB.out ?_; intro v' w' hown hgr _)
  have ho2 : OwG KJ i64T w' w.heap.size v' L := by
    unfold OwG
    rw [Nat.zero_add, List.nil_append] at hown
    rw [HN.out]
    exact hown
  have HO2 := hid ho2
  have HS2 : Hid (Still w w') := hid (Fr.trans HS1.out (F := fun _ => False) (G := fun k => k = w.heap.size) ⟨hgr.os, hgr.tape, hgr.output, hgr.size, fun k hk hn => hgr.block k hk (fun e => hn (by simpa [Value.ownBlock] using e))⟩ (fun k hk e => by omega))
  obtain ⟨g2, cap2, e2, _, _⟩ := ho2.head (by rw [HN.out]; exact HP.out)
  rw [HN.out] at e2
  subst e2
  clear hown hgr ho2
  go_ret
  exact ⟨_, _, rfl, HO2.out, HS2.out⟩
theorem gmarks_any {w : World} {B p s g n : Nat} {L : List Int} (h : Gt gT w B p s g n L) : Calls Try.prog 10 #[.pointer (some ⟨p, 0, none⟩)] w fun e w' => Nr w e w' n L := by
  obtain ⟨c0, c1⟩ := h.cells
  have HC := hid (gclo_any h)
  clear h
  go_enter Try.func10, Try.ntmps10
  go_wp2_with fail
  refine HC.out.mono ?_
  rintro e w2 ⟨g2, c2, he, ho2, hs2⟩
  rw [he]
  have HO := hid ho2
  have HS := hid hs2
  clear he HC ho2 hs2
  go_wp2_with fail
  go_ret
  exact ⟨_, _, rfl, HO.out, HS.out⟩
/-- a row put in place: nothing else turns -/
theorem fr_putRow {α : Type} [Inhabited α] (enc : α → Value) (w : World) (q g o : Nat) (d : Array α) : Fr (fun k => k = g) w (Go.Sort.putRow enc (Go.Sort.ahead w q) g o d) :=
  ⟨rfl, rfl, rfl, by rw [Go.Sort.size_putRow]; exact Nat.le_refl _, fun k hk hn => by
    show (w.heap.modify g _)[k]? = w.heap[k]?
    rw [Array.getElem?_modify, if_neg (fun e => hn e.symm)]⟩
theorem gdel_any {w : World} {B g n c s : Nat} {L : List Int} (ho : OwG KJ i64T w B (.slice (some ⟨g, 0, none⟩) n c) L) (hl : L.length = n) (hs : s < n) (h6 : n ≤ 6) : Calls Try.prog 21 #[.slice (some ⟨g, 0, none⟩) n c, .int .i64 (s : Int), .int .i64 ((s + 1 : Nat) : Int)] w fun e w' => e = .returned (.slice (some ⟨g, 0, none⟩) (n - 1) c) ∧ RdG KJ w' (some ⟨g, 0, none⟩) (n - 1) (oth s L) ∧ Fr (fun k => k = g) w w' := by
  obtain ⟨cc, hcap, hmax⟩ : ∃ cc, n ≤ cc ∧ cc = c ∧ c ≤ 9223372036854775807 := by
    rcases ho.2 with ⟨hv, _⟩ | ⟨g', cap, cur, hv, hb, hg, hnc, hm, _⟩
    · cases hv
    · cases hv
      exact ⟨_, hnc, rfl, by unfold maxLen at hm; omega⟩
  obtain ⟨rfl, hmax⟩ := hmax
  have hH : Go.Sort.Holds (Value.int .i64) w g 0 L.toArray := fun j hj => by
    have hj' : j < L.length := by simpa using hj
    refine ⟨?_, ho.frozen _⟩
    rw [Nat.zero_add, owJ ho hj']
    simp [List.getD, hj']
  obtain ⟨i, hi, hz, h1, h2⟩ := infoJ
  have := AnyE.slices_Delete Try.delE (Value.int .i64) (fun _ => rfl) 0 Try.zeroValue2 i hi h1 g 0 cc s (s + 1) L.toArray w hH (by simpa [hl] using hcap) hmax (by omega) (by simp [hl]; omega)
  have e1 : L.toArray.size = n := by simp [hl]
  rw [e1] at this
  refine Calls.mono this ?_
  rintro e w' ⟨he, q, hw⟩
  refine ⟨by rw [he]; congr 2; omega, ?_, by rw [hw]; exact fr_putRow _ _ _ _ _ _⟩
  have hsz : (List.take s L ++ List.drop (s + 1) L ++ List.replicate (s + 1 - s) (0 : Int)).toArray.size = L.toArray.size := by simp; omega
  have hh := Go.Sort.holds_putRow (Value.int .i64) (Go.Sort.ahead w q) g 0 L.toArray _ (Go.Sort.holds_ahead _ w q g 0 _ hH) hsz
  rw [hw]
  refine ⟨by rw [oth_len (by omega)]; omega, by omega, .inr ⟨g, 0, rfl, fun k hk j u hu => ?_⟩⟩
  have hj : j = 0 := by
    have := (List.getElem?_eq_some_iff.1 hu).1
    simp [KJ] at this
    omega
  subst hj
  simp [KJ] at hu
  subst hu
  have h3 := (hh k (by rw [hsz]; simp; omega)).1
  rw [show 0 + k * KJ.k + 0 = 0 + k by simp [KJ]]
  have hko : k < (List.take s L ++ List.drop (s + 1) L).length := by
    have := oth_len (s := s) (L := L) (by omega)
    unfold oth at this
    omega
  have e3 : (List.take s L ++ List.drop (s + 1) L ++ List.replicate (s + 1 - s) (0 : Int)).toArray[k]! = (oth s L)[k]?.getD 0 := by
    rw [getElem!_pos _ k (by rw [hsz]; simp; omega), List.getElem_toArray, List.getElem_append_left hko]
    unfold oth
    rw [List.getElem?_eq_getElem hko]
    rfl
  rw [e3] at h3
  exact h3
theorem gleastv_any (a : Int) (ao : Option Addr) (m c : Nat) (M : List Int) (hm : m ≤ 100) (w : World) (hr : RdG KJ w ao m M) : Calls Try.prog 22 #[.int .i64 a, .slice ao m c] w fun e w' => e = .returned (.int .i64 (fm a M)) ∧ w' = w := by
  have HR := hid hr
  have HE : Hid (fm a (M.take m) = fm a M) := hid (by rw [List.take_of_length_le (by rw [hr.1]; exact Nat.le_refl _)])
  have HL := hid hr.1
  clear hr
  go_enter Try.func22, Try.ntmps22
  go_wp2_with fail
  go_loopw [9, 0] (fun u v wr => wr = w ∧ ∃ k : Nat, k ≤ m ∧ u = .int .i64 (k : Int) ∧ v = .int .i64 (fm a (M.take k))) (fun u _ _ => m - (intOf u).toNat)
  case atStart => exact ⟨rfl, 0, by omega, rfl, rfl⟩
  case round =>
    obtain ⟨rfl, k, hk, rfl, rfl⟩ := hrel
    by_cases hkm : k < m
    · have hlt : (k : Int) < (m : Int) := by omega
      obtain ⟨G, o, rfl⟩ := HR.out.at (by omega)
      have c0 := rdJ HR.out hkm
      have HF := hid (fm_take M a k (by rw [HL.out]; exact hkm))
      go_wp2_with fail
      go_roundw
      case rel => exact ⟨by trivial, k + 1, by omega, by go_num, by rw [HF.out]; rfl⟩
      case measure => simp [intOf]; omega
    · have hge : ¬ (k : Int) < (m : Int) := by omega
      obtain rfl : k = m := by omega
      go_wp2_with fail
      go_ret
      exact ⟨by rw [← HE.out]; rfl, rfl⟩
theorem run_from1 (w : World) (g m cap : Nat) (h1 : 1 ≤ m) (hc : 1 < cap) : (Instr.slice rowT (.slice (some ⟨g, 0, none⟩) m cap) (some (.int .i64 1)) none none).run Try.prog w = .ok (.slice (some ⟨g, 1, none⟩) (m - 1) (cap - 1)) w := by
  have ht' : Try.prog.underlying rowT = some (.slice (Try.prog.elem rowT)) := by simp [Program.elem, Try.underlying35]
  have he : Try.prog.elem rowT = i64T := by simp [Program.elem, Try.underlying35]
  rw [run_slice_l w rowT (some ⟨g, 0, none⟩) m cap ht' .i64 1 (by omega) (by omega), he]
  obtain ⟨inf, h1, _, h2, _⟩ := infoJ
  have hne : ¬ cap = 1 := by omega
  simp [sizeOf, typeInfo, h1, h2, Result.andThen, sliced, KJ, hne, add_plain]
end Go.Proofs.Ytlebmimlmakogaa
