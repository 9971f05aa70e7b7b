/- The program's Deliver, Drop, Double. -/
import Derived.Test.YtakdfckkljbghaaBgd
namespace Go.Proofs.Ytakdfckkljbghaa
open Go.RowKit
set_option maxRecDepth 100000

theorem infoPv : ∃ i, Try.prog.info? 43 = some i ∧ i.zero = some (pvl zPl) ∧ i.size = 4 ∧ i.bytes = 48 := ⟨_, rfl, rfl, rfl, rfl⟩
set_option maxHeartbeats 1000000 in
theorem bdeliver_no (p mb : Nat) (la : Int) (L : List Pcl) (k : Int) (hk : -9223372036854775808 ≤ k ∧ k ≤ 9223372036854775807) (w : World) (hb : Bk w p mb la L) (hf : fndP L k = none) : Calls Try.prog 11 #[.pointer (some ⟨p, 0, none⟩), .int .i64 k] w fun e w' => e = .returned (.tuple #[pvl zPl, .int .i64 170]) ∧ Still w w' := by
  have A0 := Still.alloc w (.cells (pls zPl) 43)
  have hb0 := hb.still A0
  obtain ⟨W0, eW0⟩ : ∃ W, newPl w zPl = W := ⟨_, rfl⟩
  obtain ⟨g, eg⟩ : ∃ g, w.heap.size = g := ⟨_, rfl⟩
  have hb0 : Bk W0 p mb la L := by rw [← eW0]; exact hb0
  have hs0 : Still w W0 := by rw [← eW0]; exact A0
  have p0 : Plb W0 g zPl := by rw [← eW0, ← eg]; exact newPl_b w zPl
  have hz0 : W0.heap.size = g + 1 := by rw [← eW0, ← eg]; exact size_alloc _ _
  obtain ⟨c0, c1, cf⟩ := hb0.cell
  have hlk : (Instr.lookup 55 (.map (some mb)) (.int .i64 k) true).run Try.prog W0 = .ok (.tuple #[pvl zPl, .bool false]) W0 := by
    rcases hb0.look hk with ⟨x, h1, _⟩ | ⟨_, h2⟩
    · rw [hf] at h1; cases h1
    · exact h2
  obtain ⟨W1, eW1⟩ : ∃ W, newPl W0 zPl = W := ⟨_, rfl⟩
  have A1 : Still W0 W1 := by rw [← eW1]; exact Still.alloc _ _
  have p1 : Plb W1 (g + 1) zPl := by rw [← eW1, ← hz0]; exact newPl_b W0 zPl
  have p2 := p1.put zPl
  obtain ⟨W2, eW2⟩ : ∃ W, setPl W1 (g + 1) zPl = W := ⟨_, rfl⟩
  have f2 : Still W0 W2 := by rw [← eW2]; exact setPl_fr A1 _ _ (.inr (by omega))
  have q0 : Plb W2 g zPl := p0.still f2
  have HQ := hid (q0.put zPl)
  have HS : Hid (Still w (setPl W2 g zPl)) := hid (setPl_fr (hs0.trans f2) _ _ (.inr (by omega)))
  obtain ⟨d0, d1, d2, d3, df⟩ := q0.cells
  obtain ⟨x0, x1, x2, x3, xf⟩ := p1.cells
  simp only [newPl, setPl, zPl] at eW0 eW1 eW2
  simp only [zPl] at hlk d0 d1 d2 d3 x0 x1 x2 x3
  clear A0 hb0 hb hs0 p0 A1 p1 p2 f2 q0 hf
  go_enter Try.func11, Try.ntmps11
  go_upto_region 2 with fail
  clear eW0 eW1 eW2 hlk x0 x1 x2 x3 xf c0 c1 cf
  go_wp2_with fail
  refine bodyPost_ret (HQ.out.rest rfl _ _ rfl rfl) rfl ?_
  exact ⟨rfl, HS.out⟩
set_option maxHeartbeats 1000000 in
theorem bdeliver_yes (p mb : Nat) (la : Int) (L : List Pcl) (k : Int) (x : Pcl) (hk : -9223372036854775808 ≤ k ∧ k ≤ 9223372036854775807) (w : World) (hb : Bk w p mb la L) (hf : fndP L k = some x) : Calls Try.prog 11 #[.pointer (some ⟨p, 0, none⟩), .int .i64 k] w fun e w' => ∃ y, e = .returned (.tuple #[pvl y, .int .i64 0]) ∧ NewQ w w' x y ∧ Bk w' p mb la (delP L k) ∧ Fr (fun j => j = mb) w w' := by
  have A0 := Still.alloc w (.cells (pls zPl) 43)
  have hb0 := hb.still A0
  obtain ⟨W0, eW0⟩ : ∃ W, newPl w zPl = W := ⟨_, rfl⟩
  obtain ⟨g, eg⟩ : ∃ g, w.heap.size = g := ⟨_, rfl⟩
  have hb0 : Bk W0 p mb la L := by rw [← eW0]; exact hb0
  have hs0 : Still w W0 := by rw [← eW0]; exact A0
  have p0 : Plb W0 g zPl := by rw [← eW0, ← eg]; exact newPl_b w zPl
  have hz0 : W0.heap.size = g + 1 := by rw [← eW0, ← eg]; exact size_alloc _ _
  obtain ⟨c0, c1, cf⟩ := hb0.cell
  have hlk : (Instr.lookup 55 (.map (some mb)) (.int .i64 k) true).run Try.prog W0 = .ok (.tuple #[pvl x, .bool true]) W0 := by
    rcases hb0.look hk with ⟨y, h1, h2⟩ | ⟨h1, _⟩
    · rw [hf] at h1; cases h1; exact h2
    · rw [hf] at h1; cases h1
  obtain ⟨W1, eW1⟩ : ∃ W, newPl W0 zPl = W := ⟨_, rfl⟩
  have A1 : Still W0 W1 := by rw [← eW1]; exact Still.alloc _ _
  have p1 : Plb W1 (g + 1) zPl := by rw [← eW1, ← hz0]; exact newPl_b W0 zPl
  have p2 := p1.put x
  obtain ⟨W2, eW2⟩ : ∃ W, setPl W1 (g + 1) x = W := ⟨_, rfl⟩
  rw [eW2] at p2
  have f2 : Still W0 W2 := by rw [← eW2]; exact setPl_fr A1 _ _ (.inr (by omega))
  have HP2 := hid p2
  have HQ0 : Hid (Plb W2 g zPl) := hid (p0.still f2)
  have HB2 := hid (hb0.still f2)
  have HS2 : Hid (Still w W2) := hid (hs0.trans f2)
  have HX : Hid (Rq W2 x) := hid (HB2.out.rd x (fndP_some hf).1)
  have hmg : mb < g := by have := hb.lt.2; omega
  have HG : Hid (w.heap.size = g) := hid eg
  have HK := hid (keyI hk)
  obtain ⟨x0, x1, x2, x3, xf⟩ := p1.cells
  have c1' : W2.cell? ⟨p, 1, none⟩ = some (.map (some mb)) := HB2.out.cell.2.1
  simp only [newPl, setPl, zPl] at eW0 eW1 eW2
  simp only [zPl] at x0 x1 x2 x3
  clear A0 hb0 hb hs0 p0 A1 p1 p2 f2 hf hk
  go_enter Try.func11, Try.ntmps11
  go_upto_region 4 with fail
  clear eW0 eW1 eW2 hz0 eg hlk x0 x1 x2 x3 xf c0 c1 cf
  go_wp2_with (
    at_delete
    refine wpList_delete_own _ rfl _ _ 55 3 rfl 43 lawI Try.underlying55 Rh mb la.toNat (mpD L) rfl HB2.out.mp _ _ rfl HK.out ?_
    intro w3 hm3 ht3
    have f3 := turned_fr ht3
    have HB3 := hid (HB2.out.dropped hm3 ht3)
    have HP3 : Hid (Plb w3 (g + 1) x) := hid (HP2.out.keep f3 (by omega))
    have HQ3 : Hid (Plb w3 g zPl) := hid (HQ0.out.keep f3 (by omega))
    have HX3 : Hid (Rq w3 x) := hid (HX.out.keep f3 (fun j hj => HB2.out.nbt j (.inr hj)))
    have HF3 : Hid (Fr (fun j => j = mb) w w3) := hid (Fr.trans (Still.to HS2.out) f3 (fun _ _ e => e))
    have HC := hid (hand_any x w3 HX3.out)
    obtain ⟨x0, x1, x2, x3, xf⟩ := HP3.out.cells
    clear hm3 ht3 f3 HP2 HQ0 HX HB2 c1')
  refine HC.out.mono ?_
  rintro e w4 ⟨y, he, hn4, hs4⟩
  rw [he]
  have q4 := HQ3.out.still hs4
  have q5 := q4.put y
  have f5 : Fr (fun j => j = g) w4 (setPl w4 g y) := setPl_fr (Fr.refl _ w4) _ _ (.inl rfl)
  have HQ5 := hid q5
  have HF5 : Hid (Fr (fun j => j = mb) w (setPl w4 g y)) := hid (setPl_fr (Fr.trans HF3.out hs4 (fun _ _ e => e.elim)) _ _ (.inr (by rw [HG.out]; exact Nat.le_refl _)))
  have hng : ∀ j, j = g → Nbt w4 j := fun j hj => by subst hj; exact Nbt.of q4 (by decide)
  have HN5 : Hid (NewQ w (setPl w4 g y) x y) := hid ⟨hn4.ab, hn4.q.keep f5 hng, fun a ha => by have := hn4.nw a ha; have := HF3.out.size; omega⟩
  have HB5 : Hid (Bk (setPl w4 g y) p mb la (delP L k)) := hid (by
    have hb4 := HB3.out.still hs4
    refine hb4.keep f5 (fun e => ?_) (fun e => by omega) (fun z hz a ha e => ?_)
    · have := hb4.bk
      rw [e, q4] at this
      injection this with h1
      injection h1 with _ h2
      exact absurd h2 (by decide)
    · obtain ⟨_, _, cur, hg, _⟩ := (hb4.rd z hz).ow.row a ha
      exact hng _ e cur hg)
  obtain ⟨d0, d1, d2, d3, df⟩ := q4.cells
  clear he hn4 hs4 q4 q5 f5 hng HC HQ3 HF3 HB3
  go_wp2_with fail
  refine bodyPost_ret (HQ5.out.rest rfl _ _ rfl rfl) rfl ?_
  exact ⟨y, rfl, HN5.out, HB5.out, HF5.out⟩
set_option maxHeartbeats 1000000 in
theorem bdrop_any (p mb : Nat) (la : Int) (L : List Pcl) (k : Int) (hk : -9223372036854775808 ≤ k ∧ k ≤ 9223372036854775807) (w : World) (hb : Bk w p mb la L) : Calls Try.prog 14 #[.pointer (some ⟨p, 0, none⟩), .int .i64 k] w fun e w' => e = .returned (.int .i64 (if (fndP L k).isSome then 0 else 170)) ∧ Bk w' p mb la (delP L k) ∧ Fr (fun j => j = mb) w w' := by
  obtain ⟨c0, c1, cf⟩ := hb.cell
  obtain ⟨g, eg⟩ : ∃ g, w.heap.size = g := ⟨_, rfl⟩
  obtain ⟨W1, eW1⟩ : ∃ W, newPl w zPl = W := ⟨_, rfl⟩
  have A1 : Still w W1 := by rw [← eW1]; exact Still.alloc _ _
  have p1 : Plb W1 g zPl := by rw [← eW1, ← eg]; exact newPl_b w zPl
  obtain ⟨x0, x1, x2, x3, xf⟩ := p1.cells
  rcases hb.look hk with ⟨x, hf, hlk⟩ | ⟨hf, hlk⟩
  · obtain ⟨W2, eW2⟩ : ∃ W, setPl W1 g x = W := ⟨_, rfl⟩
    have f2 : Still w W2 := by rw [← eW2]; exact setPl_fr A1 _ _ (.inr (by omega))
    have HB2 := hid (hb.still f2)
    have HS2 := hid f2
    have HK := hid (keyI hk)
    have c1' : W2.cell? ⟨p, 1, none⟩ = some (.map (some mb)) := HB2.out.cell.2.1
    simp only [newPl, setPl, zPl] at eW1 eW2
    simp only [zPl] at x0 x1 x2 x3
    rw [hf]
    clear A1 p1 f2 hf hk hb
    go_enter Try.func14, Try.ntmps14
    go_upto_region 4 with fail
    clear eW1 eW2 hlk x0 x1 x2 x3 xf c0 c1 cf eg
    go_wp2_with (
      at_delete
      refine wpList_delete_own _ rfl _ _ 55 3 rfl 43 lawI Try.underlying55 Rh mb la.toNat (mpD L) rfl HB2.out.mp _ _ rfl HK.out ?_
      intro w3 hm3 ht3
      have f3 := turned_fr ht3
      have HB3 := hid (HB2.out.dropped hm3 ht3)
      have HF3 : Hid (Fr (fun j => j = mb) w w3) := hid (Fr.trans (Still.to HS2.out) f3 (fun _ _ e => e))
      clear hm3 ht3 f3 HB2 c1')
    go_ret
    exact ⟨rfl, HB3.out, HF3.out⟩
  · obtain ⟨W2, eW2⟩ : ∃ W, setPl W1 g zPl = W := ⟨_, rfl⟩
    have f2 : Still w W2 := by rw [← eW2]; exact setPl_fr A1 _ _ (.inr (by omega))
    have HB2 := hid (hb.still f2)
    have HS2 : Hid (Fr (fun j => j = mb) w W2) := hid (Still.to f2)
    simp only [newPl, setPl, zPl] at eW1 eW2
    simp only [zPl] at x0 x1 x2 x3 hlk
    rw [hf, delP_none hf]
    clear A1 p1 f2 hf hk hb
    go_enter Try.func14, Try.ntmps14
    go_upto_region 2 with fail
    clear eW1 eW2 hlk x0 x1 x2 x3 xf c0 c1 cf eg
    go_wp2_with fail
    go_ret
    exact ⟨rfl, HB2.out, HS2.out⟩
set_option maxHeartbeats 1000000 in
theorem bdouble_no (p mb : Nat) (la : Int) (L : List Pcl) (k : Int) (hk : -9223372036854775808 ≤ k ∧ k ≤ 9223372036854775807) (w : World) (hb : Bk w p mb la L) (hf : fndP L k = none) : Calls Try.prog 13 #[.pointer (some ⟨p, 0, none⟩), .int .i64 k] w fun e w' => e = .returned (.tuple #[.int .i64 0, .int .i64 170]) ∧ Still w w' := by
  obtain ⟨c0, c1, cf⟩ := hb.cell
  obtain ⟨g, eg⟩ : ∃ g, w.heap.size = g := ⟨_, rfl⟩
  obtain ⟨W1, eW1⟩ : ∃ W, newPl w zPl = W := ⟨_, rfl⟩
  have A1 : Still w W1 := by rw [← eW1]; exact Still.alloc _ _
  have p1 : Plb W1 g zPl := by rw [← eW1, ← eg]; exact newPl_b w zPl
  obtain ⟨x0, x1, x2, x3, xf⟩ := p1.cells
  have hlk : (Instr.lookup 55 (.map (some mb)) (.int .i64 k) true).run Try.prog w = .ok (.tuple #[pvl zPl, .bool false]) w := by
    rcases hb.look hk with ⟨x, h1, _⟩ | ⟨_, h2⟩
    · rw [hf] at h1; cases h1
    · exact h2
  obtain ⟨W2, eW2⟩ : ∃ W, setPl W1 g zPl = W := ⟨_, rfl⟩
  have f2 : Still w W2 := by rw [← eW2]; exact setPl_fr A1 _ _ (.inr (by omega))
  have HS2 : Hid (Still w W2) := hid f2
  simp only [newPl, setPl, zPl] at eW1 eW2
  simp only [zPl] at x0 x1 x2 x3 hlk
  clear A1 p1 f2 hf hk hb
  go_enter Try.func13, Try.ntmps13
  go_upto_region 2 with fail
  clear eW1 eW2 hlk x0 x1 x2 x3 xf c0 c1 cf eg
  go_wp2_with fail
  go_ret2
  exact ⟨rfl, HS2.out⟩
set_option maxHeartbeats 1000000 in
theorem bdouble_yes (p mb : Nat) (la : Int) (L : List Pcl) (k : Int) (x : Pcl) (hla : la < 4611686018427387904) (hk : -9223372036854775808 ≤ k ∧ k ≤ 9223372036854775807) (w : World) (hb : Bk w p mb la L) (hf : fndP L k = some x) : Calls Try.prog 13 #[.pointer (some ⟨p, 0, none⟩), .int .i64 k] w fun e w' => e = .returned (.tuple #[.int .i64 (la + 1), .int .i64 0]) ∧ Bk w' p mb (la + 1) (L ++ [noP x (la + 1)]) ∧ Fr (fun j => j = p ∨ j = mb) w w' := by
  obtain ⟨c0, c1, cf⟩ := hb.cell
  obtain ⟨g, eg⟩ : ∃ g, w.heap.size = g := ⟨_, rfl⟩
  obtain ⟨W1, eW1⟩ : ∃ W, newPl w zPl = W := ⟨_, rfl⟩
  have A1 : Still w W1 := by rw [← eW1]; exact Still.alloc _ _
  have p1 : Plb W1 g zPl := by rw [← eW1, ← eg]; exact newPl_b w zPl
  obtain ⟨x0, x1, x2, x3, xf⟩ := p1.cells
  have hlk : (Instr.lookup 55 (.map (some mb)) (.int .i64 k) true).run Try.prog w = .ok (.tuple #[pvl x, .bool true]) w := by
    rcases hb.look hk with ⟨y, h1, h2⟩ | ⟨h1, _⟩
    · rw [hf] at h1; cases h1; exact h2
    · rw [hf] at h1; cases h1
  obtain ⟨W2, eW2⟩ : ∃ W, setPl W1 g x = W := ⟨_, rfl⟩
  have p2 : Plb W2 g x := by rw [← eW2]; exact p1.put x
  have f2 : Still w W2 := by rw [← eW2]; exact setPl_fr A1 _ _ (.inr (by omega))
  have HS2 : Hid (Still w W2) := hid f2
  have hb2 := hb.still f2
  have HC := hid (bput_any p mb la L x hla W2 hb2 (hb2.rd x (fndP_some hf).1))
  obtain ⟨y0, y1, y2, y3, yf⟩ := p2.cells
  simp only [newPl, setPl, zPl] at eW1 eW2
  simp only [zPl] at x0 x1 x2 x3
  clear A1 p1 f2 hf hk hb hb2 p2
  go_enter Try.func13, Try.ntmps13
  go_upto_region 4 with fail
  clear eW1 eW2 hlk x0 x1 x2 x3 xf c0 c1 cf eg
  go_wp2_with fail
  refine HC.out.mono ?_
  rintro e w3 ⟨he, hb3, hf3⟩
  rw [he]
  have HB3 := hid hb3
  have HF3 : Hid (Fr (fun j => j = p ∨ j = mb) w w3) := hid (Fr.trans (Still.to HS2.out) hf3 (fun _ _ e => e))
  clear he hb3 hf3 HC
  go_wp2_with fail
  go_ret2
  exact ⟨rfl, HB3.out, HF3.out⟩
end Go.Proofs.Ytakdfckkljbghaa
