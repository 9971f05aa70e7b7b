/- The program's put, Send. -/
import Derived.Test.YtakdfckkljbghaaBgc
namespace Go.Proofs.Ytakdfckkljbghaa
open Go.RowKit
set_option maxRecDepth 100000

def noP (x : Pcl) (k : Int) : Pcl := ⟨k, x.fr, x.td, x.ao, x.n, x.cap, x.bs⟩
theorem lt_of_map {w : World} {p mb : Nat} {la : Int} {L : List Pcl} (h : Bk w p mb la L) : L.length ≤ la.toNat := by
  have := h.mp.size_le
  rwa [mpD_size] at this
/-- behind the store of a new one -/
theorem Bk.stored {w w2 w' : World} {p mb : Nat} {la : Int} {L : List Pcl} {x : Pcl} {F : Nat → Prop} (h : Bk w p mb la L) (hx : Rq w x) (hf : Fr F w w2) (hF : ∀ k, F k → Nbt w k) (hb : w2.heap[p]? = some (.cells #[.int .i64 (la + 1), .map (some mb)] 57 (0, 0)))
    (hm : w'.ownsMap Try.prog 3 Rh mb (la.toNat + 1) ((mpD L).put (.int .i64 (la + 1)) (.held (pvl (noP x (la + 1)))))) (ht : w2.mapTurned w' mb) : Bk w' p mb (la + 1) (L ++ [noP x (la + 1)]) := by
  have hf2 := turned_fr ht
  have hlt : ∀ y ∈ L, y.no < (noP x (la + 1)).no := fun y hy => by have := (h.le y hy).2; show y.no < la + 1; omega
  have e : (mpD L).put (.int .i64 (la + 1)) (.held (pvl (noP x (la + 1)))) = mpD (L ++ [noP x (la + 1)]) := mpD_put L (noP x (la + 1)) hlt
  rw [e] at hm
  have hn2 : Nbt w2 mb := by
    obtain ⟨es, c, es', c', hb', _⟩ := ht
    exact Nbt.map hb'
  have l0 := h.l0
  refine ⟨hf2.kept hb (fun e => ?_), ?_, h.up.snoc hlt, fun y hy => ?_, fun y hy => ?_, by omega⟩
  · obtain ⟨es, c, es', c', hb', _⟩ := ht
    rw [← e, hb] at hb'
    cases hb'
  · rw [show (la + 1).toNat = la.toNat + 1 by omega]; exact hm
  · rcases List.mem_append.1 hy with hy | hy
    · have := h.le y hy; omega
    · rw [List.mem_singleton] at hy
      subst hy
      show 1 ≤ la + 1 ∧ la + 1 ≤ la + 1
      omega
  · have hq : Rq w2 y := by
      rcases List.mem_append.1 hy with hy | hy
      · exact (h.rd y hy).keep hf hF
      · rw [List.mem_singleton] at hy
        subst hy
        exact Rq.keep (x := noP x (la + 1)) ⟨hx.ow, hx.le⟩ hf hF
    exact hq.keep hf2 (fun k hk => by subst hk; exact hn2)
set_option maxHeartbeats 1000000 in
theorem bput_any (p mb : Nat) (la : Int) (L : List Pcl) (x : Pcl) (hla : la < 4611686018427387904) (w : World) (hb : Bk w p mb la L) (hx : Rq w x) : Calls Try.prog 23 #[.pointer (some ⟨p, 0, none⟩), pvl x] w fun e w' => e = .returned (.int .i64 (la + 1)) ∧ Bk w' p mb (la + 1) (L ++ [noP x (la + 1)]) ∧ Fr (fun k => k = p ∨ k = mb) w w' := by
  have l0 := hb.l0
  have A0 := Still.alloc w (.cells (pls x) 43)
  have p0 := newPl_b w x
  have hb0 := hb.still A0
  obtain ⟨c0, c1, cf⟩ := hb0.cell
  obtain ⟨g, eg⟩ : ∃ g, w.heap.size = g := ⟨_, rfl⟩
  obtain ⟨W0, eW0⟩ : ∃ W, newPl w x = W := ⟨_, rfl⟩
  have hs0 : Still w W0 := by rw [← eW0]; exact A0
  have hpg : p ≠ g := by have := hb.lt.1; omega
  have hmg : mb ≠ g := by have := hb.lt.2; omega
  have p0 : Plb W0 g x := by rw [← eW0, ← eg]; exact p0
  have hb0 : Bk W0 p mb la L := by rw [← eW0]; exact hb0
  have c0 : W0.cell? ⟨p, 0, none⟩ = some (.int .i64 la) := by rw [← eW0]; exact c0
  have c1 : W0.cell? ⟨p, 1, none⟩ = some (.map (some mb)) := by rw [← eW0]; exact c1
  have cf : ∀ o, W0.frozen? ⟨p, o, none⟩ = false := by rw [← eW0]; exact cf
  obtain ⟨W1, eW1⟩ : ∃ W, W0.setCell ⟨p, 0, none⟩ (.int .i64 (la + 1)) = W := ⟨_, rfl⟩
  have f1 : Fr (fun k => k = p) W0 W1 := by rw [← eW1]; exact Fr.setCell (Fr.refl _ W0) _ _ (.inl rfl)
  have b1 : W1.heap[p]? = some (.cells #[.int .i64 (la + 1), .map (some mb)] 57 (0, 0)) := by rw [← eW1]; exact (heap_setCell_same W0 p 0 _ _ _ hb0.bk).trans (by rfl)
  have p1 : Plb W1 g x := p0.keep f1 (fun e => hpg e.symm)
  have d0 : W1.cell? ⟨p, 0, none⟩ = some (.int .i64 (la + 1)) := by rw [cell_of_row _ _ _ _ _ _ b1]; rfl
  obtain ⟨x0, x1, x2, x3, xf⟩ := p1.cells
  obtain ⟨W2, eW2⟩ : ∃ W, W1.setCell ⟨g, 0, none⟩ (.int .i64 (la + 1)) = W := ⟨_, rfl⟩
  have f2 : Fr (fun k => k = g) W1 W2 := by rw [← eW2]; exact Fr.setCell (Fr.refl _ W1) _ _ (.inl rfl)
  have p2 : Plb W2 g (noP x (la + 1)) := by rw [← eW2]; exact (heap_setCell_same W1 g 0 _ _ _ p1).trans (by rfl)
  have b2 := f2.kept b1 hpg
  have m2 : W2.ownsMap Try.prog 3 Rh mb la.toNat (mpD L) := grown_of f2 hmg (by have := hb0.lt.2; have := f1.size; omega) (grown_of f1 (fun e => hb0.pne e.symm) hb0.lt.2 hb0.mp)
  have HF2 : Hid (Fr (fun k => k = p) w W2) := hid (Fr.trans (Fr.trans (Still.to hs0) f1 (fun _ _ e => e)) f2 (fun k hk e => by omega))
  have HBK := hid hb
  have HX := hid hx
  have e0 : W2.cell? ⟨p, 1, none⟩ = some (.map (some mb)) := by rw [cell_of_row _ _ _ _ _ _ b2]; rfl
  have q0 := Cl.cell e0
  obtain ⟨y0, y1, y2, y3, _⟩ := p2.cells
  have q1 := Cl.cell y0
  have q2 := Cl.cell y1
  have q3 := Cl.cell y2
  have q4 := Cl.cell y3
  have hne := Aft.here W2
  have HM := hid m2
  have HB2 := hid b2
  have HP2 := hid p2
  have hw1 : IntKind.i64.wrap (la + 1) = la + 1 := by rw [IntKind.wrap_i64]; omega
  have hw2 : wrap64 (la + 1) = la + 1 := by rw [← IntWalk.i64_left, IntKind.wrap_i64]; omega
  have HK : Hid (keyOf Try.prog 3 (.int .i64 (la + 1)) = some (.int .i64 (la + 1))) := hid (keyI (by omega))
  have HN : Hid (la.toNat < maxLen) := hid (by unfold maxLen; omega)
  have HZ : Hid (Rh (pvl (noP x (la + 1))) = some (.held (pvl (noP x (la + 1))), [])) := hid rfl
  simp only [newPl] at eW0
  clear A0 hb0 hb hx hs0 p0 f1 b1 p1 f2 p2 b2 m2 e0 y0 y1 y2 y3
  go_enter Try.func23, Try.ntmps23
  go_wp2_with fail
  refine region_rest 7 (by kernel_rfl) (by kernel_rfl) ?_
  simp only [List.take_succ_cons, List.take_zero, List.drop_succ_cons, List.drop_zero]
  repeat (go_big_quiet_step (rfl))
  refine wpQuiet_nil ?_
  intro w3 h3
  have HM3 := hid (grown_of h3 (fun e => e) HM.out.lt HM.out)
  have HB3 := hid (h3.kept_still HB2.out)
  have HP3 := hid (HP2.out.still h3)
  have HF3 : Hid (Fr (fun k => k = p) w w3) := hid (Fr.trans HF2.out h3 (fun _ _ e => e.elim))
  clear h3 q0 q1 q2 q3 q4 hne HM HB2 HP2 HF2 eW0 eW1 eW2 c0 c1 cf d0 x0 x1 x2 x3 xf
  go_wp2_with (
    at_mapUpdate
    refine wpList_mapUpdate_in _ rfl _ _ _ 55 rfl 3 43 lawI Try.underlying55 Rh mb la.toNat (mpD L) rfl HM3.out HN.out _ _ (.int .i64 (la + 1)) rfl rfl HK.out _ [] HZ.out ?_
    intro w4 hm4 ht4
    have HB4 := hid (HBK.out.stored HX.out HF3.out (fun k hk => HBK.out.nbt k (.inl hk)) HB3.out hm4 ht4)
    have HF4 : Hid (Fr (fun k => k = p ∨ k = mb) w w4) := hid (Fr.trans (HF3.out.mono (fun k _ e => .inl e)) (turned_fr ht4) (fun k _ e => .inr e))
    have hp4 : Plb w4 g (noP x (la + 1)) := HP3.out.keep (turned_fr ht4) (fun e => hmg e.symm)
    obtain ⟨y0, y1, y2, y3, _⟩ := hp4.cells
    clear hm4 ht4 hp4 HM3 HB3 HP3 HF3)
  (try simp only [Exit.inBlock, Exit.then])
  go_ret
  exact ⟨rfl, HB4.out, HF4.out⟩
set_option maxHeartbeats 1000000 in
theorem bsend_any (p mb : Nat) (la : Int) (L : List Pcl) (f t : Int) (ao : Option Addr) (n cap : Nat) (bs : List UInt8) (hla : la < 4611686018427387904) (hn : n ≤ 140737488351232) (w : World) (hb : Bk w p mb la L) (hr : Rd w ao n cap bs) : Calls Try.prog 10 #[.pointer (some ⟨p, 0, none⟩), .int .i64 f, .int .i64 t, .slice ao n cap] w fun e w' => e = .returned (.int .i64 (la + 1)) ∧ ∃ y, abP y = (la + 1, f, t, bs) ∧ (∀ a, y.ao = some a → w.heap.size ≤ a.block) ∧ Bk w' p mb (la + 1) (L ++ [y]) ∧ Fr (fun k => k = p ∨ k = mb) w w' := by
  have HC := hid (bclone_any ao n cap bs (by omega) w hr)
  have HB := hid hb
  clear hb hr
  go_enter Try.func10, Try.ntmps10
  go_wp2_with fail
  refine HC.out.mono ?_
  rintro e w2 ⟨ao2, cap2, he, ho2, hs2, hb2⟩
  rw [he]
  have HP := hid (bput_any p mb la L ⟨0, f, t, ao2, n, cap2, bs⟩ hla w2 (HB.out.still hs2) ⟨ho2, hn⟩)
  have HS := hid hs2
  have HN := hid hb2
  clear he ho2 hs2 hb2 HC
  go_wp2_with fail
  refine HP.out.mono ?_
  rintro e w3 ⟨he, hb3, hf3⟩
  rw [he]
  have HB3 := hid hb3
  have HF3 : Hid (Fr (fun k => k = p ∨ k = mb) w w3) := hid (Fr.trans (Still.to HS.out) hf3 (fun _ _ e => e))
  clear he hb3 hf3 HP
  go_wp2_with fail
  go_ret
  exact ⟨rfl, _, rfl, HN.out, HB3.out, HF3.out⟩
end Go.Proofs.Ytakdfckkljbghaa
