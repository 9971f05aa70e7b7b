/- Parts of the proof, laid end to end. -/
import Derived.Test.YtdmgalaajgebkaaZD08
import Derived.Test.YtdmgalaajgebkaaZD09
import Derived.Test.YtdmgalaajgebkaaZD05
namespace Go.Proofs.Ytdmgalaajgebkaa
open Go.RowKit
open Go.Sort (HoldsK flatK SWO PermIn SortedIn)
set_option maxRecDepth 100000
instance inhEn : Inhabited En := ⟨zE⟩
theorem get_att (L : List En) (i : Nat) : L.toArray[i]! = att L i := by
 unfold att
 rw [List.getD_eq_getElem?_getD]
 simp [Array.getElem!_eq_getD, Array.getD]
 split
 ·rename_i h; rw [List.getElem?_eq_getElem h]; rfl
 ·rename_i h; rw [List.getElem?_eq_none (by omega)]; rfl
theorem flat_row (L : List En) : (flatK KE.f 8 L.toArray).toList = KE.row L := by
 apply List.ext_getElem?
 intro t
 by_cases ht : t < L.length * 8
 ·have h8 : t / 8 < L.length := by omega
  have e := KE.row_get L (t / 8) (t % 8) h8 (Nat.mod_lt _ (by decide))
  rw [show t / 8 * KE.k + t % 8 = t by simp only [KE]; omega] at e
  rw [e]
  have hs : t < (flatK KE.f 8 L.toArray).toList.length := by simpa using ht
  rw [List.getElem?_eq_getElem hs]
  have e2 := Go.Sort.get_flatK KE.f 8 L.toArray t (by simpa using ht)
  rw [getElem!_pos _ t (by simpa using ht)] at e2
  rw [Array.getElem_toList, e2, get_att]
  have hl : t % 8 < (KE.f (att L (t / 8))).length := by rw [KE.len]; exact Nat.mod_lt _ (by decide)
  rw [getElem!_pos (KE.f (att L (t / 8))) (t % 8) hl]
  exact (List.getElem?_eq_getElem hl).symm
 ·rw [List.getElem?_eq_none (by simpa using ht), List.getElem?_eq_none (by rw [KE.row_len]; simp only [KE]; omega)]
theorem holds_own {w : World} {B g n cap : Nat} {L : List En} (h : OwG KE 44 w B (.slice (some ⟨g, 0, none⟩) n cap) L) : HoldsK KE.f 8 w g 0 L.toArray := by
 intro j hj
 refine ⟨?_, h.frozen _⟩
 have hs : j < (KE.row L).length := by rw [<- flat_row]; simpa using hj
 have hc := World.ownsRow.cells h (g := g) rfl j ((KE.row L)[j]) (List.getElem?_eq_getElem hs)
 rw [add_plain, Nat.zero_add] at hc
 rw [Nat.zero_add, hc, getElem!_pos _ j hj]
 have e : (flatK KE.f 8 L.toArray)[j] = (KE.row L)[j] := by
  have := congrArg (fun l => l[j]?) (flat_row L)
  simp only [Array.getElem?_toList] at this
  rw [Array.getElem?_eq_getElem hj, List.getElem?_eq_getElem hs] at this
  exact Option.some.inj this
 rw [e]; rfl
theorem own_sorted {w : World} {B g n cap m : Nat} {L L' : List En} {os : Array Obj} (h : OwG KE 44 w B (.slice (some ⟨g, 0, none⟩) n cap) L) (hl : L.length = n) (hl' : L'.length = L.length) : OwG KE 44 (sortWorldK KE.f 8 w g 0 m L'.toArray os) B (.slice (some ⟨g, 0, none⟩) n cap) L' /\ Fr (fun k => k = g) w (sortWorldK KE.f 8 w g 0 m L'.toArray os) := by
 have hgl : g < w.heap.size := (h.block (k := g) rfl).2
 rcases h.2 with ⟨hv, _⟩ | ⟨g', cap', cur, hv, hb, hg, hn, hm, hs, ht⟩
 ·cases hv
 ·cases hv
  have hh : (sortWorldK KE.f 8 w g 0 m L'.toArray os).heap[g]? = some (.cells (Go.Sort.putCells id 0 (flatK KE.f 8 L'.toArray) cur) 44 (0, 0)) := by
   show (w.heap.modify g _ ++ os)[g]? = _
   rw [Array.getElem?_append_left (by simpa using hgl), Array.getElem?_modify, if_pos rfl, hg]
   rfl
  refine ⟨⟨by rw [KE.row_len], .inr ⟨g, cap, _, by rw [hl'], hb, hh, by rw [hl']; exact hn, hm, by simpa [Go.Sort.putCells] using hs, ?_⟩⟩, ?_⟩
  ·rw [<- flat_row L', hl']
   apply List.ext_getElem?
   intro t
   have hsz : (flatK KE.f 8 L'.toArray).size = L'.length * 8 := by simp
   by_cases htl : t < L.length * KE.k
   ·have ht8 : t < L'.length * 8 := by rw [hl']; exact htl
    have htc : t < cur.size := by rw [hs]; exact Nat.lt_of_lt_of_le htl (Nat.mul_le_mul_right _ hn)
    rw [List.getElem?_take_of_lt htl]
    simp only [Array.getElem?_toList, Go.Sort.putCells, Array.getElem?_mapIdx]
    rw [Array.getElem?_eq_getElem htc, Array.getElem?_eq_getElem (by rw [hsz]; exact ht8)]
    simp only [Option.map_some, Nat.zero_le, Nat.zero_add, true_and, hsz, if_pos ht8, Nat.sub_zero, id]
    rw [getElem!_pos _ t (by rw [hsz]; exact ht8)]
   ·rw [List.getElem?_eq_none (by rw [List.length_take]; omega), List.getElem?_eq_none (by rw [Array.length_toList, hsz, hl']; simp only [KE] at htl; omega)]
  ·refine ⟨rfl, rfl, rfl, ?_, fun k hk hne => ?_⟩
   ·show w.heap.size <= (w.heap.modify g _ ++ os).size
    simp
   ·show (w.heap.modify g _ ++ os)[k]? = _
    rw [Array.getElem?_append_left (by simpa using hk), Array.getElem?_modify, if_neg (fun e => hne e.symm)]
theorem kc_swo : SWO (ltOf kc) where
 irrefl x := by simp only [ltOf]; exact decide_eq_false (by rw [kc_lt]; omega)
 trans x y z h1 h2 := by
  simp only [ltOf] at *
  exact decide_eq_true (lt_tr (of_decide_eq_true h1) (of_decide_eq_true h2))
 ntrans x y z h1 h2 := by
  simp only [ltOf] at *
  have h1 := of_decide_eq_false h1
  have h2 := of_decide_eq_false h2
  refine decide_eq_false ?_
  rw [kc_lt] at *
  omega
theorem srt_of {L : List En} (h : ∀ i j, i < j -> j < L.length -> ltOf kc (att L j) (att L i) = false) (hu : Unl L) : Srt L := by
 refine List.pairwise_iff_getElem.2 fun i j hi hj hij => ?_
 have h1 := of_decide_eq_false (h i j hij hj)
 have h2 := List.pairwise_iff_getElem.1 hu i j hi hj hij
 have e : ∀ k (hk : k < L.length), att L k = L[k] := fun k hk => by unfold att; rw [List.getD_eq_getElem?_getD, List.getElem?_eq_getElem hk]; rfl
 rw [e i hi, e j hj] at h1
 rw [Ne, kc_eq] at h2
 rw [kc_lt] at h1 ⊢
 omega
set_option maxHeartbeats 2000000 in
theorem qsort_any (L : List En) (B g n cap : Nat) (hn : n <= 4096) (hl : L.length = n) (hu : Unl L) (w : World) (ho : OwG KE 44 w B (.slice (some ⟨g, 0, none⟩) n cap) L) : Calls Try.prog 54 #[.slice (some ⟨g, 0, none⟩) n cap, .func (.func 55) #[] #[]] w fun e w' => e = .returned (.tuple #[]) /\ ∃ L', L'.Perm L /\ Srt L' /\ OwG KE 44 w' B (.slice (some ⟨g, 0, none⟩) n cap) L' /\ Fr (fun k => k = g) w w' := by
 have eg : ∀ args w, (callFunc 55 args).run Try.prog w = .ok (.enter 55 args) w := enters_of Try.func55 (by kernel_rfl) rfl
 have hcmp : CmpLays Try.prog 55 #[] KE.f 8 kc g 0 L.toArray.size w := fun m os dk hdk x y => (qcmpD_any x y _).mono (fun e w' ⟨he, hs, hd⟩ => ⟨he, still_grow hs hd⟩)
 have hd : L.toArray.size = n := by simpa using hl
 have hgl : g < w.heap.size := (ho.block (k := g) rfl).2
 have hlim : Lib.bitLen L.toArray.size < 4611686018427387904 := Nat.lt_of_le_of_lt (Lib.bitLen_le L.toArray.size 62 (by omega) (by omega)) (by omega)
 have hp := AnyQ.pdqsortCmpFunc_all (P := Try.prog) Try.pdqE 8 Try.isAgg44 Try.sizeOf44 KE.f kc 55 #[] kc_swo g 0 cap L.toArray w eg hcmp ⟨KE.len, KE.one, holds_own ho, hgl⟩ (L.toArray.size + 1) 0 L.toArray.size (Lib.bitLen L.toArray.size) L.toArray w (by omega) rfl (SWK.start (holds_own ho)) (Nat.zero_le _) (Nat.le_refl _) (by omega) hlim (Or.inl rfl)
 have hs := Go.Sort.pdq_sorts (ltOf kc) kc_swo L.toArray 0 L.toArray.size (Lib.bitLen L.toArray.size) true true (Nat.zero_le _) (Nat.le_refl _) (Or.inl rfl)
 have hb : Calls Try.prog 60 #[.int .u64 (n : Int)] w fun e w' => e = .returned (.int .i64 (Lib.bitLen n : Nat)) /\ w' = w := by
  have h := Any.bits_Len (SlLaysF0.n15.bits (P := Try.prog) Try.lenE) (n : Int) w (by omega) (by omega)
  rw [Int.toNat_natCast] at h
  exact h
 generalize Go.Sort.pdq (ltOf kc) L.toArray 0 L.toArray.size (Lib.bitLen L.toArray.size) true true = d' at hp hs
 obtain ⟨L', rfl⟩ : ∃ L', L'.toArray = d' := ⟨d'.toList, by simp⟩
 have hl' : L'.length = L.length := by simpa using hs.1.1
 have hperm : L'.Perm L := by
  have := hs.1.2.2
  simp at this
  rw [List.take_of_length_le (by omega)] at this
  exact this
 have hsrt : Srt L' := srt_of (fun i j hij hj => by
  have := hs.2 i j (Nat.zero_le _) hij (by simp; omega)
  rw [get_att, get_att] at this
  exact this) (hu.perm hperm.symm)
 rw [hd] at hp
 have hp2 : Calls Try.prog 59 #[.slice (some ⟨g, 0, none⟩) n cap, .int .i64 0, .int .i64 (n : Int), .int .i64 (Lib.bitLen n : Nat), .func (.func 55) #[] #[]] w fun e w' => e = .returned (.tuple #[]) /\ SWK KE.f 8 w g 0 L'.toArray w' := hp
 have HP := hid hp2
 have HB := hid hb
 have HO := hid (fun m os => own_sorted (m := m) (os := os) ho hl hl')
 have HR := hid (And.intro hperm hsrt)
 have hw1 : IntKind.u64.wrap (n : Int) = (n : Int) := by simp [IntKind.wrap, IntKind.bits, IntKind.signed]; omega
 clear hp hp2 hb hs hcmp eg ho hperm hsrt hd hlim
 go_enter Try.func54, Try.ntmps54
 go_wp2_with fail
 refine HB.out.mono ?_
 rintro e w2 ⟨he, hw⟩
 rw [he, hw]
 clear he hw w2 HB
 go_wp2_with fail
 refine HP.out.mono ?_
 rintro e w2 ⟨he, m, os, hw⟩
 rw [he]
 have HO2 : Hid (OwG KE 44 w2 B (.slice (some ⟨g, 0, none⟩) n cap) L' /\ Fr (fun k => k = g) w w2) := hid (by rw [hw]; exact HO.out m os)
 clear he hw HP HO
 go_wp2_with fail
 go_end0
 exact ⟨rfl, L', HR.out.1, HR.out.2, HO2.out⟩
theorem qsort_none (w : World) : Calls Try.prog 54 #[.slice none 0 0, .func (.func 55) #[] #[]] w fun e w' => e = .returned (.tuple #[]) /\ Still w w' := by
 have HP := hid (fun (lim : Nat) W => AnyF.pdqsortCmpFunc_none (P := Try.prog) Try.pdqE none 0 lim (.func (.func 55) #[] #[]) W)
 have HB : Hid (∀ W, Calls Try.prog 60 #[.int .u64 0] W fun e w' => e = .returned (.int .i64 (Lib.bitLen 0 : Nat)) /\ w' = W) := hid (fun W => Any.bits_Len (SlLaysF0.n15.bits (P := Try.prog) Try.lenE) 0 W (by omega) (by omega))
 go_enter Try.func54, Try.ntmps54
 go_wp2_with fail
 refine (HB.out _).mono ?_
 rintro e w2 ⟨he, hw⟩
 rw [he, hw]
 clear he hw w2 HB
 go_wp2_with fail
 refine (HP.out _ _).mono ?_
 rintro e w2 ⟨he, hw⟩
 rw [he, hw]
 clear he hw w2 HP
 go_wp2_with fail
 go_end0
 exact ⟨rfl, Fr.refl _ _⟩
set_option maxHeartbeats 1000000 in
theorem qAll_any (L : List En) (B p : Nat) (v : Value) (hL : Qu L) (w : World) (hq : Qk w B p v L) : Calls Try.prog 49 #[.pointer (some ⟨p, 0, none⟩)] w fun e w' => ∃ v' L', e = .returned v' /\ L'.Perm L /\ Srt L' /\ OwG KE 44 w' w.heap.size v' L' /\ Still w w' := by
 obtain ⟨ao, cap, rfl⟩ := hq.own
 have c0 := hq.cell.1
 have HC := hid (qclo_any L B _ hL.le w hq.ow)
 have HL := hid hL
 clear hq hL
 go_enter Try.func49, Try.ntmps49
 go_wp2_with fail
 refine HC.out.mono ?_
 rintro e w2 ⟨v2, he, ho2, hs2⟩
 rw [he]
 obtain ⟨ao2, cap2, e2, hao⟩ := ho2.slice
 subst e2
 have HS2 := hid hs2
 clear he HC c0 hs2
 rcases hao with rfl | ⟨g, rfl, hg1, hg2⟩
 ·have hL0 : L = [] := by
   rcases ho2.2 with ⟨_, hn⟩ | ⟨g', cap', cur, hv, _⟩
   ·exact List.eq_nil_of_length_eq_zero hn
   ·cases hv
  subst hL0
  have hc2 : cap2 = 0 := by
   rcases ho2.2 with ⟨hv, _⟩ | ⟨g', cap', cur, hv, _⟩
   ·injection hv
   ·cases hv
  subst hc2
  have HC := hid (qsort_none w2)
  go_wp2_with fail
  refine HC.out.mono ?_
  rintro e w3 ⟨he, h3⟩
  rw [he]
  have HS3 := hid (HS2.out.trans h3)
  clear he h3 HC
  go_wp2_with fail
  go_ret
  exact ⟨_, [], rfl, List.Perm.refl _, List.Pairwise.nil, OwG.nil _ _, HS3.out⟩
 ·have HC := hid (qsort_any L w.heap.size g L.length cap2 HL.out.le rfl HL.out.un w2 ho2)
  go_wp2_with fail
  refine HC.out.mono ?_
  rintro e w3 ⟨he, L3, hp3, hs3, ho3, hf3⟩
  rw [he]
  have HS3 : Hid (Still w w3) := hid (Fr.trans HS2.out hf3 (fun k hk e => by omega))
  have HR := hid (And.intro hp3 (And.intro hs3 ho3))
  clear he hp3 hs3 ho3 hf3 HC
  go_wp2_with fail
  go_ret
  exact ⟨_, L3, rfl, HR.out.1, HR.out.2.1, HR.out.2.2, HS3.out⟩
end Go.Proofs.Ytdmgalaajgebkaa
