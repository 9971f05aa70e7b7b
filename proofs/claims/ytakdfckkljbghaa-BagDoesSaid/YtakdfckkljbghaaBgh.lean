/- The program's Flight, walked. -/
import Derived.Test.YtakdfckkljbghaaBgg
namespace Go.Proofs.Ytakdfckkljbghaa
open Go.RowKit
set_option maxRecDepth 100000
set_option linter.unusedVariables false

theorem OwG.row1P (w : World) (x : Pcl) : (w.alloc (.cells (pls x) 43)).heap[w.heap.size]? = some (.cells (KPl.f x).toArray 43 (0, 0)) := heap_alloc_new w _
set_option maxHeartbeats 4000000 in
theorem bflight_any (p mb : Nat) (la : Int) (L : List Pcl) (hla : L.length * 48 ≤ 140737488355328) (w : World) (hb : Bk w p mb la L) : Calls Try.prog 15 #[.pointer (some ⟨p, 0, none⟩)] w fun e w' => ∃ v A, e = .returned v ∧ Fly w w' v L A := by
  obtain ⟨c0, c1, cf⟩ := hb.cell
  have hl := fun ty => hb.mp.len (t := 55) Try.underlying55 ty
  rw [mpD_size] at hl
  obtain ⟨i, hi, hz, h1, h2⟩ := infoPv
  have HI := hid (And.intro hi (And.intro hz (And.intro h1 h2)))
  have HBy : Hid (i.bytes * L.length ≤ 281474976710656) := hid (by rw [h2]; omega)
  have HLn : Hid (L.length ≤ maxLen) := hid (by unfold maxLen; omega)
  have HB := hid hb
  have hmb := hb.lt.2
  have HLb := hid hla
  clear hb hi hz h1 h2 hla
  go_enter Try.func15, Try.ntmps15
  go_wp2_with (first
    | (at_make; refine wpList_make_own _ rfl _ _ 27 rfl w.heap.size 43 i (pvl zPl) 4 Try.underlying27 HI.out.1 HI.out.2.1 HI.out.2.2.1 .i64 .i64 _ L.length rfl rfl rfl HBy.out HLn.out (Nat.le_refl _) ?_
       intro w1 hrow1 hg1
       have hs1 := grown_still hg1
       have HB1 := hid (HB.out.still hs1)
       have HR1 := hid hrow1
       have HS1 := hid hs1
       obtain ⟨d0, d1, df⟩ := HB1.out.cell
       clear hrow1 hg1 hs1 c0 c1 cf)
    | (at_range; refine wpList_range_own _ rfl _ 55 rfl 3 43 lawI Try.underlying55 Rh mb la.toNat (mpD L) rfl HB1.out.mp ?_
       intro w2 hrg2 hg2 _))
  go_frame
  have HF : Hid (Fl w w2 mb w1.heap.size la L (.slice (some ⟨w.heap.size, 0, none⟩) 0 L.length) (Maps.has (mpD L)) (Maps.size (mpD L)) []) := hid (by
    refine ⟨hrg2, ?_, ⟨_, _, rfl⟩, ?_, fun _ h => (by cases h), List.Pairwise.nil, HS1.out.trans (grown_still hg2), HS1.out.size⟩
    · exact OwG.still (L := ([] : List Pcl)) (K := KPl) HR1.out (grown_still hg2)
    · rw [List.filter_eq_nil_iff.2 (fun x hx => by
        rw [mpD_has]
        cases hf : fndP L x.no with
        | none => exact absurd rfl (fndP_none hf x hx)
        | some y => simp)])
  clear hrg2 hg2 HR1 HS1 HB1 d0 d1 df
  obtain ⟨r, er⟩ : ∃ r, w1.heap.size = r := ⟨_, rfl⟩
  rw [er] at HF
  rw [er]
  clear er
  go_loopw [3] (fun v wr => ∃ (left : Lit → Bool) (cnt : Nat) (A : List Pcl), Hid (Fl w wr mb r la L v left cnt A)) (fun _ wr => wr.rangeLeft mb r)
  case atStart => exact ⟨_, _, _, HF⟩
  case round =>
    obtain ⟨left, cnt, A, HH⟩ := hrel
    obtain ⟨g, cap, ev⟩ := HH.out.nn
    subst ev
    have HRG := hid HH.out.rg
    clear HF
    go_wp2_with (first
      | (at_next; refine wpList_nextP _ rfl _ rfl mb r la.toNat L left cnt rfl HRG.out ?_ ?_))
    · intro hl0
      have HC := hid (bsort_any A w.heap.size g A.length cap (by have := HH.out.len; have := HLb.out; omega) rfl wr HH.out.ow)
      have HL0 := hid hl0
      clear hl0
      go_wp2_with fail
      refine HC.out.mono ?_
      rintro e w3 ⟨he, A3, hp3, hs3, ho3, hf3⟩
      rw [he]
      have HD := hid (HH.out.done HB.out.up HL0.out hp3 hs3 ho3 hf3)
      clear he hp3 hs3 ho3 hf3 HC
      go_wp2_with fail
      go_ret
      exact ⟨_, A3, rfl, HD.out⟩
    · intro x w1 cnt1 hx hlx hrg1 hlt hg1 hen
      have HXM := hid (And.intro hx (And.intro hlx (And.intro hrg1 hg1)))
      have hst1 : Still w w1 := (HH.out.own hg1 (Fr.refl _ w1)).2
      have HX1 : Hid (Rq w1 x) := hid ((HB.out.rd x hx).still hst1)
      obtain ⟨b, eb⟩ : ∃ b, w1.heap.size = b := ⟨_, rfl⟩
      obtain ⟨W2, eW2⟩ : ∃ W, newPl w1 zPl = W := ⟨_, rfl⟩
      have p2 : Plb W2 b zPl := by rw [← eW2, ← eb]; exact newPl_b w1 zPl
      have s2 : Still w1 W2 := by rw [← eW2]; exact Still.alloc _ _
      obtain ⟨W3, eW3⟩ : ∃ W, setPl W2 b x = W := ⟨_, rfl⟩
      have p3 : Plb W3 b x := by rw [← eW3]; exact p2.put x
      have s3 : Still w1 W3 := by rw [← eW3]; exact setPl_fr s2 _ _ (.inr (by omega))
      have HC := hid (hand_any x W3 (HX1.out.still s3))
      have HS3 := hid s3
      obtain ⟨x0, x1, x2, x3, xf⟩ := p2.cells
      obtain ⟨y0, y1, y2, y3, yf⟩ := p3.cells
      simp only [newPl, setPl, zPl] at eW2 eW3
      simp only [zPl] at x0 x1 x2 x3
      clear hx hlx hrg1 hg1 hst1 p2 s2 p3 s3 HX1
      go_wp2_with fail
      refine HC.out.mono ?_
      rintro e w4 ⟨y, he, hn4, hs4⟩
      rw [he]
      clear hen eW2 eW3 x0 x1 x2 x3 xf y0 y1 y2 y3 yf eb HC he
      have A5 := Still.alloc w4 (.cells (pls y) 43)
      obtain ⟨W5, eW5⟩ : ∃ W, w4.alloc (.cells (pls y) 43) = W := ⟨_, rfl⟩
      obtain ⟨b5, eb5⟩ : ∃ b, w4.heap.size = b := ⟨_, rfl⟩
      have HG5 : Hid (W5.heap[b5]? = some (.cells (KPl.f y).toArray 43 (0, 0))) := hid (by rw [← eW5, ← eb5]; exact OwG.row1P w4 y)
      have HS5 : Hid (Still w1 W5) := hid (by rw [← eW5]; exact (HS3.out.trans hs4).trans A5)
      have HY5 : Hid (abP y = abP x ∧ Rq W5 y ∧ ∀ a, y.ao = some a → w1.heap.size ≤ a.block) := hid ⟨hn4.ab, (by rw [← eW5]; exact hn4.q.still A5), fun a ha => by have := hn4.nw a ha; have := HS3.out.size; omega⟩
      have HO5 := hid (HH.out.own HXM.out.2.2.2 HS5.out)
      have HZ5 : Hid (w.heap.size ≤ W5.heap.size) := hid HO5.out.2.size
      have HL5 : Hid ((A.length + 1) * 48 ≤ 140737488355328 ∧ A.length ≤ 281474976710656) := hid (by
        have h1 := HH.out.pm.length_eq
        simp only [List.length_map] at h1
        have h2 : (L.filter (fun x => !left (.int .i64 x.no))).length < L.length := by
          refine Nat.lt_of_le_of_ne (List.length_filter_le _ _) (fun e => ?_)
          have := List.length_filter_eq_length_iff.1 e x HXM.out.1
          rw [HXM.out.2.1] at this
          cases this
        have := HLb.out
        omega)
      clear hn4 hs4 A5
      go_wp2_with (
        at_builtin
        refine wpList_appQ KPl _ rfl _ _ _ rfl rfl 48 infoPl w.heap.size b5 (.slice (some ⟨g, 0, none⟩) A.length cap) A y rfl rfl HO5.out.1 HG5.out HL5.out.1 HL5.out.2 HZ5.out ?_
        intro u9 w9 ho9 hf9 _
        obtain ⟨g9, cap9, e9, _, _⟩ := ho9.head (by simp)
        have HT9 : Hid (Fl w w9 mb r la L u9 (fun z => left z && !z.sameKey (.int .i64 x.no)) cnt1 (A ++ [y])) := hid (HH.out.more HB.out.up HXM.out.1 HXM.out.2.1 HXM.out.2.2.1 HXM.out.2.2.2 HS5.out HY5.out.1 HY5.out.2.1 HY5.out.2.2 ho9 hf9 ⟨g9, cap9, e9⟩)
        clear ho9 hf9 e9)
      go_roundw
      case rel => exact ⟨_, _, _, HT9⟩
      case measure => rw [HT9.out.rg.left_eq, HH.out.rg.left_eq]; exact hlt
end Go.Proofs.Ytakdfckkljbghaa
