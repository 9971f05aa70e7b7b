/- DigestPieces: the walk. -/
import Derived.Test.YtpdgbalhbfpdeaaDoorPi
namespace Go.Proofs.YtpdgbalhbfpdeaaDoor
open Go.RowKit

set_option maxHeartbeats 4000000 in
set_option maxRecDepth 100000 in
theorem pieces_walk (so : Option Addr) (ln lc : Nat) (ps : List Pce) (w : World) (hP : Pieces w so ps) (hn : ps.length = ln) (hln : ln ≤ 9223372036854775807) (htot : lens ps 0 ≤ 1048576) (ht : Tab w) :
    Calls Tryd.prog 6 #[.slice so ln lc] w fun e w' => e = .returned (.bool true) ∧ Still w w' := by
  have h7 := ht.size
  obtain ⟨i0, hi, hz, hz1, hz2⟩ := info_parts info_u8
  have HTOT := hid htot
  clear htot
  go_enter Tryd.func6, Tryd.ntmps6
  go_wp2_with fail
  refine (awake_any _ ht).mono ?_
  rintro e w1 ⟨rfl, h1⟩
  go_wp2_with fail
  refine (new_any w1).mono ?_
  rintro e w2 ⟨rfl, hs2, h2⟩
  go_wp2_with fail
  refine (clone_any w1.heap.size [] w2 hs2).mono ?_
  rintro e w3 ⟨rfl, hs3, h3⟩
  have hpq : w1.heap.size < w2.heap.size := hs2.lt
  have I0 : Inv w w3 w1.heap.size w2.heap.size none 0 0 [] none 0 0 [] :=
    ⟨h1.trans (h2.trans h3), h1.size, by have := h1.size; omega, by omega, hs2.kept h3 (fun e => e), hs3, Ow.empty _ _, Ow.empty _ _, fun _ h => (by cases h), fun _ h => (by cases h), fun _ _ h => (by cases h)⟩
  generalize w1.heap.size = p at I0 ⊢
  generalize w2.heap.size = q0 at I0 ⊢
  clear hs2 hs3 h1 h2 h3 hpq w1 w2
  go_wp2_with fail
  go_loopw [5, 6, 7, 8] (fun vq va vt vi wr => ∃ (i q : Nat) (alo : Option Addr) (aln alc : Nat) (A : List UInt8) (tho : Option Addr) (thn thc : Nat) (T : List UInt8), i ≤ ln ∧ vq = .pointer (some ⟨q, 0, none⟩) ∧ va = .slice alo aln alc ∧ vt = .slice tho thn thc ∧ vi = .int .i64 (i : Int) ∧ Inv w wr p q alo aln alc A tho thn thc T ∧ Hid (A.length + lens ps i ≤ 1048576) ∧ Hid (T.length + lens ps i ≤ 1048576)) (fun _ _ _ vi _ => ln - (intOf vi).toNat)
  case atStart => exact ⟨0, q0, none, 0, 0, [], none, 0, 0, [], Nat.zero_le _, rfl, rfl, rfl, rfl, I0, by show _ ≤ _; simpa using HTOT.out, by show _ ≤ _; simpa using HTOT.out⟩
  case round =>
    obtain ⟨i, q, alo, aln, alc, A, tho, thn, thc, T, hil, rfl, rfl, rfl, rfl, hI, HA, HT⟩ := hrel
    clear I0 HTOT
    by_cases hlt : i < ln
    · have hip : i < ps.length := by omega
      have hstep := lens_step hip
      have hrd := hP.ok ps[i] (List.getElem_mem hip)
      obtain ⟨b, o, rfl, hb0, hb1⟩ := hP.at hip
      obtain ⟨x, hx⟩ : ∃ x, x = ps[i] := ⟨_, rfl⟩
      rw [← hx] at hstep hrd hb0 hb1
      clear hx
      obtain ⟨ao, len, cap, bs, cp⟩ := x
      simp only at hstep hrd hb0 hb1
      have hlb := hrd.len
      have hla := hI.oa.rd.len
      have HC : Hid (∀ W, Still w W → W.cell? ⟨b, o + i * 2, none⟩ = some (.slice ao len cap)) := fun W hW => cell_on hW hb0 (fun e => e)
      have c0 := HC.out wr hI.st
      have c1 := cell_on hI.st hb1 (fun e => e)
      have hbA : aln + len ≤ 1048576 := by have := HA.out; omega
      have HN : Hid ((A ++ bs).length + lens ps (i + 1) ≤ 1048576 ∧ A.length + lens ps (i + 1) ≤ 1048576 ∧ T.length + lens ps (i + 1) ≤ 1048576) := by
        have h1 := HA.out
        have h2 := HT.out
        refine ⟨?_, ?_, ?_⟩
        · rw [List.length_append]; omega
        · omega
        · omega
      have HRD := hid hrd
      have hmx : len ≤ 9223372036854775807 := hrd.small
      clear hstep hrd hb0 hb1 hlb hla HA HT
      cases cp with
      | true =>
        go_wp2_with fail
        refine (clone_any p A wr hI.sp).mono ?_
        rintro e w1 ⟨rfl, sq1, s1⟩
        have oa1 := hI.oa.still s1
        clear c0 c1
        go_wp2_with (at_builtin; refine wpList_app _ rfl _ _ 32 rfl 5 i0 Tryd.underlying32 hi hz hz1 hz2 none alo 0 0 aln alc [] A rfl rfl (Ow.empty _ _) oa1.rd (by omega) ?_; intro to1 tc1 w2 o2 f2 b2 n2; have s2 : Still w1 w2 := (Fr.mono f2 fun k hk e => by obtain ⟨a, ea, _⟩ := e; cases ea); have d0 := HC.out w2 ((hI.st.trans s1).trans s2))
        have o2' : Ow 5 w2 to1 aln tc1 A := by simpa using o2
        have sq2 := sq1.kept s2 (fun e => e)
        have st2 := (hI.st.trans s1).trans s2
        have lq : wr.heap.size < w1.heap.size := sq1.lt
        have z0 := hI.st.size
        have kt : ∀ a, to1 = some a → w1.heap.size ≤ a.block := fun a ha => by
          rcases b2 a ha with e | e
          · cases e
          · exact e
        have hA := hid (add_sm wr.heap.size A ao len cap bs w2 (HRD.out.still st2) sq2 (ht.still st2) (by omega) (fun a ha hn e => by have := HRD.out.lt hn a ha; omega))
        go_wp2_with fail
        refine hA.out.mono ?_
        rintro e w3 ⟨rfl, q3, f3⟩
        have st3 := st2.trans' f3 fun k hk e => by omega
        have o3 := o2'.kept f3 (fun a ha e => by have := kt a ha; omega)
        have rd3 := HRD.out.still st3
        have d1 := HC.out w3 st3
        clear d0 hA o2 o2' sq2 oa1
        go_wp2_with (at_builtin; refine wpList_app _ rfl _ _ 32 rfl 5 i0 Tryd.underlying32 hi hz hz1 hz2 to1 ao aln tc1 len cap A bs rfl rfl o3 rd3 (by omega) ?_; intro to2 tc2 w4 o4 f4 b4 n4; have I4 := hI.copied rfl s1 sq1 f2 b2 q3 f3 f4 o4 b4)
        clear d1 o3 rd3 o4 f4 f3 q3 f2 s2 st2 st3 lq kt sq1 s1 hI b2 b4 n2 n4
        refine (value_still p A w4 I4.sp (ht.still I4.st)).mono ?_
        rintro e w5 ⟨rfl, h5⟩
        go_wp2_with fail
        refine (rof_any alo aln alc A w5 (I4.still h5).oa.rd).mono ?_
        rintro e w6 ⟨rfl, h6⟩
        have h56 := h5.trans h6
        go_wp2_with fail
        refine (value_still wr.heap.size (A ++ bs) w6 (I4.still h56).sq (ht.still (I4.still h56).st)).mono ?_
        rintro e w7 ⟨rfl, h7⟩
        have h57 := h56.trans h7
        go_wp2_with fail
        refine (rof_any to2 (aln + len) tc2 (A ++ bs) w7 (I4.still h57).ot.rd).mono ?_
        rintro e w8 ⟨rfl, h8⟩
        have I8 := hid (I4.still (h57.trans h8))
        clear h5 h6 h7 h8 h56 h57 I4
        go_wp2_with fail
        go_roundw
        case rel => exact ⟨i + 1, _, alo, aln, alc, A, to2, aln + len, tc2, A ++ bs, by omega, rfl, rfl, rfl, by go_num, I8.out, HN.out.2.1, HN.out.1⟩
        case measure => simp [intOf]; omega
      | false =>
        go_wp2_with fail
        refine (lent_any ao len cap 2 (by omega) (by omega) bs wr (HRD.out.still hI.st) (by omega)).mono ?_
        rintro e w1 ⟨g, rfl, og, s1, hg⟩
        have lp : p < wr.heap.size := hI.sp.lt
        have st1 := hI.st.trans s1
        have hpp := hI.hp
        have hg1 : Rd w1 (some ⟨g, 0, none⟩) len (len + 2) bs := by
          have := og.rd.take (i := len) (by omega)
          rwa [List.take_left' HRD.out.len] at this
        have hA := hid (add_sm p A (some ⟨g, 0, none⟩) len (len + 2) bs w1 hg1 (hI.sp.kept s1 (fun e => e)) (ht.still st1) (by omega) (fun a ha hn e => by cases ha; simp at e; omega))
        clear c0 c1
        go_wp2_with fail
        refine hA.out.mono ?_
        rintro e w2 ⟨rfl, q2, f2⟩
        have st2 := st1.trans' f2 fun k hk e => by omega
        have og2 := og.kept f2 (fun a ha e => by cases ha; simp at e; omega)
        have d0 := HC.out w2 st2
        clear hA og hg1
        go_wp2_with fail
        refine (still_any g ao len cap 2 (by omega) bs w2 (HRD.out.still st2) og2.rd (by omega)).mono ?_
        rintro e w3 ⟨rfl, s3⟩
        have og3 := og2.still s3
        have st3 := st2.trans s3
        clear d0 og2
        go_wp2_with fail
        have z0 := hI.st.size
        have np := row_ne hI.oa hI.sp
        have la := hI.oa.lt
        have oa3 := ((hI.oa.still s1).kept f2 (fun a ha e => np a ha e)).still s3
        go_loopw [11] (fun vk wk => ∃ k : Nat, k ≤ len ∧ vk = .int .i64 (k : Int) ∧ (∃ bs', Ow 5 wk (some ⟨g, 0, none⟩) (len + 2) (len + 2) bs') ∧ Fr (fun k => k = g) w3 wk) (fun vk _ => len - (intOf vk).toNat)
        case atStart => exact ⟨0, Nat.zero_le _, rfl, ⟨_, og3⟩, Fr.refl _ _⟩
        case round =>
          obtain ⟨k, hk, rfl, ⟨bs', ho'⟩, f4⟩ := hrel
          by_cases hkl : k < len
          · have hkb : k < bs'.length := by have := ho'.rd.len; omega
            have hv := ho'.rd.byte hkb
            rw [Nat.zero_add] at hv
            obtain ⟨_, hfz⟩ := ho'.cellAt (k := k) (by omega)
            have R := ho'.set (k := k) (b := UInt8.ofNat (bs'[k].toNat + 1)) (x := IntKind.u8.wrap ((bs'[k].toNat : Int) + 1)) (by omega) (by
              rw [UInt8.toNat_ofNat']
              simp [IntKind.wrap, IntKind.bits, IntKind.signed])
            have R2 := f4.setCell ⟨g, k, none⟩ (.int .u8 (IntKind.u8.wrap ((bs'[k].toNat : Int) + 1))) (.inl rfl)
            obtain ⟨x, hx⟩ : ∃ x, x = bs'[k].toNat := ⟨_, rfl⟩
            rw [← hx] at hv R R2
            have HF := hid (And.intro R R2)
            clear R R2 hx ho' og3 oa3 f4
            go_wp2
            go_roundw
            case rel => exact ⟨k + 1, by omega, by go_num, ⟨_, HF.out.1⟩, HF.out.2⟩
            case measure => simp [intOf]; omega
          · have st4 := st3.trans' f4 fun k hk e => by omega
            have oa4 := oa3.kept f4 (fun a ha e => by have := la a ha; omega)
            have rd4 := HRD.out.still st4
            have d1 := HC.out _ st4
            clear og3 oa3 ho'
            go_wp2_with (at_builtin; refine wpList_app _ rfl _ _ 32 rfl 5 i0 Tryd.underlying32 hi hz hz1 hz2 alo ao aln alc len cap A bs rfl rfl oa4 rd4 (by omega) ?_; intro ao2 ac2 w4 o5 f5 b5 n5; have I4 := hI.grown hg s1 q2 f2 s3 f4 f5 o5 b5)
            clear d1 oa4 rd4 o5 f5 f4 q2 f2 s1 s3 st1 st2 st3 st4 hI b5 n5 np la
            refine (value_still p (A ++ bs) w4 I4.sp (ht.still I4.st)).mono ?_
            rintro e w5 ⟨rfl, h5⟩
            go_wp2_with fail
            refine (rof_any ao2 (aln + len) ac2 (A ++ bs) w5 (I4.still h5).oa.rd).mono ?_
            rintro e w6 ⟨rfl, h6⟩
            have h56 := h5.trans h6
            go_wp2_with fail
            refine (value_still q T w6 (I4.still h56).sq (ht.still (I4.still h56).st)).mono ?_
            rintro e w7 ⟨rfl, h7⟩
            have h57 := h56.trans h7
            go_wp2_with fail
            refine (rof_any tho thn thc T w7 (I4.still h57).ot.rd).mono ?_
            rintro e w8 ⟨rfl, h8⟩
            have I8 := hid (I4.still (h57.trans h8))
            clear h5 h6 h7 h8 h56 h57 I4
            go_wp2_with fail
            go_roundw
            case rel => exact ⟨i + 1, q, ao2, aln + len, ac2, A ++ bs, tho, thn, thc, T, by omega, rfl, rfl, rfl, by go_num, I8.out, HN.out.1, HN.out.2.2⟩
            case measure => simp [intOf]; omega
    · have I4 := hI
      clear hI HA HT
      go_wp2_with fail
      refine (value_still p A wr I4.sp (ht.still I4.st)).mono ?_
      rintro e w5 ⟨rfl, h5⟩
      go_wp2_with fail
      refine (rof_any alo aln alc A w5 (I4.still h5).oa.rd).mono ?_
      rintro e w6 ⟨rfl, h6⟩
      have h56 := h5.trans h6
      go_wp2_with fail
      refine (value_still q T w6 (I4.still h56).sq (ht.still (I4.still h56).st)).mono ?_
      rintro e w7 ⟨rfl, h7⟩
      have h57 := h56.trans h7
      go_wp2_with fail
      refine (rof_any tho thn thc T w7 (I4.still h57).ot.rd).mono ?_
      rintro e w8 ⟨rfl, h8⟩
      have I8 := hid (I4.still (h57.trans h8))
      clear h5 h6 h7 h8 h56 h57 I4
      go_wp2_with fail
      go_ret
      exact ⟨rfl, I8.out.st⟩
end Go.Proofs.YtpdgbalhbfpdeaaDoor
