/- The program's Put. -/
import Derived.Test.YtdmgalaajgebkaaMgk
namespace Go.Proofs.Ytdmgalaajgebkaa
open Go.RowKit
set_option maxRecDepth 100000

/-- one more, in its place -/
def insE (x : En) (S : List En) : List En := (S.filter fun y => decide (kc y x < 0)) ++ x :: (S.filter fun y => !decide (kc y x < 0))
theorem ins_perm (x : En) (S : List En) : (insE x S).Perm (S ++ [x]) := by
  unfold insE
  have h1 := List.filter_append_perm (fun y => decide (kc y x < 0)) S
  refine List.Perm.trans ?_ (List.Perm.append_right [x] h1)
  rw [List.append_assoc]
  exact List.Perm.append_left _ (List.perm_append_comm (l₁ := [x]))
theorem ins_sorted {x : En} {S : List En} (h : Srt S) (hx : hasK x S = false) : Srt (insE x S) := by
  unfold insE
  refine List.pairwise_append.2 ⟨List.Pairwise.sublist List.filter_sublist h, List.pairwise_cons.2 ⟨fun y hy => ?_, List.Pairwise.sublist List.filter_sublist h⟩, fun a ha b hb => ?_⟩
  · obtain ⟨hy1, hy2⟩ := List.mem_filter.1 hy
    have n1 : ¬ kc y x < 0 := by simpa using hy2
    have n2 := hasK_false hx y hy1
    rw [Ne, kc_eq] at n2
    rw [kc_lt] at n1 ⊢
    omega
  · obtain ⟨ha1, ha2⟩ := List.mem_filter.1 ha
    have h1 : kc a x < 0 := by simpa using ha2
    rcases List.mem_cons.1 hb with rfl | hb
    · exact h1
    · obtain ⟨hb1, hb2⟩ := List.mem_filter.1 hb
      have n1 : ¬ kc b x < 0 := by simpa using hb2
      have n2 := hasK_false hx b hb1
      rw [Ne, kc_eq] at n2
      rw [kc_lt] at n1 h1 ⊢
      omega
theorem hasK_of_PS {x : En} {S : List En} (h : hasPS x.pe x.se S = false) : hasK x S = false := by
  unfold hasK
  unfold hasPS at h
  rw [List.any_eq_false] at h ⊢
  intro y hy
  have := h y hy
  simp only [decide_eq_true_eq] at this ⊢
  rw [kc_eq]
  omega
theorem plc_perm {S S' : List En} (h : S'.Perm S) (i : Nat) : (plc i S').Perm (plc i S) := h.filter _
/-- what Put answers -/
def argB (s : Lgs) (x : En) (m : Int) : Bool := inR x.pe s.np && decide (1 ≤ x.se ∧ x.se ≤ 1099511627776) && inR m s.nr
def putC (s : Lgs) (x : En) (m : Int) : Int := if argB s x m = false then 1 else if kpB s x.fr = false then 190 else if hasPS x.pe x.se s.S = true then 191 else if 3 ≤ cntF x.fr x.pe s.S then 192 else 0
def putA (s : Lgs) (x : En) (m : Int) : Lgs := if putC s x m = 0 then { s with S := insE (stM x m) s.S } else s
theorem lo_put {s : Lgs} (h : Lo s) {x : En} {m : Int} (h1 : argB s x m = true) (h2 : kpB s x.fr = true) (h3 : hasPS x.pe x.se s.S = false) (h4 : ¬ 3 ≤ cntF x.fr x.pe s.S) : Lo { s with S := insE (stM x m) s.S } := by
  unfold argB at h1
  simp only [Bool.and_eq_true] at h1
  obtain ⟨⟨a1, a2⟩, a3⟩ := h1
  have a1 : 0 ≤ x.pe ∧ x.pe < s.np := of_decide_eq_true a1
  have a3 : 0 ≤ m ∧ m < s.nr := of_decide_eq_true a3
  have hp := ins_perm (stM x m) s.S
  have mem : ∀ y ∈ insE (stM x m) s.S, y ∈ s.S ∨ y = stM x m := fun y hy => by
    have := hp.mem_iff.1 hy
    simpa using this
  refine ⟨h.p, h.r, h.b, ins_sorted h.srt (hasK_of_PS (x := stM x m) h3), fun y hy => ?_, fun y hy => ?_, fun y hy => ?_, fun f p => ?_⟩
  · rcases mem y hy with hy | rfl
    · exact h.fr y hy
    · exact kpB_t h2
  · rcases mem y hy with hy | rfl
    · exact h.pe y hy
    · exact a1
  · rcases mem y hy with hy | rfl
    · exact h.ms y hy
    · exact a3
  · show (insE (stM x m) s.S).countP _ ≤ 3
    rw [hp.countP_eq, List.countP_append, List.countP_cons, List.countP_nil, Nat.zero_add]
    have hf := h.few f p
    by_cases e : (stM x m).fr = f ∧ (stM x m).pe = p
    · rw [if_pos (decide_eq_true e)]
      obtain ⟨e1, e2⟩ := e
      have : s.S.countP (fun x => decide (x.fr = f ∧ x.pe = p)) = cntF x.fr x.pe s.S := by
        subst e1 e2
        rfl
      omega
    · rw [if_neg (by simpa using e)]
      omega
theorem Lm.put {w w' : World} {B p i : Nat} {s : Lgs} {vs : Nat → Value} (h : Lm w B p s vs) {x : En} {m : Int} (h1 : argB s x m = true) (h2 : kpB s x.fr = true) (h3 : hasPS x.pe x.se s.S = false) (h4 : ¬ 3 ≤ cntF x.fr x.pe s.S) (hi : x.fr % 112 = (i : Int)) (hB : B ≤ w.heap.size) {v' : Value} {R' : List En} (hp : R'.Perm (plc i s.S ++ [stM x m])) (hs : Srt R') (ho : OwG KE enT w' w.heap.size v' R') (hb : w'.heap[p]? = some (.cells (lcs s (upV vs i v')) lgT (0, 0))) (hfr : Fr (fun k => k = p) w w') : Lm w' B p { s with S := insE (stM x m) s.S } (upV vs i v') ∧ ∀ k, Rw (upV vs i v') k → Rw vs k ∨ w.heap.size ≤ k := by
  have hil : i < 112 := by omega
  have hSr := ins_sorted h.ok.srt (hasK_of_PS (x := stM x m) h3)
  have hpi : ∀ t, (plc t (insE (stM x m) s.S)).Perm (plc t s.S ++ plc t [stM x m]) := fun t => by
    have := plc_perm (ins_perm (stM x m) s.S) t
    unfold plc at this ⊢
    rwa [List.filter_append] at this
  refine ⟨⟨hb, h.lo, fun t ht => ?_, fun a b ha hb' hne k e1 e2 => ?_, lo_put h.ok h1 h2 h3 h4⟩, fun k ⟨t, ht, e⟩ => ?_⟩
  · show OwG KE enT w' B (upV vs i v' t) (plc t (insE (stM x m) s.S))
    unfold upV
    by_cases e : t = i
    · subst e
      rw [if_pos rfl]
      have e2 : plc t [stM x m] = [stM x m] := by
        have hi' : (stM x m).fr % 112 = (t : Int) := hi
        unfold plc
        rw [List.filter_cons_of_pos (by simpa using hi')]
        rfl
      have := hpi t
      rw [e2] at this
      rw [srt_eq (plc_srt hSr t) hs (this.trans hp.symm)]
      exact ho.less hB
    · rw [if_neg e]
      have e2 : plc t [stM x m] = [] := by
        unfold plc
        have : ¬ (stM x m).fr % 112 = (t : Int) := by show ¬ x.fr % 112 = _; omega
        rw [List.filter_cons_of_neg (by simpa using this)]
        rfl
      have := hpi t
      rw [e2, List.append_nil] at this
      rw [srt_eq (plc_srt hSr t) (plc_srt h.ok.srt t) this]
      exact (h.ow t ht).keep hfr (fun k hk e => by subst hk; exact h.pne ⟨t, ht, e⟩)
  · unfold upV at e1 e2
    by_cases ea : a = i
    · rw [if_pos ea] at e1
      rw [if_neg (fun e => hne (by rw [ea, e]))] at e2
      have l1 := (ho.block e1).1
      have l2 := ((h.ow b hb').block e2).2
      omega
    · rw [if_neg ea] at e1
      by_cases eb : b = i
      · rw [if_pos eb] at e2
        have l1 := (ho.block e2).1
        have l2 := ((h.ow a ha).block e1).2
        omega
      · rw [if_neg eb] at e2
        exact h.sp a b ha hb' hne k e1 e2
  · unfold upV at e
    by_cases et : t = i
    · rw [if_pos et] at e
      exact .inr (ho.block e).1
    · rw [if_neg et] at e
      exact .inl ⟨t, ht, e⟩
/-- block g holds a command -/
def Cb19 (w : World) (g : Nat) (x : En) : Prop := w.heap[g]? = some (.cells (hcs x) cmT (0, 0))
theorem Cb19.still {w w' : World} {g : Nat} {x : En} (h : Cb19 w g x) (hs : Still w w') : Cb19 w' g x := hs.kept_still h
theorem Cb19.cells {w : World} {g : Nat} {x : En} (h : Cb19 w g x) : w.cell? ⟨g, 0, none⟩ = some (.int .i64 x.fr) ∧ w.cell? ⟨g, 1, none⟩ = some (.int .i64 x.pe) ∧ w.cell? ⟨g, 2, none⟩ = some (.int .i64 x.se) ∧ w.cell? ⟨g, 3, none⟩ = some (.int .i64 x.vb) ∧ w.cell? ⟨g, 4, none⟩ = some (.int .i64 x.a) ∧ w.cell? ⟨g, 5, none⟩ = some (.int .i64 x.b) ∧ w.cell? ⟨g, 6, none⟩ = some (.int .i64 x.c) := by
  refine ⟨?_, ?_, ?_, ?_, ?_, ?_, ?_⟩ <;> (rw [cell_of_row _ _ _ _ _ _ h]; rfl)
/-- what Put leaves -/
structure Pu19 (w w' : World) (B p : Nat) (s : Lgs) (vs : Nat → Value) : Prop where
  ex : ∃ vs', Lm w' B p s vs' ∧ ∀ k, Rw vs' k → Rw vs k ∨ w.heap.size ≤ k
  fr : Fr (fun k => k = p) w w'
theorem Pu19.same {w w' : World} {B p : Nat} {s : Lgs} {vs : Nat → Value} (h : Lm w B p s vs) (hs : Still w w') : Pu19 w w' B p s vs := ⟨⟨vs, h.still hs, fun _ hk => .inl hk⟩, hs.mono (fun _ _ e => e.elim)⟩
theorem pe_seat {s : Lgs} {x : En} {m : Int} (h : inR x.pe s.np = false) : putC s x m = 1 := by
  unfold putC argB
  rw [h]
  rfl
theorem pe_arg {s : Lgs} {x : En} {m : Int} (h : argB s x m = false) : putC s x m = 1 := by
  unfold putC
  rw [if_pos h]
theorem putA_no {s : Lgs} {x : En} {m c : Int} (h : putC s x m = c) (hc : c ≠ 0) : putA s x m = s := by
  unfold putA
  rw [if_neg (by rw [h]; exact hc)]
set_option maxHeartbeats 4000000 in
theorem cm_put (s : Lgs) (B p : Nat) (vs : Nat → Value) (x : En) (m : Int) (w : World) (hB : B ≤ w.heap.size) (h : Lm w B p s vs) : Calls Try.prog 23 #[.pointer (some ⟨p, 0, none⟩), .agg (hcs x), .int .i64 m] w fun e w' => e = .returned (.int .i64 (putC s x m)) ∧ Pu19 w w' B p (putA s x m) vs := by
  have A0 := Still.alloc w (.cells (hcs x) cmT)
  have HX0 : Hid (Cb19 (w.alloc (.cells (hcs x) cmT)) w.heap.size x) := hid (heap_alloc_new w _)
  have HL := hid (h.still A0)
  have HLw := hid h
  have HS0 := hid A0
  have hzw : B ≤ (w.alloc (.cells (hcs x) cmT)).heap.size := by rw [size_alloc]; omega
  obtain ⟨W, eW⟩ : ∃ W, w.alloc (.cells (hcs x) cmT) = W := ⟨_, rfl⟩
  obtain ⟨g, eg⟩ : ∃ g, w.heap.size = g := ⟨_, rfl⟩
  rw [eW] at HX0 HL HS0 hzw
  rw [eg] at HX0
  have HG := hid eg
  obtain ⟨c0, c1, c2, c3, c4, c5, c6⟩ := HX0.out.cells
  have HSeat := hid (cm_isSeat s B p vs x.pe W HL.out)
  have HRung := hid (cm_isRung s B p vs m W HL.out)
  have HKeep := hid (cm_keeps s B p vs x.fr W HL.out)
  have HHas := hid (cm_has s B p vs x.pe x.se W HL.out)
  obtain ⟨b1, e1⟩ : ∃ b, inR x.pe s.np = b := ⟨_, rfl⟩
  obtain ⟨b2, e2⟩ : ∃ b, inR m s.nr = b := ⟨_, rfl⟩
  obtain ⟨b3, e3⟩ : ∃ b, kpB s x.fr = b := ⟨_, rfl⟩
  obtain ⟨b4, e4⟩ : ∃ b, hasPS x.pe x.se s.S = b := ⟨_, rfl⟩
  rw [e1] at HSeat
  rw [e2] at HRung
  rw [e3] at HKeep
  rw [e4] at HHas
  have HA1 : Hid (b1 = false → putC s x m = 1) := hid (fun hb => pe_seat (by rw [e1, hb]))
  have HA2 : Hid (¬ (1 ≤ x.se ∧ x.se ≤ 1099511627776) → putC s x m = 1) := hid (fun hb => pe_arg (by unfold argB; rw [decide_eq_false hb]; simp))
  have HA3 : Hid (b2 = false → putC s x m = 1) := hid (fun hb => pe_arg (by unfold argB; rw [e2, hb]; simp))
  have HT : Hid (b1 = true → (1 ≤ x.se ∧ x.se ≤ 1099511627776) → b2 = true → argB s x m = true) := hid (fun h1 h2 h3 => by unfold argB; rw [e1, h1, e2, h3, decide_eq_true h2]; rfl)
  have HE3 := hid e3
  have HE4 := hid e4
  clear e1 e2 e3 e4 h A0
  cases b1 with
  | false =>
    have HP := hid (HA1.out rfl)
    clear HA1 HA2 HA3 HT HRung HKeep HHas
    go_enter Try.func23, Try.ntmps23
    go_wp2_with fail
    refine HSeat.out.mono ?_
    rintro e w1 ⟨he, hw⟩
    rw [he, hw]
    clear he hw w1 HSeat
    go_wp2_with fail
    go_ret
    rw [HP.out, putA_no HP.out (by decide)]
    exact ⟨rfl, Pu19.same HLw.out HS0.out⟩
  | true =>
    clear HA1
    by_cases h1 : x.se < 1
    · have HP := hid (HA2.out (by omega))
      clear HA2 HA3 HT HRung HKeep HHas
      go_enter Try.func23, Try.ntmps23
      go_wp2_with fail
      refine HSeat.out.mono ?_
      rintro e w1 ⟨he, hw⟩
      rw [he, hw]
      clear he hw w1 HSeat
      go_wp2_with fail
      go_ret
      rw [HP.out, putA_no HP.out (by decide)]
      exact ⟨rfl, Pu19.same HLw.out HS0.out⟩
    · by_cases h2 : x.se > 1099511627776
      · have HP := hid (HA2.out (by omega))
        clear HA2 HA3 HT HRung HKeep HHas
        go_enter Try.func23, Try.ntmps23
        go_wp2_with fail
        refine HSeat.out.mono ?_
        rintro e w1 ⟨he, hw⟩
        rw [he, hw]
        clear he hw w1 HSeat
        go_wp2_with fail
        go_ret
        rw [HP.out, putA_no HP.out (by decide)]
        exact ⟨rfl, Pu19.same HLw.out HS0.out⟩
      · clear HA2
        have HT2 := hid (HT.out rfl (by omega))
        clear HT
        cases b2 with
        | false =>
          have HP := hid (HA3.out rfl)
          clear HA3 HT2 HKeep HHas
          go_enter Try.func23, Try.ntmps23
          go_wp2_with fail
          refine HSeat.out.mono ?_
          rintro e w1 ⟨he, hw⟩
          rw [he, hw]
          clear he hw w1 HSeat
          go_wp2_with fail
          refine HRung.out.mono ?_
          rintro e w1 ⟨he, hw⟩
          rw [he, hw]
          clear he hw w1 HRung
          go_wp2_with fail
          go_ret
          rw [HP.out, putA_no HP.out (by decide)]
          exact ⟨rfl, Pu19.same HLw.out HS0.out⟩
        | true =>
          have HArg := hid (HT2.out rfl)
          clear HT2 HA3
          go_enter Try.func23, Try.ntmps23
          go_wp2_with fail
          refine HSeat.out.mono ?_
          rintro e w1 ⟨he, hw⟩
          rw [he, hw]
          clear he hw w1 HSeat
          go_wp2_with fail
          refine HRung.out.mono ?_
          rintro e w1 ⟨he, hw⟩
          rw [he, hw]
          clear he hw w1 HRung eW eg
          go_wp2_with fail
          refine HKeep.out.mono ?_
          rintro e w1 ⟨he, hw⟩
          rw [he, hw]
          clear he hw w1 HKeep h1 h2
          cases b3 with
          | false =>
            have HP : Hid (putC s x m = 190) := hid (by unfold putC; rw [if_neg (by rw [HArg.out]; decide), if_pos HE3.out])
            clear HHas
            go_wp2_with fail
            go_ret
            rw [HP.out, putA_no HP.out (by decide)]
            exact ⟨rfl, Pu19.same HLw.out HS0.out⟩
          | true =>
            go_wp2_with fail
            refine HHas.out.mono ?_
            rintro e w1 ⟨he, h1⟩
            rw [he]
            have HS1 := hid (HS0.out.trans h1)
            have HL1 := hid (HL.out.still h1)
            have HX1 := hid (HX0.out.still h1)
            have hz1 : B ≤ w1.heap.size := Nat.le_trans hzw h1.size
            clear he h1 HHas HL HX0 HS0 c0 c1 c2 c3 c4 c5 c6 hzw
            cases b4 with
            | true =>
              have HP : Hid (putC s x m = 191) := hid (by unfold putC; rw [if_neg (by rw [HArg.out]; decide), if_neg (by rw [HE3.out]; decide), if_pos HE4.out])
              go_wp2_with fail
              go_ret
              rw [HP.out, putA_no HP.out (by decide)]
              exact ⟨rfl, Pu19.same HLw.out HS1.out⟩
            | false =>
              have HCnt := hid (cm_count s B p vs x.fr x.pe w1 HL1.out)
              obtain ⟨c0, c1, c2, c3, c4, c5, c6⟩ := HX1.out.cells
              obtain ⟨n, en⟩ : ∃ n, cntF x.fr x.pe s.S = n := ⟨_, rfl⟩
              rw [en] at HCnt
              have HN := hid en
              clear en
              go_wp2_with fail
              refine HCnt.out.mono ?_
              rintro e w2 ⟨he, h2⟩
              rw [he]
              have HS2 := hid (HS1.out.trans h2)
              have HL2 := hid (HL1.out.still h2)
              have HX2 := hid (HX1.out.still h2)
              have hz2 : B ≤ w2.heap.size := Nat.le_trans hz1 h2.size
              clear he h2 HCnt HL1 HX1 HS1 c0 c1 c2 c3 c4 c5 c6 hz1
              by_cases hn : 3 ≤ n
              · have hn' : (n : Int) ≥ 3 := by omega
                have HP : Hid (putC s x m = 192) := hid (by unfold putC; rw [if_neg (by rw [HArg.out]; decide), if_neg (by rw [HE3.out]; decide), if_neg (by rw [HE4.out]; decide), if_pos (by rw [HN.out]; exact hn)])
                clear hn
                go_wp2_with fail
                go_ret
                rw [HP.out, putA_no HP.out (by decide)]
                exact ⟨rfl, Pu19.same HLw.out HS2.out⟩
              · have hn' : ¬ (n : Int) ≥ 3 := by omega
                have HP : Hid (putC s x m = 0) := hid (by unfold putC; rw [if_neg (by rw [HArg.out]; decide), if_neg (by rw [HE3.out]; decide), if_neg (by rw [HE4.out]; decide), if_neg (by rw [HN.out]; exact hn)])
                have HN3 : Hid (¬ 3 ≤ cntF x.fr x.pe s.S) := hid (by rw [HN.out]; exact hn)
                obtain ⟨c0, c1, c2, c3, c4, c5, c6⟩ := HX2.out.cells
                have hk := kpB_t HE3.out
                have hbb := HL2.out.ok.b
                obtain ⟨i, ei⟩ : ∃ i : Nat, x.fr % 112 = (i : Int) := ⟨(x.fr % 112).toNat, by omega⟩
                have HI := hid ei
                have hil : i < 112 := by omega
                have HRP : Hid (∀ u, Still w2 u → Calls Try.prog 40 #[.pointer (some ⟨p, 3, none⟩), ev (stM x m)] u fun e w' => e = .returned (.tuple #[]) ∧ ∃ v' R', R'.Perm (plc i s.S ++ [stM x m]) ∧ Srt R' ∧ OwG KE enT w' u.heap.size v' R' ∧ w'.heap[p]? = some (.cells (lcs s (upV vs i v')) lgT (0, 0)) ∧ Fr (fun k => k = p) u w') := hid (fun u hu =>
                  cm_ringput s B p i vs (stM x m) (plc i s.S) (by show 0 ≤ x.fr ∧ x.fr ≤ _; omega) ei (plc_srt HL2.out.ok.srt i) (by have h5 := on_len HL2.out.ok x.fr; have h6 := plc_on HL2.out.ok hk.1 hk.2; rw [ei, Int.toNat_natCast] at h6; rw [h6]; omega) (by
                    have := hasK_of_PS (x := stM x m) HE4.out
                    unfold hasK at this ⊢
                    rw [List.any_eq_false] at this ⊢
                    exact fun y hy => this y (List.mem_filter.1 hy).1) u ((HL2.out.still hu).ow i hil) (HL2.out.still hu).bk)
                have d0 := Cl.cell c0
                have d1 := Cl.cell c1
                have d2 := Cl.cell c2
                have d3 := Cl.cell c3
                have d4 := Cl.cell c4
                have d5 := Cl.cell c5
                have d6 := Cl.cell c6
                have hne := Aft.here w2
                clear hn c0 c1 c2 c3 c4 c5 c6 hk hbb ei
                go_upto_region 10 with fail
                refine region_rest 6 (by kernel_rfl) (by kernel_rfl) ?_
                simp only [List.take_succ_cons, List.take_zero, List.drop_succ_cons, List.drop_zero]
                repeat (go_big_quiet_step (rfl))
                refine wpQuiet_nil ?_
                intro w3 h3
                have HC := hid (HRP.out w3 h3)
                have HS3 := hid (HS2.out.trans h3)
                have HL3 := hid (HL2.out.still h3)
                have hz3 : B ≤ w3.heap.size := Nat.le_trans hz2 h3.size
                clear h3 HRP d0 d1 d2 d3 d4 d5 d6 hne HX2 HL2 HS2
                go_wp2_with fail
                refine HC.out.mono ?_
                rintro e w4 ⟨he, v', R', hp', hs', ho', hb', hf'⟩
                rw [he]
                obtain ⟨q1, q2⟩ := HL3.out.put HArg.out HE3.out HE4.out HN3.out HI.out hz3 hp' hs' ho' hb' hf'
                have HF : Hid (Pu19 w w4 B p (putA s x m) vs) := hid (by
                  refine ⟨⟨upV vs i v', ?_, fun k hk => (q2 k hk).imp_right (fun h => Nat.le_trans HS3.out.size h)⟩, Fr.trans (HS3.out.mono (fun _ _ e => e.elim)) hf' (fun _ _ e => e)⟩
                  unfold putA
                  rw [if_pos HP.out]
                  exact q1)
                clear he hp' hs' ho' hb' hf' q1 q2 HC
                go_wp2_with fail
                go_ret
                rw [HP.out]
                exact ⟨rfl, HF.out⟩
end Go.Proofs.Ytdmgalaajgebkaa
