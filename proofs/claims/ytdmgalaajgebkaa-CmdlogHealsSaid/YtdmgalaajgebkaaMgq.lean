/- CmdlogHeals: the law's walk. -/
import Derived.Test.YtdmgalaajgebkaaMgp
namespace Go.Proofs.Ytdmgalaajgebkaa
open Go.RowKit
set_option maxRecDepth 100000

/-- rows of slices -/
structure Sl9 where
  ao : Option Addr
  n : Nat
  cap : Nat
abbrev sl9 (t : Sl9) : Value := .slice t.ao t.n t.cap
def KV9 : Kd Sl9 := ⟨fun t => [sl9 t], 1, ⟨none, 0, 0⟩, fun _ => rfl, fun m u hu => by
  simp at hu
  subst hu
  rfl, by decide⟩
abbrev slT : TypeId := 42
theorem infoV9 : ∃ i, Try.prog.info? slT = some i ∧ i.zero = some (.slice none 0 0) ∧ i.size = KV9.k ∧ i.bytes = 24 := ⟨_, rfl, rfl, rfl, rfl⟩
theorem wpList_appV {α : Type} {e : TypeId} {P : Program} (K : Kd α) (w : World) {ops : Array Oper} {rest : List Oper} {o : Oper} {a : Act} {Q : Exit → Act → World → Prop} (hgd : o.guard = none) (s x : Operand) (t : TypeId)
    (hop : o.op = .call { callee := .builtin .append, args := #[s, x], argTypes := #[t, t] })
    (hu : P.underlying t = some (.slice e)) (bytes : Nat) (z : Value) (hzc : z.cells.size = K.k) (hinfo : ∃ i, P.info? e = some i ∧ i.zero = some z ∧ i.size = K.k ∧ i.bytes = bytes) (hb : bytes ≤ 1000000)
    (B g : Nat) (v : Value) (L : List α) (p : α) (hs : a.eval s = v) (hx : a.eval x = .slice (some ⟨g, 0, none⟩) 1 1) (ho : OwG K e w B v L) (hr : w.heap[g]? = some (.cells (K.f p).toArray e (0, 0))) (h47 : L.length ≤ 100000) (hB : B ≤ w.heap.size)
    (h : ∀ v' w', OwG K e w' B v' (L ++ [p]) → Fr (fun k => v.ownBlock = some k) w w' → wpList P ops Q rest (a.put o.dst v') w') : wpList P ops Q (o :: rest) a w := by
  obtain ⟨i, hi, hz, h1, h2⟩ := hinfo
  refine wpList_append_own (P := P) w hgd s x t hop B e i z K.k bytes hu hi hz h1 h2 hzc K.pos v L.length (K.row L) hs ho ⟨g, 0, none⟩ 1 1 (K.f p) hx (by rw [K.len, Nat.one_mul]) ?_ (K.one p) (by unfold maxLen; omega) ?_ hB ?_
  · intro j u hj
    rw [add_plain, Nat.zero_add, cell_of_row _ _ _ _ _ _ hr]
    simpa using hj
  · have : (L.length + 1) * bytes ≤ 100001 * 1000000 := Nat.mul_le_mul (by omega) hb
    omega
  · intro v' w' hown hgr _
    refine h v' w' ?_ ⟨hgr.os, hgr.tape, hgr.output, hgr.size, fun k hk hn => hgr.block k hk (fun e => hn e.symm)⟩
    unfold OwG
    rw [K.row_app, List.length_append, show K.row [p] = K.f p by simp [Kd.row]]
    exact hown
theorem ow_ty19 {α : Type} {K : Kd α} {e : TypeId} {w : World} {B k : Nat} {u : Value} {L : List α} (ho : OwG K e w B u L) (hk : u.ownBlock = some k) : ∃ cur, w.heap[k]? = some (.cells cur e (0, 0)) := by
  rcases ho.2 with ⟨rfl, _⟩ | ⟨g, cap, cur, rfl, _, hg, _⟩
  · cases hk
  · simp [Value.ownBlock] at hk
    subst hk
    exact ⟨cur, hg⟩
theorem ow_ne19 {α β : Type} {K : Kd α} {K' : Kd β} {e e' : TypeId} {w : World} {B B' : Nat} {u u' : Value} {L : List α} {L' : List β} (ho : OwG K e w B u L) (ho' : OwG K' e' w B' u' L') (he : e ≠ e') : ∀ k, u.ownBlock = some k → u'.ownBlock ≠ some k := fun k h1 h2 => by
  obtain ⟨c1, g1⟩ := ow_ty19 ho h1
  obtain ⟨c2, g2⟩ := ow_ty19 ho' h2
  rw [g1] at g2
  injection g2 with g2
  injection g2 with _ h3 _
  exact he h3
/-- what was missed before, rung by rung: a row of slices, each with its row -/
structure Bef (B : Nat) (w : World) (v : Value) (T : List Sl9) (S : List En) (k : Nat) : Prop where
  l : T.length = k
  o : OwG KV9 slT w B v T
  r : ∀ j, j < k → OwG KC cmT w B (sl9 (T.getD j KV9.d)) (misL (j : Int) S)
theorem Bef.keep {F : Nat → Prop} {B : Nat} {w w' : World} {v : Value} {T : List Sl9} {S : List En} {k : Nat} (h : Bef B w v T S k) (hf : Fr F w w') (hF : ∀ b, F b → b < B) : Bef B w' v T S k :=
  ⟨h.l, h.o.keep hf (fun b hb e => by have := (h.o.block e).1; have := hF b hb; omega), fun j hj => (h.r j hj).keep hf (fun b hb e => by have := ((h.r j hj).block e).1; have := hF b hb; omega)⟩
theorem Bef.still {B : Nat} {w w' : World} {v : Value} {T : List Sl9} {S : List En} {k : Nat} (h : Bef B w v T S k) (hs : Still w w') : Bef B w' v T S k := h.keep hs (fun _ e => e.elim)
theorem Bef.app {B : Nat} {w w' : World} {v v' : Value} {T : List Sl9} {S : List En} {k : Nat} {t : Sl9} (h : Bef B w v T S k) (ho : OwG KV9 slT w' B v' (T ++ [t])) (hf : Fr (fun b => v.ownBlock = some b) w w') (ht : OwG KC cmT w B (sl9 t) (misL (k : Int) S)) : Bef B w' v' (T ++ [t]) S (k + 1) := by
  refine ⟨by rw [List.length_append, h.l]; rfl, ho, fun j hj => ?_⟩
  by_cases e : j < k
  · have e2 : (T ++ [t]).getD j KV9.d = T.getD j KV9.d := by simp [List.getD, List.getElem?_append_left (show j < T.length by rw [h.l]; exact e)]
    rw [e2]
    exact (h.r j e).keep hf (fun b hb => ow_ne19 h.o (h.r j e) (by decide) b hb)
  · obtain rfl : j = k := by omega
    have e2 : (T ++ [t]).getD j KV9.d = t := by rw [← h.l]; simp [List.getD]
    rw [e2]
    exact ht.keep hf (fun b hb => ow_ne19 h.o ht (by decide) b hb)
theorem Bef.cell {B : Nat} {w : World} {g n cap : Nat} {T : List Sl9} {S : List En} {k : Nat} (h : Bef B w (.slice (some ⟨g, 0, none⟩) n cap) T S k) {j : Nat} (hj : j < k) : w.cell? ⟨g, j, none⟩ = some (sl9 (T.getD j KV9.d)) := by
  have := h.o.get (i := j) (by rw [h.l]; exact hj) 0 _ rfl
  simpa [KV9] using this
/-- behind Heal -/
theorem mis_heal {S : List En} {k d : Nat} : misL (k : Int) (S.map (heE (d : Int))) = misL (((if k < d then d else k) : Nat) : Int) S := by
  unfold misL
  rw [List.filter_map, List.map_map]
  have e : cmE ∘ heE (d : Int) = cmE := funext (heE_cm _)
  rw [e]
  congr 1
  apply List.filter_congr
  intro x _
  simp only [Function.comp]
  refine decide_eq_decide.2 ?_
  unfold heE
  by_cases h1 : x.ms ≤ (d : Int)
  · rw [if_pos h1]
    show (k : Int) < 0 ↔ _
    split <;> omega
  · rw [if_neg h1]
    split <;> omega
set_option maxHeartbeats 8000000 in
theorem heals_law (a b r : Int) (so : Option Addr) (n c : Nat) (L : List Ok9) (ha : -9223372036854775808 ≤ a ∧ a ≤ 9223372036854775807) (hb : -9223372036854775808 ≤ b ∧ b ≤ 9223372036854775807) (hr9 : -9223372036854775808 ≤ r ∧ r ≤ 9223372036854775807) (hp : ∀ i, i < n → Bd9 (L.getD i KO9.d)) (w : World) (hr : RdG KO9 w so n L) : Calls Try.prog 5 #[.int .i64 a, .int .i64 b, .slice so n c, .int .i64 r] w fun e w' => e = .returned (.bool true) ∧ Still w w' := by
  have HAw := hid (fun w => awake19_any w)
  have HPl := hid (fun u (hu : Still w u) => played_any a b so n c L ha hb hp u (hr.still hu))
  have h2 := pk_in b 4 (by omega)
  obtain ⟨A, eA⟩ : ∃ A, 2 + pk a 5 = A := ⟨_, rfl⟩
  obtain ⟨D, eD⟩ : ∃ A, 2 + pk b 4 = A := ⟨_, rfl⟩
  have hD : 2 ≤ D ∧ D ≤ 5 := by omega
  rw [eA, eD] at HPl
  obtain ⟨R, rfl⟩ : ∃ R : Nat, D = (R : Int) := ⟨D.toNat, by omega⟩
  have HPk := hid (fun w => pick_any r (R : Int) hr9 (by omega) (by omega) w)
  have h3 := pk_in r (R : Int) (by omega)
  obtain ⟨d', ed'⟩ : ∃ d, pk r (R : Int) = d := ⟨_, rfl⟩
  rw [ed'] at HPk h3
  obtain ⟨d, rfl⟩ : ∃ d : Nat, d' = (d : Int) := ⟨d'.toNat, by omega⟩
  have hdR : d < R := by omega
  clear hr hp ha hb hr9 eA eD h2 h3 ed'
  go_enter Try.func5, Try.ntmps5
  go_wp2_with fail
  refine (HAw.out _).mono ?_
  rintro e w1 ⟨he, h1⟩
  rw [he]
  have HP1 := hid (HPl.out w1 h1)
  have HS1 := hid h1
  clear he h1 HAw HPl
  go_wp2_with fail
  refine HP1.out.mono ?_
  rintro e w2 ⟨p, he, hpl⟩
  rw [he]
  obtain ⟨hs2, s, vs, hL2, en1, en2⟩ := hpl
  have HS2 := hid (HS1.out.trans hs2)
  have HL2 := hid hL2
  have HE := hid en2
  have HLe := hid (cm_len s _ p vs w2 hL2)
  have HN2016 := hid (len_2016 hL2.ok)
  have HLo := hid (And.intro hL2.lt hL2.rlt)
  have HB1 := hid HS1.out.size
  clear he hs2 hL2 en1 en2 HP1
  go_wp2_with fail
  refine (HPk.out _).mono ?_
  rintro e w' ⟨he, hw⟩
  rw [he, hw]
  clear he hw w' HPk
  go_wp2_with fail
  refine HLe.out.mono ?_
  rintro e w3 ⟨he, hs3⟩
  rw [he]
  have HS3 := hid (HS2.out.trans hs3)
  have HL3 := hid (HL2.out.still hs3)
  have HZ3 := hid hs3.size
  obtain ⟨N, eN⟩ : ∃ N, s.S.length = N := ⟨_, rfl⟩
  have HN := hid eN
  rw [eN]
  clear he hs3 HLe HS2 HL2 eN
  go_wp2_with fail
  go_loopw [16, 15] (fun u v wr => ∃ k : Nat, k ≤ R ∧ u = .int .i64 (k : Int) ∧ ∃ bo m bc, v = .slice bo m bc ∧ Hid ((∃ T, Bef w3.heap.size wr (.slice bo m bc) T s.S k) ∧ Still w3 wr)) (fun u _ _ => R - (intOf u).toNat)
  case atStart => exact ⟨0, by omega, rfl, _, _, _, rfl, hid ⟨⟨[], rfl, OwG.nil _ _, fun j hj => by omega⟩, Fr.refl _ _⟩⟩
  case round =>
    obtain ⟨k, hk, rfl, bo, m, bc, rfl, HK⟩ := hrel
    by_cases hkn : k < R
    · have hlt : (k : Int) < (R : Int) := by omega
      have HM := hid (cm_missed s _ p vs (k : Int) wr (HL3.out.still HK.out.2))
      rw [misA_in (by rw [HE.out]; exact hlt)] at HM
      go_wp2_with fail
      refine HM.out.mono ?_
      rintro e w4 ⟨v4, he, ho4, hs4⟩
      rw [he]
      obtain ⟨ao4, cap4, ev4, _⟩ := ho4.slice
      subst ev4
      obtain ⟨T, hT⟩ := HK.out.1
      have A5 := Still.alloc w4 (.cells #[.slice ao4 (misL (k : Int) s.S).length cap4] slT)
      have HT5 := hid ((hT.still hs4).still A5)
      have HO5 := hid ((ho4.less HK.out.2.size).still A5)
      have HX5 : Hid ((w4.alloc (.cells #[.slice ao4 (misL (k : Int) s.S).length cap4] slT)).heap[w4.heap.size]? = some (.cells (KV9.f ⟨ao4, (misL (k : Int) s.S).length, cap4⟩).toArray slT (0, 0))) := hid (heap_alloc_new w4 _)
      have HS5 := hid ((HK.out.2.trans hs4).trans A5)
      have HB5 := hid HS5.out.size
      have HLn : Hid (T.length ≤ 100000) := hid (by rw [hT.l]; omega)
      obtain ⟨z, ez⟩ : ∃ z, (misL (k : Int) s.S).length = z := ⟨_, rfl⟩
      rw [ez] at HT5 HO5 HX5 HS5 HB5 ⊢
      clear he ho4 hs4 hT A5 HM HK ez
      go_wp2_with (
        at_builtin
        refine wpList_appV KV9 _ rfl _ _ _ rfl rfl 24 (.slice none 0 0) rfl infoV9 (by omega) w3.heap.size w4.heap.size (.slice bo m bc) T ⟨ao4, z, cap4⟩ rfl rfl HT5.out.o HX5.out HLn.out HB5.out ?_
        intro v' w' ho' hf'
        have HK6 : Hid ((∃ T, Bef w3.heap.size w' v' T s.S (k + 1)) ∧ Still w3 w') := hid ⟨⟨_, HT5.out.app ho' hf' HO5.out⟩, still_appG HS5.out HT5.out.o hf' (Nat.le_refl _)⟩
        obtain ⟨bo6, bc6, e6, _⟩ := ho'.slice
        subst e6
        obtain ⟨m6, em6⟩ : ∃ m, (T ++ [(⟨ao4, z, cap4⟩ : Sl9)]).length = m := ⟨_, rfl⟩
        rw [em6] at HK6 ⊢
        clear ho' hf' em6)
      go_roundw
      case rel => exact ⟨k + 1, by omega, by go_num, _, _, _, rfl, HK6⟩
      case measure => simp [intOf]; omega
    · have hge : ¬ (k : Int) < (R : Int) := by omega
      obtain rfl : k = R := by omega
      obtain ⟨T, hT⟩ := HK.out.1
      have HT := hid hT
      have HSr := hid HK.out.2
      have HC := hid (cm_heal s _ p vs (d : Int) wr (HL3.out.still HK.out.2))
      have eh : heA s (d : Int) = { s with S := s.S.map (heE (d : Int)) } := by
        unfold heA
        rw [if_pos (inR_t (by omega) (by rw [HE.out]; omega))]
      rw [eh] at HC
      clear HK hkn hT eh
      go_wp2_with fail
      refine HC.out.mono ?_
      rintro e w5 ⟨he, hL5, hf5⟩
      rw [he]
      have HT5 : Hid (Bef w3.heap.size w5 (.slice bo m bc) T s.S k) := hid (HT.out.keep hf5 (fun x hx => by have := (HLo.out.2 x hx).2; have := HZ3.out; omega))
      have HL5 := hid hL5
      have HS5 : Hid (Still w w5) := hid (Fr.trans (HS3.out.trans HSr.out) hf5 (fun x hx e => by have := (HLo.out.2 x e).1; have := HB1.out; omega))
      obtain ⟨s5, es5⟩ : ∃ s5 : Lgs, { s with S := s.S.map (heE (d : Int)) } = s5 := ⟨_, rfl⟩
      have HE5 : Hid (s5.nr = (k : Int) ∧ s5.S.length = N ∧ ∀ j : Nat, misL (j : Int) s5.S = misL (((if j < d then d else j) : Nat) : Int) s.S) := hid (by rw [← es5]; exact ⟨HE.out, by simp [HN.out], fun j => mis_heal⟩)
      rw [es5] at HL5
      have hbo : ∃ g, bo = some ⟨g, 0, none⟩ := by
        obtain ⟨g, _, e6, _⟩ := HT5.out.o.head (by rw [HT5.out.l]; omega)
        injection e6 with e7 _ _
        exact ⟨g, e7⟩
      obtain ⟨gb, rfl⟩ := hbo
      have hm : m = k := by
        obtain ⟨_, _, e6, _⟩ := HT5.out.o.slice
        injection e6 with _ e7 _
        rw [e7]; exact HT5.out.l
      subst hm
      have HN2 : Hid (∀ j : Nat, (misL (j : Int) s.S).length ≤ 100000) := hid (fun j => by have h1 := misL_len (j : Int) s.S s.S.length; rw [List.take_of_length_le (Nat.le_refl _)] at h1; have := HN2016.out; omega)
      clear he hL5 hf5 HC HT HSr es5
      go_wp2_with fail
      go_loopw [18] (fun u wr => ∃ j : Nat, j ≤ m ∧ u = .int .i64 (j : Int) ∧ Hid (Still w5 wr)) (fun u _ => m - (intOf u).toNat)
      case atStart => exact ⟨0, by omega, rfl, hid (Fr.refl _ _)⟩
      case round =>
        obtain ⟨j, hj, rfl, HJ⟩ := hrel
        by_cases hjm : j < m
        · have hltj : (j : Int) < (m : Int) := by omega
          by_cases hjd : j < d
          · have hjd' : (j : Int) < (d : Int) := by omega
            have HM := hid (cm_missed s5 _ p vs (j : Int) wr (HL5.out.still HJ.out))
            rw [misA_in (by rw [HE5.out.1]; exact hltj), HE5.out.2.2 j, if_pos hjd] at HM
            obtain ⟨X, eX⟩ : ∃ X, misL (d : Int) s.S = X := ⟨_, rfl⟩
            have HX := hid eX
            rw [eX] at HM
            clear hjd eX
            go_wp2_with fail
            refine HM.out.mono ?_
            rintro e w6 ⟨v6, he, ho6, hs6⟩
            rw [he]
            obtain ⟨ao6, cap6, ev6, _⟩ := ho6.slice
            subst ev6
            have HS6 := hid (HJ.out.trans hs6)
            have hB6 := HT5.out.still HS6.out
            have cj := hB6.cell (j := j) hjm
            have cd := hB6.cell (j := d) (by omega)
            have hod := hB6.r d (by omega)
            rw [HX.out] at hod
            obtain ⟨td, etd⟩ : ∃ t, T.getD d KV9.d = t := ⟨_, rfl⟩
            obtain ⟨tj, etj⟩ : ∃ t, T.getD j KV9.d = t := ⟨_, rfl⟩
            rw [etd] at cd hod
            rw [etj] at cj
            obtain ⟨ao8, cap8, e8, _⟩ := hod.slice
            obtain ⟨t1, t2, t3⟩ := td
            simp only [sl9] at e8
            injection e8 with e81 e9 e83
            subst e81 e83
            have hX1 : X.length ≤ 100000 := by rw [← HX.out]; exact HN2.out d
            have hrd := owC_rd ho6 hX1
            have hrd2 := owC_rd (show OwG KC cmT w6 _ (.slice t1 t2 t3) X from hod) hX1
            have HSm := hid (rsamec19_t X ao6 t1 X.length cap6 t3 w6 hrd hrd2)
            rw [← e9] at HSm ⊢
            clear he ho6 hs6 HM hrd hrd2 hod etd etj e9 hB6 hX1 HX
            simp only [sl9] at cd cj
            go_wp2_with fail
            refine HSm.out.mono ?_
            rintro e w7 ⟨he, hs7⟩
            rw [he]
            have HJ2 := hid (HS6.out.trans hs7)
            clear he hs7 HSm cj cd
            go_wp2_with fail
            go_roundw
            case rel => exact ⟨j + 1, by omega, by go_num, HJ2⟩
            case measure => simp [intOf]; omega
          · have hjd' : ¬ (j : Int) < (d : Int) := by omega
            have HM := hid (cm_missed s5 _ p vs (j : Int) wr (HL5.out.still HJ.out))
            rw [misA_in (by rw [HE5.out.1]; exact hltj), HE5.out.2.2 j, if_neg hjd] at HM
            obtain ⟨X, eX⟩ : ∃ X, misL (j : Int) s.S = X := ⟨_, rfl⟩
            have HX := hid eX
            rw [eX] at HM
            clear hjd eX
            go_wp2_with fail
            refine HM.out.mono ?_
            rintro e w6 ⟨v6, he, ho6, hs6⟩
            rw [he]
            obtain ⟨ao6, cap6, ev6, _⟩ := ho6.slice
            subst ev6
            have HS6 := hid (HJ.out.trans hs6)
            have hB6 := HT5.out.still HS6.out
            have cd := hB6.cell (j := j) (by omega)
            have hod := hB6.r j (by omega)
            rw [HX.out] at hod
            obtain ⟨td, etd⟩ : ∃ t, T.getD j KV9.d = t := ⟨_, rfl⟩
            rw [etd] at cd hod
            obtain ⟨ao8, cap8, e8, _⟩ := hod.slice
            obtain ⟨t1, t2, t3⟩ := td
            simp only [sl9] at e8
            injection e8 with e81 e9 e83
            subst e81 e83
            have hX1 : X.length ≤ 100000 := by rw [← HX.out]; exact HN2.out j
            have hrd := owC_rd ho6 hX1
            have hrd2 := owC_rd (show OwG KC cmT w6 _ (.slice t1 t2 t3) X from hod) hX1
            have HSm := hid (rsamec19_t X ao6 t1 X.length cap6 t3 w6 hrd hrd2)
            rw [← e9] at HSm ⊢
            clear he ho6 hs6 HM hrd hrd2 hod etd e9 hB6 hX1 HX
            simp only [sl9] at cd
            go_wp2_with fail
            refine HSm.out.mono ?_
            rintro e w7 ⟨he, hs7⟩
            rw [he]
            have HJ2 := hid (HS6.out.trans hs7)
            clear he hs7 HSm cd
            go_wp2_with fail
            go_roundw
            case rel => exact ⟨j + 1, by omega, by go_num, HJ2⟩
            case measure => simp [intOf]; omega
        · have hgej : ¬ (j : Int) < (m : Int) := by omega
          have HLe := hid (cm_len s5 _ p vs wr (HL5.out.still HJ.out))
          rw [HE5.out.2.1] at HLe
          have HF := hid (HS5.out.trans HJ.out)
          have hNN : ((N : Int) == (N : Int)) = true := beq_self_eq_true _
          clear HJ
          go_wp2_with fail
          refine HLe.out.mono ?_
          rintro e w7 ⟨he, hs7⟩
          rw [he]
          have HF2 := hid (HF.out.trans hs7)
          clear he hs7 HLe
          go_wp2_with fail
          go_ret
          exact ⟨by simp, HF2.out⟩
end Go.Proofs.Ytdmgalaajgebkaa
