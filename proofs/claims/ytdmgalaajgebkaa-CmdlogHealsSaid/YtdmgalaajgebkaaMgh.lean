/- The program's Heal. -/
import Derived.Test.YtdmgalaajgebkaaMgg
namespace Go.Proofs.Ytdmgalaajgebkaa
open Go Go.RowKit
set_option maxRecDepth 100000
attribute [local go_sem] Oper.semAt_some

section
variable {α : Type} {K : Kd α} {e : TypeId} {L : List α} {w w' : World}
/-- one cell of one element turned -/
theorem OwG.put19 {B g n cap : Nat} (h : OwG K e w B (.slice (some ⟨g, 0, none⟩) n cap) L) {i : Nat} (hi : i < L.length) (j : Nat) (hj : j < K.k) (u : Value) (x : α) (hx : K.f x = (K.f (L.getD i K.d)).set j u) : OwG K e (w.setCell ⟨g, i * K.k + j, none⟩ u) B (.slice (some ⟨g, 0, none⟩) n cap) (L.set i x) := by
  rcases h.2 with ⟨hv, _⟩ | ⟨g', cap', cur, hv, hb, hg, hn, hm, hs, ht⟩
  · cases hv
  · cases hv
    have hi2 : i * K.k + K.k ≤ L.length * K.k := by rw [← Nat.succ_mul]; exact Nat.mul_le_mul_right _ hi
    have h1 := heap_setCell_same w g (i * K.k + j) cur e u hg
    refine ⟨by rw [K.row_len, List.length_set], .inr ⟨g, cap, _, by rw [List.length_set], hb, h1, by rw [List.length_set]; exact hn, hm, by rw [Array.size_setIfInBounds]; exact hs, ?_⟩⟩
    rw [List.length_set, Array.toList_setIfInBounds, List.take_set, ht]
    have e1 := K.row_set L i hi (L.getD i K.d)
    have e2 : L.set i (L.getD i K.d) = L := by
      rw [List.getD_eq_getElem?_getD, List.getElem?_eq_getElem hi, Option.getD_some, List.set_getElem_self]
    rw [e2] at e1
    rw [← K.row_set L i hi x, hx]
    conv => lhs; rw [← e1]
    have hl1 : ((K.row L).take (i * K.k)).length = i * K.k := by rw [List.length_take, K.row_len]; omega
    rw [List.set_append_right _ _ (by rw [hl1]; omega), hl1, List.set_append_left _ _ (by rw [K.len]; omega), show i * K.k + j - i * K.k = j by omega]
end
/-- logs whose entries differ in their Missed alone -/
theorem cnt_cm (p : En → Bool) (hp : ∀ x, p (cmE x) = p x) (S : List En) : (S.map cmE).countP p = S.countP p := by
  rw [List.countP_map]
  congr 1
  funext x
  exact hp x
theorem srt_cm {S : List En} : Srt (S.map cmE) ↔ Srt S := by
  unfold Srt
  rw [List.pairwise_map]
  exact Iff.rfl
theorem Lo.same {s : Lgs} (h : Lo s) {S' : List En} (e : S'.map cmE = s.S.map cmE) (hm : ∀ x ∈ S', 0 ≤ x.ms ∧ x.ms < s.nr) : Lo { s with S := S' } := by
  have mem : ∀ x ∈ S', ∃ y ∈ s.S, cmE y = cmE x := fun x hx => by
    have : cmE x ∈ S'.map cmE := List.mem_map_of_mem hx
    rw [e] at this
    obtain ⟨y, hy, e2⟩ := List.mem_map.1 this
    exact ⟨y, hy, e2⟩
  refine ⟨h.p, h.r, h.b, ?_, fun x hx => ?_, fun x hx => ?_, hm, fun f p => ?_⟩
  · exact srt_cm.1 (by show Srt (S'.map cmE); rw [e]; exact srt_cm.2 h.srt)
  · obtain ⟨y, hy, e2⟩ := mem x hx
    have := h.fr y hy
    rw [show y.fr = x.fr from (congrArg En.fr e2 : (cmE y).fr = (cmE x).fr)] at this
    exact this
  · obtain ⟨y, hy, e2⟩ := mem x hx
    have := h.pe y hy
    rw [show y.pe = x.pe from (congrArg En.pe e2 : (cmE y).pe = (cmE x).pe)] at this
    exact this
  · have h1 := h.few f p
    rw [← cnt_cm _ (fun x => rfl), ← e, cnt_cm _ (fun x => rfl)] at h1
    exact h1
theorem att_cm {S S' : List En} (e : S'.map cmE = S.map cmE) (k : Nat) : cmE (att S' k) = cmE (att S k) := by
  have h := congrArg (fun l : List En => l.getD k zE) e
  simp only [List.getD_eq_getElem?_getD, List.getElem?_map] at h
  unfold att
  rw [List.getD_eq_getElem?_getD, List.getD_eq_getElem?_getD]
  cases h1 : S'[k]? <;> cases h2 : S[k]? <;> simp [h1, h2] at h ⊢ <;> first | exact h | (rw [← h]; rfl) | (rw [h]; rfl)
theorem low_cm {S S' : List En} (e : S'.map cmE = S.map cmE) (f : Int) : lowN f S' = lowN f S := by
  unfold lowN
  rw [← cnt_cm _ (fun x => rfl), e, cnt_cm _ (fun x => rfl)]
theorem encL_cm {S S' : List En} (e : S'.map cmE = S.map cmE) (vs : Nat → Value) (k : Nat) : encL vs S' k = encL vs S k := by
  have h := congrArg En.fr (att_cm e k)
  have h : (att S' k).fr = (att S k).fr := h
  unfold encL
  rw [h, low_cm e]
def stM (x : En) (m : Int) : En := ⟨x.fr, x.pe, x.se, x.vb, x.a, x.b, x.c, m⟩
/-- one entry turned, its frame as it was: its place -/
theorem split_at {S : List En} {k : Nat} (hk : k < S.length) : S = S.take k ++ att S k :: S.drop (k + 1) := by
  have : att S k = S[k] := by unfold att; rw [List.getD_eq_getElem?_getD, List.getElem?_eq_getElem hk]; rfl
  rw [this, List.getElem_cons_drop, List.take_append_drop]
theorem set_at {S : List En} {k : Nat} (hk : k < S.length) (x : En) : S.set k x = S.take k ++ x :: S.drop (k + 1) := by
  rw [List.set_eq_take_append_cons_drop, if_pos hk]
theorem plc_in {S : List En} {k i : Nat} (hk : k < S.length) (hi : (att S k).fr % 112 = (i : Int)) (x : En) (hx : x.fr = (att S k).fr) : plc i (S.set k x) = (plc i S).set (plc i (S.take k)).length x ∧ (plc i (S.take k)).length < (plc i S).length ∧ att (plc i S) (plc i (S.take k)).length = att S k := by
  have e1 : plc i S = plc i (S.take k) ++ att S k :: plc i (S.drop (k + 1)) := by
    conv => lhs; rw [split_at hk]
    unfold plc
    rw [List.filter_append, List.filter_cons_of_pos (by simpa using hi)]
  have e2 : plc i (S.set k x) = plc i (S.take k) ++ x :: plc i (S.drop (k + 1)) := by
    rw [set_at hk]
    unfold plc
    rw [List.filter_append, List.filter_cons_of_pos (by rw [hx]; simpa using hi)]
  refine ⟨?_, ?_, ?_⟩
  · rw [e2, e1, List.set_append_right _ _ (Nat.le_refl _), Nat.sub_self, List.set_cons_zero]
  · rw [e1]; simp
  · rw [e1]
    exact att_app_r (A := plc i (S.take k)) (B := att S k :: plc i (S.drop (k + 1))) (k := 0)
theorem plc_out {S : List En} {k i : Nat} (hk : k < S.length) (hi : (att S k).fr % 112 ≠ (i : Int)) (x : En) (hx : x.fr = (att S k).fr) : plc i (S.set k x) = plc i S := by
  conv => rhs; rw [split_at hk]
  rw [set_at hk]
  unfold plc
  rw [List.filter_append, List.filter_append, List.filter_cons_of_neg (by rw [hx]; simpa using hi), List.filter_cons_of_neg (by simpa using hi)]
theorem srt_inj {S : List En} (h : Srt S) {i j : Nat} (hi : i < S.length) (hj : j < S.length) (e : att S i = att S j) : i = j := by
  rcases Nat.lt_trichotomy i j with h1 | h1 | h1
  · have := srt_at h i j h1 hj
    rw [e, kc_lt] at this
    omega
  · exact h1
  · have := srt_at h j i h1 hi
    rw [e, kc_lt] at this
    omega
theorem plc_srt {S : List En} (h : Srt S) (i : Nat) : Srt (plc i S) := List.Pairwise.sublist List.filter_sublist h
theorem set_cm {S : List En} {k : Nat} (hk : k < S.length) (m : Int) : (S.set k (stM (att S k) m)).map cmE = S.map cmE := by
  rw [set_at hk]
  conv => rhs; rw [split_at hk]
  rw [List.map_append, List.map_append, List.map_cons, List.map_cons]
  rfl
theorem Lm.setMs {w : World} {B p : Nat} {s : Lgs} {vs : Nat → Value} (h : Lm w B p s vs) {k : Nat} (hk : k < s.S.length) (m : Int) (hm : 0 ≤ m ∧ m < s.nr) {g j : Nat} (he : encL vs s.S k = .pointer (some ⟨g, j * 8, none⟩)) : Lm (w.setCell ⟨g, j * 8 + 7, none⟩ (.int .i64 m)) B p { s with S := s.S.set k (stM (att s.S k) m) } vs ∧ Rw vs g := by
  obtain ⟨i, g', j', n, cap, hi, hf, hv, hj, ea, _, he'⟩ := h.ent hk
  rw [he] at he'
  injection he' with he'
  injection he' with he'
  injection he' with e1 e2 _
  obtain rfl : j' = j := by omega
  subst e1
  have hrw : Rw vs g := ⟨i, hi, by rw [hv]; rfl⟩
  have hfr : Fr (fun b => b = g) w (w.setCell ⟨g, j' * 8 + 7, none⟩ (.int .i64 m)) := (Fr.refl _ w).setCell _ _ (.inl rfl)
  have hpg : p ≠ g := fun e => h.pne (by rw [e]; exact hrw)
  obtain ⟨q1, q2, q3⟩ := plc_in hk hf (stM (att s.S k) m) rfl
  have ej : (plc i (s.S.take k)).length = j' := srt_inj (plc_srt h.ok.srt i) q2 hj (by rw [q3, ea])
  rw [ej] at q1
  refine ⟨⟨hfr.kept h.bk hpg, h.lo, fun i2 hi2 => ?_, h.sp, ?_⟩, hrw⟩
  · by_cases e : i2 = i
    · subst e
      show OwG KE enT _ B (vs i2) (plc i2 (s.S.set k (stM (att s.S k) m)))
      rw [q1, hv]
      have ho := h.ow i2 hi2
      rw [hv] at ho
      refine ho.put19 hj 7 (by decide) (.int .i64 m) _ ?_
      have : (plc i2 s.S).getD j' KE.d = att s.S k := ea
      rw [this]
      rfl
    · show OwG KE enT _ B (vs i2) (plc i2 (s.S.set k (stM (att s.S k) m)))
      rw [plc_out hk (by omega) (stM (att s.S k) m) rfl]
      refine (h.ow i2 hi2).keep hfr (fun b hb e2 => ?_)
      subst hb
      exact h.sp i2 i hi2 hi e b e2 (by rw [hv]; rfl)
  · refine h.ok.same (set_cm hk m) (fun x hx => ?_)
    rcases List.mem_or_eq_of_mem_set hx with h1 | h1
    · exact h.ok.ms x h1
    · rw [h1]; exact hm
/-- healed -/
def heE (r : Int) (x : En) : En := if x.ms ≤ r then stM x 0 else x
def heK (r : Int) (S : List En) (k : Nat) : List En := (S.take k).map (heE r) ++ S.drop k
theorem heE_cm (r : Int) (x : En) : cmE (heE r x) = cmE x := by unfold heE; split <;> rfl
theorem heK_cm (r : Int) (S : List En) (k : Nat) : (heK r S k).map cmE = S.map cmE := by
  unfold heK
  rw [List.map_append, List.map_map, show cmE ∘ heE r = cmE from funext (heE_cm r), ← List.map_append, List.take_append_drop]
theorem heK_len (r : Int) (S : List En) (k : Nat) : (heK r S k).length = S.length := by
  have := congrArg List.length (heK_cm r S k)
  simpa using this
theorem heK_att (r : Int) {S : List En} {k : Nat} (hk : k < S.length) : att (heK r S k) k = att S k := by
  unfold heK
  have hl : ((S.take k).map (heE r)).length = k := by simp; omega
  have := att_app_r (A := (S.take k).map (heE r)) (B := S.drop k) (k := 0)
  rw [hl, Nat.add_zero] at this
  rw [this]
  unfold att
  rw [List.getD_eq_getElem?_getD, List.getD_eq_getElem?_getD, List.getElem?_drop]
  rfl
theorem heK_next (r : Int) {S : List En} {k : Nat} (hk : k < S.length) : heK r S (k + 1) = (heK r S k).set k (heE r (att S k)) := by
  unfold heK
  have hl : ((S.take k).map (heE r)).length = k := by simp; omega
  rw [List.set_append_right _ _ (by omega), hl, Nat.sub_self, take_next hk, List.map_append, List.append_assoc]
  congr 1
  have : S.drop k = att S k :: S.drop (k + 1) := by
    rw [List.drop_eq_getElem_cons hk]
    congr 1
    unfold att; rw [List.getD_eq_getElem?_getD, List.getElem?_eq_getElem hk]; rfl
  rw [this, List.set_cons_zero]
  rfl
theorem heK_all (r : Int) (S : List En) : heK r S S.length = S.map (heE r) := by
  unfold heK
  rw [List.take_of_length_le (Nat.le_refl _), List.drop_eq_nil_of_le (Nat.le_refl _), List.append_nil]
theorem set_self {S : List En} {k : Nat} (hk : k < S.length) : S.set k (att S k) = S := by
  have : att S k = S[k] := by unfold att; rw [List.getD_eq_getElem?_getD, List.getElem?_eq_getElem hk]; rfl
  rw [this, List.set_getElem_self]
/-- what Heal leaves -/
def heA (s : Lgs) (r : Int) : Lgs := { s with S := if inR r s.nr then s.S.map (heE r) else s.S }
theorem Fr.grown19 {X Y : World} {row : Option Nat} (hg : X.grownBy Y row) : Fr (fun k => row = some k) X Y := ⟨hg.os, hg.tape, hg.output, hg.size, fun k hk hn => hg.block k hk (fun e => hn e.symm)⟩
theorem Lm.grown {X Y : World} {B p : Nat} {s : Lgs} {vs : Nat → Value} {row : Option Nat} (h : Lm X B p s vs) (hg : X.grownBy Y row) (hr : ∀ r, row = some r → ∃ o : Obj, X.heap[r]? = some o ∧ o.isCells = false) : Lm Y B p s vs := by
  refine h.keep (Fr.grown19 hg) (fun e => ?_) (fun k e hk => ?_)
  · obtain ⟨o, ho, hc⟩ := hr p e
    rw [h.bk] at ho
    cases ho
    cases hc
  · obtain ⟨o, ho, hc⟩ := hr k e
    obtain ⟨i, hi, ek⟩ := hk
    rcases (h.ow i hi).2 with ⟨hv, _⟩ | ⟨g, cap, cur, hv, _, hgb, _⟩
    · rw [hv] at ek; cases ek
    · rw [hv] at ek
      simp only [Value.ownBlock, Option.some.injEq] at ek
      subst ek
      rw [hgb] at ho
      cases ho
      cases hc
theorem fr_grown {F : Nat → Prop} {w X Y : World} {row : Option Nat} (h : Fr F w X) (hg : X.grownBy Y row) (hr : ∀ r, row = some r → w.heap.size ≤ r) : Fr F w Y :=
  Fr.trans h (Fr.grown19 hg) (fun k hk e => by have := hr k e; omega)
set_option maxHeartbeats 4000000 in
theorem cm_heal_yes (s : Lgs) (B p : Nat) (vs : Nat → Value) (r : Int) (hr : inR r s.nr = true) (w : World) (h : Lm w B p s vs) : Calls Try.prog 16 #[.pointer (some ⟨p, 0, none⟩), .int .i64 r] w fun e w' => e = .returned (.tuple #[]) ∧ Lm w' B p { s with S := s.S.map (heE r) } vs ∧ Fr (Rw vs) w w' := by
  have HL := hid h
  have hlt := h.lt
  have hnr := h.ok.r
  have A0 := Still.alloc w (.cells #[.int .i64 r] 3)
  have HR := hid (cm_isRung s B p vs r _ (h.still A0))
  rw [hr] at HR
  have b0 := Boxed.new w 3 (.int .i64 r)
  have HE0 : Hid (heK r s.S 0 = s.S) := hid (by simp [heK])
  clear h hr
  refine (callsIn_wide (n := 0)).1 ?_
  refine callsIn_of_wp_marks Try.func16 rfl trivial ?_ rfl
  simp only [Try.ntmps16, List.size_toArray, List.length_cons, List.length_nil, Nat.reduceAdd, Nat.reduceSub, Array.replicate_succ, Array.replicate_zero, List.push_toArray, List.append_toArray, List.nil_append, List.cons_append]
  gi_wp2_with fail
  refine ⟨trivial, rfl, (callsIn_wide.2 HR.out).mono ?_⟩
  rintro e w1 ⟨he, hw⟩
  rw [he, hw]
  clear he hw w1 HR
  gi_wp2_with fail
  have hsz : (w.alloc (.cells #[.int .i64 r] 3)).heap.size = w.heap.size + 1 := by simp
  obtain ⟨V, eV⟩ : ∃ V, w.alloc (.cells #[.int .i64 r] 3) = V := ⟨_, rfl⟩
  rw [eV] at b0 A0 hsz ⊢
  clear eV
  refine range_n rfl enters_ent (cm_entries s B p vs _ (HL.out.still A0)) kpL_t (kpL_b (by omega)) (Below.refl _ _) rfl
    (fun k W => Lm W B p { s with S := heK r s.S k } vs ∧ Boxed W w.heap.size 3 (.int .i64 r) ∧ Fr (Rw vs) w W) (fun _ _ => False)
    (fun k X Y row hs hg hr => ⟨hs.1.grown hg (fun r e => (hr r e).2), boxed_row19 hs.2.1 hg hr, fr_grown hs.2.2 hg (fun r e => by have := (hr r e).1; omega)⟩) (fun _ _ _ _ hs _ _ => hs.elim)
    ⟨by rw [HE0.out]; exact HL.out.still A0, b0, A0.mono (fun _ _ e => e.elim)⟩
    (fun k => { tmps := #[.pointer (some ⟨p, 0, none⟩), .int .i64 r, undef, .pointer (some ⟨w.heap.size, 0, none⟩), encL vs s.S k, .pointer (some ⟨p, 0, none⟩), .int .i64 r, .bool true, .bool false, .pointer (some ⟨p, 0, none⟩), .func (.func 34) #[.pointer (some ⟨p, 0, none⟩)] #[], encL vs s.S k, undef, undef, undef, undef, undef, undef, undef, undef, undef], defers := [] }) ?assign ?body ?done ?stop
  case assign =>
    intro l x W K hK
    gi_wp2_with fail
    simpa using hK
  case body =>
    rintro l k W hk ⟨hL, k0, hF⟩
    have hk' : k < (heK r s.S k).length := by rw [heK_len]; exact hk
    obtain ⟨g, j, he, hg, _, _, _, _, _, _, _, c7, fz⟩ := hL.entry (k := k) hk'
    have HE := hid he
    rw [show encL vs ({ s with S := heK r s.S k } : Lgs).S k = encL vs s.S k from encL_cm (heK_cm r s.S k) vs k] at he
    rw [he]
    have ea : att ({ s with S := heK r s.S k } : Lgs).S k = att s.S k := heK_att r hk
    rw [ea] at c7
    have HN := hid (heK_next r hk)
    have HSf := hid (set_self hk')
    have HA := hid ea
    obtain ⟨x, ex⟩ : ∃ x, att s.S k = x := ⟨_, rfl⟩
    rw [ex] at c7 HN HA
    have e1 := Cl.cell k0.cell
    have e2 := Cl.cell c7
    have hne := Aft.here W
    have HL2 := hid hL
    have HK0 := hid k0
    have HF := hid hF
    have hgz : g < W.heap.size := (hL.rlt g hg).2
    have hgp : p ≠ g := fun e => hL.pne (by rw [e]; exact hg)
    have hgw : w.heap.size ≠ g := fun e => by
      have := (HL.out.rlt g hg).2
      omega
    have HG := hid hg
    have HZ := hid hF.size
    clear hL hF ex he k0 c7 hk' ea hg
    by_cases hx : x.ms ≤ r
    · have HT : Hid (heK r s.S (k + 1) = (heK r s.S k).set k (stM (att (heK r s.S k) k) 0)) := hid (by rw [HN.out, show att (heK r s.S k) k = x from HA.out]; unfold heE; rw [if_pos hx])
      clear HN
      gi_wp2_with fail
      refine round_all (fun ⟨_, _, h⟩ => False.elim h) (by kernel_rfl) (by kernel_rfl) (by kernel_rfl) ?_
      repeat (go_big_quiet_step (rfl))
      refine wpQuiet_nil ?_
      intro W1 h1
      have HS1 := hid h1
      have hk2 : k < ({ s with S := heK r s.S k } : Lgs).S.length := by rw [show ({ s with S := heK r s.S k } : Lgs).S.length = s.S.length from heK_len r s.S k]; exact hk
      obtain ⟨g2, j2, he2, _, _, _, _, _, _, _, _, c7, fz2⟩ := (HL2.out.still h1).entry (k := k) hk2
      have he3 := he2
      rw [HE.out] at he3
      injection he3 with he3
      injection he3 with he3
      injection he3 with e4 e5 _
      obtain rfl : j = j2 := by omega
      subst e4
      have HM := hid ((HL2.out.still h1).setMs (k := k) hk2 0 (by show (0 : Int) ≤ 0 ∧ 0 < s.nr; omega) he2)
      clear h1 e1 e2 hne he2 e5 fz hk2
      gi_wp2_with fail
      refine ⟨HS1.out.others.trans (KeepsOthers.setCell _ _ _), kpL_t (kpL_still HS1.out) (kpL_set hgp), ?_, (heap_setCell_other W1 _ _ _ hgw).trans (boxed_still HK0.out HS1.out), ?_⟩
      · rw [HT.out]
        exact HM.out.1
      · exact (Fr.trans HF.out HS1.out (fun _ _ e => e.elim)).setCell _ _ (.inl HG.out)
    · have HT : Hid (heK r s.S (k + 1) = heK r s.S k) := hid (by rw [HN.out]; unfold heE; rw [if_neg hx, ← HA.out]; exact HSf.out)
      clear HN
      gi_wp2_with fail
      refine round_all (fun ⟨_, _, h⟩ => False.elim h) (by kernel_rfl) (by kernel_rfl) (by kernel_rfl) ?_
      repeat (go_big_quiet_step (rfl))
      refine wpQuiet_nil ?_
      intro W1 h1
      have HS1 := hid h1
      clear h1 e1 e2 hne
      gi_wp2_with fail
      refine ⟨HS1.out.others, kpL_still HS1.out, ?_, boxed_still HK0.out HS1.out, Fr.trans HF.out HS1.out (fun _ _ e => e.elim)⟩
      rw [HT.out]
      exact HL2.out.still HS1.out
  case done =>
    rintro D W hD ⟨hL, k0, hF⟩ hK
    rw [heK_all] at hL
    gi_wp2_with fail
    refine ⟨by simp, .inl ⟨_, _, rfl, run_takeDeferred hK, ?_⟩⟩
    exact ⟨_, results_none rfl _ _ _, rfl, hL.grown (grownBy_putObj' W D (.deferred none)) (fun r e => by cases e; exact ⟨_, hK, rfl⟩), fr_grown hF (grownBy_putObj' W D (.deferred none)) (fun r e => by cases e; omega)⟩
  case stop =>
    rintro D k W hD hk hf hK
    exact hf.elim
theorem cm_heal_no (s : Lgs) (B p : Nat) (vs : Nat → Value) (r : Int) (hr : inR r s.nr = false) (w : World) (h : Lm w B p s vs) : Calls Try.prog 16 #[.pointer (some ⟨p, 0, none⟩), .int .i64 r] w fun e w' => e = .returned (.tuple #[]) ∧ Still w w' := by
  have A0 := Still.alloc w (.cells #[.int .i64 r] 3)
  have HR := hid (cm_isRung s B p vs r _ (h.still A0))
  rw [hr] at HR
  have HS := hid A0
  clear h hr A0
  go_enter Try.func16, Try.ntmps16
  go_wp2_with fail
  refine HR.out.mono ?_
  rintro e w1 ⟨he, hw⟩
  rw [he, hw]
  clear he hw w1 HR
  go_wp2_with fail
  refine bodyPost_ret (results_none rfl _ _ _) rfl ?_
  exact ⟨rfl, HS.out⟩
theorem cm_heal (s : Lgs) (B p : Nat) (vs : Nat → Value) (r : Int) (w : World) (h : Lm w B p s vs) : Calls Try.prog 16 #[.pointer (some ⟨p, 0, none⟩), .int .i64 r] w fun e w' => e = .returned (.tuple #[]) ∧ Lm w' B p (heA s r) vs ∧ Fr (Rw vs) w w' := by
  cases hr : inR r s.nr with
  | true =>
    rw [show heA s r = { s with S := s.S.map (heE r) } by unfold heA; rw [hr]; rfl]
    exact cm_heal_yes s B p vs r hr w h
  | false =>
    refine (cm_heal_no s B p vs r hr w h).mono ?_
    rintro e w' ⟨rfl, hs⟩
    rw [show heA s r = s by unfold heA; rw [hr]; rfl]
    exact ⟨rfl, h.still hs, hs.mono (fun _ _ e => e.elim)⟩
end Go.Proofs.Ytdmgalaajgebkaa
