/- What follows of a game: the order of commands, what notes tell, what the seed does. No function of the program is named here. -/
import Derived.Test.YtdljmpjfiggdiaaDoorHa
namespace Go.Proofs.YtdljmpjfiggdiaaDoor.Ha
open Pu Gp Ap Vp Np Za Ka Ja Ea

/-! Commands in order. -/
def lessC (a b : Cm) : Bool := decide (a.pe < b.pe) || (decide (a.pe = b.pe) && decide (a.sq < b.sq))
theorem lessC_iff {a b : Cm} : lessC a b = true ↔ a.pe < b.pe ∨ a.pe = b.pe ∧ a.sq < b.sq := by
  unfold lessC
  simp only [Bool.or_eq_true, Bool.and_eq_true, decide_eq_true_eq]
/-- one is put into its place; the list from its end on -/
def insR : List Cm → Cm → List Cm
  | [], x => [x]
  | y :: r, x => if lessC y x then x :: y :: r else y :: insR r x
def ofR (f : Int) : List Cm → List Cm → List Cm
  | [], acc => acc
  | x :: l, acc => ofR f l (if x.fr = f then insR acc x else acc)
def ofC (l : List Cm) (f : Int) : List Cm := (ofR f l []).reverse
theorem insR_perm : ∀ (r : List Cm) (x : Cm), (insR r x).Perm (x :: r)
  | [], x => List.Perm.refl _
  | y :: r, x => by
    unfold insR
    split
    · exact List.Perm.refl _
    · exact ((insR_perm r x).cons y).trans (List.Perm.swap x y r)
theorem ofR_perm (f : Int) : ∀ (l acc : List Cm), (ofR f l acc).Perm (l.filter (fun x => decide (x.fr = f)) ++ acc)
  | [], acc => List.Perm.refl _
  | x :: l, acc => by
    unfold ofR
    by_cases h : x.fr = f
    · rw [if_pos h, List.filter_cons_of_pos (by simpa using h)]
      refine (ofR_perm f l (insR acc x)).trans ?_
      refine ((insR_perm acc x).append_left _).trans ?_
      exact List.perm_middle
    · rw [if_neg h, List.filter_cons_of_neg (by simpa using h)]
      exact ofR_perm f l acc
theorem ofC_perm (l : List Cm) (f : Int) : (ofC l f).Perm (l.filter (fun x => decide (x.fr = f))) := by
  unfold ofC
  have h := ofR_perm f l []
  rw [List.append_nil] at h
  exact (List.reverse_perm _).trans h
theorem ofC_mem {l : List Cm} {f : Int} {x : Cm} : x ∈ ofC l f ↔ x ∈ l ∧ x.fr = f := by
  rw [(ofC_perm l f).mem_iff, List.mem_filter]
  simp
/-- no two have the same peer and number -/
def Dst (l : List Cm) : Prop := l.Pairwise fun a b => ¬ (a.pe = b.pe ∧ a.sq = b.sq)
theorem insR_sorted : ∀ {r : List Cm} {x : Cm}, (r.Pairwise fun a b => lessC b a = true) → (∀ y ∈ r, ¬ (y.pe = x.pe ∧ y.sq = x.sq)) → (insR r x).Pairwise fun a b => lessC b a = true
  | [], x, _, _ => List.pairwise_singleton _ _
  | y :: r, x, h, hd => by
    rw [List.pairwise_cons] at h
    unfold insR
    split
    · rename_i hl
      rw [List.pairwise_cons]
      refine ⟨fun z hz => ?_, List.pairwise_cons.2 h⟩
      rcases List.mem_cons.1 hz with rfl | hz
      · exact hl
      · have h1 := lessC_iff.1 (h.1 z hz)
        have h2 := lessC_iff.1 hl
        rw [lessC_iff]
        omega
    · rename_i hl
      rw [List.pairwise_cons]
      refine ⟨fun z hz => ?_, insR_sorted h.2 (fun z hz => hd z (List.mem_cons_of_mem _ hz))⟩
      rcases List.mem_cons.1 ((insR_perm r x).mem_iff.1 hz) with rfl | hz
      · have h1 := hd y (List.mem_cons_self ..)
        have h2 : ¬ (y.pe < z.pe ∨ y.pe = z.pe ∧ y.sq < z.sq) := fun e => hl (lessC_iff.2 e)
        rw [lessC_iff]
        omega
      · exact h.1 z hz
theorem ofR_sorted (f : Int) : ∀ {l acc : List Cm}, Dst l → (acc.Pairwise fun a b => lessC b a = true) → (∀ x ∈ l, ∀ y ∈ acc, ¬ (y.pe = x.pe ∧ y.sq = x.sq)) → (ofR f l acc).Pairwise fun a b => lessC b a = true
  | [], _, _, h, _ => h
  | x :: l, acc, hd, h, hx => by
    rw [Dst, List.pairwise_cons] at hd
    unfold ofR
    split
    · refine ofR_sorted f hd.2 (insR_sorted h (hx x (List.mem_cons_self ..))) (fun z hz y hy => ?_)
      rcases List.mem_cons.1 ((insR_perm acc x).mem_iff.1 hy) with rfl | hy
      · exact hd.1 z hz
      · exact hx z (List.mem_cons_of_mem _ hz) y hy
    · exact ofR_sorted f hd.2 h (fun z hz => hx z (List.mem_cons_of_mem _ hz))
theorem ofC_sorted {l : List Cm} (hd : Dst l) (f : Int) : (ofC l f).Pairwise fun a b => lessC a b = true := by
  unfold ofC
  rw [List.pairwise_reverse]
  exact ofR_sorted f hd List.Pairwise.nil (fun _ _ y hy => by cases hy)
/-- in whatever order they are handed in -/
theorem ofC_any {l l' : List Cm} (hp : l.Perm l') (hd : Dst l) (hd' : Dst l') (f : Int) : ofC l f = ofC l' f := by
  have h1 := ofC_sorted hd f
  have h2 := ofC_sorted hd' f
  have hp2 : (ofC l f).Perm (ofC l' f) := ((ofC_perm l f).trans (hp.filter _)).trans (ofC_perm l' f).symm
  refine List.Perm.eq_of_pairwise (le := fun a b => lessC a b = true) (fun a b _ _ e1 e2 => ?_) h1 h2 hp2
  rw [lessC_iff] at e1 e2
  omega
theorem dst_rev {l : List Cm} (h : Dst l) : Dst l.reverse := by
  unfold Dst at *
  rw [List.pairwise_reverse]
  exact h.imp (fun hn e => hn ⟨e.1.symm, e.2.symm⟩)
/-! The seed. -/
theorem pcks_seed {sol : Int → Int → Bool} {st sp : List (Int × Int)} {q q' f : Int} (hf : f % 16 ≠ 0) (g : Gm) : pcks ⟨sol, st, sp, q⟩ f g = pcks ⟨sol, st, sp, q'⟩ f g := by
  unfold pcks
  dsimp only
  have hn : ∀ L s n, comes L f s n = true → False := fun L s n h => hf (comes_may h).2.2.2.1
  rw [if_neg (fun h => hn _ _ _ h.2), if_neg (fun h => hn _ _ _ h.2)]
theorem glid_seed {sol : Int → Int → Bool} {st sp : List (Int × Int)} {q q' : Int} (g : Gm) : glid ⟨sol, st, sp, q⟩ g = glid ⟨sol, st, sp, q'⟩ g := rfl
theorem shts_seed {sol : Int → Int → Bool} {st sp : List (Int × Int)} {q q' : Int} (g : Gm) : shts ⟨sol, st, sp, q⟩ g = shts ⟨sol, st, sp, q'⟩ g := rfl
theorem restN_seed {sol : Int → Int → Bool} {st sp : List (Int × Int)} {q q' : Int} (L : List Mv) : ∀ i, restN ⟨sol, st, sp, q⟩ L i = restN ⟨sol, st, sp, q'⟩ L i
  | 0 => rfl
  | i + 1 => by rw [restN, restN, restN_seed L i]
theorem rsts_seed {sol : Int → Int → Bool} {st sp : List (Int × Int)} {q q' : Int} (g : Gm) : rsts ⟨sol, st, sp, q⟩ g = rsts ⟨sol, st, sp, q'⟩ g := by
  unfold rsts
  rw [restN_seed (q' := q')]
theorem frame_seed {sol : Int → Int → Bool} {st sp : List (Int × Int)} {q q' : Int} {w : Wd} {l : List Cm} (hf : (w.fr + 1) % 16 ≠ 0) : frame ⟨sol, st, sp, q⟩ w l = frame ⟨sol, st, sp, q'⟩ w l := by
  unfold frame
  dsimp only
  rw [glid_seed (q' := q'), shts_seed (q' := q'), pcks_seed (q' := q') hf, rsts_seed (q' := q')]
/-! What notes tell. -/
theorem bdC_two {a c d : Int} (ha : 0 ≤ a) (hc : 0 ≤ c) (hd : 0 ≤ d) : bdC (bdC (a + c) + d) = bdC (a + (c + d)) := by
  unfold bdC
  split <;> split <;> (try split) <;> (try split) <;> omega
/-- how many say that this one went out -/
def outsN (ns : List Nn) (p : Nat) : Nat := ns.countP fun x => x.k == 3 && x.a == (p : Int)
theorem outsN_app (a b : List Nn) (p : Nat) : outsN (a ++ b) p = outsN a p + outsN b p := by unfold outsN; exact List.countP_append
/-- what a piece of a frame does is told -/
structure Told (a b : Gm) (d : List Nn) : Prop where
  ns : b.ns = a.ns ++ d
  hl : ∀ p : Nat, (mm b.w.ms p).hl < (mm a.w.ms p).hl → ∃ x ∈ d, x.k = 2 ∧ x.a = (p : Int)
  up : ∀ p : Nat, (sc b.w.cs p).p > (sc a.w.cs p).p → ∃ x ∈ d, x.k = 2 ∧ x.b = (p : Int) ∨ x.k = 5 ∧ x.a = (p : Int) ∧ x.b = 3
  dn : ∀ p : Nat, (sc b.w.cs p).p < (sc a.w.cs p).p → ∃ x ∈ d, x.k = 3 ∧ x.a = (p : Int)
  ou : ∀ p : Nat, (sc b.w.cs p).o = bdC ((sc a.w.cs p).o + (outsN d p : Int))
  pos : ∀ p : Nat, 0 ≤ (sc a.w.cs p).o
theorem Told.trans {a b c : Gm} {d e : List Nn} (h1 : Told a b d) (h2 : Told b c e) : Told a c (d ++ e) := by
  refine ⟨by rw [h2.ns, h1.ns, List.append_assoc], fun p h => ?_, fun p h => ?_, fun p h => ?_, fun p => ?_, h1.pos⟩
  · by_cases hx : (mm b.w.ms p).hl < (mm a.w.ms p).hl
    · obtain ⟨x, hx, h3⟩ := h1.hl p hx; exact ⟨x, List.mem_append_left _ hx, h3⟩
    · obtain ⟨x, hx, h3⟩ := h2.hl p (by omega); exact ⟨x, List.mem_append_right _ hx, h3⟩
  · by_cases hx : (sc b.w.cs p).p > (sc a.w.cs p).p
    · obtain ⟨x, hx, h3⟩ := h1.up p hx; exact ⟨x, List.mem_append_left _ hx, h3⟩
    · obtain ⟨x, hx, h3⟩ := h2.up p (by omega); exact ⟨x, List.mem_append_right _ hx, h3⟩
  · by_cases hx : (sc b.w.cs p).p < (sc a.w.cs p).p
    · obtain ⟨x, hx, h3⟩ := h1.dn p hx; exact ⟨x, List.mem_append_left _ hx, h3⟩
    · obtain ⟨x, hx, h3⟩ := h2.dn p (by omega); exact ⟨x, List.mem_append_right _ hx, h3⟩
  · rw [h2.ou p, h1.ou p, bdC_two (h1.pos p) (by omega) (by omega), outsN_app]
    congr 2
/-- scores of a world that may be -/
theorem seats_o {n : Nat} {w : Wd} (h : Seats n w) (p : Nat) : 0 ≤ (sc w.cs p).o ∧ (sc w.cs p).o ≤ 2147483647 := by
  by_cases hp : p < n
  · exact (h.2.2.2 p hp).2.2.1
  · have e : sc w.cs p = zC := by simp [sc, List.getD, List.getElem?_eq_none (show w.cs.length ≤ p by rw [h.2.2.1]; omega)]
    rw [e]
    exact ⟨by decide, by decide⟩
/-- a piece that leaves scores, and makes no health less -/
theorem told_quiet {n : Nat} {a b : Gm} {d : List Nn} (hs : Seats n a.w) (hn : b.ns = a.ns ++ d) (hc : b.w.cs = a.w.cs) (hh : ∀ p : Nat, (mm a.w.ms p).hl ≤ (mm b.w.ms p).hl) (hd : ∀ x ∈ d, x.k ≠ 3) : Told a b d := by
  refine ⟨hn, fun p h => ?_, fun p h => ?_, fun p h => ?_, fun p => ?_, fun p => (seats_o hs p).1⟩
  · have := hh p; omega
  · rw [hc] at h; omega
  · rw [hc] at h; omega
  · have e : outsN d p = 0 := by
      unfold outsN
      rw [List.countP_eq_zero]
      intro x hx
      simp [hd x hx]
    rw [hc, e]
    have := seats_o hs p
    rw [bdC_id (by omega) (by omega)]
    simp
theorem deed_hl {m : Mv} {v a b : Int} : (deed m v a b).hl = m.hl := by
  unfold deed
  repeat' split
  all_goals rfl
theorem act_hl {m : Mv} {v a b c : Int} (h : errA m v a b c = 0) : (actM m v a b c).hl = m.hl := by
  unfold actM
  rw [if_pos h]
  split
  · exact deed_hl
  · rfl
theorem glide_hl {sol : Int → Int → Bool} {m : Mv} (h : May m) : (gliM sol m).hl = m.hl := by
  unfold gliM
  rw [mayB_iff.2 h]
  show (glideM sol m).hl = m.hl
  unfold glideM
  repeat' split
  all_goals rfl
theorem rest_hl {m : Mv} {x y : Int} (h : May m) : m.hl ≤ (resM m x y).hl := by
  unfold resM
  rw [mayB_iff.2 h]
  show m.hl ≤ (restM m x y).hl
  have hh := h.2.2.2.2.1
  unfold restM
  repeat' split
  all_goals (first | exact Int.le_refl _ | (show m.hl ≤ 100; omega))
theorem apt_hl {a b : Mv} (ha : May a) (hb : May b) : (aptA a b).hl = a.hl := by
  unfold aptA aptE
  rw [mayB_iff.2 ha, mayB_iff.2 hb]
  simp only [Bool.and_self, if_true]
  split <;> rfl
theorem told_none {n : Nat} {g : Gm} (h : Seats n g.w) : Told g g [] := told_quiet h (by simp) rfl (fun _ => Int.le_refl _) (fun x hx => by cases hx)
theorem hl_set {L : List Mv} {j : Nat} {x : Mv} (hj : j < L.length) (hx : (mm L j).hl ≤ x.hl) (p : Nat) : (mm L p).hl ≤ (mm (L.set j x) p).hl := by
  rw [mm_set hj]
  split
  · rename_i e; subst e; exact hx
  · exact Int.le_refl _
theorem told_act1 {n : Nat} {g : Gm} {x : Cm} (h : Seats n g.w) (hx : Rgt n x) : ∃ d, Told g (act1 g x) d := by
  obtain ⟨p0, p1, p2, p3⟩ := hx
  have hp : x.pe.toNat < n := by omega
  have he : errA (mm g.w.ms x.pe.toNat) x.v x.a x.b x.c = 0 := by unfold errA; rw [mayB_iff.2 (h.2.1 _ hp)]; exact p3
  have hh := hl_set (L := g.w.ms) (j := x.pe.toNat) (by rw [h.1]; exact hp) (Int.le_of_eq (act_hl he).symm)
  unfold act1
  dsimp only
  split
  · exact ⟨_, told_quiet h rfl rfl hh (fun y hy => by rw [List.mem_singleton.1 hy]; exact (by decide : (1 : Int) ≠ 3))⟩
  · split
    · exact ⟨_, told_quiet h rfl rfl hh (fun y hy => by rw [List.mem_singleton.1 hy]; exact (by decide : (8 : Int) ≠ 3))⟩
    · exact ⟨[], told_quiet h (by simp) rfl hh (fun y hy => by cases hy)⟩
theorem told_acts {n : Nat} {E : Env} (hn : n ≤ 6) : ∀ (l : List Cm) (g : Gm), Good n E g.w → (∀ x ∈ l, Rgt n x) → ∃ d, Told g (acts l g) d
  | [], g, h, _ => ⟨[], told_none h.1⟩
  | x :: l, g, h, hl => by
    have hx := hl x (List.mem_cons_self ..)
    obtain ⟨d, h1⟩ := told_act1 h.1 hx
    obtain ⟨e, h2⟩ := told_acts hn l (act1 g x) (good_act1 hn h hx) (fun y hy => hl y (List.mem_cons_of_mem _ hy))
    exact ⟨_, h1.trans h2⟩
theorem told_glid {n : Nat} {E : Env} {g : Gm} (h : Seats n g.w) : Told g (glid E g) [] := by
  refine told_quiet h (by simp [glid]) rfl (fun p => ?_) (fun x hx => by cases hx)
  show _ ≤ (mm (g.w.ms.map (gliM E.sol)) p).hl
  by_cases hp : p < n
  · have e : mm (g.w.ms.map (gliM E.sol)) p = gliM E.sol (mm g.w.ms p) := by
      rw [mm_at (by simp; rw [h.1]; exact hp), mm_at (by rw [h.1]; exact hp), List.getElem_map]
    rw [e, glide_hl (h.2.1 p hp)]
    exact Int.le_refl _
  · have e : mm (g.w.ms.map (gliM E.sol)) p = mm g.w.ms p := by
      have hl : g.w.ms.length ≤ p := by rw [h.1]; omega
      simp [mm, List.getD, List.getElem?_eq_none hl]
    rw [e]
    exact Int.le_refl _
theorem told_bncs {n : Nat} {E : Env} : ∀ (l : List (Int × Int)) (g : Gm), Good n E g.w → (∀ t ∈ l, t.1.toNat < n ∧ t.2.toNat < n) → ∃ d, Told g (bncs l g) d
  | [], g, h, _ => ⟨[], told_none h.1⟩
  | t :: l, g, h, hl => by
    obtain ⟨t1, t2⟩ := hl t (List.mem_cons_self ..)
    obtain ⟨e, h2⟩ := told_bncs l (bnc1 g t) (good_bnc1 h t1 t2) (fun y hy => hl y (List.mem_cons_of_mem _ hy))
    have ma := h.1.2.1 _ t1
    have mb := h.1.2.1 _ t2
    refine ⟨_, (told_quiet (a := g) (b := bnc1 g t) (d := [⟨7, t.1, t.2⟩]) h.1 rfl rfl (fun p => ?_) (fun y hy => by rw [List.mem_singleton.1 hy]; exact (by decide : (7 : Int) ≠ 3))).trans h2⟩
    have s1 := hl_set (L := g.w.ms) (j := t.1.toNat) (x := aptA (mm g.w.ms t.1.toNat) (mm g.w.ms t.2.toNat)) (by rw [h.1.1]; exact t1) (Int.le_of_eq (apt_hl ma mb).symm) p
    have s2 := hl_set (L := g.w.ms.set t.1.toNat (aptA (mm g.w.ms t.1.toNat) (mm g.w.ms t.2.toNat))) (j := t.2.toNat) (x := aptA (mm g.w.ms t.2.toNat) (mm g.w.ms t.1.toNat)) (by simp; rw [h.1.1]; exact t2) (by
      rw [mm_set (by rw [h.1.1]; exact t1), apt_hl mb ma]
      split
      · rename_i e
        rw [apt_hl ma mb, e]
        exact Int.le_refl _
      · exact Int.le_refl _) p
    exact Int.le_trans s1 s2
theorem hit_outs {a b : Scr} {n : Int} {o : Bool} (ha : MayC a) (hb : MayC b) (hn : 1 ≤ n ∧ n ≤ 3) : (hit1 a b n o).o = a.o ∧ (hit2 a b n o).o = (if o then bdC (b.o + 1) else b.o) ∧ a.p ≤ (hit1 a b n o).p ∧ (hit2 a b n o).p ≤ b.p ∧ (o = false → (hit2 a b n o).p = b.p) := by
  have e := errC_yes ha hb hn
  obtain ⟨m1, m2⟩ := moreC_in (out := o) ha hn
  have hpa := ha.1
  have hpb := hb.1
  unfold hit1 hit2
  rw [if_pos e, if_pos e]
  unfold hitA hitW
  refine ⟨rfl, ?_, ?_, ?_, ?_⟩
  · cases o <;> rfl
  · show a.p ≤ bdC (a.p + moreC a n o)
    unfold bdC
    split
    · omega
    · split <;> omega
  · cases o
    · exact Int.le_refl _
    · show bdC (b.p - 2) ≤ b.p
      unfold bdC
      split
      · omega
      · split <;> omega
  · rintro rfl; rfl
theorem told_harm {n : Nat} {g : Gm} {s : Sh} {t : Int} (h : Seats n g.w) (hs : MayS s) (ho : s.ow.toNat < n) (ht0 : 0 ≤ t) (ht : t.toNat < n) (hne : s.ow ≠ t) : ∃ d, Told g (harm g s t) d := by
  unfold harm
  dsimp only
  split
  · exact ⟨[], told_none h⟩
  · have hp : 1 ≤ s.pw ∧ s.pw ≤ 3 := hs.2.2.1
    have how : 0 ≤ s.ow := hs.2.1.1
    have hneN : t.toNat ≠ s.ow.toNat := by omega
    obtain ⟨o, eo⟩ : ∃ o, hurD (mm g.w.ms t.toNat) (dmg s.pw) = o := ⟨_, rfl⟩
    rw [eo]
    obtain ⟨q1, q2, q3, q4, q5⟩ := hit_outs (o := o) (h.2.2.2 _ ho) (h.2.2.2 _ ht) hp
    have hc : ∀ p, sc ((g.w.cs.set s.ow.toNat (hit1 (sc g.w.cs s.ow.toNat) (sc g.w.cs t.toNat) s.pw o)).set t.toNat (hit2 (sc g.w.cs s.ow.toNat) (sc g.w.cs t.toNat) s.pw o)) p = if p = t.toNat then hit2 (sc g.w.cs s.ow.toNat) (sc g.w.cs t.toNat) s.pw o else if p = s.ow.toNat then hit1 (sc g.w.cs s.ow.toNat) (sc g.w.cs t.toNat) s.pw o else sc g.w.cs p := fun p => by
      rw [scs_set (by simp; rw [h.2.2.1]; exact ht), scs_set (by rw [h.2.2.1]; exact ho)]
    refine ⟨[⟨2, t, s.ow⟩] ++ (if o then [⟨3, t, s.ow⟩] else []), ⟨by simp, fun p hx => ?_, fun p hx => ?_, fun p hx => ?_, fun p => ?_, fun p => (seats_o h p).1⟩⟩
    · refine ⟨⟨2, t, s.ow⟩, by simp, rfl, ?_⟩
      show t = (p : Int)
      have hx' : (mm (g.w.ms.set t.toNat (hurM (mm g.w.ms t.toNat) (dmg s.pw))) p).hl < (mm g.w.ms p).hl := hx
      rw [mm_set (by rw [h.1]; exact ht)] at hx'
      split at hx'
      · rename_i e; omega
      · omega
    · refine ⟨⟨2, t, s.ow⟩, by simp, .inl ⟨rfl, ?_⟩⟩
      show s.ow = (p : Int)
      have hx' := hx
      rw [hc p] at hx'
      split at hx'
      · rename_i e
        subst e
        omega
      · split at hx'
        · rename_i e; omega
        · omega
    · have hx' := hx
      rw [hc p] at hx'
      split at hx'
      · rename_i e
        subst e
        cases o with
        | false => have := q5 rfl; omega
        | true => exact ⟨⟨3, t, s.ow⟩, by simp, rfl, by show t = ((t.toNat : Nat) : Int); omega⟩
      · split at hx'
        · rename_i e
          subst e
          omega
        · omega
    · show (sc _ p).o = _
      rw [hc p]
      have hb := seats_o h p
      have hout : outsN ([⟨2, t, s.ow⟩] ++ (if o then [⟨3, t, s.ow⟩] else [])) p = if o = true ∧ p = t.toNat then 1 else 0 := by
        unfold outsN
        rw [List.countP_append]
        cases o
        · simp
        · by_cases e : p = t.toNat
          · subst e
            simp
            omega
          · have : t ≠ (p : Int) := fun e2 => e (by omega)
            simp [e, this]
      rw [hout]
      by_cases e : p = t.toNat
      · rw [if_pos e]
        subst e
        rw [q2]
        cases o
        · simp only [Bool.false_eq_true, if_false, false_and]
          rw [bdC_id (by omega) (by omega)]
          simp
        · simp
      · have e0 : ¬ (o = true ∧ p = t.toNat) := fun hx => e hx.2
        rw [if_neg e]
        by_cases e2 : p = s.ow.toNat
        · rw [if_pos e2, if_neg e0]
          subst e2
          rw [q1, bdC_id (by omega) (by omega)]
          simp
        · rw [if_neg e2, if_neg e0, bdC_id (by omega) (by omega)]
          simp
theorem told_harms {n : Nat} {F : List Sh} (hF : ∀ i, i < F.length → MayS (ss F i) ∧ (ss F i).ow.toNat < n) : ∀ (l : List (Int × Int)) (g : Gm), Seats n g.w → (∀ t ∈ l, t.1.toNat < F.length ∧ 0 ≤ t.2 ∧ t.2.toNat < n ∧ (ss F t.1.toNat).ow ≠ t.2) → ∃ d, Told g (harmR F l g) d
  | [], g, h, _ => ⟨[], told_none h⟩
  | t :: l, g, h, hl => by
    obtain ⟨t1, t0, t2, t3⟩ := hl t (List.mem_cons_self ..)
    obtain ⟨d, h1⟩ := told_harm h (hF _ t1).1 (hF _ t1).2 t0 t2 t3
    obtain ⟨e, h2⟩ := told_harms hF l (harm g (ss F t.1.toNat) t.2) (seats_harm h (hF _ t1).1 (hF _ t1).2 t2) (fun y hy => hl y (List.mem_cons_of_mem _ hy))
    exact ⟨_, h1.trans h2⟩
theorem sho_own {L : List Mv} {S : List Sh} : ∀ t ∈ sho L S, 0 ≤ t.2 ∧ (ss S t.1.toNat).ow ≠ t.2 := by
  intro t ht
  unfold sho at ht
  split at ht
  · obtain ⟨i, hi, rfl⟩ := List.mem_iff_getElem.1 ht
    obtain ⟨j, k, h1, h2, h3, h4, _⟩ := rowS_at _ _ _ i hi
    rw [h3]
    refine ⟨by show (0 : Int) ≤ (k : Int); omega, ?_⟩
    show (ss S ((j : Int).toNat)).ow ≠ (k : Int)
    rw [Int.toNat_natCast]
    unfold hS at h4
    simp only [Bool.and_eq_true, Bool.not_eq_true', beq_eq_false_iff_ne] at h4
    exact fun e => h4.1.2 e.symm
  · simp at ht
theorem told_shts {n : Nat} {E : Env} {g : Gm} (h : Good n E g.w) : ∃ d, Told g (shts E g) d := by
  obtain ⟨hS, r1, r2, r3, r4, r5, r6⟩ := h
  obtain ⟨f1, f2⟩ := flo_fls (E := E) r1
  have hF : ∀ i, i < (flsF E g.w.hs).length → MayS (ss (flsF E g.w.hs) i) ∧ (ss (flsF E g.w.hs) i).ow.toNat < n := fun i hi => by
    have hm : ss (flsF E g.w.hs) i ∈ flsF E g.w.hs := by rw [ss_at hi]; exact List.getElem_mem hi
    have h1 := (flo_pw.1 f1).2.1 _ hm
    obtain ⟨t, ht, _, h3⟩ := f2 _ hm
    have h4 := (r2 t ht).1
    have h5 : 0 ≤ (ss (flsF E g.w.hs) i).ow := h1.2.1.1
    exact ⟨h1, by omega⟩
  obtain ⟨d, hd⟩ := told_harms hF (sho g.w.ms (flsF E g.w.hs)) g hS (fun t ht => by
    have h1 := sho_in t ht
    have h2 := sho_own t ht
    exact ⟨h1.1, h2.1, by rw [← hS.1]; exact h1.2, h2.2⟩)
  exact ⟨d, hd.ns, hd.hl, hd.up, hd.dn, hd.ou, hd.pos⟩
theorem gain_in {s : Scr} {n : Int} (hs : MayC s) (hn : 0 ≤ n ∧ n ≤ 100) : (gain s n).o = s.o ∧ s.p ≤ (gain s n).p ∧ (n = 0 → (gain s n).p = s.p) := by
  have hp := hs.1
  unfold gain
  rw [if_pos (errG_yes hs hn)]
  refine ⟨rfl, ?_, fun h => ?_⟩
  · show s.p ≤ bdC (s.p + n)
    unfold bdC
    split
    · omega
    · split <;> omega
  · show bdC (s.p + n) = s.p
    rw [h, Int.add_zero, bdC_id (by omega) (by omega)]
theorem told_take {n : Nat} {Q : List Pk} {g : Gm} {t : Int × Int} (h : Seats n g.w) (hk : 1 ≤ (pk Q t.1.toNat).kd ∧ (pk Q t.1.toNat).kd ≤ 3) (t0 : 0 ≤ t.2) (ht : t.2.toNat < n) : Told g (take1 Q g t) [⟨5, t.2, (pk Q t.1.toNat).kd⟩] := by
  have hm := h.2.1 _ ht
  obtain ⟨m1, m2, m3⟩ := may_take hm hk
  have e : errT (mm g.w.ms t.2.toNat) (pk Q t.1.toNat).kd = 0 := by unfold errT; rw [mayB_iff.2 hm, if_pos hk]; rfl
  obtain ⟨g1, g2, g3⟩ := gain_in (h.2.2.2 _ ht) (n := takP (mm g.w.ms t.2.toNat) (pk Q t.1.toNat).kd) ⟨m2, by omega⟩
  have hh := hl_set (L := g.w.ms) (j := t.2.toNat) (by rw [h.1]; exact ht) (helps e).1
  have hc : ∀ p, sc (take1 Q g t).w.cs p = if p = t.2.toNat then gain (sc g.w.cs t.2.toNat) (takP (mm g.w.ms t.2.toNat) (pk Q t.1.toNat).kd) else sc g.w.cs p := fun p => scs_set (by rw [h.2.2.1]; exact ht)
  refine ⟨rfl, fun p hx => ?_, fun p hx => ?_, fun p hx => ?_, fun p => ?_, fun p => (seats_o h p).1⟩
  · have := hh p
    have hx' : (mm (g.w.ms.set t.2.toNat (takM (mm g.w.ms t.2.toNat) (pk Q t.1.toNat).kd)) p).hl < (mm g.w.ms p).hl := hx
    omega
  · rw [hc p] at hx
    split at hx
    · rename_i ep
      subst ep
      refine ⟨_, List.mem_singleton.2 rfl, .inr ⟨rfl, by show t.2 = ((t.2.toNat : Nat) : Int); omega, ?_⟩⟩
      show (pk Q t.1.toNat).kd = 3
      by_cases h3 : (pk Q t.1.toNat).kd = 3
      · exact h3
      · have : takP (mm g.w.ms t.2.toNat) (pk Q t.1.toNat).kd = 0 := by unfold takP; rw [if_neg (fun hx => h3 hx.2.2)]
        have := g3 this
        omega
    · omega
  · rw [hc p] at hx
    split at hx
    · rename_i ep
      subst ep
      omega
    · omega
  · have hb := seats_o h p
    rw [hc p]
    have e0 : outsN [⟨5, t.2, (pk Q t.1.toNat).kd⟩] p = 0 := by simp [outsN]
    rw [e0]
    split
    · rename_i ep
      subst ep
      rw [g1, bdC_id (by omega) (by omega)]
      simp
    · rw [bdC_id (by omega) (by omega)]
      simp
theorem told_takes {n : Nat} {Q : List Pk} (hQ : ∀ i, i < Q.length → 1 ≤ (pk Q i).kd ∧ (pk Q i).kd ≤ 3) : ∀ (l : List (Int × Int)) (g : Gm), Seats n g.w → (∀ t ∈ l, t.1.toNat < Q.length ∧ 0 ≤ t.2 ∧ t.2.toNat < n) → ∃ d, Told g (takR Q l g) d
  | [], g, h, _ => ⟨[], told_none h⟩
  | t :: l, g, h, hl => by
    obtain ⟨t1, t0, t2⟩ := hl t (List.mem_cons_self ..)
    have h1 := told_take h (hQ _ t1) t0 t2
    obtain ⟨e, h2⟩ := told_takes hQ l (take1 Q g t) (seats_take h (hQ _ t1) t2) (fun y hy => hl y (List.mem_cons_of_mem _ hy))
    exact ⟨_, h1.trans h2⟩
theorem pic_pos {L : List Mv} {Q : List Pk} {T : List (Int × Int)} : ∀ t ∈ pic L Q T, 0 ≤ t.2 := by
  intro t ht
  unfold pic at ht
  split at ht
  · obtain ⟨i, hi, rfl⟩ := List.mem_iff_getElem.1 ht
    obtain ⟨j, k, h1, h2, h3, _⟩ := rowS_at _ _ _ i hi
    rw [h3]
    show (0 : Int) ≤ (k : Int)
    omega
  · simp at ht
theorem told_pcks {n : Nat} {E : Env} {f : Int} {g : Gm} (h : Good n E g.w) : ∃ d, Told g (pcks E f g) d := by
  obtain ⟨hS, r1, r2, r3, r4, r5, r6⟩ := h
  have hQ : ∀ i, i < g.w.ks.length → 1 ≤ (pk g.w.ks i).kd ∧ (pk g.w.ks i).kd ≤ 3 := fun i hi => (r3.2.2 i hi).2.2.2.1
  have hin : ∀ t ∈ pic g.w.ms g.w.ks E.sp, t.1.toNat < g.w.ks.length ∧ t.2.toNat < n := fun t ht => by
    have := pic_in t ht
    exact ⟨this.1, by rw [← hS.1]; exact this.2⟩
  obtain ⟨k1, _⟩ := seats_takes hQ (pic g.w.ms g.w.ks E.sp) g hS hin
  obtain ⟨d, hd⟩ := told_takes hQ (pic g.w.ms g.w.ks E.sp) g hS (fun t ht => ⟨(hin t ht).1, pic_pos t ht, (hin t ht).2⟩)
  unfold pcks
  dsimp only
  split
  · refine ⟨_, hd.trans (told_quiet (n := n) k1 rfl rfl (fun _ => Int.le_refl _) (fun y hy => by rw [List.mem_singleton.1 hy]; exact (by decide : (6 : Int) ≠ 3)))⟩
  · exact ⟨d, hd.ns, hd.hl, hd.up, hd.dn, hd.ou, hd.pos⟩
theorem back_kind (L : List Mv) : ∀ i, ∀ x ∈ backN L i, x.k = 4
  | 0, x, h => by cases h
  | i + 1, x, h => by
    rw [backN, List.mem_append] at h
    rcases h with h | h
    · exact back_kind L i x h
    · split at h
      · rw [List.mem_singleton.1 h]
      · cases h
theorem told_rsts {n : Nat} {E : Env} {g : Gm} (h : Seats n g.w) : Told g (rsts E g) (backN g.w.ms g.w.ms.length) := by
  refine told_quiet h rfl rfl (fun p => ?_) (fun x hx => by rw [back_kind _ _ x hx]; decide)
  show _ ≤ (mm (restN E g.w.ms g.w.ms.length) p).hl
  by_cases hp : p < g.w.ms.length
  · rw [restN_at E (Nat.le_refl _) p hp, if_pos hp]
    exact rest_hl (h.2.1 p (by rw [← h.1]; exact hp))
  · have e : mm (restN E g.w.ms g.w.ms.length) p = mm g.w.ms p := by
      unfold mm
      rw [List.getD_eq_getElem?_getD, List.getD_eq_getElem?_getD, List.getElem?_eq_none (by rw [restN_len]; omega), List.getElem?_eq_none (by omega)]
    rw [e]
    exact Int.le_refl _
theorem Told.self {a b : Gm} {d : List Nn} (h : Told a b d) (ha : a.ns = []) : Told a b b.ns := by
  have e := h.ns
  rw [ha, List.nil_append] at e
  rw [e]
  exact h
theorem Told.fr {a b : Gm} {d : List Nn} (h : Told a b d) (f : Int) : Told a ⟨{ b.w with fr := f }, b.ns⟩ d := ⟨h.ns, h.hl, h.up, h.dn, h.ou, h.pos⟩
/-- what a frame does is told by its notes -/
theorem told_frame {n : Nat} {E : Env} {w : Wd} {l : List Cm} (hn : n ≤ 6) (h : Good n E w) (hl : ∀ x ∈ l, Rgt n x) : Told ⟨w, []⟩ (frame E w l) (frame E w l).ns := by
  have a1 := good_acts hn l ⟨w, []⟩ h hl
  have g1 := good_glid (E := E) a1
  have hin : ∀ t ∈ bod (glid E (acts l ⟨w, []⟩)).w.ms, t.1.toNat < n ∧ t.2.toNat < n := fun t ht => by
    have := bod_in t ht
    rw [g1.1.1] at this
    exact this
  have g2 := good_bncs (bod (glid E (acts l ⟨w, []⟩)).w.ms) _ g1 hin
  have g3 := good_shts g2
  have g4 := good_pcks (f := w.fr + 1) g3
  obtain ⟨d1, t1⟩ := told_acts hn l ⟨w, []⟩ h hl
  have t2 := told_glid (E := E) a1.1
  obtain ⟨d3, t3⟩ := told_bncs (bod (glid E (acts l ⟨w, []⟩)).w.ms) _ g1 hin
  obtain ⟨d4, t4⟩ := told_shts g2
  obtain ⟨d5, t5⟩ := told_pcks (f := w.fr + 1) g3
  have t6 := told_rsts (E := E) g4.1
  have T := ((((t1.trans t2).trans t3).trans t4).trans t5).trans t6
  have T' := (T.self rfl).fr (w.fr + 1)
  unfold frame
  dsimp only
  exact T'
end Go.Proofs.YtdljmpjfiggdiaaDoor.Ha
