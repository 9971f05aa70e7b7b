/- Parts of the proof, laid end to end. -/
import Derived.Test.YtdmgalaajgebkaaProg
namespace Go.Proofs.Ytdmgalaajgebkaa
set_option maxRecDepth 100000
structure En where
 fr : Int
 pe : Int
 se : Int
 vb : Int
 a : Int
 b : Int
 c : Int
 ms : Int
deriving DecidableEq
def zE : En := ⟨0, 0, 0, 0, 0, 0, 0, 0⟩
def cI (x y : Int) : Int := if x < y then -1 else if x > y then 1 else 0
def orI : List Int -> Int
 | [] => 0
 | x :: l => if x ≠ 0 then x else orI l
def kc (x y : En) : Int := orI [cI x.fr y.fr, cI x.pe y.pe, cI x.se y.se]
theorem kc_lt (x y : En) : kc x y < 0 ↔ (x.fr < y.fr \/ (x.fr = y.fr /\ (x.pe < y.pe \/ (x.pe = y.pe /\ x.se < y.se)))) := by
 simp only [kc, orI, cI]
 repeat' split
 all_goals omega
theorem kc_eq (x y : En) : kc x y = 0 ↔ (x.fr = y.fr /\ x.pe = y.pe /\ x.se = y.se) := by
 simp only [kc, orI, cI]
 repeat' split
 all_goals omega
def le (x y : En) : Prop := ¬ kc y x < 0
theorem le_refl' (x : En) : le x x := by unfold le; rw [kc_lt]; omega
theorem le_tr {x y z : En} (h1 : le x y) (h2 : le y z) : le x z := by
 unfold le at *; rw [kc_lt] at *; omega
theorem le_of_lt {x y : En} (h : kc x y < 0) : le x y := by
 unfold le; rw [kc_lt] at *; omega
theorem lt_of_le {x y : En} (h : le x y) (hn : kc x y ≠ 0) : kc x y < 0 := by
 unfold le at h; rw [Ne, kc_eq] at hn; rw [kc_lt] at *; omega
theorem lt_tr {x y z : En} (h1 : kc x y < 0) (h2 : kc y z < 0) : kc x z < 0 := by
 rw [kc_lt] at *; omega
theorem kc_symm {x y : En} (h : kc x y ≠ 0) : kc y x ≠ 0 := by
 rw [Ne, kc_eq] at *; omega
def att (L : List En) (k : Nat) : En := L.getD k zE
def sw (L : List En) (i j : Nat) : List En := (L.set i (att L j)).set j (att L i)
theorem len_sw (L : List En) (i j : Nat) : (sw L i j).length = L.length := by simp [sw]
theorem att_sw (L : List En) (i j k : Nat) (hi : i < L.length) (hj : j < L.length) : att (sw L i j) k = if k = j then att L i else if k = i then att L j else att L k := by
 unfold sw att
 rw [List.getD_eq_getElem?_getD, List.getElem?_set, List.getElem?_set, List.length_set]
 by_cases h1 : k = j
 ·subst h1; simp [hj]
 ·rw [if_neg (show ¬ j = k from fun e => h1 e.symm)]
  by_cases h2 : k = i
  ·subst h2; simp [hi, h1]
  ·rw [if_neg (show ¬ i = k from fun e => h2 e.symm), if_neg h1, if_neg h2]
   rw [List.getD_eq_getElem?_getD]
theorem att_mem {L : List En} {k : Nat} (h : k < L.length) : att L k ∈ L := by
 unfold att; rw [List.getD_eq_getElem?_getD, List.getElem?_eq_getElem h]; exact List.getElem_mem h
theorem perm_sw (L : List En) (i j : Nat) (hi : i < L.length) (hj : j < L.length) : (sw L i j).Perm L := by
 have h := Array.swap_perm (xs := L.toArray) (i := i) (j := j) (by simpa using hi) (by simpa using hj)
 have h2 := Array.perm_iff_toList_perm.1 h
 have e : (L.toArray.swap i j (by simpa using hi) (by simpa using hj)).toList = sw L i j := by
  simp only [Array.swap, Array.toList_set, sw, att, List.getD_eq_getElem?_getD]
  rw [List.getElem?_eq_getElem hi, List.getElem?_eq_getElem hj]
  simp
 rw [e] at h2
 exact h2
def Hp (L : List En) (n : Nat) : Prop := ∀ k, 0 < k -> k < n -> le (att L ((k - 1) / 2)) (att L k)
theorem Hp.least {L : List En} {n : Nat} (h : Hp L n) : ∀ k, k < n -> le (att L 0) (att L k) := by
 intro k
 induction k using Nat.strongRecOn with
 | _ k ih =>
  intro hk
  by_cases h0 : k = 0
  ·subst h0; exact le_refl' _
  ·exact le_tr (ih ((k - 1) / 2) (by omega) (by omega)) (h k (by omega) hk)
def Up (L : List En) (j : Nat) : Prop := (∀ k, 0 < k -> k < L.length -> k ≠ j -> le (att L ((k - 1) / 2)) (att L k)) /\ ∀ k, 0 < k -> k < L.length -> (k - 1) / 2 = j -> 0 < j -> le (att L ((j - 1) / 2)) (att L k)
theorem Up.step {L : List En} {j : Nat} (h : Up L j) (h0 : 0 < j) (hj : j < L.length) (hlt : kc (att L j) (att L ((j - 1) / 2)) < 0) : Up (sw L ((j - 1) / 2) j) ((j - 1) / 2) := by
 have hi : (j - 1) / 2 < L.length := by omega
 refine ⟨fun k k0 hk hne => ?_, fun k k0 hk hp i0 => ?_⟩
 ·rw [len_sw] at hk
  rw [att_sw L _ _ _ hi hj, att_sw L _ _ _ hi hj]
  by_cases hkj : k = j
  ·subst hkj
   rw [if_neg (by omega), if_pos rfl, if_pos rfl]
   exact le_of_lt hlt
  ·rw [if_neg hkj, if_neg hne]
   by_cases hp : (k - 1) / 2 = (j - 1) / 2
   ·rw [hp, if_neg (by omega), if_pos rfl]
    have := h.1 k k0 hk hkj
    rw [hp] at this
    exact le_tr (le_of_lt hlt) this
   ·by_cases hp2 : (k - 1) / 2 = j
    ·rw [if_pos hp2]
     exact h.2 k k0 hk hp2 h0
    ·rw [if_neg hp2, if_neg hp]
     exact h.1 k k0 hk hkj
 ·rw [len_sw] at hk
  rw [att_sw L _ _ _ hi hj, att_sw L _ _ _ hi hj, if_neg (show ¬ ((j - 1) / 2 - 1) / 2 = j by omega), if_neg (show ¬ ((j - 1) / 2 - 1) / 2 = (j - 1) / 2 by omega)]
  have hu := h.1 ((j - 1) / 2) i0 hi (by omega)
  by_cases hkj : k = j
  ·rw [if_pos hkj]; exact hu
  ·rw [if_neg hkj, if_neg (by omega)]
   have := h.1 k k0 hk hkj
   rw [hp] at this
   exact le_tr hu this
theorem Up.done {L : List En} {j : Nat} (h : Up L j) (hd : j = 0 \/ ¬ kc (att L j) (att L ((j - 1) / 2)) < 0) : Hp L L.length := by
 intro k k0 hk
 by_cases hkj : k = j
 ·subst hkj
  rcases hd with rfl | hd
  ·omega
  ·exact hd
 ·exact h.1 k k0 hk hkj
theorem Up.app {L : List En} (x : En) (h : Hp L L.length) : Up (L ++ [x]) L.length := by
 have e : ∀ k, k < L.length -> att (L ++ [x]) k = att L k := fun k hk => by
  unfold att; rw [List.getD_eq_getElem?_getD, List.getD_eq_getElem?_getD, List.getElem?_append_left hk]
 refine ⟨fun k k0 hk hne => ?_, fun k k0 hk hp i0 => ?_⟩
 ·rw [List.length_append] at hk
  simp at hk
  rw [e _ (by omega), e _ (by omega)]
  exact h k k0 (by omega)
 ·rw [List.length_append] at hk
  simp at hk
  omega
def Dw (L : List En) (i n : Nat) : Prop := (∀ k, 0 < k -> k < n -> (k - 1) / 2 ≠ i -> le (att L ((k - 1) / 2)) (att L k)) /\ ∀ k, 0 < k -> k < n -> (k - 1) / 2 = i -> 0 < i -> le (att L ((i - 1) / 2)) (att L k)
theorem Dw.step {L : List En} {i j n : Nat} (h : Dw L i n) (hn : n <= L.length) (hj : j < n) (hji : j = 2 * i + 1 \/ j = 2 * i + 2) (hm : ∀ k, k < n -> (k = 2 * i + 1 \/ k = 2 * i + 2) -> le (att L j) (att L k)) (hlt : kc (att L j) (att L i) < 0) : Dw (sw L i j) j n := by
 have hi : i < L.length := by omega
 have hj' : j < L.length := by omega
 have hp : (j - 1) / 2 = i := by omega
 refine ⟨fun k k0 hk hne => ?_, fun k k0 hk hpk i0 => ?_⟩
 ·rw [att_sw L _ _ _ hi hj', att_sw L _ _ _ hi hj', if_neg hne]
  by_cases hpk : (k - 1) / 2 = i
  ·rw [if_pos hpk]
   by_cases hkj : k = j
   ·rw [if_pos hkj]; exact le_of_lt hlt
   ·rw [if_neg hkj, if_neg (by omega)]
    exact hm k hk (by omega)
  ·rw [if_neg hpk, if_neg (show ¬ k = j by omega)]
   by_cases hki : k = i
   ·subst hki
    rw [if_pos rfl]
    exact h.2 j (by omega) hj hp k0
   ·rw [if_neg hki]
    exact h.1 k k0 hk hpk
 ·rw [att_sw L _ _ _ hi hj', att_sw L _ _ _ hi hj', hp, if_neg (show ¬ i = j by omega), if_pos rfl, if_neg (show ¬ k = j by omega), if_neg (show ¬ k = i by omega)]
  have := h.1 k k0 hk (by omega)
  rw [hpk] at this
  exact this
theorem Dw.done {L : List En} {i n : Nat} (h : Dw L i n) (hd : ∀ k, k < n -> (k = 2 * i + 1 \/ k = 2 * i + 2) -> le (att L i) (att L k)) : Hp L n := by
 intro k k0 hk
 by_cases hp : (k - 1) / 2 = i
 ·rw [hp]; exact hd k hk (by omega)
 ·exact h.1 k k0 hk hp
theorem Dw.start {L : List En} (h : Hp L L.length) (n : Nat) (hn : n + 1 = L.length) : Dw (sw L 0 n) 0 n := by
 refine ⟨fun k k0 hk hne => ?_, fun k k0 hk hpk i0 => by omega⟩
 rw [att_sw L _ _ _ (by omega) (by omega), att_sw L _ _ _ (by omega) (by omega), if_neg (by omega), if_neg (by omega), if_neg (by omega), if_neg (by omega)]
 exact h k k0 (by omega)
theorem Hp.upto {L M : List En} {n : Nat} (h : Hp L n) (hm : ∀ k, k < n -> att M k = att L k) : Hp M n := by
 intro k k0 hk
 rw [hm k hk, hm _ (by omega)]
 exact h k k0 hk
def Unl (L : List En) : Prop := L.Pairwise (fun x y => kc x y ≠ 0)
theorem Unl.perm {L M : List En} (h : Unl L) (hp : L.Perm M) : Unl M := (hp.pairwise_iff (fun h => kc_symm h)).1 h
structure Qu (L : List En) : Prop where
 hp : Hp L L.length
 un : Unl L
 le : L.length <= 4096
theorem Qu.nil : Qu [] := ⟨fun k _ h => by simp at h, List.Pairwise.nil, by simp⟩
theorem Qu.ahead {L : List En} (h : Qu L) {M : List En} (hp : L.Perm (att L 0 :: M)) : ∀ x ∈ M, kc (att L 0) x < 0 := by
 intro x hx
 have hu := h.un.perm hp
 have hne := (List.pairwise_cons.1 hu).1 x hx
 have hm : x ∈ L := hp.mem_iff.2 (List.mem_cons_of_mem _ hx)
 obtain ⟨k, hk, e⟩ := List.getElem_of_mem hm
 have := h.hp.least k hk
 have e2 : att L k = x := by unfold att; rw [List.getD_eq_getElem?_getD, List.getElem?_eq_getElem hk, e]; rfl
 rw [e2] at this
 exact lt_of_le this hne
end Go.Proofs.Ytdmgalaajgebkaa
