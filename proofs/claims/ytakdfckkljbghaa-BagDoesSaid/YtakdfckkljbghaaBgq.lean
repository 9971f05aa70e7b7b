/- A bag of the program beside the document's, and what a call on the two may turn. -/
import Derived.Test.YtakdfckkljbghaaBgn
namespace Go.Proofs.Ytakdfckkljbghaa
open Go.RowKit
set_option maxRecDepth 100000
set_option linter.unusedVariables false

theorem del_at {L : List Pcl} (hu : UpP L) {g : Nat} (hgl : g < L.length) : delP L (L[g]).no = outP L g := by
  have e : L = L.take g ++ L[g] :: L.drop (g + 1) := by
    conv => lhs; rw [← List.take_append_drop g L, List.drop_eq_getElem_cons hgl]
  have hu2 := hu
  rw [e] at hu2
  unfold UpP at hu2
  rw [List.pairwise_append] at hu2
  obtain ⟨_, h2, h3⟩ := hu2
  obtain ⟨h4, _⟩ := List.pairwise_cons.1 h2
  obtain ⟨x, ex⟩ : ∃ x, L[g] = x := ⟨_, rfl⟩
  rw [ex] at e h3 h4
  rw [ex]
  unfold delP outP
  conv => lhs; rw [e]
  rw [List.filter_append, List.filter_cons]
  have e1 : (L.take g).filter (fun z => !(z.no == x.no)) = L.take g := List.filter_eq_self.2 (fun z hz => by
    have := h3 z hz _ (List.mem_cons_self ..)
    simp
    omega)
  have e2 : (L.drop (g + 1)).filter (fun z => !(z.no == x.no)) = L.drop (g + 1) := List.filter_eq_self.2 (fun z hz => by
    have := h4 z hz
    simp
    omega)
  rw [e1, e2]
  simp
theorem out_map (L : List Pcl) (i : Nat) : (outP L i).map abP = (L.map abP).take i ++ (L.map abP).drop (i + 1) := by
  simp [outP, List.map_take, List.map_drop]
theorem find_pair {L S : List Pcl} (h : L.map abP = S.map abP) (hu : UpP L) (k : Int) : (fndP L k = none ∧ ∀ j, j < S.length → (atP S j).no ≠ k) ∨ ∃ x i, fndP L k = some x ∧ i < S.length ∧ (atP S i).no = k ∧ (∀ j, j < i → (atP S j).no ≠ k) ∧ abP x = abP (atP S i) ∧ (delP L k).map abP = (outP S i).map abP := by
  have hl : L.length = S.length := by simpa using congrArg List.length h
  have hno : ∀ j, j < S.length → (atP S j).no = (atP L j).no := fun j hj => (congrArg Prod.fst (map_at h (i := j) (by omega))).symm
  have hat : ∀ j (hj : j < L.length), atP L j = L[j] := fun j hj => by unfold atP; rw [List.getD_eq_getElem?_getD, List.getElem?_eq_getElem hj]; rfl
  cases hf : fndP L k with
  | none => exact .inl ⟨rfl, fun j hj => by rw [hno j hj]; exact fndP_none hf _ (atP_mem (by omega))⟩
  | some x =>
    obtain ⟨hx, hxk⟩ := fndP_some hf
    obtain ⟨i, hi, rfl⟩ := List.getElem_of_mem hx
    refine .inr ⟨_, i, rfl, by omega, by rw [hno i (by omega), hat i hi]; exact hxk, fun j hj => ?_, ?_, ?_⟩
    · rw [hno j (by omega), hat j (by omega)]
      have := List.pairwise_iff_getElem.1 hu j i (by omega) hi hj
      omega
    · rw [← hat i hi]; exact map_at h (by omega)
    · rw [← hxk, del_at hu hi, out_map, out_map, h]
structure Pd17 where
  p : Nat
  mb : Nat
  yb : Nat
  v : Value
  la : Int
  L : List Pcl
  S : List Pcl
/-- blocks that its calls may turn -/
def Wt17 (P : Pd17) (k : Nat) : Prop := k = P.p ∨ k = P.mb ∨ k = P.yb ∨ P.v.ownBlock = some k
structure Ok17 (B : Nat) (w : World) (P : Pd17) : Prop where
  x : Bk w P.p P.mb P.la P.L
  y : Ydb w B P.yb P.v P.la P.S
  ab : P.L.map abP = P.S.map abP
  lp : B ≤ P.p
  lm : B ≤ P.mb
theorem Ok17.still {B : Nat} {w w' : World} {P : Pd17} (h : Ok17 B w P) (hs : Still w w') : Ok17 B w' P := ⟨h.x.still hs, h.y.still hs, h.ab, h.lp, h.lm⟩
theorem Ok17.nbt {B : Nat} {w : World} {P : Pd17} (h : Ok17 B w P) : ∀ k, Wt17 P k → Nbt w k := by
  rintro k (e | e | e | e)
  · exact h.x.nbt k (.inl e)
  · exact h.x.nbt k (.inr e)
  · exact h.y.nbt k (.inl e)
  · exact h.y.nbt k (.inr e)
theorem Ok17.wlt {B : Nat} {w : World} {P : Pd17} (h : Ok17 B w P) : ∀ k, Wt17 P k → B ≤ k ∧ k < w.heap.size := by
  rintro k (rfl | rfl | rfl | e)
  · exact ⟨h.lp, h.x.lt.1⟩
  · exact ⟨h.lm, h.x.lt.2⟩
  · exact ⟨h.y.lo, block_lt h.y.bk⟩
  · exact h.y.ow.block e
theorem Ok17.keepB {B : Nat} {w w' : World} {P : Pd17} {F : Nat → Prop} (h : Ok17 B w P) (hf : Fr F w w') (h1 : ∀ k, F k → ¬ Wt17 P k) (h2 : ∀ x ∈ P.L, ∀ a, x.ao = some a → ¬ F a.block) (h3 : ∀ x ∈ P.S, ∀ a, x.ao = some a → ¬ F a.block) : Ok17 B w' P :=
  ⟨h.x.keep hf (fun e => h1 _ e (.inl rfl)) (fun e => h1 _ e (.inr (.inl rfl))) h2, h.y.keep hf (fun e => h1 _ e (.inr (.inr (.inl rfl)))) (fun k hk e => h1 k hk (.inr (.inr (.inr e)))) h3, h.ab, h.lp, h.lm⟩
theorem Ok17.keep {B : Nat} {w w' : World} {P : Pd17} {F : Nat → Prop} (h : Ok17 B w P) (hf : Fr F w w') (hw : ∀ k, F k → ¬ Wt17 P k ∧ Nbt w k) : Ok17 B w' P :=
  h.keepB hf (fun k hk => (hw k hk).1) (fun x hx a ha e => by
    obtain ⟨_, _, cur, hg, _⟩ := (h.x.rd x hx).ow.row a ha
    exact (hw _ e).2 cur hg) (fun x hx a ha e => by
    obtain ⟨_, _, cur, hg, _⟩ := (h.y.rd x hx).ow.row a ha
    exact (hw _ e).2 cur hg)
/-- rows of bytes of a bag are from before -/
theorem Ok17.blt {B : Nat} {w : World} {P : Pd17} (h : Ok17 B w P) : (∀ x ∈ P.L, ∀ a, x.ao = some a → a.block < w.heap.size) ∧ ∀ x ∈ P.S, ∀ a, x.ao = some a → a.block < w.heap.size :=
  ⟨fun x hx a ha => (h.x.rd x hx).ow.lt a ha, fun x hx a ha => (h.y.rd x hx).ow.lt a ha⟩
theorem Ok17.len {B : Nat} {w : World} {P : Pd17} (h : Ok17 B w P) : P.S.length = P.L.length ∧ (P.L.length : Int) ≤ P.la := by
  have h1 := lt_of_map h.x
  have h2 := h.x.l0
  exact ⟨by simpa using (congrArg List.length h.ab).symm, by omega⟩
/-- the program's part apart from the document's -/
theorem Ok17.pyne {B : Nat} {w : World} {P : Pd17} (h : Ok17 B w P) : P.p ≠ P.yb ∧ P.mb ≠ P.yb ∧ P.v.ownBlock ≠ some P.p ∧ P.v.ownBlock ≠ some P.mb := by
  obtain ⟨es, c, hb, _⟩ := h.x.mp
  refine ⟨ty_ne h.x.bk h.y.bk (by decide), fun e => ?_, fun e => ?_, fun e => ?_⟩
  · rw [e, h.y.bk] at hb; cases hb
  · obtain ⟨cur, hc⟩ := ow_ty h.y.ow e
    exact ty_ne hc h.x.bk (by decide) rfl
  · obtain ⟨cur, hc⟩ := ow_ty h.y.ow e
    rw [hb] at hc; cases hc
/-- what a call on it has done -/
structure Eff17 (B : Nat) (w w' : World) (P P' : Pd17) : Prop where
  ok : Ok17 B w' P'
  fr : Fr (Wt17 P) w w'
  wt : ∀ k, Wt17 P' k → Wt17 P k ∨ w.heap.size ≤ k
  la : P'.la ≤ P.la + 1
  ep : P'.p = P.p
  ey : P'.yb = P.yb
theorem Eff17.same {B : Nat} {w w' : World} {P : Pd17} (h : Ok17 B w P) (hs : Still w w') : Eff17 B w w' P P := ⟨h.still hs, Still.to hs, fun _ hk => .inl hk, by omega, rfl, rfl⟩
theorem Eff17.still {B : Nat} {w w' w2 : World} {P P' : Pd17} (h : Eff17 B w w' P P') (hs : Still w' w2) : Eff17 B w w2 P P' := ⟨h.ok.still hs, Fr.trans h.fr hs (fun _ _ e => e.elim), h.wt, h.la, h.ep, h.ey⟩
theorem Eff17.pre {B : Nat} {w w1 w' : World} {P P' : Pd17} (hs : Still w w1) (h : Eff17 B w1 w' P P') : Eff17 B w w' P P' := ⟨h.ok, Fr.trans (Still.to hs) h.fr (fun _ _ e => e), fun k hk => (h.wt k hk).imp id (fun e => Nat.le_trans hs.size e), h.la, h.ep, h.ey⟩
/-- .. and then what was new is turned -/
theorem Eff17.then {B : Nat} {w w' w2 : World} {P P' : Pd17} {F : Nat → Prop} (h : Eff17 B w w' P P') (hf : Fr F w' w2) (hF : ∀ k, F k → w.heap.size ≤ k) (h1 : ∀ k, F k → ¬ Wt17 P' k) (h2 : ∀ x ∈ P'.L, ∀ a, x.ao = some a → ¬ F a.block) (h3 : ∀ x ∈ P'.S, ∀ a, x.ao = some a → ¬ F a.block) : Eff17 B w w2 P P' :=
  ⟨h.ok.keepB hf h1 h2 h3, Fr.trans h.fr hf (fun k hk e => by have := hF k e; omega), h.wt, h.la, h.ep, h.ey⟩
/-- the document's bag, behind a call on the program's -/
theorem Ok17.yk {B : Nat} {w w1 : World} {P : Pd17} {F : Nat → Prop} (h : Ok17 B w P) (hf : Fr F w w1) (hF : ∀ k, F k → k = P.p ∨ k = P.mb) : Ydb w1 B P.yb P.v P.la P.S := by
  have hn := h.pyne
  refine h.y.keep hf (fun e => ?_) (fun k hk e => ?_) (fun y hy a ha e => ?_)
  · rcases hF _ e with e | e
    · exact hn.1 e.symm
    · exact hn.2.1 e.symm
  · rcases hF _ hk with e2 | e2
    · exact hn.2.2.1 (by rw [e, e2])
    · exact hn.2.2.2 (by rw [e, e2])
  · obtain ⟨_, _, cur, hg, _⟩ := (h.y.rd y hy).ow.row a ha
    exact h.x.nbt _ (hF _ e) cur hg
/-- a call on the program's, then one on the document's -/
theorem Ok17.both {B : Nat} {w w1 w2 : World} {P : Pd17} {F G : Nat → Prop} (h : Ok17 B w P) {v' : Value} {la' : Int} {L' S' : List Pcl} (hf : Fr F w w1) (hF : ∀ k, F k → k = P.p ∨ k = P.mb) (hx : Bk w1 P.p P.mb la' L') (hf2 : Fr G w1 w2) (hG : ∀ k, G k → k = P.yb ∨ P.v.ownBlock = some k) (hy : Ydb w2 B P.yb v' la' S') (hab : L'.map abP = S'.map abP) (hla : la' ≤ P.la + 1) (hv : ∀ k, v'.ownBlock = some k → P.v.ownBlock = some k ∨ w.heap.size ≤ k) : Eff17 B w w2 P ⟨P.p, P.mb, P.yb, v', la', L', S'⟩ := by
  have hn := h.pyne
  have hy1 := h.yk hf hF
  have hx2 : Bk w2 P.p P.mb la' L' := hx.keep hf2 (fun e => by
      rcases hG _ e with e | e
      · exact hn.1 e
      · exact hn.2.2.1 e) (fun e => by
      rcases hG _ e with e | e
      · exact hn.2.1 e
      · exact hn.2.2.2 e) (fun x hx' a ha e => by
      obtain ⟨_, _, cur, hg, _⟩ := (hx.rd x hx').ow.row a ha
      exact hy1.nbt _ (hG _ e) cur hg)
  refine ⟨⟨hx2, hy, hab, h.lp, h.lm⟩, Fr.trans (hf.mono (fun k _ e => by rcases hF k e with e | e; exact .inl e; exact .inr (.inl e))) hf2 (fun k _ e => by rcases hG k e with e | e; exact .inr (.inr (.inl e)); exact .inr (.inr (.inr e))), ?_, hla, rfl, rfl⟩
  rintro k (e | e | e | e)
  · exact .inl (.inl e)
  · exact .inl (.inr (.inl e))
  · exact .inl (.inr (.inr (.inl e)))
  · exact (hv k e).imp (fun e => .inr (.inr (.inr e))) id
/-- a call of the script -/
structure Oq17 where
  k : Int
  wh : Int
  fr : Int
  td : Int
  ao : Option Addr
  n : Nat
  cap : Nat
  bs : List UInt8
  no : Int
  nr : Bool
abbrev oqs17 (o : Oq17) : Array Value := #[.int .i64 o.k, .int .i64 o.wh, .int .i64 o.fr, .int .i64 o.td, .slice o.ao o.n o.cap, .int .i64 o.no, .bool o.nr]
abbrev pvs17 (P : Pd17) : Array Value := #[.pointer (some ⟨P.p, 0, none⟩), .pointer (some ⟨P.yb, 0, none⟩)]
/-- the two variables of a call -/
structure Bx17 (w : World) (b2 b3 : Nat) (P : Pd17) (o : Oq17) : Prop where
  h2 : w.heap[b2]? = some (.cells (pvs17 P) 31 (0, 0))
  h3 : w.heap[b3]? = some (.cells (oqs17 o) 35 (0, 0))
theorem Bx17.keep {w w' : World} {b2 b3 : Nat} {P : Pd17} {o : Oq17} {F : Nat → Prop} (h : Bx17 w b2 b3 P o) (hf : Fr F w w') (h2 : ¬ F b2) (h3 : ¬ F b3) : Bx17 w' b2 b3 P o := ⟨hf.kept h.h2 h2, hf.kept h.h3 h3⟩
theorem Bx17.still {w w' : World} {b2 b3 : Nat} {P : Pd17} {o : Oq17} (h : Bx17 w b2 b3 P o) (hf : Still w w') : Bx17 w' b2 b3 P o := h.keep hf (fun e => e) (fun e => e)
theorem Bx17.cells {w : World} {b2 b3 : Nat} {P : Pd17} {o : Oq17} (h : Bx17 w b2 b3 P o) : w.cell? ⟨b2, 0, none⟩ = some (.pointer (some ⟨P.p, 0, none⟩)) ∧ w.cell? ⟨b2, 1, none⟩ = some (.pointer (some ⟨P.yb, 0, none⟩)) ∧ w.cell? ⟨b3, 0, none⟩ = some (.int .i64 o.k) ∧ w.cell? ⟨b3, 2, none⟩ = some (.int .i64 o.fr) ∧ w.cell? ⟨b3, 3, none⟩ = some (.int .i64 o.td) ∧ w.cell? ⟨b3, 4, none⟩ = some (.slice o.ao o.n o.cap) ∧ w.cell? ⟨b3, 5, none⟩ = some (.int .i64 o.no) ∧ w.cell? ⟨b3, 6, none⟩ = some (.bool o.nr) := by
  refine ⟨?_, ?_, ?_, ?_, ?_, ?_, ?_, ?_⟩ <;> first | (rw [cell_of_row _ _ _ _ _ _ h.h2]; rfl) | (rw [cell_of_row _ _ _ _ _ _ h.h3]; rfl)
/-- neither of the two is a block that the bags turn, nor a row of bytes -/
theorem Bx17.ne {B : Nat} {w : World} {b2 b3 : Nat} {P Q : Pd17} {o : Oq17} (h : Bx17 w b2 b3 P o) (hP : Ok17 B w Q) : ¬ Wt17 Q b2 ∧ ¬ Wt17 Q b3 := by
  obtain ⟨es, c, hb, _⟩ := hP.x.mp
  refine ⟨?_, ?_⟩
  · rintro (e | e | e | e)
    · exact ty_ne h.h2 hP.x.bk (by decide) e
    · rw [← e, h.h2] at hb; cases hb
    · exact ty_ne h.h2 hP.y.bk (by decide) e
    · obtain ⟨cur, hc⟩ := ow_ty hP.y.ow e
      exact ty_ne h.h2 hc (by decide) rfl
  · rintro (e | e | e | e)
    · exact ty_ne h.h3 hP.x.bk (by decide) e
    · rw [← e, h.h3] at hb; cases hb
    · exact ty_ne h.h3 hP.y.bk (by decide) e
    · obtain ⟨cur, hc⟩ := ow_ty hP.y.ow e
      exact ty_ne h.h3 hc (by decide) rfl
end Go.Proofs.Ytakdfckkljbghaa
