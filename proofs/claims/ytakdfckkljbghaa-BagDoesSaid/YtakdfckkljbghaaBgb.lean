/- Parcels in memory; a map of parcels as the list of what lies in it, by rising numbers. -/
import Derived.Test.YtakdfckkljbghaaBga
import Derived.Maps.RangeWalk
import Derived.Maps.Ext
namespace Go.Proofs.Ytakdfckkljbghaa
open Go.RowKit
set_option maxRecDepth 100000

structure Pcl where
  no : Int
  fr : Int
  td : Int
  ao : Option Addr
  n : Nat
  cap : Nat
  bs : List UInt8
def zPl : Pcl := ⟨0, 0, 0, none, 0, 0, []⟩
abbrev pls (x : Pcl) : Array Value := #[.int .i64 x.no, .int .i64 x.fr, .int .i64 x.td, .slice x.ao x.n x.cap]
abbrev pvl (x : Pcl) : Value := .agg (pls x)
/-- what a parcel says -/
def abP (x : Pcl) : Int × Int × Int × List UInt8 := (x.no, x.fr, x.td, x.bs)
/-- block g holds a parcel -/
def Plb (w : World) (g : Nat) (x : Pcl) : Prop := w.heap[g]? = some (.cells (pls x) 43 (0, 0))
theorem Plb.still {w w' : World} {g : Nat} {x : Pcl} (h : Plb w g x) (hs : Still w w') : Plb w' g x := hs.kept_still h
theorem Plb.keep {F : Nat → Prop} {w w' : World} {g : Nat} {x : Pcl} (h : Plb w g x) (hs : Fr F w w') (hn : ¬ F g) : Plb w' g x := hs.kept h hn
theorem Plb.lt {w : World} {g : Nat} {x : Pcl} (h : Plb w g x) : g < w.heap.size := block_lt h
theorem Plb.cells {w : World} {g : Nat} {x : Pcl} (h : Plb w g x) : w.cell? ⟨g, 0, none⟩ = some (.int .i64 x.no) ∧ w.cell? ⟨g, 1, none⟩ = some (.int .i64 x.fr) ∧ w.cell? ⟨g, 2, none⟩ = some (.int .i64 x.td) ∧ w.cell? ⟨g, 3, none⟩ = some (.slice x.ao x.n x.cap) ∧ ∀ o, w.frozen? ⟨g, o, none⟩ = false := by
  refine ⟨?_, ?_, ?_, ?_, fun o => frozen_of_row w g o _ _ h⟩ <;> (rw [cell_of_row _ _ _ _ _ _ h]; rfl)
abbrev newPl (w : World) (x : Pcl) : World := w.alloc (.cells (pls x) 43)
theorem newPl_b (w : World) (x : Pcl) : Plb (newPl w x) w.heap.size x := heap_alloc_new w _
theorem Plb.load {w : World} {g : Nat} {x : Pcl} (h : Plb w g x) : (loadVar 43 ⟨g, 0, none⟩).run Try.prog w = .ok (pvl x) w := by
  obtain ⟨c0, c1, c2, c3, cf⟩ := h.cells
  go_simp
theorem Plb.rest {fn : Func} {p q : Tmp} {w : World} {g : Nat} {x : Pcl} (hb : Plb w g x) (h : fn.results = #[.cell p 43, .tmp q]) (tmps : Array Value) (t : Value) (hp : tmps.getD p undef = .pointer (some ⟨g, 0, none⟩)) (hq : tmps.getD q undef = t) :
    (results fn tmps).run Try.prog w = .ok (.tuple #[pvl x, t]) w := by
  have hp' : tmps[p]?.getD undef = .pointer (some ⟨g, 0, none⟩) := by simpa using hp
  have hq' : tmps[q]?.getD undef = t := by simpa using hq
  simp [results, h, hp', hq', asAddr, hb.load]
theorem Plb.res {fn : Func} {p : Tmp} {w : World} {g : Nat} {x : Pcl} (hb : Plb w g x) (h : fn.results = #[.cell p 43]) (tmps : Array Value) (hp : tmps.getD p undef = .pointer (some ⟨g, 0, none⟩)) :
    (results fn tmps).run Try.prog w = .ok (pvl x) w := by
  have hp' : tmps[p]?.getD undef = .pointer (some ⟨g, 0, none⟩) := by simpa using hp
  simp [results, h, hp', asAddr, hb.load]
/-- a parcel that is stored -/
abbrev setPl (w : World) (g : Nat) (x : Pcl) : World := (((w.setCell ⟨g, 0, none⟩ (.int .i64 x.no)).setCell ⟨g, 1, none⟩ (.int .i64 x.fr)).setCell ⟨g, 2, none⟩ (.int .i64 x.td)).setCell ⟨g, 3, none⟩ (.slice x.ao x.n x.cap)
theorem Plb.put {w : World} {g : Nat} {y : Pcl} (h0 : Plb w g y) (x : Pcl) : Plb (setPl w g x) g x := by
  unfold Plb at h0 ⊢
  have h1 := heap_setCell_same _ g 0 _ _ (.int .i64 x.no) h0
  have h2 := heap_setCell_same _ g 1 _ _ (.int .i64 x.fr) h1
  have h3 := heap_setCell_same _ g 2 _ _ (.int .i64 x.td) h2
  have h4 := heap_setCell_same _ g 3 _ _ (.slice x.ao x.n x.cap) h3
  exact h4.trans (by kernel_rfl)
theorem setPl_fr {F : Nat → Prop} {a w : World} (h : Fr F a w) (g : Nat) (x : Pcl) (hg : F g ∨ a.heap.size ≤ g) : Fr F a (setPl w g x) :=
  (((h.setCell _ _ hg).setCell _ _ hg).setCell _ _ hg).setCell _ _ hg
/-- rows of parcels -/
def KPl : Kd Pcl := ⟨fun m => (pls m).toList, 4, zPl, fun _ => rfl, fun m u hu => by
  simp at hu
  rcases hu with rfl | rfl | rfl | rfl <;> rfl, by decide⟩
theorem infoPl : ∃ i, Try.prog.info? 43 = some i ∧ i.zero = some (.agg (KPl.f KPl.d).toArray) ∧ i.size = KPl.k ∧ i.bytes = 48 := ⟨_, rfl, rfl, rfl, rfl⟩
def atP (L : List Pcl) (i : Nat) : Pcl := L.getD i zPl
theorem rdPl {w : World} {B o n : Nat} {L : List Pcl} (h : RdG KPl w (some ⟨B, o, none⟩) n L) {i : Nat} (hi : i < n) : w.cell? ⟨B, o + i * 4, none⟩ = some (.int .i64 (atP L i).no) ∧ w.cell? ⟨B, o + i * 4 + 1, none⟩ = some (.int .i64 (atP L i).fr) ∧ w.cell? ⟨B, o + i * 4 + 2, none⟩ = some (.int .i64 (atP L i).td) ∧ w.cell? ⟨B, o + i * 4 + 3, none⟩ = some (.slice (atP L i).ao (atP L i).n (atP L i).cap) :=
  ⟨h.get hi 0 _ rfl, h.get hi 1 _ rfl, h.get hi 2 _ rfl, h.get hi 3 _ rfl⟩
theorem owPl {e : TypeId} {w : World} {B g n cap : Nat} {L : List Pcl} (h : OwG KPl e w B (.slice (some ⟨g, 0, none⟩) n cap) L) {i : Nat} (hi : i < L.length) : w.cell? ⟨g, i * 4, none⟩ = some (.int .i64 (atP L i).no) ∧ w.cell? ⟨g, i * 4 + 1, none⟩ = some (.int .i64 (atP L i).fr) ∧ w.cell? ⟨g, i * 4 + 2, none⟩ = some (.int .i64 (atP L i).td) ∧ w.cell? ⟨g, i * 4 + 3, none⟩ = some (.slice (atP L i).ao (atP L i).n (atP L i).cap) ∧ ∀ o, w.frozen? ⟨g, o, none⟩ = false :=
  ⟨h.get hi 0 _ rfl, h.get hi 1 _ rfl, h.get hi 2 _ rfl, h.get hi 3 _ rfl, h.frozen⟩
theorem atP_mem {L : List Pcl} {i : Nat} (hi : i < L.length) : atP L i ∈ L := by
  unfold atP
  rw [List.getD_eq_getElem?_getD, List.getElem?_eq_getElem hi]
  exact List.getElem_mem hi
/-- a parcel's bytes, which nobody else writes into -/
structure Rq (w : World) (x : Pcl) : Prop where
  ow : Ow 5 w x.ao x.n x.cap x.bs
  le : x.n ≤ 140737488351232
/-- no row of bytes -/
def Nbt (w : World) (k : Nat) : Prop := ∀ cur, w.heap[k]? ≠ some (.cells cur 5 (0, 0))
theorem Nbt.of {w : World} {k : Nat} {cur : Array Value} {t : TypeId} (h : w.heap[k]? = some (.cells cur t (0, 0))) (ht : t ≠ 5) : Nbt w k := fun c hc => by
  rw [h] at hc
  injection hc with h1
  injection h1 with _ h2
  exact ht h2
theorem Nbt.map {w : World} {k : Nat} {es : Array MapEntry} {c : Nat} (h : w.heap[k]? = some (.map es c)) : Nbt w k := fun _ hc => by
  rw [h] at hc
  cases hc
theorem Rq.zero (w : World) : Rq w zPl := ⟨Ow.empty _ w, by simp [zPl]⟩
theorem Rq.kept {F : Nat → Prop} {w w' : World} {x : Pcl} (h : Rq w x) (hf : Fr F w w') (hF : ∀ a, x.ao = some a → ¬ F a.block) : Rq w' x := ⟨h.ow.kept hf hF, h.le⟩
theorem Rq.keep {F : Nat → Prop} {w w' : World} {x : Pcl} (h : Rq w x) (hf : Fr F w w') (hF : ∀ k, F k → Nbt w k) : Rq w' x :=
  h.kept hf (fun a ha hk => by
    obtain ⟨_, _, cur, hg, _⟩ := h.ow.row a ha
    exact hF _ hk cur hg)
theorem Rq.still {w w' : World} {x : Pcl} (h : Rq w x) (hs : Still w w') : Rq w' x := h.kept hs (fun _ _ e => e)

/-! a map as the list of what lies in it -/
def Rh (v : Value) : Option (DataW Value × List MemPlace) := some (.held v, [])
def entP (x : Pcl) : Lit × DataW Value := (.int .i64 x.no, .held (pvl x))
def mpD (L : List Pcl) : DataW Value := .map (L.map entP)
def UpP (L : List Pcl) : Prop := L.Pairwise (fun x y => x.no < y.no)
def fndP (L : List Pcl) (k : Int) : Option Pcl := L.find? (fun x => x.no == k)
def delP (L : List Pcl) (k : Int) : List Pcl := L.filter (fun x => !(x.no == k))
theorem ins_end {H : Type} (k : Lit) (d : DataW H) : ∀ es : List (Lit × DataW H), (∀ p ∈ es, k.before p.1 = false) → DataW.insert (k, d) es = es ++ [(k, d)]
  | [], _ => rfl
  | y :: r, h => by
    unfold DataW.insert
    rw [if_neg (by rw [h y (List.mem_cons_self ..)]; simp), ins_end k d r (fun p hp => h p (List.mem_cons_of_mem _ hp))]
    rfl
theorem same_int (a b : Int) : (Lit.int .i64 a).sameKey (.int .i64 b) = (a == b) := by
  simp only [Lit.sameKey]
  by_cases h : a = b <;> simp [h]
theorem mpD_put (L : List Pcl) (x : Pcl) (h : ∀ y ∈ L, y.no < x.no) : (mpD L).put (.int .i64 x.no) (.held (pvl x)) = mpD (L ++ [x]) := by
  have hf : (L.map entP).filter (fun p => !p.1.sameKey (.int .i64 x.no)) = L.map entP := by
    refine List.filter_eq_self.2 fun p hp => ?_
    obtain ⟨y, hy, rfl⟩ := List.mem_map.1 hp
    have := h y hy
    rw [entP, same_int]
    simp
    omega
  show DataW.map (DataW.insert _ ((L.map entP).filter _)) = _
  rw [hf, ins_end _ _ _ (fun p hp => by
    obtain ⟨y, hy, rfl⟩ := List.mem_map.1 hp
    have := h y hy
    simp [entP, Lit.before]
    omega)]
  simp [mpD, entP]
theorem mpD_del (L : List Pcl) (k : Int) : (mpD L).del (.int .i64 k) = mpD (delP L k) := by
  show DataW.map ((L.map entP).filter _) = DataW.map ((L.filter _).map entP)
  congr 1
  rw [List.filter_map]
  congr 1
  refine List.filter_congr fun x _ => ?_
  simp [entP, same_int]
theorem mpD_has (L : List Pcl) (k : Int) : Maps.has (mpD L) (.int .i64 k) = (fndP L k).isSome := by
  rw [mpD, Maps.has_eq, fndP]
  induction L with
  | nil => rfl
  | cons x L ih =>
    rw [List.map_cons, List.any_cons, List.find?_cons, ih]
    simp only [entP, same_int]
    cases (x.no == k) <;> rfl
theorem mpD_at (L : List Pcl) (k : Int) (z : DataW Value) : (mpD L).atKey (.int .i64 k) z = ((fndP L k).map (fun x => DataW.held (pvl x))).getD z := by
  have e : (L.map entP).find? (fun p => p.1.sameKey (.int .i64 k)) = (fndP L k).map entP := by
    rw [List.find?_map, fndP]
    congr 2
    funext x
    exact same_int x.no k
  rw [mpD]
  unfold DataW.atKey
  simp only [e]
  cases fndP L k <;> rfl
theorem mpD_size (L : List Pcl) : Maps.size (mpD L) = L.length := by simp [mpD, Maps.size]
theorem fndP_some {L : List Pcl} {k : Int} {x : Pcl} (h : fndP L k = some x) : x ∈ L ∧ x.no = k := by
  refine ⟨List.mem_of_find?_eq_some h, ?_⟩
  have := List.find?_some h
  simpa using this
theorem fndP_none {L : List Pcl} {k : Int} (h : fndP L k = none) : ∀ x ∈ L, x.no ≠ k := fun x hx e => by
  have := List.find?_eq_none.1 h x hx
  simp [e] at this
theorem delP_mem {L : List Pcl} {k : Int} {x : Pcl} (h : x ∈ delP L k) : x ∈ L ∧ x.no ≠ k := by
  have := List.mem_filter.1 h
  exact ⟨this.1, by simpa using this.2⟩
theorem delP_none {L : List Pcl} {k : Int} (h : fndP L k = none) : delP L k = L := List.filter_eq_self.2 fun x hx => by simpa using fndP_none h x hx
theorem UpP.del {L : List Pcl} (h : UpP L) (k : Int) : UpP (delP L k) := h.filter _
theorem UpP.snoc {L : List Pcl} (h : UpP L) {x : Pcl} (hx : ∀ y ∈ L, y.no < x.no) : UpP (L ++ [x]) := by
  refine List.pairwise_append.2 ⟨h, List.pairwise_singleton .., fun a ha b hb => ?_⟩
  rw [List.mem_singleton] at hb
  subst hb
  exact hx a ha
theorem lawI : Maps.Keyed Try.prog 3 := Maps.int_keyed Try.underlying3
theorem keyI {k : Int} (h : -9223372036854775808 ≤ k ∧ k ≤ 9223372036854775807) : keyOf Try.prog 3 (.int .i64 k) = some (.int .i64 k) := Maps.keyOf_int_mk Try.underlying3 (WalkArith.wf_i64 h)
theorem zeroPl (w : World) : (zeroValue 43).run Try.prog w = .ok (pvl zPl) w := by kernel_rfl
/-- block p holds a bag whose map is block mb -/
structure Bk (w : World) (p mb : Nat) (la : Int) (L : List Pcl) : Prop where
  bk : w.heap[p]? = some (.cells #[.int .i64 la, .map (some mb)] 57 (0, 0))
  mp : w.ownsMap Try.prog 3 Rh mb la.toNat (mpD L)
  up : UpP L
  le : ∀ x ∈ L, 1 ≤ x.no ∧ x.no ≤ la
  rd : ∀ x ∈ L, Rq w x
  l0 : 0 ≤ la
theorem Bk.pne {w : World} {p mb : Nat} {la : Int} {L : List Pcl} (h : Bk w p mb la L) : p ≠ mb := by
  rintro rfl
  obtain ⟨es, c, hb, _⟩ := h.mp
  rw [h.bk] at hb
  cases hb
theorem Bk.lt {w : World} {p mb : Nat} {la : Int} {L : List Pcl} (h : Bk w p mb la L) : p < w.heap.size ∧ mb < w.heap.size := ⟨block_lt h.bk, h.mp.lt⟩
theorem Bk.nbt {w : World} {p mb : Nat} {la : Int} {L : List Pcl} (h : Bk w p mb la L) : ∀ k, (k = p ∨ k = mb) → Nbt w k := by
  rintro k (rfl | rfl)
  · exact Nbt.of h.bk (by decide)
  · obtain ⟨es, c, hb, _⟩ := h.mp
    exact Nbt.map hb
theorem grown_of {F : Nat → Prop} {w w' : World} (h : Fr F w w') {b : Nat} (hb : ¬ F b) (hl : b < w.heap.size) {H : Type} {P : Program} {k : TypeId} {R : Value → Option (DataW H × List MemPlace)} {n : Nat} {D : DataW H} (ho : w.ownsMap P k R b n D) : w'.ownsMap P k R b n D := by
  obtain ⟨es, c, h1, h2⟩ := ho
  exact ⟨es, c, (h.block b hl hb).trans h1, h2⟩
theorem Bk.keep {F : Nat → Prop} {w w' : World} {p mb : Nat} {la : Int} {L : List Pcl} (h : Bk w p mb la L) (hf : Fr F w w') (hp : ¬ F p) (hm : ¬ F mb) (hF : ∀ x ∈ L, ∀ a, x.ao = some a → ¬ F a.block) : Bk w' p mb la L :=
  ⟨hf.kept h.bk hp, grown_of hf hm h.lt.2 h.mp, h.up, h.le, fun x hx => (h.rd x hx).kept hf (hF x hx), h.l0⟩
theorem Bk.still {w w' : World} {p mb : Nat} {la : Int} {L : List Pcl} (h : Bk w p mb la L) (hs : Still w w') : Bk w' p mb la L := h.keep hs (fun e => e) (fun e => e) (fun _ _ _ _ e => e)
theorem Bk.cell {w : World} {p mb : Nat} {la : Int} {L : List Pcl} (h : Bk w p mb la L) : w.cell? ⟨p, 0, none⟩ = some (.int .i64 la) ∧ w.cell? ⟨p, 1, none⟩ = some (.map (some mb)) ∧ ∀ o, w.frozen? ⟨p, o, none⟩ = false := by
  refine ⟨?_, ?_, fun o => frozen_of_row w p o _ _ h.bk⟩ <;> (rw [cell_of_row _ _ _ _ _ _ h.bk]; rfl)
theorem turned_fr {w w' : World} {b : Nat} (h : w.mapTurned w' b) : Fr (fun k => k = b) w w' := by
  have g := h.grown
  exact ⟨g.os, g.tape, g.output, g.size, fun k hk hn => g.block k hk (fun e => hn (by cases e; rfl))⟩
theorem Bk.look {w : World} {p mb : Nat} {la : Int} {L : List Pcl} (h : Bk w p mb la L) {k : Int} (hk : -9223372036854775808 ≤ k ∧ k ≤ 9223372036854775807) :
    (∃ x, fndP L k = some x ∧ (Instr.lookup 55 (.map (some mb)) (.int .i64 k) true).run Try.prog w = .ok (.tuple #[pvl x, .bool true]) w) ∨ (fndP L k = none ∧ (Instr.lookup 55 (.map (some mb)) (.int .i64 k) true).run Try.prog w = .ok (.tuple #[pvl zPl, .bool false]) w) := by
  obtain ⟨v, ps, hrun, hv⟩ := h.mp.look_ok lawI Try.underlying55 (zeroPl w) (zd := .held (pvl zPl)) (zp := []) rfl (keyI hk)
  rw [mpD_has] at hrun
  rw [mpD_at] at hv
  cases hf : fndP L k with
  | none =>
    rw [hf] at hrun hv
    refine .inr ⟨rfl, ?_⟩
    injection hv with h1
    injection h1 with h2 _
    injection h2 with h3
    rw [hrun, h3]
    rfl
  | some x =>
    rw [hf] at hrun hv
    refine .inl ⟨x, rfl, ?_⟩
    injection hv with h1
    injection h1 with h2 _
    injection h2 with h3
    rw [hrun, h3]
    rfl
/-- behind a delete -/
theorem Bk.dropped {w w' : World} {p mb : Nat} {la : Int} {L : List Pcl} (h : Bk w p mb la L) {k : Int} (hm : w'.ownsMap Try.prog 3 Rh mb la.toNat ((mpD L).del (.int .i64 k))) (ht : w.mapTurned w' mb) : Bk w' p mb la (delP L k) := by
  have hf := turned_fr ht
  rw [mpD_del] at hm
  exact ⟨hf.kept h.bk h.pne, hm, h.up.del k, fun x hx => h.le x (delP_mem hx).1, fun x hx => (h.rd x (delP_mem hx).1).keep hf (fun j hj => h.nbt j (.inr hj)), h.l0⟩
end Go.Proofs.Ytakdfckkljbghaa
