/- Pieces, as they lie in memory; two sums and the bytes that they have. -/
import Derived.Test.YtpdgbalhbfpdeaaDoorNm
import Derived.Test.YtpdgbalhbfpdeaaDoorLf
namespace Go.Proofs.YtpdgbalhbfpdeaaDoor
open Go.RowKit

theorem Still.trans' {F : Nat → Prop} {a b c : World} (h : Still a b) (k : Fr F b c) (hF : ∀ k, k < a.heap.size → ¬ F k) : Still a c := Fr.trans h k fun k hk hf => hF k hk hf

/-- A piece: bytes, and whether a copy is made. -/
structure Pce where
  ao : Option Addr
  len : Nat
  cap : Nat
  bs : List UInt8
  cp : Bool
def Pce.val (o : Pce) : Array Value := #[.slice o.ao o.len o.cap, .bool o.cp]
/-- Pieces, as they lie in memory. -/
structure Pieces (w : World) (ao : Option Addr) (ps : List Pce) : Prop where
  plain : ∀ a, ao = some a → 0 < ps.length → a.spot = none
  nil : ao = none → ps = []
  cells : ∀ a, ao = some a → ∀ i (h : i < ps.length) (f : Nat) v, (ps[i].val)[f]? = some v → w.cell? ⟨a.block, a.off + i * 2 + f, none⟩ = some v
  ok : ∀ o ∈ ps, Rd w o.ao o.len o.cap o.bs
theorem Pieces.still {w w' : World} {ao : Option Addr} {ps : List Pce} (h : Pieces w ao ps) (hs : Still w w') : Pieces w' ao ps :=
  ⟨h.plain, h.nil, fun a ha i hi f v hv => by
    have hc := h.cells a ha i hi f v hv
    rw [hs.cell (World.block_lt_of_cell? w _ hc) (fun e => e), hc], fun o ho => (h.ok o ho).still hs⟩
theorem Pieces.at {w : World} {ao : Option Addr} {ps : List Pce} (h : Pieces w ao ps) {i : Nat} (hi : i < ps.length) : ∃ b o, ao = some ⟨b, o, none⟩ ∧
    w.cell? ⟨b, o + i * 2, none⟩ = some (.slice ps[i].ao ps[i].len ps[i].cap) ∧ w.cell? ⟨b, o + i * 2 + 1, none⟩ = some (.bool ps[i].cp) := by
  cases ao with
  | none => have := h.nil rfl; subst this; simp at hi
  | some a =>
    obtain ⟨b, o, s⟩ := a
    have := h.plain _ rfl (by omega)
    simp at this
    subst this
    exact ⟨b, o, rfl, h.cells _ rfl i hi 0 _ rfl, h.cells _ rfl i hi 1 _ rfl⟩
/-- how many bytes come from i on -/
def lens (ps : List Pce) (i : Nat) : Nat := ((ps.drop i).map fun o => o.bs.length).sum
theorem lens_step {ps : List Pce} {i : Nat} (h : i < ps.length) : lens ps i = ps[i].bs.length + lens ps (i + 1) := by
  unfold lens
  rw [List.drop_eq_getElem_cons h, List.map_cons, List.sum_cons]
theorem row_ne {w : World} {ao : Option Addr} {n cap : Nat} {bs : List UInt8} {p : Nat} {A : List UInt8} (ho : Ow 5 w ao n cap bs) (hs : Sm w p A) : ∀ a, ao = some a → a.block ≠ p := by
  rintro a ha rfl
  obtain ⟨_, _, cur, hg, _⟩ := ho.row a ha
  have h2 : w.heap[a.block]? = _ := hs
  rw [hg] at h2
  cases h2

/-- Two sums and the bytes that they have. -/
structure Inv (w wr : World) (p q : Nat) (alo : Option Addr) (aln alc : Nat) (A : List UInt8) (tho : Option Addr) (thn thc : Nat) (T : List UInt8) : Prop where
  st : Still w wr
  hp : w.heap.size ≤ p
  hq : w.heap.size ≤ q
  pq : p ≠ q
  sp : Sm wr p A
  sq : Sm wr q T
  oa : Ow 5 wr alo aln alc A
  ot : Ow 5 wr tho thn thc T
  ha : ∀ a, alo = some a → w.heap.size ≤ a.block
  hth : ∀ a, tho = some a → w.heap.size ≤ a.block
  hat : ∀ a b, alo = some a → tho = some b → a.block ≠ b.block
section
variable {w wr : World} {p q : Nat} {alo : Option Addr} {aln alc : Nat} {A : List UInt8} {tho : Option Addr} {thn thc : Nat} {T : List UInt8}
theorem Inv.still {w' : World} (h : Inv w wr p q alo aln alc A tho thn thc T) (hs : Still wr w') : Inv w w' p q alo aln alc A tho thn thc T :=
  ⟨h.st.trans hs, h.hp, h.hq, h.pq, h.sp.kept hs (fun e => e), h.sq.kept hs (fun e => e), h.oa.still hs, h.ot.still hs, h.ha, h.hth, h.hat⟩
/-- a copy is made, and bytes come to it -/
theorem Inv.copied (h : Inv w wr p q alo aln alc A tho thn thc T) {w1 w2 w3 w4 : World} {q' : Nat} {to1 to2 : Option Addr} {n2 c2 : Nat} {bs : List UInt8}
    (hq' : q' = wr.heap.size) (s1 : Still wr w1) (sq1 : Sm w1 q' A)
    (f2 : Fr (fun k => ∃ a, (none : Option Addr) = some a ∧ a.block = k) w1 w2) (b2 : ∀ a, to1 = some a → (none : Option Addr) = some a ∨ w1.heap.size ≤ a.block)
    (q3 : Sm w3 q' (A ++ bs)) (f3 : Fr (fun k => k = q') w2 w3)
    (f4 : Fr (fun k => ∃ a, to1 = some a ∧ a.block = k) w3 w4) (o4 : Ow 5 w4 to2 n2 c2 (A ++ bs)) (b4 : ∀ a, to2 = some a → to1 = some a ∨ w3.heap.size ≤ a.block) :
    Inv w w4 p q' alo aln alc A to2 n2 c2 (A ++ bs) := by
  have z0 := h.st.size
  have z1 := s1.size
  have z2 := f2.size
  have z3 := f3.size
  have lp : p < wr.heap.size := h.sp.lt
  have k1 : ∀ a, to1 = some a → w1.heap.size ≤ a.block := fun a ha => by
    rcases b2 a ha with e | e
    · cases e
    · exact e
  have la : ∀ a, alo = some a → a.block < wr.heap.size := h.oa.lt
  have k2 : ∀ a, to2 = some a → w1.heap.size ≤ a.block := fun a ha => by
    rcases b4 a ha with e | e
    · exact k1 a e
    · omega
  have s2 : Still w1 w2 := Fr.mono f2 fun k hk e => by obtain ⟨a, ea, _⟩ := e; cases ea
  have p2 := (h.sp.kept s1 (fun e => e)).kept s2 (fun e => e)
  have a2 := (h.oa.still s1).still s2
  have p3 := p2.kept f3 (by omega)
  have a3 := a2.kept f3 (fun a ha e => by have := la a ha; omega)
  have p4 := p3.kept f4 (fun e => by obtain ⟨a, ea, hb⟩ := e; have := k1 a ea; omega)
  have a4 := a3.kept f4 (fun a ha e => by obtain ⟨b, eb, hb⟩ := e; have := k1 b eb; have := la a ha; omega)
  have lq : q' < w1.heap.size := sq1.lt
  have q4 := q3.kept f4 (fun e => by obtain ⟨a, ea, hb⟩ := e; have := k1 a ea; omega)
  exact ⟨(((h.st.trans s1).trans s2).trans' f3 fun k hk e => by omega).trans' f4 fun k hk e => by obtain ⟨a, ea, hb⟩ := e; have := k1 a ea; omega,
    h.hp, by omega, by omega, p4, q4, a4, o4, h.ha, fun a ha => by have := k2 a ha; omega, fun a b ha hb => by have := la a ha; have := k2 b hb; omega⟩
/-- bytes come -/
theorem Inv.grown (h : Inv w wr p q alo aln alc A tho thn thc T) {w1 w2 w3 w4 w5 : World} {g : Nat} {ao2 : Option Addr} {n2 c2 : Nat} {bs : List UInt8}
    (hg : wr.heap.size ≤ g) (s1 : Still wr w1) (q2 : Sm w2 p (A ++ bs)) (f2 : Fr (fun k => k = p) w1 w2) (s3 : Still w2 w3) (f4 : Fr (fun k => k = g) w3 w4)
    (f5 : Fr (fun k => ∃ a, alo = some a ∧ a.block = k) w4 w5) (o5 : Ow 5 w5 ao2 n2 c2 (A ++ bs)) (b5 : ∀ a, ao2 = some a → alo = some a ∨ w4.heap.size ≤ a.block) :
    Inv w w5 p q ao2 n2 c2 (A ++ bs) tho thn thc T := by
  have z0 := h.st.size
  have z1 := s1.size
  have z2 := f2.size
  have z3 := s3.size
  have z4 := f4.size
  have lp : p < wr.heap.size := h.sp.lt
  have lq : q < wr.heap.size := h.sq.lt
  have lt : ∀ a, tho = some a → a.block < wr.heap.size := h.ot.lt
  have la : ∀ a, alo = some a → a.block < wr.heap.size := h.oa.lt
  have nq := row_ne h.oa h.sq
  have np := row_ne h.oa h.sp
  have mp := row_ne h.ot h.sp
  have p3 := q2.kept s3 (fun e => e)
  have p4 := p3.kept f4 (by omega)
  have p5 := p4.kept f5 (fun e => by obtain ⟨a, ea, hb⟩ := e; exact np a ea hb)
  have qq := ((((h.sq.kept s1 (fun e => e)).kept f2 (fun e => h.pq e.symm)).kept s3 (fun e => e)).kept f4 (by omega)).kept f5 (fun e => by obtain ⟨a, ea, hb⟩ := e; exact nq a ea hb)
  have tt := ((((h.ot.still s1).kept f2 (fun a ha e => mp a ha e)).still s3).kept f4 (fun a ha e => by have := lt a ha; omega)).kept f5 (fun a ha e => by obtain ⟨b, eb, hb⟩ := e; exact h.hat b a eb ha hb)
  have hpp := h.hp
  refine ⟨((((h.st.trans s1).trans' f2 fun k hk e => by omega).trans s3).trans' f4 fun k hk e => by omega).trans' f5 fun k hk e => (by obtain ⟨a, ea, hb⟩ := e; have := h.ha a ea; omega),
    h.hp, h.hq, h.pq, p5, qq, o5, tt, fun a ha => ?_, h.hth, fun a b ha hb => ?_⟩
  · rcases b5 a ha with e | e
    · exact h.ha a e
    · omega
  · rcases b5 a ha with e | e
    · exact h.hat a b e hb
    · have := lt b hb; omega
end
end Go.Proofs.YtpdgbalhbfpdeaaDoor
