/- A couple: the program's reader and the document's. -/
import Derived.Test.YthgjhfooodcfbaaFb
import Derived.Test.YthgjhfooodcfbaaSl
import Derived.Test.YthgjhfooodcfbaaSp
namespace Go.Proofs.Ythgjhfooodcfbaa
open Go.RowKit

/-- Bytes lie in no block that holds no byte. -/
theorem Rd.ne_block {w : World} {ao : Option Addr} {n cap p : Nat} {bs : List UInt8} {cs : Array Value} {t : TypeId} {fr : Nat × Nat} (h : Rd w ao n cap bs) (hp : w.heap[p]? = some (.cells cs t fr)) (hc : ∀ v ∈ cs, ∀ x, v ≠ .int .u8 x) : ∀ a, ao = some a → 0 < n → a.block ≠ p := by
  rintro a ha hn rfl
  have h1 := h.cells a ha 0 (by have := h.len; omega)
  rw [cell_of_row _ _ _ _ _ _ hp] at h1
  exact hc _ (Array.mem_of_getElem? h1) _ rfl

/-- The slice's row is a row of bytes. -/
def Byt (w : World) (ao : Option Addr) : Prop := ∀ a, ao = some a → ∃ cur fr, w.heap[a.block]? = some (.cells cur 5 fr)
theorem Byt.kept {F : Nat → Prop} {w w' : World} {ao : Option Addr} (h : Byt w ao) (hf : Fr F w w') (hn : ∀ a, ao = some a → ¬ F a.block) : Byt w' ao := fun a ha => by
  obtain ⟨cur, fr, hg⟩ := h a ha
  exact ⟨cur, fr, hf.kept hg (hn a ha)⟩
theorem Byt.ne {w : World} {ao : Option Addr} {p : Nat} {cs : Array Value} {t : TypeId} {fr : Nat × Nat} (h : Byt w ao) (hp : w.heap[p]? = some (.cells cs t fr)) (ht : t ≠ 5) : ∀ a, ao = some a → a.block ≠ p := by
  rintro a ha rfl
  obtain ⟨cur, fr', hg⟩ := h a ha
  rw [hg] at hp
  simp at hp
  exact ht hp.2.1.symm
theorem Ow.byt {w : World} {ao : Option Addr} {n cap : Nat} {bs : List UInt8} (h : Ow 5 w ao n cap bs) : Byt w ao := fun a ha => by
  obtain ⟨_, _, cur, hg, _⟩ := h.row a ha
  exact ⟨cur, _, hg⟩

/-- The two readers side by side: the same bytes from the place on, the same error; all their blocks lie below S. -/
def Pr (w : World) (S xp yp : Nat) (rest : List UInt8) (e : Int) : Prop :=
  ∃ (xo : Option Addr) (xn xc : Nat) (yo : Option Addr) (yn yc : Nat) (B : List UInt8) (At : Nat), Rr w xp xo xn xc rest e ∧ Rf w yp yo yn yc B At e ∧ B.drop At = rest ∧ xn + 20 ≤ 140737488355328 ∧ yn ≤ 140737488355328 ∧
    xp < S ∧ yp < S ∧ (∀ a, xo = some a → a.block < S) ∧ (∀ a, yo = some a → a.block < S) ∧ Byt w xo ∧ Byt w yo
theorem rr_ne_rf {w : World} {xp yp : Nat} {xo yo : Option Addr} {xn xc yn yc At : Nat} {rest B : List UInt8} {e e' : Int} (hx : Rr w xp xo xn xc rest e) (hy : Rf w yp yo yn yc B At e') : xp ≠ yp := by
  rintro rfl
  have := hx.blk
  rw [hy.blk] at this
  simp at this
theorem Pr.kept {F : Nat → Prop} {w w' : World} {S xp yp : Nat} {rest : List UInt8} {e : Int} (h : Pr w S xp yp rest e) (hf : Fr F w w') (hF : ∀ k, F k → S ≤ k) : Pr w' S xp yp rest e := by
  obtain ⟨xo, xn, xc, yo, yn, yc, B, At, hx, hy, hd, h1, h2, h3, h4, h5, h6, h7, h8⟩ := h
  exact ⟨xo, xn, xc, yo, yn, yc, B, At, hx.kept hf (fun hp => by have := hF _ hp; omega) (fun a ha _ hp => by have := hF _ hp; have := h5 a ha; omega), hy.kept hf (fun hp => by have := hF _ hp; omega) (fun a ha _ hp => by have := hF _ hp; have := h6 a ha; omega), hd, h1, h2, h3, h4, h5, h6, h7.kept hf (fun a ha hp => by have := hF _ hp; have := h5 a ha; omega), h8.kept hf (fun a ha hp => by have := hF _ hp; have := h6 a ha; omega)⟩
theorem Pr.still {w w' : World} {S xp yp : Nat} {rest : List UInt8} {e : Int} (h : Pr w S xp yp rest e) (hs : Still w w') : Pr w' S xp yp rest e := h.kept hs fun _ e => e.elim
theorem Pr.more {w : World} {S S' xp yp : Nat} {rest : List UInt8} {e : Int} (h : Pr w S xp yp rest e) (hS : S ≤ S') : Pr w S' xp yp rest e := by
  obtain ⟨xo, xn, xc, yo, yn, yc, B, At, hx, hy, hd, h1, h2, h3, h4, h5, h6, h7, h8⟩ := h
  exact ⟨xo, xn, xc, yo, yn, yc, B, At, hx, hy, hd, h1, h2, by omega, by omega, fun a ha => (by have := h5 a ha; omega), fun a ha => (by have := h6 a ha; omega), h7, h8⟩
theorem not_u8_two {a b : Value} (ha : ∀ x, a ≠ .int .u8 x) (hb : ∀ x, b ≠ .int .u8 x) : ∀ v ∈ #[a, b], ∀ x, v ≠ .int .u8 x := by
  intro v hv
  simp at hv
  rcases hv with rfl | rfl
  · exact ha
  · exact hb
theorem not_u8_three {a b c : Value} (ha : ∀ x, a ≠ .int .u8 x) (hb : ∀ x, b ≠ .int .u8 x) (hc : ∀ x, c ≠ .int .u8 x) : ∀ v ∈ #[a, b, c], ∀ x, v ≠ .int .u8 x := by
  intro v hv
  simp at hv
  rcases hv with rfl | rfl | rfl
  · exact ha
  · exact hb
  · exact hc
/-- what the program's reader takes up leaves the document's alone -/
theorem rf_took {w w1 : World} {xp yp : Nat} {xo yo : Option Addr} {xn xc yn yc At : Nat} {rest rest' B : List UInt8} {e e' e2 : Int} (hx : Rr w xp xo xn xc rest e) (hy : Rf w yp yo yn yc B At e2) (ht : Took w w1 xp xo rest' e') : Rf w1 yp yo yn yc B At e2 := by
  obtain ⟨_, _, _, _, hf, _⟩ := ht
  exact hy.kept hf (fun h => rr_ne_rf hx hy h.symm) (hy.rd.ne_block hx.blk (not_u8_two (fun x h => by cases h) (fun x h => by cases h)))
/-- both have taken up the same -/
theorem pr_step {w w1 w2 : World} {S xp yp : Nat} {xo yo : Option Addr} {xn xc yn yc At : Nat} {rest rest' B : List UInt8} {e e' e2 : Int} (hx : Rr w xp xo xn xc rest e) (hy : Rf w yp yo yn yc B At e2) (h1 : xn + 20 ≤ 140737488355328) (h2 : yn ≤ 140737488355328) (h3 : xp < S) (h4 : yp < S)
    (h5 : ∀ a, xo = some a → a.block < S) (h6 : ∀ a, yo = some a → a.block < S) (h7 : Byt w xo) (h8 : Byt w yo) (hrl : rest'.length ≤ rest.length) (ht : Took w w1 xp xo rest' e') (hu : TookF w1 w2 yp yo yn yc B rest' e') : Pr w2 S xp yp rest' e' ∧ Fr (fun k => k = xp ∨ k = yp) w w2 := by
  have hne := rr_ne_rf hx hy
  have hy1 := rf_took hx hy ht
  obtain ⟨xo', xn', xc', hx', hf, hsame⟩ := ht
  obtain ⟨At', hy2, hd, hf2⟩ := hu
  have hx2 := hx'.kept hf2 hne (hx'.rd.ne_block hy1.blk (not_u8_three (fun x h => by cases h) (fun x h => by cases h) (fun x h => by cases h)))
  have hl := hx.rd.len
  have hl' := hx'.rd.len
  have hx7 : Byt w1 xo' := fun a ha => by
    obtain ⟨b, h9, h10⟩ := hsame a ha
    rw [← h10]
    exact h7.kept hf (h7.ne hx.blk (by decide)) b h9
  have hy8 := h8.kept hf (h8.ne hx.blk (by decide))
  refine ⟨⟨xo', xn', xc', yo, yn, yc, B, At', hx2, hy2, hd, by omega, h2, h3, h4, fun a ha => ?_, h6, hx7.kept hf2 (hx7.ne hy1.blk (by decide)), hy8.kept hf2 (hy8.ne hy1.blk (by decide))⟩, (hf.mono fun _ _ h => .inl h).trans hf2 fun _ _ h => .inr h⟩
  obtain ⟨b, h9, h10⟩ := hsame a ha
  have := h5 b h9
  omega
/-- the couple at other blocks than those that are written -/
theorem Pr.other {w w' : World} {S xp yp a b : Nat} {rest rest2 : List UInt8} {e e2 : Int} (h : Pr w S a b rest e) (hp : Pr w S xp yp rest2 e2) (hf : Fr (fun k => k = xp ∨ k = yp) w w') (ha : a ≠ xp) (hb : b ≠ yp) : Pr w' S a b rest e := by
  obtain ⟨xo, xn, xc, yo, yn, yc, B, At, hx, hy, hd, h1, h2, h3, h4, h5, h6, h7, h8⟩ := h
  obtain ⟨xo2, xn2, xc2, yo2, yn2, yc2, B2, At2, hx2, hy2, _⟩ := hp
  have n1 : a ≠ yp := rr_ne_rf hx hy2
  have n2 : b ≠ xp := fun h => rr_ne_rf hx2 hy h.symm
  have n3 := h7.ne hx2.blk (by decide)
  have n4 := h7.ne hy2.blk (by decide)
  have n5 := h8.ne hx2.blk (by decide)
  have n6 := h8.ne hy2.blk (by decide)
  exact ⟨xo, xn, xc, yo, yn, yc, B, At, hx.kept hf (by rintro (h | h); exact ha h; exact n1 h) (by rintro a0 h0 _ (h | h); exact n3 a0 h0 h; exact n4 a0 h0 h),
    hy.kept hf (by rintro (h | h); exact n2 h; exact hb h) (by rintro a0 h0 _ (h | h); exact n5 a0 h0 h; exact n6 a0 h0 h), hd, h1, h2, h3, h4, h5, h6,
    h7.kept hf (by rintro a0 h0 (h | h); exact n3 a0 h0 h; exact n4 a0 h0 h), h8.kept hf (by rintro a0 h0 (h | h); exact n5 a0 h0 h; exact n6 a0 h0 h)⟩
/-- the couple beside a block that is of another type -/
theorem Pr.beside {w w' : World} {S a b g : Nat} {rest : List UInt8} {e : Int} {cs : Array Value} {t : TypeId} {fr : Nat × Nat} (h : Pr w S a b rest e) (hg : w.heap[g]? = some (.cells cs t fr)) (t1 : t ≠ 5) (t2 : t ≠ 70) (t3 : t ≠ 72) (hf : Fr (fun k => k = g) w w') : Pr w' S a b rest e := by
  obtain ⟨xo, xn, xc, yo, yn, yc, B, At, hx, hy, hd, h1, h2, h3, h4, h5, h6, h7, h8⟩ := h
  have n1 : a ≠ g := by
    rintro rfl
    have := hx.blk
    rw [hg] at this
    simp at this
    exact t2 this.2.1
  have n2 : b ≠ g := by
    rintro rfl
    have := hy.blk
    rw [hg] at this
    simp at this
    exact t3 this.2.1
  have n3 := h7.ne hg t1
  have n4 := h8.ne hg t1
  exact ⟨xo, xn, xc, yo, yn, yc, B, At, hx.kept hf n1 (fun a0 h0 _ => n3 a0 h0), hy.kept hf n2 (fun a0 h0 _ => n4 a0 h0), hd, h1, h2, h3, h4, h5, h6, h7.kept hf n3, h8.kept hf n4⟩
theorem newReader_by (ao : Option Addr) (n cap : Nat) (bs : List UInt8) (w : World) (hr : Rd w ao n cap bs) (h47 : n ≤ 140737488355328) :
    Calls Try.prog 13 #[.slice ao n cap] w fun r w' => ∃ p, r = .returned (.pointer (some ⟨p, 0, none⟩)) ∧ w.heap.size ≤ p ∧ (∃ ao' cap', Rr w' p ao' n cap' bs 0 ∧ (∀ a, ao' = some a → w.heap.size ≤ a.block ∧ a.block < w'.heap.size) ∧ Byt w' ao') ∧ Still w w' := by
  go_enter Try.func13, Try.ntmps13
  go_wp2_with fail
  refine (clone_any ao n cap bs w hr h47).mono ?_
  rintro r w1 ⟨ao', cap', rfl, ho, hst, hao⟩
  go_wp2
  go_ret
  exact ⟨w1.heap.size, rfl, hst.size, ⟨ao', cap', ⟨heap_alloc_new w1 _, ho.rd.alloc _⟩, fun a h => ⟨hao a h, (by have := ho.lt a h; simp; omega)⟩, (ho.alloc _).byt⟩, Fr.alloc hst _⟩
theorem fnewReader_by (so : Option Addr) (n c : Nat) (bs : List UInt8) (w : World) (hr : Rd w so n c bs) (h47 : n ≤ 140737488355328) :
    Calls Try.prog 15 #[.slice so n c] w fun r w' => ∃ p, r = .returned (.pointer (some ⟨p, 0, none⟩)) ∧ w.heap.size ≤ p ∧ (∃ ao cap, Rf w' p ao n cap bs 0 0 ∧ (∀ a, ao = some a → a.block < w'.heap.size) ∧ Byt w' ao) ∧ Still w w' := by
  obtain ⟨i0, hi, hz, hs1, hb1⟩ := info_parts info_u8
  go_enter Try.func15, Try.ntmps15
  go_wp2_with (at_builtin; refine wpList_app _ rfl _ _ 26 rfl 5 i0 Try.underlying26 hi hz hs1 hb1 none so 0 0 n c [] bs rfl rfl (Ow.empty _ _) hr (by omega) ?_; intro ao' cap' w1 ho' hf' hn' _)
  go_ret
  have hst : Still w w1 := hf'.mono (by rintro k hk ⟨a, h, _⟩; cases h)
  rw [Nat.zero_add, List.nil_append] at ho'
  exact ⟨w1.heap.size, rfl, hst.size, ⟨ao', ⟨cap', ⟨heap_alloc_new w1 _, ho'.rd.alloc _, Nat.zero_le _⟩⟩, fun a h => (by have := ho'.lt a h; simp; omega), (ho'.alloc _).byt⟩, Fr.alloc hst _⟩
end Go.Proofs.Ythgjhfooodcfbaa
