/- A pair: the program's writer and the document's. -/
import Derived.Test.YthgjhfooodcfbaaYw
import Derived.Test.YthgjhfooodcfbaaPc
namespace Go.Proofs.Ythgjhfooodcfbaa
open Go.RowKit

/-- The two writers side by side: the same error; without one the same bytes; their blocks are of the set O; at most m bytes each. -/
def Pw (w : World) (O : Nat → Prop) (xp yp : Nat) (room : Int) (bs : List UInt8) (e : Int) (m : Nat) : Prop :=
  ∃ (xo : Option Addr) (xn xc : Nat) (yo : Option Addr) (yn yc : Nat) (yb : List UInt8), Wr w xp xo xn xc room bs e ∧ Wy w yp yo yn yc room yb e ∧ (e = 0 → yb = bs) ∧ (e ≠ 0 → bs = []) ∧ xn ≤ m ∧ yn ≤ m ∧ 0 ≤ room ∧ room ≤ 9223372036854775807 ∧
    O xp ∧ O yp ∧ (∀ a, xo = some a → O a.block) ∧ (∀ a, yo = some a → O a.block) ∧ ∀ a b, xo = some a → yo = some b → a.block ≠ b.block
theorem wr_ne_wy {w : World} {xp yp : Nat} {xo yo : Option Addr} {xn xc yn yc : Nat} {r r' : Int} {bs bs' : List UInt8} {e e' : Int} (hx : Wr w xp xo xn xc r bs e) (hy : Wy w yp yo yn yc r' bs' e') : xp ≠ yp := by
  rintro rfl
  have := hx.blk
  rw [hy.blk] at this
  simp at this
theorem Ow.ne {w : World} {ao : Option Addr} {n cap p : Nat} {bs : List UInt8} {cs : Array Value} {t : TypeId} {fr : Nat × Nat} (h : Ow 5 w ao n cap bs) (hp : w.heap[p]? = some (.cells cs t fr)) (ht : t ≠ 5) : ∀ a, ao = some a → a.block ≠ p := h.byt.ne hp ht
theorem Pw.kept {F O : Nat → Prop} {w w' : World} {xp yp m : Nat} {room : Int} {bs : List UInt8} {e : Int} (h : Pw w O xp yp room bs e m) (hf : Fr F w w') (hF : ∀ k, O k → ¬ F k) : Pw w' O xp yp room bs e m := by
  obtain ⟨xo, xn, xc, yo, yn, yc, yb, hx, hy, h1, h2, h3, h4, h5, h6, h7, h8, h9, h10, h11⟩ := h
  exact ⟨xo, xn, xc, yo, yn, yc, yb, hx.kept hf (hF _ h7) (fun a ha => hF _ (h9 a ha)), hy.kept hf (hF _ h8) (fun a ha => hF _ (h10 a ha)), h1, h2, h3, h4, h5, h6, h7, h8, h9, h10, h11⟩
theorem Pw.more {O O' : Nat → Prop} {w : World} {xp yp m m' : Nat} {room : Int} {bs : List UInt8} {e : Int} (h : Pw w O xp yp room bs e m) (hO : ∀ k, O k → O' k) (hm : m ≤ m') : Pw w O' xp yp room bs e m' := by
  obtain ⟨xo, xn, xc, yo, yn, yc, yb, hx, hy, h1, h2, h3, h4, h5, h6, h7, h8, h9, h10, h11⟩ := h
  exact ⟨xo, xn, xc, yo, yn, yc, yb, hx, hy, h1, h2, by omega, by omega, h5, h6, hO _ h7, hO _ h8, fun a ha => hO _ (h9 a ha), fun a ha => hO _ (h10 a ha), h11⟩
theorem Pw.still {O : Nat → Prop} {w w' : World} {xp yp m : Nat} {room : Int} {bs : List UInt8} {e : Int} (h : Pw w O xp yp room bs e m) (hs : Still w w') : Pw w' O xp yp room bs e m := h.kept hs fun _ _ e => e

/-- the two forms of what is laid down go side by side -/
theorem lay_same {room : Int} {bs yb x : List UInt8} {e : Int} (h1 : e = 0 → yb = bs) (h2 : e ≠ 0 → bs = []) : (layS room bs e x).2 = (layY room yb e x).2 ∧ ((layS room bs e x).2 = 0 → (layY room yb e x).1 = (layS room bs e x).1) ∧ ((layS room bs e x).2 ≠ 0 → (layS room bs e x).1 = []) := by
  unfold layS layY
  by_cases he : e ≠ 0
  · rw [if_pos he, if_pos he]
    exact ⟨rfl, fun h => absurd h he, fun _ => h2 he⟩
  · rw [if_neg he, if_neg he, h1 (by omega)]
    by_cases hr : room < (bs.length : Int) + (x.length : Int)
    · rw [if_pos hr, if_pos hr]
      exact ⟨rfl, fun h => by simp at h, fun _ => rfl⟩
    · rw [if_neg hr, if_neg hr]
      exact ⟨rfl, fun _ => rfl, fun h => by simp at h⟩
theorem layS_le (room : Int) (bs : List UInt8) (e : Int) (x : List UInt8) : (layS room bs e x).1.length ≤ bs.length + x.length := by
  unfold layS
  repeat' split
  all_goals simp
theorem layY_le (room : Int) (bs : List UInt8) (e : Int) (x : List UInt8) : (layY room bs e x).1.length ≤ bs.length + x.length := by
  unfold layY
  repeat' split
  all_goals simp

/-- The blocks that a pair has behind a call: its own, and new ones. -/
def Oup (O : Nat → Prop) (w w' : World) (k : Nat) : Prop := O k ∨ (w.heap.size ≤ k ∧ k < w'.heap.size)
/-- What a call on a pair leaves. -/
def WroteS (w w' : World) (O : Nat → Prop) (xp yp : Nat) (room : Int) (m : Nat) : Prop := ∃ bs' e', Pw w' (Oup O w w') xp yp room bs' e' m ∧ Fr O w w'
theorem WroteS.from {w w1 w' : World} {O : Nat → Prop} {xp yp m : Nat} {room : Int} (hs : Still w w1) (h : WroteS w1 w' O xp yp room m) : WroteS w w' O xp yp room m := by
  obtain ⟨bs', e', h1, h2⟩ := h
  refine ⟨bs', e', h1.more (fun k hk => ?_) (Nat.le_refl _), (Still.to hs).trans h2 fun _ _ h => h⟩
  have := hs.size
  rcases hk with hk | ⟨hk, hk'⟩
  · exact .inl hk
  · exact .inr ⟨by omega, hk'⟩

/-- Both lay the same thing down: the program's writer from w1 to w2, the document's from w3 to w4; between them only new blocks turn. -/
theorem pw_step {w0 w1 w2 w3 w4 : World} {O G : Nat → Prop} {xp yp m xn xc yn yc : Nat} {xo yo : Option Addr} {room : Int} {bs yb x : List UInt8} {e : Int} (hs0 : Still w0 w1) (hx : Wr w1 xp xo xn xc room bs e) (hy : Wy w1 yp yo yn yc room yb e) (h1 : e = 0 → yb = bs) (h2 : e ≠ 0 → bs = []) (h3 : xn ≤ m) (h4 : yn ≤ m)
    (h5 : 0 ≤ room) (h6 : room ≤ 9223372036854775807) (h7 : O xp) (h8 : O yp) (h9 : ∀ a, xo = some a → O a.block) (h10 : ∀ a, yo = some a → O a.block) (h11 : ∀ a b, xo = some a → yo = some b → a.block ≠ b.block) (hO : ∀ k, O k → k < w0.heap.size)
    (hl : Laid w1 w2 xp xo room bs e x) (hg : Fr G w2 w3) (hG : ∀ k, G k → w0.heap.size ≤ k ∧ k < w1.heap.size) (hu : LaidY w3 w4 yp yo room yb e x) : WroteS w0 w4 O xp yp room (m + x.length) := by
  have hs01 := hs0.size
  obtain ⟨xo', xn', xc', hx2, hf2, hla⟩ := hl
  obtain ⟨yo', yn', yc', hy4, hf4, hlb⟩ := hu
  have hne := wr_ne_wy hx hy
  obtain ⟨e1, e2, e3⟩ := lay_same (room := room) (x := x) h1 h2
  have hlx := hx.own.rd.len
  have hly := hy.own.rd.len
  have hbx := layS_le room bs e x
  have hby := layY_le room yb e x
  have hx3 := hx2.kept hg (fun hk => by have := hG _ hk; have := hO _ h7; omega) (fun a ha hk => by
    have h12 := hG _ hk
    rcases hla a ha with ⟨b, hb, hb'⟩ | hb
    · have := hO _ (h9 b hb); omega
    · omega)
  have hs12 := hf2.size
  have hs23 := hg.size
  have hs34 := hf4.size
  have hyp : ∀ k, Wf yp yo k → O k := by
    rintro k (rfl | ⟨a, h, rfl⟩)
    · exact h8
    · exact h10 a h
  have hxp : ∀ k, Wf xp xo k → O k := by
    rintro k (rfl | ⟨a, h, rfl⟩)
    · exact h7
    · exact h9 a h
  have hxa : ∀ a, xo' = some a → ¬ Wf yp yo a.block := by
    rintro a ha hk
    have hk' := hyp _ hk
    have := hO _ hk'
    rcases hla a ha with ⟨b, hb, hb'⟩ | hb
    · rcases hk with hk | ⟨c, hc, hc'⟩
      · have := hy.blk
        exact hx.own.ne hy.blk (by decide) b hb (by omega)
      · exact h11 b c hb hc (by omega)
    · omega
  have hx4 := hx3.kept hf4 (fun hk => by
    rcases hk with hk | ⟨c, hc, hc'⟩
    · exact hne hk
    · exact hy.own.ne hx.blk (by decide) c hc hc') hxa
  have hxl := hx2.own.rd.len
  have hyl := hy4.own.rd.len
  rw [← e1] at hy4
  refine ⟨_, _, ⟨xo', xn', xc', yo', yn', yc', _, hx4, hy4, e2, e3, by omega, by omega, h5, h6, .inl h7, .inl h8, fun a ha => ?_, fun a ha => ?_, fun a b ha hb => ?_⟩, ?_⟩
  · rcases hla a ha with ⟨c, hc, hc'⟩ | hc
    · rw [← hc']; exact .inl (h9 c hc)
    · exact .inr ⟨by omega, hx4.own.lt a ha⟩
  · rcases hlb a ha with ⟨c, hc, hc'⟩ | hc
    · rw [← hc']; exact .inl (h10 c hc)
    · exact .inr ⟨by omega, hy4.own.lt a ha⟩
  · rcases hlb b hb with ⟨c, hc, hc'⟩ | hc
    · intro he
      exact hxa a ha (.inr ⟨c, hc, by omega⟩)
    · have := hx3.own.lt a ha
      omega
  · have hm : Fr O w0 w3 := ((Still.to hs0).trans hf2 fun k _ hk => hxp k hk).trans hg (fun k hk hk2 => by have := hG _ hk2; omega)
    exact hm.trans hf4 fun k _ hk => hyp k hk
/-- the document's writer stands while the program's lays down -/
theorem wy_mid {w0 w1 w2 w3 : World} {O G : Nat → Prop} {xp yp xn xc yn yc : Nat} {xo yo : Option Addr} {room : Int} {bs yb x : List UInt8} {e : Int} (hx : Wr w1 xp xo xn xc room bs e) (hy : Wy w1 yp yo yn yc room yb e) (h8 : O yp) (h10 : ∀ a, yo = some a → O a.block) (h11 : ∀ a b, xo = some a → yo = some b → a.block ≠ b.block) (hO : ∀ k, O k → k < w0.heap.size)
    (hl : Laid w1 w2 xp xo room bs e x) (hg : Fr G w2 w3) (hG : ∀ k, G k → w0.heap.size ≤ k) : Wy w3 yp yo yn yc room yb e := by
  obtain ⟨_, _, _, _, hf2, _⟩ := hl
  have hne := wr_ne_wy hx hy
  refine (hy.kept hf2 (fun hk => ?_) (fun a ha hk => ?_)).kept hg (fun hk => by have := hG _ hk; have := hO _ h8; omega) (fun a ha hk => by have := hG _ hk; have := hO _ (h10 a ha); omega)
  · rcases hk with hk | ⟨c, hc, hc'⟩
    · exact hne hk.symm
    · exact hx.own.ne hy.blk (by decide) c hc hc'
  · rcases hk with hk | ⟨c, hc, hc'⟩
    · exact hy.own.ne hx.blk (by decide) a ha hk
    · exact h11 c a hc ha hc'
theorem laid_block {w w' : World} {p : Nat} {ao : Option Addr} {room : Int} {bs x : List UInt8} {e : Int} {k : Nat} {o : Obj} (h : Laid w w' p ao room bs e x) (hk : w.heap[k]? = some o) (hn : ¬ Wf p ao k) : w'.heap[k]? = some o := by
  obtain ⟨_, _, _, _, hf, _⟩ := h
  exact hf.kept hk hn
theorem laidY_block {w w' : World} {p : Nat} {ao : Option Addr} {room : Int} {bs x : List UInt8} {e : Int} {k : Nat} {o : Obj} (h : LaidY w w' p ao room bs e x) (hk : w.heap[k]? = some o) (hn : ¬ Wf p ao k) : w'.heap[k]? = some o := by
  obtain ⟨_, _, _, _, hf, _⟩ := h
  exact hf.kept hk hn
theorem WroteS.more {w w' : World} {O : Nat → Prop} {xp yp m m' : Nat} {room : Int} (h : WroteS w w' O xp yp room m) (hm : m ≤ m') : WroteS w w' O xp yp room m' := by
  obtain ⟨bs', e', h1, h2⟩ := h
  exact ⟨bs', e', h1.more (fun _ h => h) hm, h2⟩
end Go.Proofs.Ythgjhfooodcfbaa
