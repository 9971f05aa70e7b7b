/- Frames by types: which blocks may turn, told by what they hold. No function of the program is named here. -/
import Derived.Test.YtdljmpjfiggdiaaDoorGa
namespace Go.Proofs.YtdljmpjfiggdiaaDoor
open Go.RowKit
set_option maxRecDepth 100000

/-- block k is a row of type t -/
def Tyk (w : World) (k : Nat) (t : TypeId) : Prop := ∃ cur, w.heap[k]? = some (.cells cur t (0, 0))
/-- the blocks from B on that are of one of these types -/
def Fty (B : Nat) (ts : List TypeId) (w : World) : Nat → Prop := fun k => B ≤ k ∧ ∃ t, t ∈ ts ∧ Tyk w k t
/-- only these may have turned -/
def FrT (B : Nat) (ts : List TypeId) (w w' : World) : Prop := Fr (Fty B ts w) w w'
theorem FrT.refl (B : Nat) (ts : List TypeId) (w : World) : FrT B ts w w := Fr.refl _ w
theorem FrT.of_still {B : Nat} {ts : List TypeId} {w w' : World} (h : Still w w') : FrT B ts w w' := h.to
theorem FrT.trans {B : Nat} {ts : List TypeId} {a b c : World} (h : FrT B ts a b) (k : FrT B ts b c) : FrT B ts a c := by
  refine Fr.trans h k (fun i hi hG => ?_)
  refine Classical.byContradiction fun hn => ?_
  obtain ⟨h1, t, h2, cur, h3⟩ := hG
  rw [h.block i hi hn] at h3
  exact hn ⟨h1, t, h2, cur, h3⟩
theorem FrT.mono {B : Nat} {ts us : List TypeId} {a b : World} (h : FrT B ts a b) (hs : ∀ t ∈ ts, t ∈ us) : FrT B us a b :=
  Fr.mono h fun _ _ ⟨h1, t, h2, h3⟩ => ⟨h1, t, hs t h2, h3⟩
theorem FrT.then {B : Nat} {ts : List TypeId} {a b c : World} (h : FrT B ts a b) (k : Still b c) : FrT B ts a c := h.trans (.of_still k)
/-- a cell of one of them is written -/
theorem FrT.set {B : Nat} {ts : List TypeId} {a b : World} (h : FrT B ts a b) {g o : Nat} {t : TypeId} (hg : Tyk b g t) (ht : t ∈ ts) (hB : B ≤ g) (v : Value) : FrT B ts a (b.setCell ⟨g, o, none⟩ v) :=
  h.trans ((Fr.refl _ b).setCell _ _ (.inl ⟨hB, t, ht, hg⟩))
theorem Tyk.set {w : World} {g k o : Nat} {t : TypeId} (h : Tyk w g t) (v : Value) : Tyk (w.setCell ⟨k, o, none⟩ v) g t := by
  obtain ⟨cur, h⟩ := h
  by_cases e : g = k
  · subst e; exact ⟨_, heap_setCell_same w g o cur t v h⟩
  · exact ⟨cur, by rw [heap_setCell_other _ _ _ _ e]; exact h⟩
/-- what is older than B has not turned -/
theorem FrT.old {B : Nat} {ts : List TypeId} {x w w' : World} (h : FrT B ts w w') (hs : Still x w) (hB : x.heap.size ≤ B) : Still x w' :=
  Fr.trans hs h (fun k hk e => by have := e.1; omega)
/-- a block of another type has not turned -/
theorem FrT.kept {B : Nat} {ts : List TypeId} {w w' : World} (h : FrT B ts w w') {k : Nat} {cur : Array Value} {t : TypeId} (hk : w.heap[k]? = some (.cells cur t (0, 0))) (ht : t ∉ ts) : w'.heap[k]? = some (.cells cur t (0, 0)) := by
  refine Fr.kept h hk (fun ⟨_, t', h2, cur', h3⟩ => ht ?_)
  rw [hk] at h3
  have h4 := Option.some.inj h3
  injection h4 with _ h5 _
  rw [h5]; exact h2
section
variable {α : Type} {K : Kd α} {e : TypeId} {w w' : World} {L : List α}
theorem OwG.ty {B k : Nat} {v : Value} (h : OwG K e w B v L) (hk : v.ownBlock = some k) : Tyk w k e := by
  rcases h.2 with ⟨rfl, _⟩ | ⟨g, cap, cur, rfl, hb, hg, rest⟩
  · cases hk
  · have : g = k := by simpa [Value.ownBlock] using hk
    subst this
    exact ⟨cur, hg⟩
theorem OwG.keepT {B B' : Nat} {v : Value} {ts : List TypeId} (h : OwG K e w B' v L) (hf : FrT B ts w w') (ht : e ∉ ts) : OwG K e w' B' v L := by
  refine h.keep hf (fun k ⟨_, t, h2, cur, h3⟩ hk => ?_)
  obtain ⟨cur', h4⟩ := h.ty hk
  rw [h4] at h3
  have h5 := Option.some.inj h3
  injection h5 with _ h6 _
  exact ht (h6 ▸ h2)
/-- a row that began behind those that may turn -/
theorem OwG.keepB {B' : Nat} {v : Value} (h : OwG K e w B' v L) {F : Nat → Prop} (hf : Fr F w w') (hB : ∀ k, F k → k < B') : OwG K e w' B' v L :=
  h.keep hf (fun k hk hx => by have := (h.block hx).1; have := hB k hk; omega)
theorem OwG.frT {B B' : Nat} {v : Value} {ts : List TypeId} (h : OwG K e w B' v L) (hf : Fr (fun k => v.ownBlock = some k) w w') (hB : B ≤ B') (ht : e ∈ ts) : FrT B ts w w' :=
  Fr.mono hf fun _ _ hk => ⟨Nat.le_trans hB (h.block hk).1, e, ht, h.ty hk⟩
/-- the element at i is written -/
theorem OwG.setT {B : Nat} {g n cap : Nat} {ts : List TypeId} (h : OwG K e w B (.slice (some ⟨g, 0, none⟩) n cap) L) (ht : e ∈ ts) : ∀ (vs : List Value) (o : Nat) (u : World), FrT B ts w u → Tyk u g e → FrT B ts w (u.setCells g o vs)
  | [], _, _, hu, _ => hu
  | v :: r, o, u, hu, hg => OwG.setT h ht r (o + 1) (u.setCell ⟨g, o, none⟩ v) (hu.set hg ht (h.block (k := g) rfl).1 v) (hg.set v)
end
end Go.Proofs.YtdljmpjfiggdiaaDoor
