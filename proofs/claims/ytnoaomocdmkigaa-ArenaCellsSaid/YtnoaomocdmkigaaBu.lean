/- A Builder that a call made: what it holds, carried on. -/
import Derived.Test.YtnoaomocdmkigaaBw
import Derived.Test.YtnoaomocdmkigaaPr
namespace Go.Proofs.Ytnoaomocdmkigaa
open Go.RowKit
open Pu Gp Ap

/-- the Builder in block b (its rows from B on) holds the text t -/
def Bld (w : World) (B b : Nat) (t : ByteArray) : Prop := Lib.IsBuilderF 55 5 B b (Lib.byteCells t.data.toList) w
theorem builder_keep {T e : TypeId} {B b : Nat} {p : Value} {bs : List Value} {w w' : World} {F : Nat → Prop} (h : Lib.BuilderAtF T e B b p bs w) (hf : Fr F w w') (hF : ∀ k, F k → k < B) : Lib.BuilderAtF T e B b p bs w' := by
  obtain ⟨hB, v, hb, ⟨hl, hown⟩, hne⟩ := h
  refine ⟨hB, v, hf.kept hb (fun h => by have := hF _ h; omega), ⟨hl, ?_⟩, hne⟩
  rcases hown with hn | ⟨g, cap, cur, fz, rfl, hg, hh, rest⟩
  · exact .inl hn
  · exact .inr ⟨g, cap, cur, fz, rfl, hg, hf.kept hh (fun h => by have := hF _ h; omega), rest⟩
theorem Bld.keep {w w' : World} {B b : Nat} {t : ByteArray} {F : Nat → Prop} (h : Bld w B b t) (hf : Fr F w w') (hF : ∀ k, F k → k < B) : Bld w' B b t :=
  h.elim (fun k => .inl (builder_keep k hf hF)) (fun k => .inr (builder_keep k hf hF))
theorem Bld.still {w w' : World} {B b : Nat} {t : ByteArray} (h : Bld w B b t) (hf : Still w w') : Bld w' B b t := h.keep hf (fun _ e => e.elim)
theorem Bld.fresh (w : World) : Bld (w.alloc (.cells #[.pointer none, .slice none 0 0] 55)) w.heap.size w.heap.size ByteArray.empty := Lib.IsBuilderF.of (Lib.fresh_isBuilder _ _ w)
theorem Bld.lt {w : World} {B b : Nat} {t : ByteArray} (h : Bld w B b t) : b < w.heap.size ∧ B ≤ b := h.elim (fun k => ⟨k.lt, k.1⟩) (fun k => ⟨k.lt, k.1⟩)
theorem cells_app (t s : ByteArray) : Lib.byteCells t.data.toList ++ Lib.strCells s = Lib.byteCells (t ++ s).data.toList := by
  unfold Lib.byteCells Lib.strCells
  rw [← List.map_append, ByteArray.data_append, Array.toList_append]
/-- what is written below B stays -/
theorem below_fr {B : Nat} {w w' : World} (h : Below B w w') : Fr (fun k => B ≤ k) w w' := ⟨h.os, h.tape, h.output, h.size, fun k _ hk => h.block k (by omega)⟩
theorem still_below {B : Nat} {w0 w w' : World} (hs : Still w0 w) (h : Below B w w') (hB : w0.heap.size ≤ B) : Still w0 w' := Fr.trans hs (below_fr h) (fun k hk e => by omega)
theorem Ab.below {B : Nat} {w w' : World} {b : Nat} {C R : Int} {s : ByteArray} (h : Ab w b C R s) (hb : Below B w w') (hlt : b < B) : Ab w' b C R s := (below_fr hb).kept h (by omega)
theorem write_any (B b : Nat) (t s : ByteArray) (w : World) (h : Bld w B b t) (hlen : t.size + s.size ≤ 140737488355328) :
    Calls Try.prog 33 #[.pointer (some ⟨b, 0, none⟩), .string s] w fun e w' => e = .returned (.tuple #[.int .i64 s.size, .nilIface]) ∧ Bld w' B b (t ++ s) ∧ Below B w w' := by
  have hl := h.lt
  have k := Try.Builder_WriteString_k B b (Lib.byteCells t.data.toList) s w h (by rw [Lib.byteCells_length, Array.length_toList]; exact hlen) (by omega)
  refine k.mono ?_
  rintro e w' ⟨he, h1, h2, _⟩
  rw [cells_app] at h1
  exact ⟨he, .inr h1, h2⟩
theorem string_any (B b : Nat) (t : ByteArray) (w : World) (h : Bld w B b t) :
    Calls Try.prog 34 #[.pointer (some ⟨b, 0, none⟩)] w fun e w' => e = .returned (.string t) ∧ Below B w w' := by
  have hl := h.lt
  refine (Try.Builder_String_any_k B b t.data.toList w h (by omega)).mono ?_
  rintro e w' ⟨he, _, h2, _⟩
  exact ⟨by rw [he], h2⟩
end Go.Proofs.Ytnoaomocdmkigaa
