/- The Builder's WriteString, laid at this program by hand (no body of its closure names the type of every value, which the laying tool asks); a Builder that a call made: what it holds, carried on. -/
import Derived.Test.YtnoaomocdmkigabShelf
import Derived.Test.YtnoaomocdmkigabPr
namespace Go.Proofs
open Go.Shelf
def Try.lays166_ren : Go.Shelf.Ren := ⟨fun | 166 => 23 | 240 => 41 | 276 => 60 | n => n, fun | 70 => 53 | 72 => 56 | 37 => 54 | 75 => 58 | 80 => 61 | 164 => 91 | 20 => 20 | n => n, fun | n => n⟩
theorem Try.lays166 : Go.Proofs.Lays.n166 Try.prog Try.lays166_ren := {
  mixed := by kernel_rfl
  f166 := Try.func23.trans (congrArg some (by kernel_rfl))
  f240 := Try.func41.trans (congrArg some (by kernel_rfl))
  f276 := Try.func60.trans (congrArg some (by kernel_rfl))
  t0 := Try.underlying0
  a0 := Try.isAgg0
  z0 := Try.sizeOf0
  v0 := Try.zeroValue0
  t3 := Try.underlying3
  a3 := Try.isAgg3
  z3 := Try.sizeOf3
  v3 := Try.zeroValue3
  t4 := Try.underlying4
  a4 := Try.isAgg4
  z4 := Try.sizeOf4
  v4 := Try.zeroValue4
  t9 := Try.underlying9
  a9 := Try.isAgg9
  z9 := Try.sizeOf9
  v9 := Try.zeroValue9
  t20 := Try.underlying20
  a20 := Try.isAgg20
  z20 := Try.sizeOf20
  v20 := Try.zeroValue20
  t37 := Try.underlying54
  a37 := Try.isAgg54
  z37 := Try.sizeOf54
  v37 := Try.zeroValue54
  t70 := Try.underlying53
  a70 := Try.isAgg53
  z70 := Try.sizeOf53
  v70 := Try.zeroValue53
  t72 := Try.underlying56
  a72 := Try.isAgg56
  z72 := Try.sizeOf56
  v72 := Try.zeroValue56
  t75 := Try.underlying58
  a75 := Try.isAgg58
  z75 := Try.sizeOf58
  v75 := Try.zeroValue58
  t164 := Try.underlying91
  a164 := Try.isAgg91
  z164 := Try.sizeOf91
  v164 := Try.zeroValue91 }
theorem Try.Builder_Extra_166 : Builder.Extra Try.prog Try.lays166_ren := {
  sizeBuilder := by kernel_rfl
  liesBuilder := by kernel_rfl
  t5 := Try.underlying5
  a5 := Try.isAgg5
  z5 := Try.sizeOf5
  v5 := Try.zeroValue5
  infoByte := by kernel_rfl
  cellsByte := by kernel_rfl
  sizeByte := by kernel_rfl
  neB5 := by decide }
open Go.RowKit in
theorem Try.Builder_WriteString_k (B b : Nat) (bs : List Value) (s : ByteArray) (w : World) (h : Lib.IsBuilderF 56 5 B b bs w) (hlen : bs.length + s.size ≤ 140737488355328) (hBw : B ≤ w.heap.size) :
    Calls Try.prog 23 #[.pointer (some ⟨b, 0, none⟩), .string s] w fun e w' => e = .returned (.tuple #[.int .i64 s.size, .nilIface]) ∧ (Lib.BuilderAtF 56 5 B b (.pointer (some ⟨b, 0, none⟩)) (bs ++ Lib.strCells s) w' ∧ Below B w w' ∧ Lib.OthersKept 5 (some b) w w') := Any.Builder_WriteString_k Try.lays166 Try.Builder_Extra_166 B b bs s w h hlen hBw
end Go.Proofs
namespace Go.Proofs.Ytnoaomocdmkigab
open Go.RowKit
open Pu Gp Ap

/-- the Builder in block b (its rows from B on) holds the text t -/
def Bld (w : World) (B b : Nat) (t : ByteArray) : Prop := Lib.IsBuilderF 56 5 B b (Lib.byteCells t.data.toList) w
theorem builder_keep {T e : TypeId} {B b : Nat} {p : Value} {bs : List Value} {w w' : World} {F : Nat → Prop} (h : Lib.BuilderAtF T e B b p bs w) (hf : Fr F w w') (hF : ∀ k, F k → k < B) : Lib.BuilderAtF T e B b p bs w' := by
  obtain ⟨hB, v, hb, ⟨hl, hown⟩, hne⟩ := h
  refine ⟨hB, v, hf.kept hb (fun h => by have := hF _ h; omega), ⟨hl, ?_⟩, hne⟩
  rcases hown with hn | ⟨g, cap, cur, fz, rfl, hg, hh, rest⟩
  · exact .inl hn
  · exact .inr ⟨g, cap, cur, fz, rfl, hg, hf.kept hh (fun h => by have := hF _ h; omega), rest⟩
theorem Bld.keep {w w' : World} {B b : Nat} {t : ByteArray} {F : Nat → Prop} (h : Bld w B b t) (hf : Fr F w w') (hF : ∀ k, F k → k < B) : Bld w' B b t :=
  h.elim (fun k => .inl (builder_keep k hf hF)) (fun k => .inr (builder_keep k hf hF))
theorem Bld.still {w w' : World} {B b : Nat} {t : ByteArray} (h : Bld w B b t) (hf : Still w w') : Bld w' B b t := h.keep hf (fun _ e => e.elim)
theorem Bld.fresh (w : World) : Bld (w.alloc (.cells #[.pointer none, .slice none 0 0] 56)) w.heap.size w.heap.size ByteArray.empty := Lib.IsBuilderF.of (Lib.fresh_isBuilder _ _ w)
theorem Bld.lt {w : World} {B b : Nat} {t : ByteArray} (h : Bld w B b t) : b < w.heap.size ∧ B ≤ b := h.elim (fun k => ⟨k.lt, k.1⟩) (fun k => ⟨k.lt, k.1⟩)
theorem cells_app (t s : ByteArray) : Lib.byteCells t.data.toList ++ Lib.strCells s = Lib.byteCells (t ++ s).data.toList := by
  unfold Lib.byteCells Lib.strCells
  rw [← List.map_append, ByteArray.data_append, Array.toList_append]
/-- what is written below B stays -/
theorem below_fr {B : Nat} {w w' : World} (h : Below B w w') : Fr (fun k => B ≤ k) w w' := ⟨h.os, h.tape, h.output, h.size, fun k _ hk => h.block k (by omega)⟩
theorem still_below {B : Nat} {w0 w w' : World} (hs : Still w0 w) (h : Below B w w') (hB : w0.heap.size ≤ B) : Still w0 w' := Fr.trans hs (below_fr h) (fun k hk e => by omega)
theorem Ab.below {B : Nat} {w w' : World} {b : Nat} {C R : Int} {s : ByteArray} (h : Ab w b C R s) (hb : Below B w w') (hlt : b < B) : Ab w' b C R s := (below_fr hb).kept h (by omega)
theorem write_any (B b : Nat) (t s : ByteArray) (w : World) (h : Bld w B b t) (hlen : t.size + s.size ≤ 140737488355328) :
    Calls Try.prog 23 #[.pointer (some ⟨b, 0, none⟩), .string s] w fun e w' => e = .returned (.tuple #[.int .i64 s.size, .nilIface]) ∧ Bld w' B b (t ++ s) ∧ Below B w w' := by
  have hl := h.lt
  have k := Try.Builder_WriteString_k B b (Lib.byteCells t.data.toList) s w h (by rw [Lib.byteCells_length, Array.length_toList]; exact hlen) (by omega)
  refine k.mono ?_
  rintro e w' ⟨he, h1, h2, _⟩
  rw [cells_app] at h1
  exact ⟨he, .inr h1, h2⟩
theorem string_any (B b : Nat) (t : ByteArray) (w : World) (h : Bld w B b t) :
    Calls Try.prog 24 #[.pointer (some ⟨b, 0, none⟩)] w fun e w' => e = .returned (.string t) ∧ Below B w w' := by
  have hl := h.lt
  refine (Try.Builder_String_any_k B b t.data.toList w h (by omega)).mono ?_
  rintro e w' ⟨he, _, h2, _⟩
  exact ⟨by rw [he], h2⟩
end Go.Proofs.Ytnoaomocdmkigab
