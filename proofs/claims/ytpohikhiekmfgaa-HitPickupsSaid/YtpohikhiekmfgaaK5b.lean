/- Memory: which blocks may have turned; what a slice of bytes reads; a slice of bytes that is appended to. No function of the program is named here. A statement whose first operations only read (in a class of worlds) and whose last ones come behind them all, in the order of the text: one walk serves every order that Go leaves open. No function of the program is named here. Points: their blocks; contracts of the functions on points, of the program and of the document's answer. Points and boxes compared. Points: how far a way leads, which of two is the greater, how far into a direction. Boxes: which may be, around a point, what two have in common. A way that is not longer than that; the box around a point. A statement with a new variable in it, whose block Go may lay at any time: in whatever order, each operation is looked at alone, in the frame that all of them leave. No function of the program is named here. The box around a point; what two boxes have in common, by the program. The table of units; a way of the length 1; the direction that is nearest to a way. -/
import Derived.WalkKit
import Derived.Lib.SlBytesRow
import Derived.StillTail
import Derived.Deep.QuietTactic
import Derived.BigQuiet
import Derived.Test.YtpohikhiekmfgaaK5a
import Derived.Deep.RegionWith
import Derived.BigRegion
import Derived.Laws.ResultCell
import Derived.KernelRfl
import Derived.Laws.StructEq
namespace Go.Proofs.Ytpohikhiekmfgaa
open Go.RowKit

theorem hid {p : Prop} (h : p) : Hid p := h

/-- Of the blocks that were there only those of F may have turned. -/
structure Fr (F : Nat → Prop) (w w' : World) : Prop where
  os : w'.os = w.os
  tape : w'.tape = w.tape
  output : w'.output = w.output
  size : w.heap.size ≤ w'.heap.size
  block : ∀ k, k < w.heap.size → ¬ F k → w'.heap[k]? = w.heap[k]?

theorem Fr.refl (F : Nat → Prop) (w : World) : Fr F w w := ⟨rfl, rfl, rfl, Nat.le_refl _, fun _ _ _ => rfl⟩
theorem Fr.mono {F G : Nat → Prop} {w w' : World} (h : Fr F w w') (hG : ∀ k, k < w.heap.size → F k → G k) : Fr G w w' :=
  ⟨h.os, h.tape, h.output, h.size, fun k hk hn => h.block k hk fun hf => hn (hG k hk hf)⟩
theorem Fr.trans {F G : Nat → Prop} {a b c : World} (h : Fr F a b) (k : Fr G b c) (hG : ∀ k, k < a.heap.size → G k → F k) : Fr F a c :=
  ⟨k.os.trans h.os, k.tape.trans h.tape, k.output.trans h.output, Nat.le_trans h.size k.size,
    fun i hi hn => (k.block i (Nat.lt_of_lt_of_le hi h.size) fun hg => hn (hG i hi hg)).trans (h.block i hi hn)⟩
theorem Fr.drew {F : Nat → Prop} {a w : World} (h : Fr F a w) : Fr F a w.drew := ⟨h.os, h.tape, h.output, h.size, h.block⟩
theorem Fr.drewN {F : Nat → Prop} {a w : World} (h : Fr F a w) (n : Nat) : Fr F a (w.drewN n) :=
  ⟨h.os, h.tape, h.output, h.size, h.block⟩
theorem Fr.alloc {F : Nat → Prop} {a w : World} (h : Fr F a w) (o : Obj) : Fr F a (w.alloc o) :=
  ⟨h.os, h.tape, h.output, by have := h.size; simp; omega, fun k hk hn => (Below.heap_alloc _ _ _ (Nat.lt_of_lt_of_le hk h.size)).trans (h.block k hk hn)⟩
theorem Fr.setCell {F : Nat → Prop} {a w : World} (h : Fr F a w) (p : Addr) (u : Value) (hp : F p.block ∨ a.heap.size ≤ p.block) : Fr F a (w.setCell p u) :=
  ⟨h.os, h.tape, h.output, by have := h.size; simpa [World.setCell] using this, fun k hk hn => by
    rw [Below.heap_setCell _ _ _ _ (fun e => by subst e; rcases hp with hp | hp; exact hn hp; omega)]
    exact h.block k hk hn⟩
theorem Fr.setRow {F : Nat → Prop} {a w : World} (h : Fr F a w) (g : Nat) (cs : Array Value) (hp : F g ∨ a.heap.size ≤ g) : Fr F a (w.setRow g cs) :=
  ⟨h.os, h.tape, h.output, by have := h.size; simpa using this, fun k hk hn => by
    rw [setRow_other w g k cs (fun e => by subst e; rcases hp with hp | hp; exact hn hp; omega)]
    exact h.block k hk hn⟩
theorem Fr.below {F : Nat → Prop} {B : Nat} {W w' : World} (h : Fr F W w') (hF : ∀ k, F k → B ≤ k) (hB : B ≤ W.heap.size) : Below B W w' :=
  ⟨h.os, h.tape, h.output, h.size, fun k hk => h.block k (by omega) fun hf => by have := hF k hf; omega⟩
theorem Fr.cell {F : Nat → Prop} {w w' : World} (h : Fr F w w') {p : Addr} (hp : p.block < w.heap.size) (hn : ¬ F p.block) : w'.cell? p = w.cell? p :=
  World.cell?_of_block (w := w) (h.block p.block hp hn)
theorem Fr.frozen {F : Nat → Prop} {w w' : World} (h : Fr F w w') {p : Addr} (hp : p.block < w.heap.size) (hn : ¬ F p.block) : w'.frozen? p = w.frozen? p :=
  World.frozen?_of_block (w := w) (h.block p.block hp hn)
theorem Fr.kept {F : Nat → Prop} {w w' : World} (h : Fr F w w') {k : Nat} {o : Obj} (hk : w.heap[k]? = some o) (hn : ¬ F k) : w'.heap[k]? = some o :=
  (h.block k (Array.getElem?_eq_some_iff.1 hk).1 hn).trans hk
/-- Nothing that was there has turned. -/
abbrev Still (w w' : World) : Prop := Fr (fun _ => False) w w'
theorem Fr.kept_still {w w' : World} (h : Still w w') {k : Nat} {o : Obj} (hk : w.heap[k]? = some o) : w'.heap[k]? = some o := h.kept hk (fun e => e)
theorem block_lt {w : World} {k : Nat} {o : Obj} (hk : w.heap[k]? = some o) : k < w.heap.size := (Array.getElem?_eq_some_iff.1 hk).1
theorem Still.to {F : Nat → Prop} {w w' : World} (h : Still w w') : Fr F w w' := h.mono fun _ _ e => e.elim
theorem Still.below {w w' : World} (h : Still w w') : Below w.heap.size w w' := Fr.below h (fun _ e => e.elim) (Nat.le_refl _)
theorem Still.undrew {w w' : World} (h : Still w.drew w') : Still w w' := ⟨h.os, h.tape, h.output, h.size, h.block⟩
theorem Still.undrewN {w w' : World} {k : Nat} (h : Still (w.drewN k) w') : Still w w' := ⟨h.os, h.tape, h.output, h.size, h.block⟩
theorem Still.trans {a b c : World} (h : Still a b) (k : Still b c) : Still a c := Fr.trans h k fun _ _ e => e
theorem Still.alloc (w : World) (o : Obj) : Still w (w.alloc o) := (Fr.refl _ w).alloc o

/-- The slice (ao, n, cap) reads the bytes bs. -/
structure Rd (w : World) (ao : Option Addr) (n cap : Nat) (bs : List UInt8) : Prop where
  len : bs.length = n
  le : n ≤ cap
  max : cap ≤ maxLen
  plain : ∀ a, ao = some a → 0 < n → a.spot = none
  nil : ao = none → cap = 0
  cells : ∀ a, ao = some a → ∀ j (h : j < bs.length), w.cell? ⟨a.block, a.off + j, none⟩ = some (.int .u8 (bs[j].toNat : Int))

theorem Rd.empty (w : World) : Rd w none 0 0 [] := ⟨rfl, Nat.le_refl _, by unfold maxLen; omega, fun _ h _ => (by cases h), fun _ => rfl, fun _ h => (by cases h)⟩
theorem Rd.addr {w : World} {ao : Option Addr} {n cap : Nat} {bs : List UInt8} (h : Rd w ao n cap bs) (hn : 0 < n) : ∃ b o, ao = some ⟨b, o, none⟩ := by
  cases ao with
  | none => have := h.nil rfl; have := h.le; omega
  | some a =>
    obtain ⟨b, o, s⟩ := a
    have := h.plain _ rfl hn
    simp at this
    subst this
    exact ⟨b, o, rfl⟩
theorem Rd.small {w : World} {ao : Option Addr} {n cap : Nat} {bs : List UInt8} (h : Rd w ao n cap bs) : n ≤ 9223372036854775807 := by
  have h1 := h.le; have h2 := h.max; unfold maxLen at h2; omega
theorem Rd.kept {F : Nat → Prop} {w w' : World} {ao : Option Addr} {n cap : Nat} {bs : List UInt8} (h : Rd w ao n cap bs) (hf : Fr F w w') (hn : ∀ a, ao = some a → 0 < n → ¬ F a.block) : Rd w' ao n cap bs :=
  ⟨h.len, h.le, h.max, h.plain, h.nil, fun a ha j hj => by
    have hc := h.cells a ha j hj
    have hlt := World.block_lt_of_cell? w _ hc
    rw [hf.cell hlt (hn a ha (by have := h.len; omega)), hc]⟩
theorem Rd.still {w w' : World} {ao : Option Addr} {n cap : Nat} {bs : List UInt8} (h : Rd w ao n cap bs) (hf : Still w w') : Rd w' ao n cap bs := h.kept hf fun _ _ _ e => e
theorem Rd.alloc {w : World} {ao : Option Addr} {n cap : Nat} {bs : List UInt8} (h : Rd w ao n cap bs) (o : Obj) : Rd (w.alloc o) ao n cap bs := h.still (Still.alloc w o)
theorem Rd.lt {w : World} {ao : Option Addr} {n cap : Nat} {bs : List UInt8} (h : Rd w ao n cap bs) (hn : 0 < n) : ∀ a, ao = some a → a.block < w.heap.size := fun a ha =>
  World.block_lt_of_cell? w ⟨a.block, a.off + 0, none⟩ (h.cells a ha 0 (by have := h.len; omega))
theorem Rd.drew {w : World} {ao : Option Addr} {n cap : Nat} {bs : List UInt8} (h : Rd w ao n cap bs) : Rd w.drew ao n cap bs := h.still ((Fr.refl _ w).drew)
theorem Rd.drewN {w : World} {ao : Option Addr} {n cap : Nat} {bs : List UInt8} (h : Rd w ao n cap bs) (k : Nat) : Rd (w.drewN k) ao n cap bs := h.still ((Fr.refl _ w).drewN k)
/-- The byte at k. -/
theorem Rd.byte {w : World} {b o n cap : Nat} {bs : List UInt8} (h : Rd w (some ⟨b, o, none⟩) n cap bs) {k : Nat} (hk : k < bs.length) : w.cell? ⟨b, o + k, none⟩ = some (.int .u8 (bs[k].toNat : Int)) := h.cells _ rfl k hk

/-- Where 's[i:]' begins. -/
def cutAt (ao : Option Addr) (cap i : Nat) : Option Addr := if cap = i then ao else ao.map (·.add (i * 1))
theorem add_plain (b o j : Nat) : (⟨b, o, none⟩ : Addr).add j = ⟨b, o + j, none⟩ := by unfold Addr.add; split <;> simp_all
theorem cutAt_block {ao : Option Addr} {cap i : Nat} : ∀ a, cutAt ao cap i = some a → ∃ a0, ao = some a0 ∧ a.block = a0.block := by
  intro a ha
  unfold cutAt at ha
  split at ha
  · exact ⟨a, ha, rfl⟩
  · cases ao with
    | none => cases ha
    | some a0 =>
      simp at ha
      subst ha
      refine ⟨a0, rfl, ?_⟩
      unfold Addr.add; split <;> rfl
theorem Rd.drop {w : World} {ao : Option Addr} {n cap : Nat} {bs : List UInt8} (h : Rd w ao n cap bs) {i : Nat} (hi : i ≤ n) : Rd w (cutAt ao cap i) (n - i) (cap - i) (bs.drop i) := by
  have hl := h.len
  have hle := h.le
  refine ⟨by simp [hl], by omega, by have := h.max; omega, ?_, ?_, ?_⟩
  · intro a ha hpos
    unfold cutAt at ha
    split at ha
    · omega
    · cases ao with
      | none => cases ha
      | some a0 =>
        have := h.plain a0 rfl (by omega)
        simp at ha
        subst ha
        unfold Addr.add
        split
        · exact this
        · rfl
  · intro ha
    unfold cutAt at ha
    split at ha
    · omega
    · cases ao with
      | none => have := h.nil rfl; omega
      | some a0 => cases ha
  · intro a ha j hj
    simp at hj
    unfold cutAt at ha
    rw [if_neg (by omega)] at ha
    obtain ⟨b, o, rfl⟩ := h.addr (by omega)
    simp [add_plain] at ha
    subst ha
    have := h.byte (k := i + j) (by omega)
    simp only [List.getElem_drop]
    rw [Nat.add_assoc]
    exact this
theorem Rd.take {w : World} {ao : Option Addr} {n cap : Nat} {bs : List UInt8} (h : Rd w ao n cap bs) {i : Nat} (hi : i ≤ n) : Rd w ao i cap (bs.take i) := by
  have hl := h.len
  refine ⟨by simp; omega, by have := h.le; omega, h.max, fun a ha hp => h.plain a ha (by omega), h.nil, fun a ha j hj => ?_⟩
  simp at hj
  simp only [List.getElem_take]
  exact h.cells a ha j (by omega)
theorem cutAt_zero (ao : Option Addr) (cap : Nat) : cutAt ao cap 0 = ao := by
  unfold cutAt
  split
  · rfl
  · cases ao with
    | none => rfl
    | some a => simp [Addr.add]

section
variable {P : Program}
/-- 's[i:]', and 's[:i]', of a slice of bytes, as the walk takes them. -/
theorem run_from (w : World) (t e : TypeId) (i : TypeInfo) (ht : P.underlying t = some (.slice e)) (hi : P.info? e = some i) (hs : i.size = 1) (k : IntKind) (ao : Option Addr) (n cap : Nat) (x : Int) (h0 : 0 ≤ x) (h1 : x ≤ n) :
    (Instr.slice t (.slice ao n cap) (some (.int k x)) none none).run P w = .ok (.slice (cutAt ao cap x.toNat) (n - x.toNat) (cap - x.toNat)) w := by
  have ht' : P.underlying t = some (.slice (P.elem t)) := by simp [Program.elem, ht]
  have he : P.elem t = e := by simp [Program.elem, ht]
  rw [run_slice_l w t ao n cap ht' k x h0 h1, he]
  simp [sizeOf, typeInfo, hi, hs, Result.andThen, sliced, cutAt]
theorem run_upto (w : World) (t e : TypeId) (i : TypeInfo) (ht : P.underlying t = some (.slice e)) (hi : P.info? e = some i) (hs : i.size = 1) (k : IntKind) (ao : Option Addr) (n cap : Nat) (x : Int) (h0 : 0 ≤ x) (h1 : x ≤ cap) :
    (Instr.slice t (.slice ao n cap) none (some (.int k x)) none).run P w = .ok (.slice ao x.toNat cap) w := by
  have ht' : P.underlying t = some (.slice (P.elem t)) := by simp [Program.elem, ht]
  have he : P.elem t = e := by simp [Program.elem, ht]
  rw [run_slice_h w t ao n cap ht' k x h0 h1, he]
  have := cutAt_zero ao cap
  simp only [cutAt] at this
  simp [sizeOf, typeInfo, hi, hs, Result.andThen, sliced]
  simpa using this
theorem run_fromto (w : World) (t e : TypeId) (i : TypeInfo) (ht : P.underlying t = some (.slice e)) (hi : P.info? e = some i) (hs : i.size = 1) (k : IntKind) (ao : Option Addr) (n cap : Nat) (x y : Int) (h0 : 0 ≤ x) (h1 : x ≤ y) (h2 : y ≤ cap) :
    (Instr.slice t (.slice ao n cap) (some (.int k x)) (some (.int k y)) none).run P w = .ok (.slice (cutAt ao cap x.toNat) (y.toNat - x.toNat) (cap - x.toNat)) w := by
  have ht' : P.underlying t = some (.slice (P.elem t)) := by simp [Program.elem, ht]
  have he : P.elem t = e := by simp [Program.elem, ht]
  rw [run_slice_lh w t ao n cap ht' k k x y h0 h1 h2, he]
  simp [sizeOf, typeInfo, hi, hs, Result.andThen, sliced, cutAt]

/-- 'string(b)'. -/
theorem run_string (w : World) (t e s : TypeId) (ht : P.underlying t = some (.slice e)) (he : P.underlying e = some (.int .u8)) (hs : P.underlying s = some .string) {ao : Option Addr} {n cap : Nat} {bs : List UInt8} (h : Rd w ao n cap bs) :
    (convert t s (.slice ao n cap)).run P w = .ok (.string ⟨bs.toArray⟩) w := by
  cases ao with
  | none =>
    have h1 := h.nil rfl
    have h2 := h.le
    have h3 := h.len
    have : bs = [] := List.eq_nil_of_length_eq_zero (by omega)
    subst this
    exact run_convert_bytes_nil w t e ht he n cap s hs
  | some a =>
    by_cases hn0 : n = 0
    · have h3 := h.len
      have : bs = [] := List.eq_nil_of_length_eq_zero (by omega)
      subst this
      subst hn0
      rw [run_convert_bytes_string w t s e _ 0 cap ht he hs, run_bytesToString w _ 0 cap [] (by simp [loadCells, loadCellsFrom])]
      rfl
    obtain ⟨b, o, sp⟩ := a
    have := h.plain _ rfl (by omega)
    simp at this
    subst this
    have hsz : (ByteArray.mk bs.toArray).size = n := by simpa [ByteArray.size] using h.len
    have hc := Lib.run_convert_whole (P := P) w t e s ht he hs b o ⟨bs.toArray⟩ (fun i hi => by
      have hi' : i < bs.length := by have := h.len; omega
      rw [h.byte hi']
      rfl) cap
    rw [hsz] at hc
    exact hc
end

/-- The slice (ao, n, cap) reads bs, and its whole row is its owner's (e: the type of a byte). -/
structure Ow (e : TypeId) (w : World) (ao : Option Addr) (n cap : Nat) (bs : List UInt8) : Prop where
  rd : Rd w ao n cap bs
  row : ∀ a, ao = some a → a.off = 0 ∧ a.spot = none ∧ ∃ cur, w.heap[a.block]? = some (.cells cur e (0, 0)) ∧ cur.size = cap

theorem Ow.empty (e : TypeId) (w : World) : Ow e w none 0 0 [] := ⟨Rd.empty w, fun _ h => by cases h⟩
theorem Ow.lt {e : TypeId} {w : World} {ao : Option Addr} {n cap : Nat} {bs : List UInt8} (h : Ow e w ao n cap bs) : ∀ a, ao = some a → a.block < w.heap.size := fun a ha => by
  obtain ⟨_, _, cur, hg, _⟩ := h.row a ha
  exact block_lt hg
theorem Ow.kept {F : Nat → Prop} {e : TypeId} {w w' : World} {ao : Option Addr} {n cap : Nat} {bs : List UInt8} (h : Ow e w ao n cap bs) (hf : Fr F w w') (hn : ∀ a, ao = some a → ¬ F a.block) : Ow e w' ao n cap bs :=
  ⟨h.rd.kept hf fun a ha _ => hn a ha, fun a ha => by
    obtain ⟨h0, hp, cur, hg, hs⟩ := h.row a ha
    exact ⟨h0, hp, cur, hf.kept hg (hn a ha), hs⟩⟩
theorem Ow.still {e : TypeId} {w w' : World} {ao : Option Addr} {n cap : Nat} {bs : List UInt8} (h : Ow e w ao n cap bs) (hf : Still w w') : Ow e w' ao n cap bs := h.kept hf fun _ _ e => e
theorem Ow.alloc {e : TypeId} {w : World} {ao : Option Addr} {n cap : Nat} {bs : List UInt8} (h : Ow e w ao n cap bs) (o : Obj) : Ow e (w.alloc o) ao n cap bs := h.still (Still.alloc w o)

/-- The cells of bytes. -/
def cellsOf (bs : List UInt8) : List Value := bs.map fun b => .int .u8 (b.toNat : Int)
theorem cellsOf_get {bs : List UInt8} {j : Nat} {u : Value} (h : (cellsOf bs)[j]? = some u) : ∃ hj : j < bs.length, u = .int .u8 (bs[j].toNat : Int) := by
  unfold cellsOf at h
  rw [List.getElem?_map] at h
  cases hb : bs[j]? with
  | none => simp [hb] at h
  | some b =>
    obtain ⟨hj, hb'⟩ := List.getElem?_eq_some_iff.1 hb
    simp [hb] at h
    exact ⟨hj, by rw [hb']; exact h.symm⟩
theorem cellsOf_at {bs : List UInt8} {j : Nat} (hj : j < bs.length) : (cellsOf bs).toArray[j]? = some (.int .u8 (bs[j].toNat : Int)) := by
  simp [cellsOf, hj]
theorem Rd.cellsAt {w : World} {a : Addr} {n cap : Nat} {bs : List UInt8} (h : Rd w (some a) n cap bs) : ∀ j u, (cellsOf bs)[j]? = some u → w.cell? (a.add j) = some u := by
  intro j u hu
  obtain ⟨hj, rfl⟩ := cellsOf_get hu
  obtain ⟨b, o, s⟩ := a
  have := h.plain _ rfl (by have := h.len; omega)
  simp at this
  subst this
  rw [add_plain]
  exact h.byte hj
theorem cellsOf_one (bs : List UInt8) : ∀ u ∈ cellsOf bs, u.oneCell' = true := by
  intro u hu
  obtain ⟨_, _, rfl⟩ := List.mem_map.1 hu
  rfl

section
variable {P : Program}
/-- A new row that holds bs at its head. -/
theorem Ow.fresh {e : TypeId} (w : World) (cur : Array Value) (cap n : Nat) (bs : List UInt8) (hl : bs.length = n) (hn : n ≤ cap) (hm : cap ≤ maxLen) (hc : cur.size = cap) (ht : ∀ j (h : j < bs.length), cur[j]? = some (.int .u8 (bs[j].toNat : Int))) :
    Ow e (w.alloc (.cells cur e)) (some ⟨w.heap.size, 0, none⟩) n cap bs := by
  have hh : (w.alloc (.cells cur e)).heap[w.heap.size]? = some (.cells cur e (0, 0)) := heap_alloc_new w _
  refine ⟨⟨hl, hn, hm, fun a ha _ => ?_, fun h => (by cases h), fun a ha j hj => ?_⟩, fun a ha => ?_⟩
  · cases ha; rfl
  · cases ha
    rw [cell_of_row _ _ _ _ _ _ hh, Nat.zero_add]
    exact ht j hj
  · cases ha
    exact ⟨rfl, rfl, cur, hh, hc⟩

theorem run_app (w : World) (t ty e : TypeId) (i : TypeInfo) (ht : P.underlying t = some (.slice e)) (hi : P.info? e = some i) (hz : i.zero = some (.int .u8 0)) (hs : i.size = 1) (hb : i.bytes = 1)
    {ao so : Option Addr} {n cap m c : Nat} {bs cs : List UInt8} (ho : Ow e w ao n cap bs) (hr : Rd w so m c cs) (h47 : n + m ≤ 140737488355328) :
    ∃ ao' cap' w', (Builtin.append_ #[t, t] ty #[.slice ao n cap, .slice so m c]).run P w = .ok (.slice ao' (n + m) cap') w' ∧ Ow e w' ao' (n + m) cap' (bs ++ cs) ∧
      Fr (fun k => ∃ a, ao = some a ∧ a.block = k) w w' ∧ (∀ a, ao' = some a → ao = some a ∨ w.heap.size ≤ a.block) ∧ (ao' = none → m = 0 ∧ ao = none) := by
  have hlb := ho.rd.len
  have hlc := hr.len
  have hle := ho.rd.le
  have hmx := ho.rd.max
  have h63 : n + m ≤ 9223372036854775807 := by omega
  cases so with
  | none =>
    have h1 := hr.nil rfl
    have h2 := hr.le
    have hm : m = 0 := by omega
    subst hm
    have hc : c = 0 := by omega
    subst hc
    have hcs : cs = [] := List.eq_nil_of_length_eq_zero (by omega)
    subst hcs
    refine ⟨ao, cap, w, ?_, by simpa using ho, Fr.refl _ _, fun a ha => .inl ha, fun h => ⟨rfl, h⟩⟩
    simp [Builtin.append_, run_underlying ht, sizeOf, typeInfo, hi, Builtin.lenOf, run_firstCells_none, hle]
    cases ao with
    | none => simp
    | some a => simp [storeCells]
  | some sa =>
    have hnews := hr.cellsAt
    have hl : (cellsOf cs).length = m * i.size := by simp [cellsOf, hs, hlc]
    cases ao with
    | none =>
      have hcap := ho.rd.nil rfl
      subst hcap
      have hn0 : n = 0 := by omega
      subst hn0
      have hbs : bs = [] := List.eq_nil_of_length_eq_zero hlb
      subst hbs
      by_cases hm : m = 0
      · subst hm
        have hcs : cs = [] := List.eq_nil_of_length_eq_zero hlc
        subst hcs
        refine ⟨none, 0, w, ?_, Ow.empty e w, Fr.refl _ _, fun a ha => .inl ha, fun _ => ⟨rfl, rfl⟩⟩
        simp [Builtin.append_, run_underlying ht, sizeOf, typeInfo, hi, Builtin.lenOf, Builtin.firstCells, loadCells, loadCellsFrom]
      · have hr' := run_append_nil (P := P) w t ty e i _ ht hi hz sa m c (cellsOf cs) hl hnews (by omega) (by omega) (by rw [hb]; omega)
        have hge := grownCap_ge w m 0 e
        have hgm := grownCap_le_maxLen w m 0 e (by unfold maxLen; omega)
        refine ⟨_, _, _, by rw [Nat.zero_add]; exact hr', ?_, ((Fr.refl _ w).drew.alloc _), fun a ha => .inr (by cases ha; exact Nat.le_refl _), fun h => by cases h⟩
        rw [List.nil_append, Nat.zero_add]
        exact Ow.fresh w.drew _ _ m cs hlc hge hgm (by simp [cellsOf, hlc, Builtin.zeroCells, Value.cells]; omega) (fun j hj => by
          rw [Array.getElem?_append_left (by simpa [cellsOf] using hj)]
          simp [cellsOf, hj])
    | some a =>
      obtain ⟨b, o, sp⟩ := a
      obtain ⟨h0, hp, cur, hg, hcs⟩ := ho.row _ rfl
      simp at h0 hg hp
      subst h0
      subst hp
      by_cases hroom : n + m ≤ cap
      · have hfit : n * i.size + (cellsOf cs).length ≤ cur.size := by simp [hs, cellsOf, hlc]; omega
        have hr' := run_append_room (P := P) w t ty e i ht hi b n cap cur hg sa m c (cellsOf cs) hl hnews (cellsOf_one cs) hroom hfit
        refine ⟨_, _, _, hr', ?_, (Fr.refl _ w).setRow b _ (.inl ⟨_, rfl, rfl⟩), fun a ha => .inl ha, fun h => by cases h⟩
        have hgn := setRow_heap w b cur (cur.toList.take (n * i.size) ++ cellsOf cs ++ cur.toList.drop (n * i.size + (cellsOf cs).length)).toArray e _ hg
        have hcl : (cellsOf cs).length = m := by simp [cellsOf, hlc]
        refine ⟨⟨by simp [hlb, hlc], hroom, hmx, fun a ha _ => (by cases ha; rfl), fun h => (by cases h), fun a ha j hj => ?_⟩, fun a ha => ?_⟩
        · cases ha
          rw [cell_of_row _ _ _ _ _ _ hgn]
          simp only [Nat.zero_add, List.getElem?_toArray, hs, Nat.mul_one]
          simp at hj
          by_cases hjn : j < n
          · rw [List.append_assoc, List.getElem?_append_left (by simp; omega), List.getElem?_take_of_lt hjn]
            have h1 := ho.rd.byte (k := j) (by omega)
            rw [cell_of_row _ _ _ _ _ _ hg] at h1
            simp only [Nat.zero_add] at h1
            rw [List.getElem_append_left (by omega)]
            simpa using h1
          · have htl : (cur.toList.take n).length = n := by simp; omega
            rw [List.append_assoc, List.getElem?_append_right (by omega), List.getElem?_append_left (by rw [htl, hcl]; omega), htl]
            rw [List.getElem_append_right (by omega)]
            have hj2 : j - n < cs.length := by omega
            simp only [cellsOf, List.getElem?_map, hlb, List.getElem?_eq_getElem hj2, Option.map_some]
        · cases ha
          refine ⟨rfl, rfl, _, hgn, ?_⟩
          simp only [List.size_toArray, List.length_append, List.length_take, List.length_drop, Array.length_toList, hs, Nat.mul_one, hcl]
          omega
      · have holds : ∀ j u, (cellsOf bs)[j]? = some u → w.cell? ((⟨b, 0, none⟩ : Addr).add j) = some u := ho.rd.cellsAt
        have hr' := run_append_grow (P := P) w t ty e i _ ht hi hz ⟨b, 0, none⟩ n cap (cellsOf bs) (by simp [cellsOf, hs, hlb]) holds sa m c (cellsOf cs) hl hnews (by omega) (by omega) (by rw [hb]; exact growslice_fits (by omega) (by omega))
        have hge := grownCap_ge w (n + m) cap e
        have hgm := grownCap_le_maxLen w (n + m) cap e (by unfold maxLen; omega)
        refine ⟨_, _, _, hr', ?_, ((Fr.refl _ w).drew.alloc _), fun a ha => .inr (by cases ha; exact Nat.le_refl _), fun h => by cases h⟩
        exact Ow.fresh w.drew _ _ (n + m) (bs ++ cs) (by simp [hlb, hlc]) hge hgm (by simp [cellsOf, hlb, hlc, Builtin.zeroCells, Value.cells]; omega) (fun j hj => by
          have hcl : (cellsOf bs).toArray ++ (cellsOf cs).toArray = (cellsOf (bs ++ cs)).toArray := by simp [cellsOf]
          rw [hcl, Array.getElem?_append_left (by simpa [cellsOf] using hj)]
          exact cellsOf_at hj)

/-- 'append(s, x...)' of bytes, s its owner's: as the walk takes it. -/
theorem wpList_app (w : World) {ops : Array Oper} {rest : List Oper} {o : Oper} {a : Act} {Q : Exit → Act → World → Prop} (hgd : o.guard = none) (s x : Operand) (t : TypeId)
    (hop : o.op = .call { callee := .builtin .append, args := #[s, x], argTypes := #[t, t] })
    (e : TypeId) (i : TypeInfo) (ht : P.underlying t = some (.slice e)) (hi : P.info? e = some i) (hz : i.zero = some (.int .u8 0)) (hs1 : i.size = 1) (hb : i.bytes = 1)
    (ao so : Option Addr) (n cap m c : Nat) (bs cs : List UInt8) (hs : a.eval s = .slice ao n cap) (hx : a.eval x = .slice so m c) (ho : Ow e w ao n cap bs) (hr : Rd w so m c cs) (h47 : n + m ≤ 140737488355328)
    (h : ∀ ao' cap' w', Ow e w' ao' (n + m) cap' (bs ++ cs) → Fr (fun k => ∃ a, ao = some a ∧ a.block = k) w w' → (∀ a, ao' = some a → ao = some a ∨ w.heap.size ≤ a.block) → (ao' = none → m = 0 ∧ ao = none) →
      wpList P ops Q rest (a.put o.dst (.slice ao' (n + m) cap')) w') : wpList P ops Q (o :: rest) a w := by
  refine wpList_plain hgd fun _ hK => ?_
  obtain ⟨ao', cap', w', hrun, h1, h2, h3, h4⟩ := run_app (P := P) w t o.type e i ht hi hz hs1 hb ho hr h47
  unfold Oper.wp execOp
  simp only [hop, resolve, invoke, builtin, Sem.run_bind, Sem.run_pure, Result.andThen_ok, List.map_toArray, List.map_cons, List.map_nil, hs, hx, hrun]
  exact hK _ _ (h ao' cap' w' h1 h2 h3 h4)
end
end Go.Proofs.Ytpohikhiekmfgaa
namespace Go.Proofs.Ytpohikhiekmfgaa
open Go

/-- how many of the first k operations have not come up -/
def cnt (L : Array Bool) : Nat → Nat
  | 0 => 0
  | k + 1 => cnt L k + (if L.getD k true then 0 else 1)
theorem cnt_set_ge {L : Array Bool} {j : Nat} : ∀ {n : Nat}, n ≤ j → cnt (L.setIfInBounds j true) n = cnt L n
  | 0, _ => rfl
  | n + 1, h => by
    unfold cnt
    rw [cnt_set_ge (by omega), getD_set_ne true (by omega)]
theorem cnt_set {L : Array Bool} {j : Nat} (hu : L.getD j true = false) : ∀ {n : Nat}, j < n → cnt (L.setIfInBounds j true) n + 1 = cnt L n
  | 0, h => by omega
  | n + 1, h => by
    unfold cnt
    by_cases hj : j = n
    · subst hj
      have hlt : j < L.size := by
        rcases Nat.lt_or_ge j L.size with h' | h'
        · exact h'
        · simp [Array.getElem?_eq_none h'] at hu
      rw [cnt_set_ge (Nat.le_refl _), hu]
      simp [hlt]
    · rw [getD_set_ne true hj]
      have := cnt_set hu (n := n) (by omega)
      omega
theorem cnt_zero {L : Array Bool} : ∀ {n : Nat}, cnt L n = 0 → ∀ i, i < n → L.getD i true = true
  | 0, _, i, h => by omega
  | n + 1, hc, i, h => by
    unfold cnt at hc
    by_cases hi : i = n
    · subst hi
      cases hb : L.getD i true with
      | true => rfl
      | false => rw [hb] at hc; simp at hc
    · exact cnt_zero (n := n) (by omega) i (by omega)
theorem cnt_pos {L : Array Bool} : ∀ {n : Nat}, cnt L n ≠ 0 → ∃ i, i < n ∧ L.getD i true = false ∧ ∀ k, k < i → L.getD k true = true
  | 0, h => by simp [cnt] at h
  | n + 1, hc => by
    by_cases h0 : cnt L n = 0
    · refine ⟨n, by omega, ?_, cnt_zero h0⟩
      unfold cnt at hc
      cases hb : L.getD n true with
      | true => rw [hb, h0] at hc; simp at hc
      | false => rfl
    · obtain ⟨i, hi, h1, h2⟩ := cnt_pos h0
      exact ⟨i, by omega, h1, h2⟩
theorem cnt_new {N : Nat} : ∀ {n : Nat}, n ≤ N → cnt (Array.replicate N false) n = n
  | 0, _ => rfl
  | n + 1, h => by
    unfold cnt
    rw [cnt_new (by omega)]
    simp [show n < N by omega]

/-- what the kernel looks at: each of the first n waits for earlier ones alone, and hangs on none of the last ones -/
def lowB (ops : Array Oper) (n : Nat) : Bool :=
  (List.range n).all fun i => match ops[i]? with
    | some o => (o.after.all fun e => decide (e.on < i)) && (match o.guard with | none => true | some (j, _) => decide (j < n))
    | none => false
theorem lowB_spec {ops : Array Oper} {n i : Nat} {o : Oper} (h : lowB ops n = true) (hi : i < n) (ho : ops[i]? = some o) :
    (∀ e ∈ o.after, e.on < i) ∧ ∀ j b, o.guard = some (j, b) → j < n := by
  have h1 := List.all_eq_true.1 h i (List.mem_range.2 hi)
  simp only [ho, Bool.and_eq_true] at h1
  refine ⟨fun e he => by simpa using (Array.all_eq_true'.1 h1.1) e he, fun j b hg => ?_⟩
  have h2 := h1.2
  rw [hg] at h2
  simpa using h2

section
variable {P : Program} {C : World → Prop}
theorem head_at {l : List Oper} {n j : Nat} (hj : j < n) : (l.take n).toArray[j]? = l.toArray[j]? := by simp [hj]
theorem wanted_head {l : List Oper} {n : Nat} {o : Oper} {t : Array Value} (hg : ∀ j b, o.guard = some (j, b) → j < n) :
    Region.wanted o (yielded (l.take n).toArray t) = Region.wanted o (yielded l.toArray t) := by
  unfold Region.wanted
  cases h : o.guard with
  | none => rfl
  | some x =>
    obtain ⟨j, b⟩ := x
    have : yielded (l.take n).toArray t j = yielded l.toArray t j := by unfold yielded; rw [head_at (hg j b h)]
    simp only [this]
theorem qOp_head {l : List Oper} {n j : Nat} (hlow : lowB l.toArray n = true) (hj : j < n) {K : Act → Prop} {a : Act} (h : qOp P (l.take n).toArray C j K a) : qOp P l.toArray C j K a := by
  unfold qOp at h ⊢
  rw [head_at hj] at h
  cases ho : l.toArray[j]? with
  | none => simpa only [ho] using h
  | some o =>
    simp only [ho] at h ⊢
    rw [wanted_head (lowB_spec hlow hj ho).2] at h
    exact h

/-- the first ones in whatever order, then the rest -/
theorem any_of_head {l : List Oper} {n g : Nat} {Lq : Act → Prop} {Q' : Exit → Act → World → Prop} (hlow : lowB l.toArray n = true) (hs : Region.sinkB .any l.toArray n = true) (hc : Region.chainB .any l.toArray n = true) (hn : n < l.length)
    (hdone : ∀ (L : Array Bool) a w, L.size = l.length → (∀ i, i < n → L.getD i true = true) → (∀ t, n ≤ t → t < l.length → L.getD t true = false) → C w → Lq a → wpAny P .any l.toArray Q' g L a w) :
    ∀ (f : Nat) (lh L : Array Bool) (a : Act) (w : World), C w → (∀ i b, i < n → L.getD i b = lh.getD i b) → HeadInv .any l.toArray n L → cnt L n = f →
      wpAnyQ P .any (l.take n).toArray C Lq f lh a → wpAny P .any l.toArray Q' (f + g) L a w
  | 0, lh, L, a, w, hw, hag, inv, hcnt, h => by
    rw [Nat.zero_add]
    exact hdone L a w (by simpa using inv.size) (cnt_zero hcnt) (fun t h1 h2 => inv.tail t h1 (by simpa using h2)) hw h.2
  | f + 1, lh, L, a, w, hw, hag, inv, hcnt, h => by
    rw [show f + 1 + g = (f + g) + 1 by omega]
    obtain ⟨i, hi, hun, hmin⟩ := cnt_pos (L := L) (n := n) (by omega)
    have hsz : l.toArray.size = l.length := by simp
    refine ⟨fun h0 => ?_, fun j hj => ?_⟩
    · exfalso
      have hio : ∃ o, l.toArray[i]? = some o := ⟨_, Array.getElem?_eq_getElem (by simp; omega)⟩
      obtain ⟨o, ho⟩ := hio
      have : i ∈ Region.ready .any l.toArray L := mem_ready.2 ⟨hun, o, ho, fun e he _ => by
        have hlt := (lowB_spec hlow hi ho).1 e he
        have hin : e.on < L.size := by rw [inv.size]; simp; omega
        have := hmin e.on hlt
        simp [hin] at this ⊢
        exact this⟩
      rw [h0] at this
      cases this
    · have hjn : j < n := by
        rcases Nat.lt_or_ge j n with h' | h'
        · exact h'
        · exact absurd hj (tail_waits hs hc (by rw [hsz]; exact hn) inv _ i rfl hi hun j h')
      obtain ⟨hju, o, ho, hall⟩ := mem_ready.1 hj
      have hjh : j ∈ Region.ready .any (l.take n).toArray lh := mem_ready.2 ⟨by rw [← hag j true hjn]; exact hju, o, by rw [head_at hjn]; exact ho, fun e he hb => by
        have hlt := (lowB_spec hlow hjn ho).1 e he
        rw [← hag e.on false (by omega)]
        exact hall e he hb⟩
      have hq := qOp_head hlow hjn (h.2 j hjh)
      refine wpOp_of_qOp hw (fun a' w' hw' h' => any_of_head hlow hs hc hn hdone f (lh.setIfInBounds j true) (L.setIfInBounds j true) a' w' hw' ?_ (inv.set hj hjn) ?_ h') hq
      · intro k b hk
        by_cases hjk : j = k
        · subst hjk
          have h1 : j < L.size := by rw [inv.size, hsz]; omega
          have h2 : j < lh.size := by
            rcases Nat.lt_or_ge j lh.size with h' | h'
            · exact h'
            · have := (mem_ready.1 hjh).1
              simp [Array.getElem?_eq_none h'] at this
          simp [h1, h2]
        · rw [getD_set_ne b hjk, getD_set_ne b hjk]
          exact hag k b hk
      · have := cnt_set hju hjn
        omega

def tailB (l : List Oper) (n : Nat) : Bool :=
  lowB l.toArray n && Region.sinkB .any l.toArray n && Region.chainB .any l.toArray n && decide (n < l.length) && Region.lexB .any (l.take n).toArray &&
    Region.seqB .any l.toArray (l.length - n) n (List.replicate n true ++ List.replicate (l.length - n) false).toArray
theorem full_eq {N n : Nat} {L : Array Bool} (hn : n ≤ N) (hsz : L.size = N) (h1 : ∀ i, i < n → L.getD i true = true) (h2 : ∀ t, n ≤ t → t < N → L.getD t true = false) :
    L = (List.replicate n true ++ List.replicate (N - n) false).toArray := by
  apply Array.ext
  · simp; omega
  · intro i hi1 hi2
    by_cases hi : i < n
    · have := h1 i hi
      simp [hi1] at this
      simp [hi, this]
    · have := h2 i (by omega) (by omega)
      simp [hi1] at this
      simp [List.getElem_append, hi, this]
/-- One walk, in the order of the text, of a statement whose operations from the n-th on come behind all others. -/
theorem region_tail {id : Nat} {Q : Exit → Act → World → Prop} {a : Act} {w : World} {l : List Oper} (n : Nat) (hm : P.follows .mixedOrders = true) (hB : tailB l n = true) (hC : C { w with drawn := w.drawn + 1 })
    (h : wpQuiet P (l.take n).toArray C (fun a' => ∀ w', C w' → wpList P l.toArray Q (l.drop n) a' w') (l.take n) a) : (Code.region id l.toArray true).wp P Q a w := by
  simp only [tailB, Bool.and_eq_true, decide_eq_true_eq] at hB
  obtain ⟨⟨⟨⟨⟨hlow, hs⟩, hc⟩, hn⟩, hlex⟩, hseq⟩ := hB
  simp only [Region.lexB, Bool.and_eq_true] at hlex
  have hlen : (l.take n).length = n := by simp; omega
  have H := wpAnyQ_lex (P := P) (C := C) (md := .any) hlex.1 (l.take n) 0 (Array.replicate (l.take n).toArray.size false) a (by simp) (by simpa using hlex.2) h
  have inv0 : HeadInv .any l.toArray n (Array.replicate l.length false) :=
    ⟨by simp, fun j oj _ hl => (by rw [getD_replicate_false] at hl; cases hl), fun t _ ht => getD_in (by simpa using ht) (getD_replicate_false _ _)⟩
  refine wp_region_any hm ?_
  have key := any_of_head (P := P) (C := C) (Q' := Q) (g := l.length - n) hlow hs hc hn (Lq := fun a' => ∀ w', C w' → wpList P l.toArray Q (l.drop n) a' w') (fun L a' w' hsz h1 h2 hw' hq => by
    have e := full_eq (by omega) hsz h1 h2
    subst e
    have := wpAny_of_seq (P := P) (md := .any) (ops := l.toArray) (Q' := Q) (l.drop n) n _ a' w' (fun j => by simp [List.getElem?_drop]) (by simpa using hseq) (hq w' hw')
    simpa using this) n (Array.replicate n false) (Array.replicate l.length false) a _ hC (fun i b hi => by
      simp [show i < l.length by omega, hi]) inv0 (cnt_new (by omega)) (by simp only [List.size_toArray, hlen] at H; exact H)
  have e : n + (l.length - n) = l.toArray.size := by simp; omega
  rw [e] at key
  simpa using key
end

/-- a world in which nothing that was there in w has turned -/
structure Aft (w : World) : Type where
  u : World
  s : Still w u
theorem Aft.here (w : World) : Nonempty (Aft w) := ⟨⟨w, Fr.refl _ w⟩⟩
/-- those worlds -/
abbrev Cl (w : World) : World → Prop := fun w' => ∃ z : Aft w, w' = z.u
theorem Cl.here (w : World) : Cl w { w with drawn := w.drawn + 1 } := ⟨⟨w.drew, (Fr.refl _ w).drew⟩, rfl⟩
theorem Calls.cl {P : Program} {f : FuncId} {args : Array Value} {w : World} {z : Aft w} {v : Value}
    (h : Calls P f args z.u fun e w' => e = .returned v ∧ Still z.u w') : Calls P f args z.u fun e w'' => e = .returned v ∧ ∃ y : Aft w, w'' = y.u :=
  h.mono fun _ w' ⟨he, hs⟩ => ⟨he, ⟨w', z.s.trans hs⟩, rfl⟩
theorem Calls.cl_same {P : Program} {f : FuncId} {args : Array Value} {w : World} {z : Aft w} {v : Value}
    (h : Calls P f args z.u fun e w' => e = .returned v ∧ w' = z.u) : Calls P f args z.u fun e w'' => e = .returned v ∧ ∃ y : Aft w, w'' = y.u :=
  h.mono fun _ _ ⟨he, hs⟩ => ⟨he, z, hs⟩
/-- the walk of a whole statement that only reads, in that class -/
theorem region_all {P : Program} {id : Nat} {Q : Exit → Act → World → Prop} {a : Act} {w : World} {l : List Oper} (hm : P.follows .mixedOrders = true) (hB : Region.lexB .any l.toArray = true)
    (h : wpQuiet P l.toArray (fun w' => ∃ z : Aft w, w' = z.u) (fun a' => ∀ w', Still w w' → Q .normal a' w') l a) : (Code.region id l.toArray true).wp P Q a w :=
  wp_region_quiet (C := Cl w) hm hB (Cl.here w) (by
    have e : (fun a' => ∀ w', Still w w' → Q .normal a' w') = fun a' => ∀ w', Cl w w' → Q .normal a' w' := funext fun a' => propext ⟨fun h w' ⟨z, e⟩ => e ▸ h z.u z.s, fun h w' hs => h w' ⟨⟨w', hs⟩, rfl⟩⟩
    rw [e] at h
    simpa using h)
/-- .. and of one whose operations from the n-th on come last -/
theorem region_rest {P : Program} {id : Nat} {Q : Exit → Act → World → Prop} {a : Act} {w : World} {l : List Oper} (n : Nat) (hm : P.follows .mixedOrders = true) (hB : tailB l n = true)
    (h : wpQuiet P (l.take n).toArray (fun w' => ∃ z : Aft w, w' = z.u) (fun a' => ∀ w', Still w w' → wpList P l.toArray Q (l.drop n) a' w') (l.take n) a) : (Code.region id l.toArray true).wp P Q a w := by
  have e : (fun a' => ∀ w', Still w w' → wpList P l.toArray Q (l.drop n) a' w') = fun a' => ∀ w', Cl w w' → wpList P l.toArray Q (l.drop n) a' w' := funext fun a' => propext ⟨fun h w' ⟨z, e⟩ => e ▸ h z.u z.s, fun h w' hs => h w' ⟨⟨w', hs⟩, rfl⟩⟩
  rw [e] at h
  exact region_tail (C := Cl w) n hm hB (Cl.here w) h
theorem Cl.cell {w : World} {p : Addr} {v : Value} (h : w.cell? p = some v) : ∀ z : Aft w, z.u.cell? p = some v :=
  fun z => (z.s.cell (World.block_lt_of_cell? w _ h) (fun e => e)).trans h
end Go.Proofs.Ytpohikhiekmfgaa
namespace Go.Proofs.Ytpohikhiekmfgaa
open Go.RowKit
open Pu Gp

/-- a point as a value -/
abbrev pt (x y : Int) : Value := .agg #[.int .i64 x, .int .i64 y]
/-- a box as a value -/
abbrev bx (a b c d : Int) : Value := .agg #[.int .i64 a, .int .i64 b, .int .i64 c, .int .i64 d]

theorem load_pt (w : World) (g : Nat) (x y : Int) (c0 : w.cell? ⟨g, 0, none⟩ = some (.int .i64 x)) (c1 : w.cell? ⟨g, 1, none⟩ = some (.int .i64 y)) :
    (loadVar 33 ⟨g, 0, none⟩).run Try.prog w = .ok (pt x y) w := by
  go_simp
theorem load_bx (w : World) (g : Nat) (x y z u : Int) (c0 : w.cell? ⟨g, 0, none⟩ = some (.int .i64 x)) (c1 : w.cell? ⟨g, 1, none⟩ = some (.int .i64 y)) (c2 : w.cell? ⟨g, 2, none⟩ = some (.int .i64 z)) (c3 : w.cell? ⟨g, 3, none⟩ = some (.int .i64 u)) :
    (loadVar 52 ⟨g, 0, none⟩).run Try.prog w = .ok (bx x y z u) w := by
  go_simp
theorem res_pt {fn : Func} {p : Tmp} (h : fn.results = #[.cell p 33]) (tmps : Array Value) (w : World) (g : Nat) (x y : Int) (hp : tmps.getD p undef = .pointer (some ⟨g, 0, none⟩))
    (c0 : w.cell? ⟨g, 0, none⟩ = some (.int .i64 x)) (c1 : w.cell? ⟨g, 1, none⟩ = some (.int .i64 y)) : (results fn tmps).run Try.prog w = .ok (pt x y) w := by
  have hp' : tmps[p]?.getD undef = .pointer (some ⟨g, 0, none⟩) := by simpa using hp
  simp [results, h, hp', asAddr, load_pt w g x y c0 c1]
theorem res_bx {fn : Func} {p : Tmp} (h : fn.results = #[.cell p 52]) (tmps : Array Value) (w : World) (g : Nat) (x y z u : Int) (hp : tmps.getD p undef = .pointer (some ⟨g, 0, none⟩))
    (c0 : w.cell? ⟨g, 0, none⟩ = some (.int .i64 x)) (c1 : w.cell? ⟨g, 1, none⟩ = some (.int .i64 y)) (c2 : w.cell? ⟨g, 2, none⟩ = some (.int .i64 z)) (c3 : w.cell? ⟨g, 3, none⟩ = some (.int .i64 u)) :
    (results fn tmps).run Try.prog w = .ok (bx x y z u) w := by
  have hp' : tmps[p]?.getD undef = .pointer (some ⟨g, 0, none⟩) := by simpa using hp
  simp [results, h, hp', asAddr, load_bx w g x y z u c0 c1 c2 c3]
theorem res_bxb {fn : Func} {p q : Tmp} (h : fn.results = #[.cell p 52, .tmp q]) (tmps : Array Value) (w : World) (g : Nat) (x y z u : Int) (t : Value) (hp : tmps.getD p undef = .pointer (some ⟨g, 0, none⟩)) (hq : tmps.getD q undef = t)
    (c0 : w.cell? ⟨g, 0, none⟩ = some (.int .i64 x)) (c1 : w.cell? ⟨g, 1, none⟩ = some (.int .i64 y)) (c2 : w.cell? ⟨g, 2, none⟩ = some (.int .i64 z)) (c3 : w.cell? ⟨g, 3, none⟩ = some (.int .i64 u)) :
    (results fn tmps).run Try.prog w = .ok (.tuple #[bx x y z u, t]) w := by
  rw [results_cell_tmp h, hp, hq]
  simp [asAddr, Result.andThen, load_bx w g x y z u c0 c1 c2 c3]

/-- block b holds a point, or a box -/
def Pb (w : World) (b : Nat) (x y : Int) : Prop := w.heap[b]? = some (.cells #[.int .i64 x, .int .i64 y] 33 (0, 0))
def Bb (w : World) (b : Nat) (x y z u : Int) : Prop := w.heap[b]? = some (.cells #[.int .i64 x, .int .i64 y, .int .i64 z, .int .i64 u] 52 (0, 0))
theorem Pb.still {w w' : World} {b : Nat} {x y : Int} (h : Pb w b x y) (hs : Still w w') : Pb w' b x y := hs.kept_still h
theorem Bb.still {w w' : World} {b : Nat} {x y z u : Int} (h : Bb w b x y z u) (hs : Still w w') : Bb w' b x y z u := hs.kept_still h
theorem Pb.cells {w : World} {b : Nat} {x y : Int} (h : Pb w b x y) :
    w.cell? ⟨b, 0, none⟩ = some (.int .i64 x) ∧ w.cell? ⟨b, 1, none⟩ = some (.int .i64 y) ∧ ∀ o, w.frozen? ⟨b, o, none⟩ = false := by
  refine ⟨?_, ?_, fun o => frozen_of_row w b o _ _ h⟩ <;> (rw [cell_of_row _ _ _ _ _ _ h]; rfl)
theorem Bb.cells {w : World} {b : Nat} {x y z u : Int} (h : Bb w b x y z u) :
    w.cell? ⟨b, 0, none⟩ = some (.int .i64 x) ∧ w.cell? ⟨b, 1, none⟩ = some (.int .i64 y) ∧ w.cell? ⟨b, 2, none⟩ = some (.int .i64 z) ∧ w.cell? ⟨b, 3, none⟩ = some (.int .i64 u) ∧ ∀ o, w.frozen? ⟨b, o, none⟩ = false := by
  refine ⟨?_, ?_, ?_, ?_, fun o => frozen_of_row w b o _ _ h⟩ <;> (rw [cell_of_row _ _ _ _ _ _ h]; rfl)
/-- a point, a box that is stored -/
abbrev setP (w : World) (b : Nat) (x y : Int) : World := (w.setCell ⟨b, 0, none⟩ (.int .i64 x)).setCell ⟨b, 1, none⟩ (.int .i64 y)
abbrev setB (w : World) (b : Nat) (x y z u : Int) : World := (((w.setCell ⟨b, 0, none⟩ (.int .i64 x)).setCell ⟨b, 1, none⟩ (.int .i64 y)).setCell ⟨b, 2, none⟩ (.int .i64 z)).setCell ⟨b, 3, none⟩ (.int .i64 u)
theorem Pb.set {w : World} {b : Nat} {x y : Int} (h : Pb w b x y) (x' y' : Int) : Pb (setP w b x' y') b x' y' := by
  unfold Pb
  have h1 := heap_setCell_same w b 0 _ _ (.int .i64 x') h
  have h2 := heap_setCell_same _ b 1 _ _ (.int .i64 y') h1
  rw [h2]; rfl
theorem Bb.set {w : World} {b : Nat} {x y z u : Int} (h : Bb w b x y z u) (x' y' z' u' : Int) : Bb (setB w b x' y' z' u') b x' y' z' u' := by
  unfold Bb
  have h1 := heap_setCell_same w b 0 _ _ (.int .i64 x') h
  have h2 := heap_setCell_same _ b 1 _ _ (.int .i64 y') h1
  have h3 := heap_setCell_same _ b 2 _ _ (.int .i64 z') h2
  have h4 := heap_setCell_same _ b 3 _ _ (.int .i64 u') h3
  rw [h4]; rfl
theorem setP_fr {F : Nat → Prop} {a w : World} (h : Fr F a w) (b : Nat) (x y : Int) (hb : F b ∨ a.heap.size ≤ b) : Fr F a (setP w b x y) := (h.setCell _ _ hb).setCell _ _ hb
theorem setB_fr {F : Nat → Prop} {a w : World} (h : Fr F a w) (b : Nat) (x y z u : Int) (hb : F b ∨ a.heap.size ≤ b) : Fr F a (setB w b x y z u) := (((h.setCell _ _ hb).setCell _ _ hb).setCell _ _ hb).setCell _ _ hb
theorem Pb.res {fn : Func} {p : Tmp} {w : World} {g : Nat} {x y : Int} (hb : Pb w g x y) (h : fn.results = #[.cell p 33]) (tmps : Array Value) (hp : tmps.getD p undef = .pointer (some ⟨g, 0, none⟩)) :
    (results fn tmps).run Try.prog w = .ok (pt x y) w := res_pt h tmps w g x y hp hb.cells.1 hb.cells.2.1
theorem Bb.res {fn : Func} {p : Tmp} {w : World} {g : Nat} {x y z u : Int} (hb : Bb w g x y z u) (h : fn.results = #[.cell p 52]) (tmps : Array Value) (hp : tmps.getD p undef = .pointer (some ⟨g, 0, none⟩)) :
    (results fn tmps).run Try.prog w = .ok (bx x y z u) w := res_bx h tmps w g x y z u hp hb.cells.1 hb.cells.2.1 hb.cells.2.2.1 hb.cells.2.2.2.1
theorem Bb.resb {fn : Func} {p q : Tmp} {w : World} {g : Nat} {x y z u : Int} (hb : Bb w g x y z u) (h : fn.results = #[.cell p 52, .tmp q]) (tmps : Array Value) (t : Value) (hp : tmps.getD p undef = .pointer (some ⟨g, 0, none⟩)) (hq : tmps.getD q undef = t) :
    (results fn tmps).run Try.prog w = .ok (.tuple #[bx x y z u, t]) w := res_bxb h tmps w g x y z u t hp hq hb.cells.1 hb.cells.2.1 hb.cells.2.2.1 hb.cells.2.2.2.1
/-- a new block with a point, with a box -/
abbrev newP (w : World) (x y : Int) : World := w.alloc (.cells #[.int .i64 x, .int .i64 y] 33)
abbrev newB (w : World) (x y z u : Int) : World := w.alloc (.cells #[.int .i64 x, .int .i64 y, .int .i64 z, .int .i64 u] 52)
theorem newP_pb (w : World) (x y : Int) : Pb (newP w x y) w.heap.size x y := heap_alloc_new w _
theorem newB_bb (w : World) (x y z u : Int) : Bb (newB w x y z u) w.heap.size x y z u := heap_alloc_new w _
theorem size_alloc (w : World) (o : Obj) : (w.alloc o).heap.size = w.heap.size + 1 := by simp
theorem gbound_any (x y : Int) (w : World) : Calls Try.prog 81 #[pt x y] w fun e w' => e = .returned (pt (bnd x) (bnd y)) ∧ Still w w' := by
  obtain ⟨W, eW⟩ : ∃ W, W = (newP (newP w x y) 0 0) := ⟨_, rfl⟩
  have p0 : Pb W (w.heap.size) x y := by rw [eW]; have h := newP_pb w x y; exact (h.still (Still.alloc _ _))
  have c00 := Cl.cell p0.cells.1
  have c01 := Cl.cell p0.cells.2.1
  clear p0
  have r : Pb W (w.heap.size + 1) 0 0 := by rw [eW]; have h := newP_pb (newP w x y) 0 0; simp only [size_alloc] at h; exact h
  have HF := hid (show Still w W by rw [eW]; exact ((Still.alloc w _).trans (Still.alloc _ _)))
  have HW := hid eW
  have hne := Aft.here W
  clear eW
  have HB := hid (show w.heap.size ≤ w.heap.size + 1 by omega)
  go_enter Try.func81, Try.ntmps81
  go_wp2_with fail
  have e := HW.out
  simp only [newP] at e
  rw [← e]
  clear e HW
  refine region_rest 6 (by kernel_rfl) (by kernel_rfl) ?_
  simp only [List.take_succ_cons, List.take_zero, List.drop_succ_cons, List.drop_zero]
  repeat (go_big_quiet_step ((go_at_call 79; exact Calls.cl_same (bound_any _ _))))
  refine wpQuiet_nil ?_
  intro w1 hs
  clear hne c00 c01
  have q := r.still hs
  obtain ⟨d0, d1, df⟩ := q.cells
  go_wp2_with fail
  (try simp only [Exit.inBlock, Exit.then])
  exact bodyPost_ret ((q.set _ _).res rfl _ rfl) rfl ⟨rfl, setP_fr (HF.out.trans hs) _ _ _ (.inr HB.out)⟩
theorem rgbound_any (x y : Int) (w : World) : Calls Try.prog 45 #[pt x y] w fun e w' => e = .returned (pt (bnd x) (bnd y)) ∧ Still w w' := by
  obtain ⟨W, eW⟩ : ∃ W, W = (newP (newP w x y) 0 0) := ⟨_, rfl⟩
  have p0 : Pb W (w.heap.size) x y := by rw [eW]; have h := newP_pb w x y; exact (h.still (Still.alloc _ _))
  have c00 := Cl.cell p0.cells.1
  have c01 := Cl.cell p0.cells.2.1
  clear p0
  have r : Pb W (w.heap.size + 1) 0 0 := by rw [eW]; have h := newP_pb (newP w x y) 0 0; simp only [size_alloc] at h; exact h
  have HF := hid (show Still w W by rw [eW]; exact ((Still.alloc w _).trans (Still.alloc _ _)))
  have HW := hid eW
  have hne := Aft.here W
  clear eW
  have HB := hid (show w.heap.size ≤ w.heap.size + 1 by omega)
  go_enter Try.func45, Try.ntmps45
  go_wp2_with fail
  have e := HW.out
  simp only [newP] at e
  rw [← e]
  clear e HW
  refine region_rest 6 (by kernel_rfl) (by kernel_rfl) ?_
  simp only [List.take_succ_cons, List.take_zero, List.drop_succ_cons, List.drop_zero]
  repeat (go_big_quiet_step ((go_at_call 65; exact Calls.cl_same (rbound_any _ _))))
  refine wpQuiet_nil ?_
  intro w1 hs
  clear hne c00 c01
  have q := r.still hs
  obtain ⟨d0, d1, df⟩ := q.cells
  go_wp2_with fail
  (try simp only [Exit.inBlock, Exit.then])
  exact bodyPost_ret ((q.set _ _).res rfl _ rfl) rfl ⟨rfl, setP_fr (HF.out.trans hs) _ _ _ (.inr HB.out)⟩
theorem gadd_any (x y z u : Int) (w : World) : Calls Try.prog 44 #[pt x y, pt z u] w fun e w' => e = .returned (pt (addf x z) (addf y u)) ∧ Still w w' := by
  obtain ⟨W, eW⟩ : ∃ W, W = (newP (newP (newP w x y) z u) 0 0) := ⟨_, rfl⟩
  have p0 : Pb W (w.heap.size) x y := by rw [eW]; have h := newP_pb w x y; exact ((h.still (Still.alloc _ _)).still (Still.alloc _ _))
  have c00 := Cl.cell p0.cells.1
  have c01 := Cl.cell p0.cells.2.1
  clear p0
  have p1 : Pb W (w.heap.size + 1) z u := by rw [eW]; have h := newP_pb (newP w x y) z u; simp only [size_alloc] at h; exact (h.still (Still.alloc _ _))
  have c10 := Cl.cell p1.cells.1
  have c11 := Cl.cell p1.cells.2.1
  clear p1
  have r : Pb W (w.heap.size + 1 + 1) 0 0 := by rw [eW]; have h := newP_pb (newP (newP w x y) z u) 0 0; simp only [size_alloc] at h; exact h
  have HF := hid (show Still w W by rw [eW]; exact (((Still.alloc w _).trans (Still.alloc _ _)).trans (Still.alloc _ _)))
  have HW := hid eW
  have hne := Aft.here W
  clear eW
  have HB := hid (show w.heap.size ≤ w.heap.size + 1 + 1 by omega)
  go_enter Try.func44, Try.ntmps44
  go_wp2_with fail
  have e := HW.out
  simp only [newP] at e
  rw [← e]
  clear e HW
  refine region_rest 10 (by kernel_rfl) (by kernel_rfl) ?_
  simp only [List.take_succ_cons, List.take_zero, List.drop_succ_cons, List.drop_zero]
  repeat (go_big_quiet_step ((go_at_call 64; exact Calls.cl_same (add_any _ _ _))))
  refine wpQuiet_nil ?_
  intro w1 hs
  clear hne c00 c01 c10 c11
  have q := r.still hs
  obtain ⟨d0, d1, df⟩ := q.cells
  go_wp2_with fail
  (try simp only [Exit.inBlock, Exit.then])
  exact bodyPost_ret ((q.set _ _).res rfl _ rfl) rfl ⟨rfl, setP_fr (HF.out.trans hs) _ _ _ (.inr HB.out)⟩
theorem rgadd_any (x y z u : Int) (w : World) : Calls Try.prog 61 #[pt x y, pt z u] w fun e w' => e = .returned (pt (addf x z) (addf y u)) ∧ Still w w' := by
  obtain ⟨W, eW⟩ : ∃ W, W = (newP (newP (newP w x y) z u) 0 0) := ⟨_, rfl⟩
  have p0 : Pb W (w.heap.size) x y := by rw [eW]; have h := newP_pb w x y; exact ((h.still (Still.alloc _ _)).still (Still.alloc _ _))
  have c00 := Cl.cell p0.cells.1
  have c01 := Cl.cell p0.cells.2.1
  clear p0
  have p1 : Pb W (w.heap.size + 1) z u := by rw [eW]; have h := newP_pb (newP w x y) z u; simp only [size_alloc] at h; exact (h.still (Still.alloc _ _))
  have c10 := Cl.cell p1.cells.1
  have c11 := Cl.cell p1.cells.2.1
  clear p1
  have r : Pb W (w.heap.size + 1 + 1) 0 0 := by rw [eW]; have h := newP_pb (newP (newP w x y) z u) 0 0; simp only [size_alloc] at h; exact h
  have HF := hid (show Still w W by rw [eW]; exact (((Still.alloc w _).trans (Still.alloc _ _)).trans (Still.alloc _ _)))
  have HW := hid eW
  have hne := Aft.here W
  clear eW
  have HB := hid (show w.heap.size ≤ w.heap.size + 1 + 1 by omega)
  go_enter Try.func61, Try.ntmps61
  go_wp2_with fail
  have e := HW.out
  simp only [newP] at e
  rw [← e]
  clear e HW
  refine region_rest 10 (by kernel_rfl) (by kernel_rfl) ?_
  simp only [List.take_succ_cons, List.take_zero, List.drop_succ_cons, List.drop_zero]
  repeat (go_big_quiet_step ((go_at_call 78; exact Calls.cl_same (radd_any _ _ _))))
  refine wpQuiet_nil ?_
  intro w1 hs
  clear hne c00 c01 c10 c11
  have q := r.still hs
  obtain ⟨d0, d1, df⟩ := q.cells
  go_wp2_with fail
  (try simp only [Exit.inBlock, Exit.then])
  exact bodyPost_ret ((q.set _ _).res rfl _ rfl) rfl ⟨rfl, setP_fr (HF.out.trans hs) _ _ _ (.inr HB.out)⟩
theorem gsub_any (x y z u : Int) (w : World) : Calls Try.prog 43 #[pt x y, pt z u] w fun e w' => e = .returned (pt (subf x z) (subf y u)) ∧ Still w w' := by
  obtain ⟨W, eW⟩ : ∃ W, W = (newP (newP (newP w x y) z u) 0 0) := ⟨_, rfl⟩
  have p0 : Pb W (w.heap.size) x y := by rw [eW]; have h := newP_pb w x y; exact ((h.still (Still.alloc _ _)).still (Still.alloc _ _))
  have c00 := Cl.cell p0.cells.1
  have c01 := Cl.cell p0.cells.2.1
  clear p0
  have p1 : Pb W (w.heap.size + 1) z u := by rw [eW]; have h := newP_pb (newP w x y) z u; simp only [size_alloc] at h; exact (h.still (Still.alloc _ _))
  have c10 := Cl.cell p1.cells.1
  have c11 := Cl.cell p1.cells.2.1
  clear p1
  have r : Pb W (w.heap.size + 1 + 1) 0 0 := by rw [eW]; have h := newP_pb (newP (newP w x y) z u) 0 0; simp only [size_alloc] at h; exact h
  have HF := hid (show Still w W by rw [eW]; exact (((Still.alloc w _).trans (Still.alloc _ _)).trans (Still.alloc _ _)))
  have HW := hid eW
  have hne := Aft.here W
  clear eW
  have HB := hid (show w.heap.size ≤ w.heap.size + 1 + 1 by omega)
  go_enter Try.func43, Try.ntmps43
  go_wp2_with fail
  have e := HW.out
  simp only [newP] at e
  rw [← e]
  clear e HW
  refine region_rest 10 (by kernel_rfl) (by kernel_rfl) ?_
  simp only [List.take_succ_cons, List.take_zero, List.drop_succ_cons, List.drop_zero]
  repeat (go_big_quiet_step ((go_at_call 63; exact Calls.cl_same (sub_any _ _ _))))
  refine wpQuiet_nil ?_
  intro w1 hs
  clear hne c00 c01 c10 c11
  have q := r.still hs
  obtain ⟨d0, d1, df⟩ := q.cells
  go_wp2_with fail
  (try simp only [Exit.inBlock, Exit.then])
  exact bodyPost_ret ((q.set _ _).res rfl _ rfl) rfl ⟨rfl, setP_fr (HF.out.trans hs) _ _ _ (.inr HB.out)⟩
theorem rgsub_any (x y z u : Int) (w : World) : Calls Try.prog 60 #[pt x y, pt z u] w fun e w' => e = .returned (pt (subf x z) (subf y u)) ∧ Still w w' := by
  obtain ⟨W, eW⟩ : ∃ W, W = (newP (newP (newP w x y) z u) 0 0) := ⟨_, rfl⟩
  have p0 : Pb W (w.heap.size) x y := by rw [eW]; have h := newP_pb w x y; exact ((h.still (Still.alloc _ _)).still (Still.alloc _ _))
  have c00 := Cl.cell p0.cells.1
  have c01 := Cl.cell p0.cells.2.1
  clear p0
  have p1 : Pb W (w.heap.size + 1) z u := by rw [eW]; have h := newP_pb (newP w x y) z u; simp only [size_alloc] at h; exact (h.still (Still.alloc _ _))
  have c10 := Cl.cell p1.cells.1
  have c11 := Cl.cell p1.cells.2.1
  clear p1
  have r : Pb W (w.heap.size + 1 + 1) 0 0 := by rw [eW]; have h := newP_pb (newP (newP w x y) z u) 0 0; simp only [size_alloc] at h; exact h
  have HF := hid (show Still w W by rw [eW]; exact (((Still.alloc w _).trans (Still.alloc _ _)).trans (Still.alloc _ _)))
  have HW := hid eW
  have hne := Aft.here W
  clear eW
  have HB := hid (show w.heap.size ≤ w.heap.size + 1 + 1 by omega)
  go_enter Try.func60, Try.ntmps60
  go_wp2_with fail
  have e := HW.out
  simp only [newP] at e
  rw [← e]
  clear e HW
  refine region_rest 10 (by kernel_rfl) (by kernel_rfl) ?_
  simp only [List.take_succ_cons, List.take_zero, List.drop_succ_cons, List.drop_zero]
  repeat (go_big_quiet_step ((go_at_call 77; exact Calls.cl_same (rsub_any _ _ _))))
  refine wpQuiet_nil ?_
  intro w1 hs
  clear hne c00 c01 c10 c11
  have q := r.still hs
  obtain ⟨d0, d1, df⟩ := q.cells
  go_wp2_with fail
  (try simp only [Exit.inBlock, Exit.then])
  exact bodyPost_ret ((q.set _ _).res rfl _ rfl) rfl ⟨rfl, setP_fr (HF.out.trans hs) _ _ _ (.inr HB.out)⟩
end Go.Proofs.Ytpohikhiekmfgaa
namespace Go.Proofs.Ytpohikhiekmfgaa
open Go.RowKit
open Pu Gp

theorem equal_pt (d : Nat) (x y z u : Int) (w : World) : (Op.equalIn (d + 2) 33 (pt x y) (pt z u)).run Try.prog w = .ok (x == z && y == u) w := by
  rw [run_equalIn_struct w (d + 1) _ _ _ (by kernel_rfl) (by kernel_rfl)]
  have e : (Try.prog.fieldsOf 33) = #[⟨ "X", 3, 0, false, "", "", 0⟩, ⟨ "Y", 3, 1, false, "", "", 8⟩] := by kernel_rfl
  rw [e]
  by_cases h1 : x = z
  · by_cases h2 : y = u
    · subst h1 h2
      go_simp
    · have h3 : (y == u) = false := by simpa using h2
      subst h1
      go_simp
  · have h3 : (x == z) = false := by simpa using h1
    go_simp
theorem equal_bx (x y z u x' y' z' u' : Int) (w : World) : (Op.equalIn 10000 52 (bx x y z u) (bx x' y' z' u')).run Try.prog w = .ok ((x == x' && y == y') && (z == z' && u == u')) w := by
  have q1 := fun w => equal_pt 9997 x y x' y' w
  have q2 := fun w => equal_pt 9997 z u z' u' w
  rw [run_equalIn_struct w 9999 _ _ _ (by kernel_rfl) (by kernel_rfl)]
  have e : (Try.prog.fieldsOf 52) = #[⟨ "Min", 33, 0, false, "", "", 0⟩, ⟨ "Max", 33, 2, false, "", "", 16⟩] := by kernel_rfl
  rw [e]
  have p1 : ∀ w, (part 33 #[.int .i64 x, .int .i64 y, .int .i64 z, .int .i64 u] 0).run Try.prog w = .ok (pt x y) w := fun w => by go_simp
  have p2 : ∀ w, (part 33 #[.int .i64 x, .int .i64 y, .int .i64 z, .int .i64 u] 2).run Try.prog w = .ok (pt z u) w := fun w => by go_simp
  have p3 : ∀ w, (part 33 #[.int .i64 x', .int .i64 y', .int .i64 z', .int .i64 u'] 0).run Try.prog w = .ok (pt x' y') w := fun w => by go_simp
  have p4 : ∀ w, (part 33 #[.int .i64 x', .int .i64 y', .int .i64 z', .int .i64 u'] 2).run Try.prog w = .ok (pt z' u') w := fun w => by go_simp
  simp only [Op.eqFields, ne_eq, String.reduceEq, not_false_eq_true, if_true, Sem.run_bind, p1, p2, p3, p4, Result.andThen_ok, q1, q2, Sem.run_ite, Sem.run_pure]
  cases (x == x' && y == y') <;> cases (z == z' && u == u') <;> rfl
theorem eql_pt (x y z u : Int) (w : World) : (binOp .eql 33 (pt x y) (pt z u)).run Try.prog w = .ok (.bool (x == z && y == u)) w := by
  rw [run_eql_struct, equal_pt 9998]; rfl
theorem neq_pt (x y z u : Int) (w : World) : (binOp .neq 33 (pt x y) (pt z u)).run Try.prog w = .ok (.bool (!(x == z && y == u))) w := by
  rw [run_neq_struct, equal_pt 9998]; rfl
theorem eql_bx (x y z u x' y' z' u' : Int) (w : World) : (binOp .eql 52 (bx x y z u) (bx x' y' z' u')).run Try.prog w = .ok (.bool ((x == x' && y == y') && (z == z' && u == u'))) w := by
  rw [run_eql_struct, equal_bx]; rfl
theorem neq_bx (x y z u x' y' z' u' : Int) (w : World) : (binOp .neq 52 (bx x y z u) (bx x' y' z' u')).run Try.prog w = .ok (.bool (!((x == x' && y == y') && (z == z' && u == u')))) w := by
  rw [run_neq_struct, equal_bx]; rfl
theorem guard_pt (op : BinOp) (a b : Operand) (xs ys : Array Value) (w : World) : (eqGuard op 33 a b (.agg xs) (.agg ys)).run Try.prog w = .ok () w := run_eqGuard_agg w op _ a b xs ys (by kernel_rfl)
theorem guard_bx (op : BinOp) (a b : Operand) (xs ys : Array Value) (w : World) : (eqGuard op 52 a b (.agg xs) (.agg ys)).run Try.prog w = .ok () w := run_eqGuard_agg w op _ a b xs ys (by kernel_rfl)
/-- the same, decided -/
theorem eql_pt_t {x y z u : Int} (h1 : x = z) (h2 : y = u) (w : World) : (binOp .eql 33 (pt x y) (pt z u)).run Try.prog w = .ok (.bool true) w := by
  rw [eql_pt, h1, h2]; simp
theorem eql_bx_t {x y z u x' y' z' u' : Int} (h1 : x = x') (h2 : y = y') (h3 : z = z') (h4 : u = u') (w : World) : (binOp .eql 52 (bx x y z u) (bx x' y' z' u')).run Try.prog w = .ok (.bool true) w := by
  rw [eql_bx, h1, h2, h3, h4]; simp
theorem neq_bx_f {x y z u x' y' z' u' : Int} (h : x = x' ∧ y = y' ∧ z = z' ∧ u = u') (w : World) : (binOp .neq 52 (bx x y z u) (bx x' y' z' u')).run Try.prog w = .ok (.bool false) w := by
  obtain ⟨h1, h2, h3, h4⟩ := h
  rw [neq_bx, h1, h2, h3, h4]; simp
theorem neq_bx_t {x y z u x' y' z' u' : Int} (h : ¬ (x = x' ∧ y = y' ∧ z = z' ∧ u = u')) (w : World) : (binOp .neq 52 (bx x y z u) (bx x' y' z' u')).run Try.prog w = .ok (.bool true) w := by
  rw [neq_bx]
  have : ((x == x' && y == y') && (z == z' && u == u')) = false := by
    cases hb : ((x == x' && y == y') && (z == z' && u == u')) with
    | false => rfl
    | true =>
      simp at hb
      exact absurd ⟨hb.1.1, hb.1.2, hb.2.1, hb.2.2⟩ h
  rw [this]; rfl
theorem neq_pt_f {x y z u : Int} (h : x = z ∧ y = u) (w : World) : (binOp .neq 33 (pt x y) (pt z u)).run Try.prog w = .ok (.bool false) w := by
  obtain ⟨h1, h2⟩ := h
  rw [neq_pt, h1, h2]; simp
theorem neq_pt_t {x y z u : Int} (h : ¬ (x = z ∧ y = u)) (w : World) : (binOp .neq 33 (pt x y) (pt z u)).run Try.prog w = .ok (.bool true) w := by
  rw [neq_pt]
  have : (x == z && y == u) = false := by
    cases hb : (x == z && y == u) with
    | false => rfl
    | true => simp at hb; exact absurd hb h
  rw [this]; rfl
end Go.Proofs.Ytpohikhiekmfgaa
namespace Go.Proofs.Ytpohikhiekmfgaa
open Go.RowKit
open Pu Gp

theorem greater_any (x y z u : Int) (w : World) :
    Calls Try.prog 68 #[pt x y, pt z u] w fun e w' => e = .returned (pt (max x z) (max y u)) ∧ Still w w' := by
  have r := newP_pb (newP (newP w x y) z u) (max x z) (max y u)
  simp only [size_alloc] at r
  have HR := hid r
  clear r
  go_enter Try.func68, Try.ntmps68
  go_wp2_with fail
  (try simp only [Exit.inBlock, Exit.then])
  exact bodyPost_ret (HR.out.res rfl _ rfl) rfl ⟨rfl, ((Still.alloc w _).trans (Still.alloc _ _)).trans (Still.alloc _ _)⟩
theorem lesser_any (x y z u : Int) (w : World) :
    Calls Try.prog 69 #[pt x y, pt z u] w fun e w' => e = .returned (pt (min x z) (min y u)) ∧ Still w w' := by
  have r := newP_pb (newP (newP w x y) z u) (min x z) (min y u)
  simp only [size_alloc] at r
  have HR := hid r
  clear r
  go_enter Try.func69, Try.ntmps69
  go_wp2_with fail
  (try simp only [Exit.inBlock, Exit.then])
  exact bodyPost_ret (HR.out.res rfl _ rfl) rfl ⟨rfl, ((Still.alloc w _).trans (Still.alloc _ _)).trans (Still.alloc _ _)⟩
theorem between_any (x y z u : Int) (w : World) : Calls Try.prog 80 #[pt x y, pt z u] w fun e w' => e = .returned (bx (min x z) (min y u) (max x z) (max y u)) ∧ Still w w' := by
  obtain ⟨W, eW⟩ : ∃ W, W = (newB (newP (newP w x y) z u) 0 0 0 0) := ⟨_, rfl⟩
  have p0 : Pb W (w.heap.size) x y := by rw [eW]; have h := newP_pb w x y; exact ((h.still (Still.alloc _ _)).still (Still.alloc _ _))
  have c00 := Cl.cell p0.cells.1
  have c01 := Cl.cell p0.cells.2.1
  clear p0
  have p1 : Pb W (w.heap.size + 1) z u := by rw [eW]; have h := newP_pb (newP w x y) z u; simp only [size_alloc] at h; exact (h.still (Still.alloc _ _))
  have c10 := Cl.cell p1.cells.1
  have c11 := Cl.cell p1.cells.2.1
  clear p1
  have r : Bb W (w.heap.size + 1 + 1) 0 0 0 0 := by rw [eW]; have h := newB_bb (newP (newP w x y) z u) 0 0 0 0; simp only [size_alloc] at h; exact h
  have HF := hid (show Still w W by rw [eW]; exact (((Still.alloc w _).trans (Still.alloc _ _)).trans (Still.alloc _ _)))
  have HW := hid eW
  have hne := Aft.here W
  clear eW
  have HB := hid (show w.heap.size ≤ w.heap.size + 1 + 1 by omega)
  go_enter Try.func80, Try.ntmps80
  go_wp2_with fail
  have e := HW.out
  simp only [newP, newB] at e
  rw [← e]
  clear e HW
  refine region_rest 6 (by kernel_rfl) (by kernel_rfl) ?_
  simp only [List.take_succ_cons, List.take_zero, List.drop_succ_cons, List.drop_zero]
  repeat (go_big_quiet_step ((first | (go_at_call 69; exact Calls.cl (lesser_any _ _ _ _ _)) | (go_at_call 68; exact Calls.cl (greater_any _ _ _ _ _)))))
  refine wpQuiet_nil ?_
  intro w1 hs
  clear hne c00 c01 c10 c11
  have q := r.still hs
  obtain ⟨d0, d1, d2, d3, df⟩ := q.cells
  go_wp2_with fail
  (try simp only [Exit.inBlock, Exit.then])
  exact bodyPost_ret ((q.set _ _ _ _).res rfl _ rfl) rfl ⟨rfl, setB_fr (HF.out.trans hs) _ _ _ _ _ (.inr HB.out)⟩
end Go.Proofs.Ytpohikhiekmfgaa
namespace Go.Proofs.Ytpohikhiekmfgaa
open Go.RowKit
open Pu Gp

/-- a box may be -/
def okb (a b c d : Int) : Bool := decide (-2147483647 ≤ a ∧ a ≤ 2147483647 ∧ -2147483647 ≤ b ∧ b ≤ 2147483647 ∧ -2147483647 ≤ c ∧ c ≤ 2147483647 ∧ -2147483647 ≤ d ∧ d ≤ 2147483647 ∧ a ≤ c ∧ b ≤ d)
theorem okb_t {a b c d : Int} (h : okb a b c d = true) : okB a b c d := by unfold okb at h; simpa only [okB, decide_eq_true_eq] using h
theorem okb_f {a b c d : Int} (h : okb a b c d = false) : ¬ okB a b c d := by unfold okb at h; simpa only [okB, decide_eq_false_iff_not] using h
def chk (a b c d : Int) : Int := if okb a b c d then 0 else 50
theorem ok_same (a b c d : Int) : okB a b c d ↔ (min (bnd a) (bnd c) = a ∧ min (bnd b) (bnd d) = b ∧ max (bnd a) (bnd c) = c ∧ max (bnd b) (bnd d) = d) := by
  have a0 := bnd_lo a; have a1 := bnd_hi a; have b0 := bnd_lo b; have b1 := bnd_hi b
  have c0 := bnd_lo c; have c1 := bnd_hi c; have d0 := bnd_lo d; have d1 := bnd_hi d
  constructor
  · rintro ⟨h0, h1, h2, h3, h4, h5, h6, h7, h8, h9⟩
    rw [bnd_id h0 h1, bnd_id h2 h3, bnd_id h4 h5, bnd_id h6 h7]
    omega
  · rintro ⟨h0, h1, h2, h3⟩
    refine ⟨?_, ?_, ?_, ?_, ?_, ?_, ?_, ?_, ?_, ?_⟩ <;> omega
theorem check_yes (a b c d : Int) (h : okb a b c d = true) (w : World) : Calls Try.prog 67 #[bx a b c d] w fun e w' => e = .returned (.int .i64 0) ∧ Still w w' := by
  have E := neq_bx_f ((ok_same a b c d).1 (okb_t h))
  have G := guard_bx
  clear h
  obtain ⟨W, eW⟩ : ∃ W, W = (newB w a b c d) := ⟨_, rfl⟩
  have p0 : Bb W (w.heap.size) a b c d := by rw [eW]; have h := newB_bb w a b c d; exact h
  have c00 := Cl.cell p0.cells.1
  have c01 := Cl.cell p0.cells.2.1
  have c02 := Cl.cell p0.cells.2.2.1
  have c03 := Cl.cell p0.cells.2.2.2.1
  clear p0
  have HF := hid (show Still w W by rw [eW]; exact (Still.alloc w _))
  have HW := hid eW
  have hne := Aft.here W
  clear eW
  go_enter Try.func67, Try.ntmps67
  go_wp2_with fail
  have e := HW.out
  simp only [newB] at e
  rw [← e]
  clear e HW
  refine region_all (by kernel_rfl) (by kernel_rfl) ?_
  repeat (go_big_quiet_step ((first | (go_at_call 81; exact Calls.cl (gbound_any _ _ _)) | (go_at_call 80; exact Calls.cl (between_any _ _ _ _ _)))))
  refine wpQuiet_nil ?_
  intro w1 hs
  clear hne c00 c01 c02 c03
  go_wp2_with fail
  go_ret
  exact ⟨rfl, HF.out.trans hs⟩
theorem check_no (a b c d : Int) (h : okb a b c d = false) (w : World) : Calls Try.prog 67 #[bx a b c d] w fun e w' => e = .returned (.int .i64 50) ∧ Still w w' := by
  have E := neq_bx_t (fun k => okb_f h ((ok_same a b c d).2 k))
  have G := guard_bx
  clear h
  obtain ⟨W, eW⟩ : ∃ W, W = (newB w a b c d) := ⟨_, rfl⟩
  have p0 : Bb W (w.heap.size) a b c d := by rw [eW]; have h := newB_bb w a b c d; exact h
  have c00 := Cl.cell p0.cells.1
  have c01 := Cl.cell p0.cells.2.1
  have c02 := Cl.cell p0.cells.2.2.1
  have c03 := Cl.cell p0.cells.2.2.2.1
  clear p0
  have HF := hid (show Still w W by rw [eW]; exact (Still.alloc w _))
  have HW := hid eW
  have hne := Aft.here W
  clear eW
  go_enter Try.func67, Try.ntmps67
  go_wp2_with fail
  have e := HW.out
  simp only [newB] at e
  rw [← e]
  clear e HW
  refine region_all (by kernel_rfl) (by kernel_rfl) ?_
  repeat (go_big_quiet_step ((first | (go_at_call 81; exact Calls.cl (gbound_any _ _ _)) | (go_at_call 80; exact Calls.cl (between_any _ _ _ _ _)))))
  refine wpQuiet_nil ?_
  intro w1 hs
  clear hne c00 c01 c02 c03
  go_wp2_with fail
  go_ret
  exact ⟨rfl, HF.out.trans hs⟩
theorem check_any (a b c d : Int) (w : World) : Calls Try.prog 67 #[bx a b c d] w fun e w' => e = .returned (.int .i64 (chk a b c d)) ∧ Still w w' := by
  unfold chk
  cases h : okb a b c d with
  | true => exact check_yes a b c d h w
  | false => exact check_no a b c d h w
theorem okb_of {a b c d : Int} (h : okB a b c d) : okb a b c d = true := by unfold okb; simpa only [okB, decide_eq_true_eq] using h
theorem okb_not {a b c d : Int} (h : ¬ okB a b c d) : okb a b c d = false := by unfold okb; simpa only [okB, decide_eq_false_iff_not] using h
theorem bnd_in {x : Int} (h : bnd x = x) : -2147483647 ≤ x ∧ x ≤ 2147483647 := by have a := bnd_lo x; have b := bnd_hi x; omega
theorem rcheck1 (a b c d : Int) (h1 : ¬ (bnd a = a ∧ bnd b = b)) (w : World) : Calls Try.prog 55 #[bx a b c d] w fun e w' => e = .returned (.int .i64 50) ∧ Still w w' := by
  have E1 := neq_pt_t h1
  have G := guard_pt
  clear h1
  have r := newB_bb w a b c d
  go_enter Try.func55, Try.ntmps55
  go_wp2_with fail
  refine (rgbound_any a b _).mono ?_
  rintro e w1 ⟨rfl, hs1⟩
  have r1 := r.still hs1
  have HF1 := hid ((Still.alloc w (.cells #[.int .i64 a, .int .i64 b, .int .i64 c, .int .i64 d] 52)).trans hs1)
  obtain ⟨b0, ew⟩ : ∃ b0, w.heap.size = b0 := ⟨_, rfl⟩
  rw [ew] at r1 ⊢
  clear ew r hs1
  obtain ⟨d0, d1, d2, d3, df⟩ := r1.cells
  obtain ⟨g0, g1, g2, g3, gf⟩ := (r1.still (Still.alloc w1 (.cells #[.int .i64 (bnd a), .int .i64 (bnd b)] 33))).cells
  go_wp2_with fail
  refine (rgbound_any c d _).mono ?_
  rintro e w2 ⟨rfl, hs2⟩
  have r2 := (r1.still (Still.alloc w1 (.cells #[.int .i64 (bnd a), .int .i64 (bnd b)] 33))).still hs2
  have p2 := (newP_pb w1 (bnd a) (bnd b)).still hs2
  have HF2 := hid ((HF1.out.trans (Still.alloc w1 (.cells #[.int .i64 (bnd a), .int .i64 (bnd b)] 33))).trans hs2)
  obtain ⟨b1, ew⟩ : ∃ b1, w1.heap.size = b1 := ⟨_, rfl⟩
  rw [ew] at p2 ⊢
  clear ew d0 d1 d2 d3 df g0 g1 g2 g3 gf r1 HF1
  obtain ⟨d0, d1, d2, d3, df⟩ := r2.cells
  obtain ⟨k0, k1, kf⟩ := p2.cells
  obtain ⟨m0, m1, m2, m3, mf⟩ := (r2.still (Still.alloc w2 (.cells #[.int .i64 (bnd c), .int .i64 (bnd d)] 33))).cells
  obtain ⟨n0, n1, nf⟩ := (p2.still (Still.alloc w2 (.cells #[.int .i64 (bnd c), .int .i64 (bnd d)] 33))).cells
  clear r2 p2 hs2
  go_wp2_with fail
  go_ret
  exact ⟨rfl, HF2.out.trans (Still.alloc _ _)⟩
theorem rcheck2 (a b c d : Int) (h1 : bnd a = a ∧ bnd b = b) (h2 : ¬ (bnd c = c ∧ bnd d = d)) (w : World) : Calls Try.prog 55 #[bx a b c d] w fun e w' => e = .returned (.int .i64 50) ∧ Still w w' := by
  have E1 := neq_pt_f h1
  have E2 := neq_pt_t h2
  have G := guard_pt
  clear h1 h2
  have r := newB_bb w a b c d
  go_enter Try.func55, Try.ntmps55
  go_wp2_with fail
  refine (rgbound_any a b _).mono ?_
  rintro e w1 ⟨rfl, hs1⟩
  have r1 := r.still hs1
  have HF1 := hid ((Still.alloc w (.cells #[.int .i64 a, .int .i64 b, .int .i64 c, .int .i64 d] 52)).trans hs1)
  obtain ⟨b0, ew⟩ : ∃ b0, w.heap.size = b0 := ⟨_, rfl⟩
  rw [ew] at r1 ⊢
  clear ew r hs1
  obtain ⟨d0, d1, d2, d3, df⟩ := r1.cells
  obtain ⟨g0, g1, g2, g3, gf⟩ := (r1.still (Still.alloc w1 (.cells #[.int .i64 (bnd a), .int .i64 (bnd b)] 33))).cells
  go_wp2_with fail
  refine (rgbound_any c d _).mono ?_
  rintro e w2 ⟨rfl, hs2⟩
  have r2 := (r1.still (Still.alloc w1 (.cells #[.int .i64 (bnd a), .int .i64 (bnd b)] 33))).still hs2
  have p2 := (newP_pb w1 (bnd a) (bnd b)).still hs2
  have HF2 := hid ((HF1.out.trans (Still.alloc w1 (.cells #[.int .i64 (bnd a), .int .i64 (bnd b)] 33))).trans hs2)
  obtain ⟨b1, ew⟩ : ∃ b1, w1.heap.size = b1 := ⟨_, rfl⟩
  rw [ew] at p2 ⊢
  clear ew d0 d1 d2 d3 df g0 g1 g2 g3 gf r1 HF1
  obtain ⟨d0, d1, d2, d3, df⟩ := r2.cells
  obtain ⟨k0, k1, kf⟩ := p2.cells
  obtain ⟨m0, m1, m2, m3, mf⟩ := (r2.still (Still.alloc w2 (.cells #[.int .i64 (bnd c), .int .i64 (bnd d)] 33))).cells
  obtain ⟨n0, n1, nf⟩ := (p2.still (Still.alloc w2 (.cells #[.int .i64 (bnd c), .int .i64 (bnd d)] 33))).cells
  clear r2 p2 hs2
  go_wp2_with fail
  go_ret
  exact ⟨rfl, HF2.out.trans (Still.alloc _ _)⟩
theorem rcheck3 (a b c d : Int) (h1 : bnd a = a ∧ bnd b = b) (h2 : bnd c = c ∧ bnd d = d) (h3 : c < a) (w : World) : Calls Try.prog 55 #[bx a b c d] w fun e w' => e = .returned (.int .i64 50) ∧ Still w w' := by
  have E1 := neq_pt_f h1
  have E2 := neq_pt_f h2
  have G := guard_pt
  clear h1 h2
  have r := newB_bb w a b c d
  go_enter Try.func55, Try.ntmps55
  go_wp2_with fail
  refine (rgbound_any a b _).mono ?_
  rintro e w1 ⟨rfl, hs1⟩
  have r1 := r.still hs1
  have HF1 := hid ((Still.alloc w (.cells #[.int .i64 a, .int .i64 b, .int .i64 c, .int .i64 d] 52)).trans hs1)
  obtain ⟨b0, ew⟩ : ∃ b0, w.heap.size = b0 := ⟨_, rfl⟩
  rw [ew] at r1 ⊢
  clear ew r hs1
  obtain ⟨d0, d1, d2, d3, df⟩ := r1.cells
  obtain ⟨g0, g1, g2, g3, gf⟩ := (r1.still (Still.alloc w1 (.cells #[.int .i64 (bnd a), .int .i64 (bnd b)] 33))).cells
  go_wp2_with fail
  refine (rgbound_any c d _).mono ?_
  rintro e w2 ⟨rfl, hs2⟩
  have r2 := (r1.still (Still.alloc w1 (.cells #[.int .i64 (bnd a), .int .i64 (bnd b)] 33))).still hs2
  have p2 := (newP_pb w1 (bnd a) (bnd b)).still hs2
  have HF2 := hid ((HF1.out.trans (Still.alloc w1 (.cells #[.int .i64 (bnd a), .int .i64 (bnd b)] 33))).trans hs2)
  obtain ⟨b1, ew⟩ : ∃ b1, w1.heap.size = b1 := ⟨_, rfl⟩
  rw [ew] at p2 ⊢
  clear ew d0 d1 d2 d3 df g0 g1 g2 g3 gf r1 HF1
  obtain ⟨d0, d1, d2, d3, df⟩ := r2.cells
  obtain ⟨k0, k1, kf⟩ := p2.cells
  obtain ⟨m0, m1, m2, m3, mf⟩ := (r2.still (Still.alloc w2 (.cells #[.int .i64 (bnd c), .int .i64 (bnd d)] 33))).cells
  obtain ⟨n0, n1, nf⟩ := (p2.still (Still.alloc w2 (.cells #[.int .i64 (bnd c), .int .i64 (bnd d)] 33))).cells
  clear r2 p2 hs2
  go_wp2_with fail
  go_ret
  exact ⟨rfl, HF2.out.trans (Still.alloc _ _)⟩
theorem rcheck4 (a b c d : Int) (h1 : bnd a = a ∧ bnd b = b) (h2 : bnd c = c ∧ bnd d = d) (h3 : a ≤ c) (h4 : d < b) (w : World) : Calls Try.prog 55 #[bx a b c d] w fun e w' => e = .returned (.int .i64 50) ∧ Still w w' := by
  have E1 := neq_pt_f h1
  have E2 := neq_pt_f h2
  have G := guard_pt
  clear h1 h2
  have r := newB_bb w a b c d
  go_enter Try.func55, Try.ntmps55
  go_wp2_with fail
  refine (rgbound_any a b _).mono ?_
  rintro e w1 ⟨rfl, hs1⟩
  have r1 := r.still hs1
  have HF1 := hid ((Still.alloc w (.cells #[.int .i64 a, .int .i64 b, .int .i64 c, .int .i64 d] 52)).trans hs1)
  obtain ⟨b0, ew⟩ : ∃ b0, w.heap.size = b0 := ⟨_, rfl⟩
  rw [ew] at r1 ⊢
  clear ew r hs1
  obtain ⟨d0, d1, d2, d3, df⟩ := r1.cells
  obtain ⟨g0, g1, g2, g3, gf⟩ := (r1.still (Still.alloc w1 (.cells #[.int .i64 (bnd a), .int .i64 (bnd b)] 33))).cells
  go_wp2_with fail
  refine (rgbound_any c d _).mono ?_
  rintro e w2 ⟨rfl, hs2⟩
  have r2 := (r1.still (Still.alloc w1 (.cells #[.int .i64 (bnd a), .int .i64 (bnd b)] 33))).still hs2
  have p2 := (newP_pb w1 (bnd a) (bnd b)).still hs2
  have HF2 := hid ((HF1.out.trans (Still.alloc w1 (.cells #[.int .i64 (bnd a), .int .i64 (bnd b)] 33))).trans hs2)
  obtain ⟨b1, ew⟩ : ∃ b1, w1.heap.size = b1 := ⟨_, rfl⟩
  rw [ew] at p2 ⊢
  clear ew d0 d1 d2 d3 df g0 g1 g2 g3 gf r1 HF1
  obtain ⟨d0, d1, d2, d3, df⟩ := r2.cells
  obtain ⟨k0, k1, kf⟩ := p2.cells
  obtain ⟨m0, m1, m2, m3, mf⟩ := (r2.still (Still.alloc w2 (.cells #[.int .i64 (bnd c), .int .i64 (bnd d)] 33))).cells
  obtain ⟨n0, n1, nf⟩ := (p2.still (Still.alloc w2 (.cells #[.int .i64 (bnd c), .int .i64 (bnd d)] 33))).cells
  clear r2 p2 hs2
  go_wp2_with fail
  go_ret
  exact ⟨rfl, HF2.out.trans (Still.alloc _ _)⟩
theorem rcheck5 (a b c d : Int) (h1 : bnd a = a ∧ bnd b = b) (h2 : bnd c = c ∧ bnd d = d) (h3 : a ≤ c) (h4 : b ≤ d) (w : World) : Calls Try.prog 55 #[bx a b c d] w fun e w' => e = .returned (.int .i64 0) ∧ Still w w' := by
  have E1 := neq_pt_f h1
  have E2 := neq_pt_f h2
  have G := guard_pt
  clear h1 h2
  have r := newB_bb w a b c d
  go_enter Try.func55, Try.ntmps55
  go_wp2_with fail
  refine (rgbound_any a b _).mono ?_
  rintro e w1 ⟨rfl, hs1⟩
  have r1 := r.still hs1
  have HF1 := hid ((Still.alloc w (.cells #[.int .i64 a, .int .i64 b, .int .i64 c, .int .i64 d] 52)).trans hs1)
  obtain ⟨b0, ew⟩ : ∃ b0, w.heap.size = b0 := ⟨_, rfl⟩
  rw [ew] at r1 ⊢
  clear ew r hs1
  obtain ⟨d0, d1, d2, d3, df⟩ := r1.cells
  obtain ⟨g0, g1, g2, g3, gf⟩ := (r1.still (Still.alloc w1 (.cells #[.int .i64 (bnd a), .int .i64 (bnd b)] 33))).cells
  go_wp2_with fail
  refine (rgbound_any c d _).mono ?_
  rintro e w2 ⟨rfl, hs2⟩
  have r2 := (r1.still (Still.alloc w1 (.cells #[.int .i64 (bnd a), .int .i64 (bnd b)] 33))).still hs2
  have p2 := (newP_pb w1 (bnd a) (bnd b)).still hs2
  have HF2 := hid ((HF1.out.trans (Still.alloc w1 (.cells #[.int .i64 (bnd a), .int .i64 (bnd b)] 33))).trans hs2)
  obtain ⟨b1, ew⟩ : ∃ b1, w1.heap.size = b1 := ⟨_, rfl⟩
  rw [ew] at p2 ⊢
  clear ew d0 d1 d2 d3 df g0 g1 g2 g3 gf r1 HF1
  obtain ⟨d0, d1, d2, d3, df⟩ := r2.cells
  obtain ⟨k0, k1, kf⟩ := p2.cells
  obtain ⟨m0, m1, m2, m3, mf⟩ := (r2.still (Still.alloc w2 (.cells #[.int .i64 (bnd c), .int .i64 (bnd d)] 33))).cells
  obtain ⟨n0, n1, nf⟩ := (p2.still (Still.alloc w2 (.cells #[.int .i64 (bnd c), .int .i64 (bnd d)] 33))).cells
  clear r2 p2 hs2
  go_wp2_with fail
  go_ret
  exact ⟨rfl, HF2.out.trans (Still.alloc _ _)⟩
theorem rcheck_any (a b c d : Int) (w : World) : Calls Try.prog 55 #[bx a b c d] w fun e w' => e = .returned (.int .i64 (chk a b c d)) ∧ Still w w' := by
  unfold chk
  by_cases h1 : bnd a = a ∧ bnd b = b
  · by_cases h2 : bnd c = c ∧ bnd d = d
    · by_cases h3 : c < a
      · rw [okb_not (fun k => by unfold okB at k; omega)]
        exact rcheck3 a b c d h1 h2 h3 w
      · by_cases h4 : d < b
        · rw [okb_not (fun k => by unfold okB at k; omega)]
          exact rcheck4 a b c d h1 h2 (by omega) h4 w
        · rw [okb_of (by have := bnd_in h1.1; have := bnd_in h1.2; have := bnd_in h2.1; have := bnd_in h2.2; unfold okB; omega)]
          exact rcheck5 a b c d h1 h2 (by omega) (by omega) w
    · rw [okb_not (fun k => h2 (by unfold okB at k; exact ⟨bnd_id (by omega) (by omega), bnd_id (by omega) (by omega)⟩))]
      exact rcheck2 a b c d h1 h2 w
  · rw [okb_not (fun k => h1 (by unfold okB at k; exact ⟨bnd_id (by omega) (by omega), bnd_id (by omega) (by omega)⟩))]
    exact rcheck1 a b c d h1 w
end Go.Proofs.Ytpohikhiekmfgaa
namespace Go.Proofs.Ytpohikhiekmfgaa
open Go.RowKit
open Pu Gp

def capf (v f m : Int) : Int := if f ≤ m then v else Gp.part v m (f + 1)
theorem clamp_in (n : Int) : 0 ≤ clampf n 0 2147483647 ∧ clampf n 0 2147483647 ≤ 2147483647 := by
  have h1 : bnd 0 = 0 := by decide
  have h2 : bnd 2147483647 = 2147483647 := by decide
  have h3 := bnd_lo n
  have h4 := bnd_hi n
  unfold clampf
  rw [h1, h2]
  repeat' split
  all_goals omega
theorem wrap_part {x m k : Int} (h0 : -2147483647 ≤ (x * m).tdiv k) (h1 : (x * m).tdiv k ≤ 2147483647) : IntKind.i64.wrap ((x * m).tdiv k) = (x * m).tdiv k := by
  rw [IntKind.wrap_i64]; omega
end Go.Proofs.Ytpohikhiekmfgaa
namespace Go.Proofs.Ytpohikhiekmfgaa
open Go

/-- one operation, done -/
theorem wp_of_at {P : Program} {o : Oper} {a : Act} {w : World} {v : Value} {K : Act → World → Prop} {Q : Exit → Act → World → Prop} (h : o.quietAt P a (fun u => Still w u) w v)
    (hK : ∀ w', Still w w' → K (a.put o.dst v) w') : o.wp P a w K Q := by
  unfold Oper.quietAt at h
  unfold Oper.wp
  generalize (execOp a.eval o).run P w = r at h ⊢
  cases r with
  | halt x w' => simp only [Oper.quietUpon] at h
  | ok n w' =>
    cases n <;> simp only [Oper.quietUpon] at h
    case value u =>
      obtain ⟨rfl, rfl⟩ := h
      rw [Oper.upon_value]
      exact hK _ (Fr.refl _ _)
    case skip =>
      obtain ⟨rfl, rfl⟩ := h
      rw [Oper.upon_skip]
      exact hK _ (Fr.refl _ _)
    case enter f args =>
      obtain ⟨rfl, hc⟩ := h
      simp only [Oper.upon]
      exact hc.mono fun e w'' ⟨he, hs⟩ => by subst he; exact hK _ hs

/-- what the kernel looks at: the first n write slots of their own, read what is there or what they wait for, and have no guard; d is the new variable's slot -/
def eachB (ops : Array Oper) (n d : Nat) : Bool :=
  (List.range n).all fun j => match ops[j]? with
    | some o => o.guard.isNone && (o.dst != some d) && (o.dst.isSome) &&
        ((List.range n).all fun i => (i == j) || (match ops[i]? with | some p => p.dst != o.dst | none => false)) &&
        o.op.operands.toList.all fun x => match x with
          | .tmp t => (t != d) && (List.range n).all fun i => match ops[i]? with
              | some p => (p.dst != some t) || o.after.any fun e => e.on == i && Region.binds .any e
              | none => false
          | _ => true
    | none => false

section
variable {P : Program} {W : World} {l : List Oper} {n d : Nat} {A : Act} {z : Obj}
/-- the frame so far -/
structure Mid (l : List Oper) (n d : Nat) (A : Act) (W : World) (z : Obj) (L : Array Bool) (a : Act) (w : World) : Prop where
  still : Still W w
  size : a.tmps.size = A.tmps.size
  defers : a.defers = A.defers
  rest : ∀ t, (∀ j o, j < n → l[j]? = some o → o.dst ≠ some t) → t ≠ d → a.tmps[t]? = A.tmps[t]?
  done : ∀ j o t, j < n → l[j]? = some o → o.dst = some t → L.getD j true = true → a.tmps[t]? = A.tmps[t]?
  new : L.getD n true = true → ∃ g, a.tmps[d]? = some (.pointer (some ⟨g, 0, none⟩)) ∧ w.heap[g]? = some z ∧ W.heap.size ≤ g

theorem each_spec (h : eachB l.toArray n d = true) {j : Nat} {o : Oper} (hj : j < n) (ho : l[j]? = some o) :
    o.guard = none ∧ o.dst ≠ some d ∧ (∃ t, o.dst = some t) ∧ (∀ i p, i < n → l[i]? = some p → i ≠ j → p.dst ≠ o.dst) ∧
    ∀ t, .tmp t ∈ o.op.operands → t ≠ d ∧ ∀ i p, i < n → l[i]? = some p → p.dst = some t → ∃ e ∈ o.after, e.on = i ∧ Region.binds .any e = true := by
  have h1 := List.all_eq_true.1 h j (List.mem_range.2 hj)
  have ho' : l.toArray[j]? = some o := by simpa using ho
  simp only [ho', Bool.and_eq_true] at h1
  obtain ⟨⟨⟨⟨h2, h3⟩, h4⟩, h5⟩, h6⟩ := h1
  refine ⟨by simpa using h2, by simpa using h3, Option.isSome_iff_exists.1 h4, fun i p hi hp hij => ?_, fun t ht => ?_⟩
  · have := List.all_eq_true.1 h5 i (List.mem_range.2 hi)
    have hp' : l.toArray[i]? = some p := by simpa using hp
    simp only [hp', Bool.or_eq_true, beq_iff_eq] at this
    rcases this with e | e
    · exact absurd e hij
    · simpa using e
  · have := List.all_eq_true.1 h6 (.tmp t) (by simpa using ht)
    simp only [Bool.and_eq_true] at this
    refine ⟨by simpa using this.1, fun i p hi hp hd => ?_⟩
    have h7 := List.all_eq_true.1 this.2 i (List.mem_range.2 hi)
    have hp' : l.toArray[i]? = some p := by simpa using hp
    simp only [hp', Bool.or_eq_true] at h7
    rcases h7 with e | e
    · simp [hd] at e
    · obtain ⟨e, he, hb⟩ := Array.any_eq_true'.1 e
      simp only [Bool.and_eq_true, beq_iff_eq] at hb
      exact ⟨e, he, hb.1, hb.2⟩
theorem tmps_eval {a b : Act} {t : Nat} (h : a.tmps[t]? = b.tmps[t]?) : a.eval (.tmp t) = b.eval (.tmp t) := by
  simp only [Act.eval, Array.getD_eq_getD_getElem?, h]
theorem getD_true_false {L : Array Bool} {i : Nat} (hi : i < L.size) (h : L.getD i false = true) : L.getD i true = true := by
  simp [hi] at h ⊢; exact h
theorem any_new {dn : Nat} {on : Oper} {g' : Nat} {Q' : Exit → Act → World → Prop} (hE : eachB l.toArray n dn = true) (hsel : Region.noSelect l.toArray = true) (hlow : lowB l.toArray (n + 1) = true)
    (hs : Region.sinkB .any l.toArray (n + 1) = true) (hc : Region.chainB .any l.toArray (n + 1) = true) (hn : n + 1 < l.length) (hon : l[n]? = some on) (hdn : on.dst = some dn) (hgn : on.guard = none) (hdA : dn < A.tmps.size)
    (hop : ∀ j o, j < n → l[j]? = some o → ∀ w, Still W w → ∀ t, o.dst = some t → o.quietAt P A (fun u => Still w u) w (A.tmps.getD t undef) ∧ t < A.tmps.size)
    (hnew : ∀ w, Still W w → ∀ a : Act, (execOp a.eval on).run P w = .ok (.value (.pointer (some ⟨w.heap.size, 0, none⟩))) (w.alloc z))
    (hdone : ∀ (L : Array Bool) a w, L.size = l.length → (∀ i, i < n + 1 → L.getD i true = true) → (∀ t, n + 1 ≤ t → t < l.length → L.getD t true = false) → Mid l n dn A W z L a w → wpAny P .any l.toArray Q' g' L a w) :
    ∀ (f : Nat) (L : Array Bool) (a : Act) (w : World), HeadInv .any l.toArray (n + 1) L → cnt L (n + 1) = f → Mid l n dn A W z L a w → wpAny P .any l.toArray Q' (f + g') L a w
  | 0, L, a, w, inv, hcnt, hm => by
    rw [Nat.zero_add]
    exact hdone L a w (by simpa using inv.size) (cnt_zero hcnt) (fun t h1 h2 => inv.tail t h1 (by simpa using h2)) hm
  | f + 1, L, a, w, inv, hcnt, hm => by
    rw [show f + 1 + g' = (f + g') + 1 by omega]
    obtain ⟨i, hi, hun, hmin⟩ := cnt_pos (L := L) (n := n + 1) (by omega)
    have hsz : l.toArray.size = l.length := by simp
    have hLs : L.size = l.length := by rw [inv.size, hsz]
    refine ⟨fun h0 => ?_, fun j hj => ?_⟩
    · exfalso
      obtain ⟨o, ho⟩ : ∃ o, l.toArray[i]? = some o := ⟨_, Array.getElem?_eq_getElem (by simp; omega)⟩
      have : i ∈ Region.ready .any l.toArray L := mem_ready.2 ⟨hun, o, ho, fun e he _ => by
        have hlt := (lowB_spec hlow hi ho).1 e he
        have hin : e.on < L.size := by omega
        have := hmin e.on hlt
        simp [hin] at this ⊢
        exact this⟩
      rw [h0] at this
      cases this
    · have hjn : j < n + 1 := by
        rcases Nat.lt_or_ge j (n + 1) with h' | h'
        · exact h'
        · exact absurd hj (tail_waits hs hc (by rw [hsz]; exact hn) inv _ i rfl hi hun j h')
      obtain ⟨hju, o, ho, hall⟩ := mem_ready.1 hj
      have ho' : l[j]? = some o := by simpa using ho
      have next : ∀ (a' : Act) (w' : World), Mid l n dn A W z (L.setIfInBounds j true) a' w' → wpAny P .any l.toArray Q' (f + g') (L.setIfInBounds j true) a' w' := fun a' w' hm' =>
        any_new hE hsel hlow hs hc hn hon hdn hgn hdA hop hnew hdone f _ a' w' (inv.set hj hjn) (by have := cnt_set hju hjn; omega) hm'
      unfold wpOp
      simp only [ho]
      by_cases hjN : j = n
      · subst hjN
        obtain rfl : on = o := Option.some.inj (hon.symm.trans ho')
        rw [if_pos (by unfold Region.wanted; rw [hgn])]
        refine .inl ?_
        unfold Oper.wp
        rw [hnew w hm.still a, Oper.upon_value]
        refine next _ _ ⟨hm.still.trans (Still.alloc w z), ?_, ?_, fun t h1 h2 => ?_, fun k p t hk hp ht hl => ?_, fun _ => ⟨w.heap.size, ?_, ?_, hm.still.size⟩⟩
        · simp [Act.put, hdn, hm.size]
        · simp [Act.put, hdn, hm.defers]
        · simp only [Act.put, hdn, Array.getElem?_setIfInBounds_ne (Ne.symm h2)]
          exact hm.rest t h1 h2
        · have hne : t ≠ dn := fun e => (each_spec hE hk hp).2.1 (by rw [ht, e])
          rw [getD_set_ne true (by omega)] at hl
          simp only [Act.put, hdn, Array.getElem?_setIfInBounds_ne (Ne.symm hne)]
          exact hm.done k p t hk hp ht hl
        · simp only [Act.put, hdn]
          rw [Array.getElem?_setIfInBounds_self]
          simp [hm.size, hdA]
        · exact heap_alloc_new w z
      · have hj' : j < n := by omega
        obtain ⟨hg, hd1, ⟨t, ht⟩, hd2, hopn⟩ := each_spec hE hj' ho'
        rw [if_pos (by unfold Region.wanted; rw [hg])]
        refine .inl ?_
        have hcong : execOp a.eval o = execOp A.eval o := execOp_congr o (fun cs b => Region.noSelect_spec hsel j o cs b ho) fun x hx => by
          cases x with
          | tmp s =>
            obtain ⟨hs1, hs2⟩ := hopn s hx
            refine tmps_eval ?_
            by_cases hex : ∃ k p, k < n ∧ l[k]? = some p ∧ p.dst = some s
            · obtain ⟨k, p, hk, hp, hps⟩ := hex
              obtain ⟨e, he, heo, hb⟩ := hs2 k p hk hp hps
              have := hall e he hb
              rw [heo] at this
              exact hm.done k p s hk hp hps (getD_true_false (by omega) this)
            · exact hm.rest s (fun k p hk hp hps => hex ⟨k, p, hk, hp, hps⟩) hs1
          | const v => rfl
          | global g => rfl
          | func f => rfl
        obtain ⟨hq, hta⟩ := hop j o hj' ho' w hm.still t ht
        have hq' : o.quietAt P a (fun u => Still w u) w (A.tmps.getD t undef) := by
          unfold Oper.quietAt at hq ⊢
          rw [hcong]
          exact hq
        refine wp_of_at hq' fun w' hw' => next _ _ ⟨hm.still.trans hw', ?_, ?_, fun s h1 h2 => ?_, fun k p s hk hp hps hl => ?_, fun hl => ?_⟩
        · simp [Act.put, ht, hm.size]
        · simp [Act.put, ht, hm.defers]
        · have hne : t ≠ s := fun e => h1 j o hj' ho' (by rw [ht, e])
          simp only [Act.put, ht, Array.getElem?_setIfInBounds_ne hne]
          exact hm.rest s h1 h2
        · by_cases hkj : k = j
          · subst hkj
            obtain rfl : o = p := Option.some.inj (ho'.symm.trans hp)
            obtain rfl : t = s := Option.some.inj (ht.symm.trans hps)
            simp only [Act.put, ht]
            rw [Array.getElem?_setIfInBounds_self]
            simp [hm.size, hta]
          · have hne : t ≠ s := fun e => hd2 k p hk hp hkj (by rw [ht, hps, e])
            rw [getD_set_ne true (by omega)] at hl
            simp only [Act.put, ht, Array.getElem?_setIfInBounds_ne hne]
            exact hm.done k p s hk hp hps hl
        · rw [getD_set_ne true hjN] at hl
          obtain ⟨g, hg1, hg2, hg3⟩ := hm.new hl
          have hne : t ≠ dn := fun e => hd1 (by rw [ht, e])
          refine ⟨g, ?_, hw'.kept_still hg2, hg3⟩
          simp only [Act.put, ht, Array.getElem?_setIfInBounds_ne hne]
          exact hg1

def newB? (l : List Oper) (n d : Nat) : Bool :=
  eachB l.toArray n d && Region.noSelect l.toArray && lowB l.toArray (n + 1) && Region.sinkB .any l.toArray (n + 1) && Region.chainB .any l.toArray (n + 1) && decide (n + 1 < l.length) &&
    Region.seqB .any l.toArray (l.length - (n + 1)) (n + 1) (List.replicate (n + 1) true ++ List.replicate (l.length - (n + 1)) false).toArray
/-- In whatever order: the first n operations, and the n-th, which lays a new block; then the rest. A: the frame with the first n done. -/
theorem region_new {id : Nat} {Q : Exit → Act → World → Prop} {a : Act} {w : World} {on : Oper} (n d : Nat) (A : Act) (z : Obj) (hm : P.follows .mixedOrders = true) (hB : newB? l n d = true) (hon : l[n]? = some on) (hdn : on.dst = some d) (hgn : on.guard = none) (hdA : d < A.tmps.size)
    (hsize : a.tmps.size = A.tmps.size) (hdef : a.defers = A.defers) (hrest : ∀ t, (∀ j o, j < n → l[j]? = some o → o.dst ≠ some t) → t ≠ d → a.tmps[t]? = A.tmps[t]?)
    (hop : ∀ j o, j < n → l[j]? = some o → ∀ u, Still w u → ∀ t, o.dst = some t → o.quietAt P A (fun v => Still u v) u (A.tmps.getD t undef) ∧ t < A.tmps.size)
    (hnew : ∀ u, Still w u → ∀ b : Act, (execOp b.eval on).run P u = .ok (.value (.pointer (some ⟨u.heap.size, 0, none⟩))) (u.alloc z))
    (h : ∀ u g, Still w u → w.heap.size ≤ g → u.heap[g]? = some z → wpList P l.toArray Q (l.drop (n + 1)) (A.put (some d) (.pointer (some ⟨g, 0, none⟩))) u) : (Code.region id l.toArray true).wp P Q a w := by
  simp only [newB?, Bool.and_eq_true, decide_eq_true_eq] at hB
  obtain ⟨⟨⟨⟨⟨⟨hE, hsel⟩, hlow⟩, hs⟩, hc⟩, hn⟩, hseq⟩ := hB
  have inv0 : HeadInv .any l.toArray (n + 1) (Array.replicate l.length false) :=
    ⟨by simp, fun j oj _ hl => (by rw [getD_replicate_false] at hl; cases hl), fun t _ ht => getD_in (by simpa using ht) (getD_replicate_false _ _)⟩
  refine wp_region_any hm ?_
  have hst : Still w { w with drawn := w.drawn + 1 } := (Fr.refl _ w).drew
  have key := any_new (P := P) (W := w) (A := A) (z := z) (Q' := Q) (g' := l.length - (n + 1)) hE hsel hlow hs hc hn hon hdn hgn hdA hop hnew (fun L a' w' hsz h1 h2 hm' => by
    have e := full_eq (by omega) hsz h1 h2
    obtain ⟨g, hg1, hg2, hg3⟩ := hm'.new (h1 n (by omega))
    have ea : a' = A.put (some d) (.pointer (some ⟨g, 0, none⟩)) := by
      obtain ⟨ts, df⟩ := a'
      obtain ⟨Ts, Df⟩ := A
      have e2 : df = Df := hm'.defers
      subst e2
      have e1 : ts = Ts.setIfInBounds d (.pointer (some ⟨g, 0, none⟩)) := by
        apply Array.ext_getElem?
        intro t
        by_cases htd : t = d
        · subst htd
          rw [hg1, Array.getElem?_setIfInBounds_self]
          simp only [show t < Ts.size from hdA, if_true]
        · rw [Array.getElem?_setIfInBounds_ne (Ne.symm htd)]
          by_cases hex : ∃ k p, k < n ∧ l[k]? = some p ∧ p.dst = some t
          · obtain ⟨k, p, hk, hp, hps⟩ := hex
            exact hm'.done k p t hk hp hps (h1 k (by omega))
          · exact hm'.rest t (fun k p hk hp hps => hex ⟨k, p, hk, hp, hps⟩) htd
      rw [e1]; rfl
    rw [ea]
    subst e
    have := wpAny_of_seq (P := P) (md := .any) (ops := l.toArray) (Q' := Q) (l.drop (n + 1)) (n + 1) _ _ w' (fun j => by simp [List.getElem?_drop]) (by simpa using hseq) (h w' g hm'.still hg3 hg2)
    simpa using this) (n + 1) (Array.replicate l.length false) a { w with drawn := w.drawn + 1 } inv0 (cnt_new (by omega))
    ⟨hst, hsize, hdef, hrest, fun j o t hj ho ht hl => (by simp [show j < l.length by omega] at hl), fun hl => (by simp [show n < l.length by omega] at hl)⟩
  have e : n + 1 + (l.length - (n + 1)) = l.toArray.size := by simp; omega
  rw [e] at key
  simpa using key
/-- values laid into the slots of operations -/
def puts (a : Act) : List Oper → List Value → Act
  | o :: r, v :: vs => puts (a.put o.dst v) r vs
  | _, _ => a
theorem puts_same : ∀ (ops : List Oper) (vs : List Value) (a : Act), (puts a ops vs).tmps.size = a.tmps.size ∧ (puts a ops vs).defers = a.defers ∧ ∀ t, (∀ o ∈ ops, o.dst ≠ some t) → (puts a ops vs).tmps[t]? = a.tmps[t]?
  | [], vs, a => by cases vs <;> exact ⟨rfl, rfl, fun _ _ => rfl⟩
  | o :: r, [], a => ⟨rfl, rfl, fun _ _ => rfl⟩
  | o :: r, v :: vs, a => by
    obtain ⟨h1, h2, h3⟩ := puts_same r vs (a.put o.dst v)
    have e : puts a (o :: r) (v :: vs) = puts (a.put o.dst v) r vs := rfl
    rw [e, h1, h2]
    refine ⟨?_, ?_, fun t ht => ?_⟩
    · cases hd : o.dst <;> simp [Act.put]
    · cases hd : o.dst <;> simp [Act.put]
    · rw [h3 t fun p hp => ht p (List.mem_cons_of_mem _ hp)]
      have := ht o (List.mem_cons_self ..)
      cases hd : o.dst with
      | none => rfl
      | some d =>
        rw [hd] at this
        have hne : d ≠ t := fun e => this (by rw [e])
        simp only [Act.put, Array.getElem?_setIfInBounds_ne hne]
/-- each operation, in the frame that all leave -/
def wpEach (P : Program) (W : World) (A : Act) : List Oper → Prop
  | [] => True
  | o :: r => (∀ u, Still W u → o.quietAt P A (fun v => Still u v) u (A.tmps.getD (o.dst.getD 0) undef)) ∧ wpEach P W A r
theorem wpEach_at : ∀ {ops : List Oper}, wpEach P W A ops → ∀ (j : Nat) (o : Oper), ops[j]? = some o → ∀ u, Still W u → o.quietAt P A (fun v => Still u v) u (A.tmps.getD (o.dst.getD 0) undef)
  | [], _, j, o, h => by simp at h
  | p :: r, hw, 0, o, h => by
    simp at h
    subst h
    exact hw.1
  | p :: r, hw, j + 1, o, h => wpEach_at hw.2 j o (by simpa using h)
def inB (l : List Oper) (n m : Nat) : Bool := (l.take n).all fun o => match o.dst with | some t => decide (t < m) | none => true
/-- the same, the frame made of the values -/
theorem region_var {id : Nat} {Q : Exit → Act → World → Prop} {a : Act} {w : World} {on : Oper} (n d : Nat) (z : Obj) (vs : List Value) (A : Act) (hm : P.follows .mixedOrders = true) (hB : newB? l n d = true) (hon : l[n]? = some on) (hdn : on.dst = some d) (hgn : on.guard = none)
    (hA : puts a (l.take n) vs = A) (hI : inB l n A.tmps.size = true) (hdA : d < A.tmps.size)
    (hop : wpEach P w A (l.take n))
    (hnew : ∀ u, Still w u → ∀ b : Act, (execOp b.eval on).run P u = .ok (.value (.pointer (some ⟨u.heap.size, 0, none⟩))) (u.alloc z))
    (h : ∀ u g, Still w u → w.heap.size ≤ g → u.heap[g]? = some z → wpList P l.toArray Q (l.drop (n + 1)) (A.put (some d) (.pointer (some ⟨g, 0, none⟩))) u) : (Code.region id l.toArray true).wp P Q a w := by
  obtain ⟨e1, e2, e3⟩ := puts_same (l.take n) vs a
  rw [hA] at e1 e2 e3
  refine region_new n d A z hm hB hon hdn hgn hdA e1.symm e2.symm (fun t h1 _ => (e3 t fun o ho => ?_).symm) (fun j o hj ho u hu t ht => ?_) hnew h
  · obtain ⟨j, hj, e⟩ := List.mem_iff_getElem.1 ho
    have hjn : j < n := by simp at hj; omega
    exact h1 j o hjn (by rw [← e]; simp)
  · have := wpEach_at hop j o (by rw [List.getElem?_take_of_lt hj]; exact ho) u hu
    rw [ht] at this
    refine ⟨this, ?_⟩
    have h2 := List.all_eq_true.1 hI o (List.mem_iff_getElem?.2 ⟨j, by rw [List.getElem?_take_of_lt hj]; exact ho⟩)
    rw [ht] at h2
    simpa using h2
end
end Go.Proofs.Ytpohikhiekmfgaa
namespace Go.Proofs.Ytpohikhiekmfgaa
open Go.RowKit
open Pu Gp

theorem around_any (x y n : Int) (w : World) : Calls Try.prog 22 #[pt x y, .int .i64 n] w fun e w' => e = .returned (bx (subf x (clampf n 0 2147483647)) (subf y (clampf n 0 2147483647)) (addf x (clampf n 0 2147483647)) (addf y (clampf n 0 2147483647))) ∧ Still w w' := by
  obtain ⟨R, eR⟩ : ∃ R, R = clampf n 0 2147483647 := ⟨_, rfl⟩
  rw [← eR]
  have HR := hid eR
  clear eR
  obtain ⟨W, eW⟩ : ∃ W, W = newP (newB (newP w x y) 0 0 0 0) R R := ⟨_, rfl⟩
  have p0 : Pb W w.heap.size x y := by rw [eW]; exact ((newP_pb w x y).still (Still.alloc _ _)).still (Still.alloc _ _)
  have r : Bb W (w.heap.size + 1) 0 0 0 0 := by rw [eW]; have h := newB_bb (newP w x y) 0 0 0 0; simp only [size_alloc] at h; exact h.still (Still.alloc _ _)
  have p1 : Pb W (w.heap.size + 1 + 1) R R := by rw [eW]; have h := newP_pb (newB (newP w x y) 0 0 0 0) R R; simp only [size_alloc] at h; exact h
  have c00 := Cl.cell p0.cells.1
  have c01 := Cl.cell p0.cells.2.1
  have c10 := Cl.cell p1.cells.1
  have c11 := Cl.cell p1.cells.2.1
  have HF := hid (show Still w W by rw [eW]; exact ((Still.alloc w _).trans (Still.alloc _ _)).trans (Still.alloc _ _))
  have HW := hid eW
  have hne := Aft.here W
  have HB := hid (show w.heap.size ≤ w.heap.size + 1 by omega)
  clear eW p0 p1
  go_enter Try.func22, Try.ntmps22
  go_wp2_with (go_at_call 42; refine (size_any _ _).mono ?_; rintro e w' ⟨he, hw⟩; rw [he, hw, ← HR.out]; clear he hw w')
  have e := HW.out
  simp only [newP, newB] at e
  rw [← e]
  clear e HW HR
  refine region_rest 6 (by kernel_rfl) (by kernel_rfl) ?_
  simp only [List.take_succ_cons, List.take_zero, List.drop_succ_cons, List.drop_zero]
  repeat (go_big_quiet_step ((first | (go_at_call 43; exact Calls.cl (gsub_any _ _ _ _ _)) | (go_at_call 44; exact Calls.cl (gadd_any _ _ _ _ _)))))
  refine wpQuiet_nil ?_
  intro w1 hs
  clear hne c00 c01 c10 c11
  have q := r.still hs
  obtain ⟨d0, d1, d2, d3, df⟩ := q.cells
  go_wp2_with fail
  (try simp only [Exit.inBlock, Exit.then])
  exact bodyPost_ret ((q.set _ _ _ _).res rfl _ rfl) rfl ⟨rfl, setB_fr (HF.out.trans hs) _ _ _ _ _ (.inr HB.out)⟩
theorem raround_any (x y n : Int) (w : World) : Calls Try.prog 41 #[pt x y, .int .i64 n] w fun e w' => e = .returned (bx (subf x (clampf n 0 2147483647)) (subf y (clampf n 0 2147483647)) (addf x (clampf n 0 2147483647)) (addf y (clampf n 0 2147483647))) ∧ Still w w' := by
  obtain ⟨R, eR⟩ : ∃ R, R = clampf n 0 2147483647 := ⟨_, rfl⟩
  rw [← eR]
  have HR := hid eR
  clear eR
  obtain ⟨W, eW⟩ : ∃ W, W = newP (newB (newP w x y) 0 0 0 0) R R := ⟨_, rfl⟩
  have p0 : Pb W w.heap.size x y := by rw [eW]; exact ((newP_pb w x y).still (Still.alloc _ _)).still (Still.alloc _ _)
  have r : Bb W (w.heap.size + 1) 0 0 0 0 := by rw [eW]; have h := newB_bb (newP w x y) 0 0 0 0; simp only [size_alloc] at h; exact h.still (Still.alloc _ _)
  have p1 : Pb W (w.heap.size + 1 + 1) R R := by rw [eW]; have h := newP_pb (newB (newP w x y) 0 0 0 0) R R; simp only [size_alloc] at h; exact h
  have c00 := Cl.cell p0.cells.1
  have c01 := Cl.cell p0.cells.2.1
  have c10 := Cl.cell p1.cells.1
  have c11 := Cl.cell p1.cells.2.1
  have HF := hid (show Still w W by rw [eW]; exact ((Still.alloc w _).trans (Still.alloc _ _)).trans (Still.alloc _ _))
  have HW := hid eW
  have hne := Aft.here W
  have HB := hid (show w.heap.size ≤ w.heap.size + 1 by omega)
  clear eW p0 p1
  go_enter Try.func41, Try.ntmps41
  go_wp2_with (go_at_call 59; refine (rclamp_any _ _ _ _).mono ?_; rintro e w' ⟨he, hw⟩; rw [he, hw, ← HR.out]; clear he hw w')
  have e := HW.out
  simp only [newP, newB] at e
  rw [← e]
  clear e HW HR
  refine region_rest 6 (by kernel_rfl) (by kernel_rfl) ?_
  simp only [List.take_succ_cons, List.take_zero, List.drop_succ_cons, List.drop_zero]
  repeat (go_big_quiet_step ((first | (go_at_call 60; exact Calls.cl (rgsub_any _ _ _ _ _)) | (go_at_call 61; exact Calls.cl (rgadd_any _ _ _ _ _)))))
  refine wpQuiet_nil ?_
  intro w1 hs
  clear hne c00 c01 c10 c11
  have q := r.still hs
  obtain ⟨d0, d1, d2, d3, df⟩ := q.cells
  go_wp2_with fail
  (try simp only [Exit.inBlock, Exit.then])
  exact bodyPost_ret ((q.set _ _ _ _).res rfl _ rfl) rfl ⟨rfl, setB_fr (HF.out.trans hs) _ _ _ _ _ (.inr HB.out)⟩
/-- have two boxes something in common -/
def mt (a b c d a' b' c' d' : Int) : Bool := (okb a b c d && okb a' b' c' d') && okb (max a a') (max b b') (min c c') (min d d')
def mif (t : Bool) (x : Int) : Int := if t then x else 0
/-- what a box holds of another one: its four numbers -/
abbrev mb (a b c d a' b' c' d' : Int) : Value := bx (mif (mt a b c d a' b' c' d') (max a a')) (mif (mt a b c d a' b' c' d') (max b b')) (mif (mt a b c d a' b' c' d') (min c c')) (mif (mt a b c d a' b' c' d') (min d d'))
theorem meet1 (a b c d a' b' c' d' : Int) (h1 : okb a b c d = false) (w : World) : Calls Try.prog 49 #[bx a b c d, bx a' b' c' d'] w fun e w' => e = .returned (.tuple #[bx 0 0 0 0, .bool false]) ∧ Still w w' := by
  have p := ((newB_bb w a b c d).still (Still.alloc (newB w a b c d) (.cells #[.int .i64 a', .int .i64 b', .int .i64 c', .int .i64 d'] 52))).still (Still.alloc (newB (newB w a b c d) a' b' c' d') (.cells #[.int .i64 0, .int .i64 0, .int .i64 0, .int .i64 0] 52))
  have q := (newB_bb (newB w a b c d) a' b' c' d').still (Still.alloc (newB (newB w a b c d) a' b' c' d') (.cells #[.int .i64 0, .int .i64 0, .int .i64 0, .int .i64 0] 52))
  have r := newB_bb (newB (newB w a b c d) a' b' c' d') 0 0 0 0
  simp only [size_alloc] at q r
  have HS0 := hid (((Still.alloc w (.cells #[.int .i64 a, .int .i64 b, .int .i64 c, .int .i64 d] 52)).trans (Still.alloc (newB w a b c d) (.cells #[.int .i64 a', .int .i64 b', .int .i64 c', .int .i64 d'] 52))).trans (Still.alloc (newB (newB w a b c d) a' b' c' d') (.cells #[.int .i64 0, .int .i64 0, .int .i64 0, .int .i64 0] 52)))
  have HB := hid (show w.heap.size ≤ w.heap.size + 1 + 1 by omega)
  go_enter Try.func49, Try.ntmps49
  go_wp2_with fail
  refine (check_no a b c d h1 _).mono ?_
  rintro e w1 ⟨rfl, hs1⟩
  have p1 := p.still hs1
  have q1 := q.still hs1
  have r1 := r.still hs1
  have HF1 := hid (HS0.out.trans hs1)
  clear p q r HS0 hs1
  obtain ⟨c0, c1, c2, c3, cf⟩ := p1.cells
  obtain ⟨g0, g1, g2, g3, gf⟩ := q1.cells
  obtain ⟨d0, d1, d2, d3, df⟩ := r1.cells
  go_wp2_with fail
  (try simp only [Exit.inBlock, Exit.then])
  exact bodyPost_ret ((r1.set _ _ _ _).resb rfl _ _ rfl rfl) rfl ⟨rfl, setB_fr HF1.out _ _ _ _ _ (.inr HB.out)⟩
theorem meet2 (a b c d a' b' c' d' : Int) (h1 : okb a b c d = true) (h2 : okb a' b' c' d' = false) (w : World) : Calls Try.prog 49 #[bx a b c d, bx a' b' c' d'] w fun e w' => e = .returned (.tuple #[bx 0 0 0 0, .bool false]) ∧ Still w w' := by
  have p := ((newB_bb w a b c d).still (Still.alloc (newB w a b c d) (.cells #[.int .i64 a', .int .i64 b', .int .i64 c', .int .i64 d'] 52))).still (Still.alloc (newB (newB w a b c d) a' b' c' d') (.cells #[.int .i64 0, .int .i64 0, .int .i64 0, .int .i64 0] 52))
  have q := (newB_bb (newB w a b c d) a' b' c' d').still (Still.alloc (newB (newB w a b c d) a' b' c' d') (.cells #[.int .i64 0, .int .i64 0, .int .i64 0, .int .i64 0] 52))
  have r := newB_bb (newB (newB w a b c d) a' b' c' d') 0 0 0 0
  simp only [size_alloc] at q r
  have HS0 := hid (((Still.alloc w (.cells #[.int .i64 a, .int .i64 b, .int .i64 c, .int .i64 d] 52)).trans (Still.alloc (newB w a b c d) (.cells #[.int .i64 a', .int .i64 b', .int .i64 c', .int .i64 d'] 52))).trans (Still.alloc (newB (newB w a b c d) a' b' c' d') (.cells #[.int .i64 0, .int .i64 0, .int .i64 0, .int .i64 0] 52)))
  have HB := hid (show w.heap.size ≤ w.heap.size + 1 + 1 by omega)
  go_enter Try.func49, Try.ntmps49
  go_wp2_with fail
  refine (check_yes a b c d h1 _).mono ?_
  rintro e w1 ⟨rfl, hs1⟩
  have p1 := p.still hs1
  have q1 := q.still hs1
  have r1 := r.still hs1
  have HF1 := hid (HS0.out.trans hs1)
  clear p q r HS0 hs1
  obtain ⟨c0, c1, c2, c3, cf⟩ := p1.cells
  obtain ⟨g0, g1, g2, g3, gf⟩ := q1.cells
  obtain ⟨d0, d1, d2, d3, df⟩ := r1.cells
  go_wp2_with fail
  refine (check_no a' b' c' d' h2 _).mono ?_
  rintro e w2 ⟨rfl, hs2⟩
  have p2 := p1.still hs2
  have q2 := q1.still hs2
  have r2 := r1.still hs2
  have HF2 := hid (HF1.out.trans hs2)
  clear p1 q1 r1 HF1 hs2 c0 c1 c2 c3 cf g0 g1 g2 g3 gf d0 d1 d2 d3 df
  obtain ⟨d0, d1, d2, d3, df⟩ := r2.cells
  go_wp2_with fail
  (try simp only [Exit.inBlock, Exit.then])
  exact bodyPost_ret ((r2.set _ _ _ _).resb rfl _ _ rfl rfl) rfl ⟨rfl, setB_fr HF2.out _ _ _ _ _ (.inr HB.out)⟩
end Go.Proofs.Ytpohikhiekmfgaa
namespace Go.Proofs.Ytpohikhiekmfgaa
open Go.RowKit
open Pu Gp

/-- what a number counts as -/
def dir (n : Int) : Nat := (n % 16).toNat
theorem dir_lt (n : Int) : dir n < 16 := by unfold dir; omega
theorem dir_mod (n : Int) : n % 16 = (dir n : Int) := by unfold dir; omega
theorem direction_nat (n : Int) (w : World) : Calls Try.prog 46 #[.int .i64 n] w fun e w' => e = .returned (.int .i64 (dir n : Int)) ∧ w' = w := by
  have h := direction_any n w
  rw [dir_mod] at h
  exact h
/-- the least of the best ones below k -/
def hdF (g : Nat → Int) : Nat → Nat
  | 0 => 0
  | k + 1 => if g (hdF g k) < g k then k else hdF g k
theorem hdF_le (g : Nat → Int) : ∀ k, hdF g k ≤ k - 1
  | 0 => by simp [hdF]
  | k + 1 => by
    have := hdF_le g k
    unfold hdF
    split <;> omega
theorem hdF_best (g : Nat → Int) : ∀ k, Best g (k + 1) (hdF g (k + 1))
  | 0 => by
    have : hdF g 1 = 0 := by simp [hdF]
    rw [this]; exact Best.start g
  | k + 1 => by
    have h := hdF_best g k
    rw [show hdF g (k + 1 + 1) = if g (hdF g (k + 1)) < g (k + 1) then k + 1 else hdF g (k + 1) from rfl]
    by_cases hc : g (hdF g (k + 1)) < g (k + 1)
    · rw [if_pos hc]; exact h.more hc
    · rw [if_neg hc]; exact h.less hc
/-- the direction that is nearest to a way -/
def hd (x y : Int) : Nat := hdF (dot x y) 16
end Go.Proofs.Ytpohikhiekmfgaa
