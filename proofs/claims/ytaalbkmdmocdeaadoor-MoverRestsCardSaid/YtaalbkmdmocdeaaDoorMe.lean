/- Memory: which blocks may have turned; what a slice of bytes reads; a slice of bytes that is appended to. No function of the program is named here. -/
import Derived.WalkKit
import Derived.Lib.SlBytesRow
namespace Go.Proofs.YtaalbkmdmocdeaaDoor
open Go.RowKit

theorem hid {p : Prop} (h : p) : Hid p := h

/-- Of the blocks that were there only those of F may have turned. -/
structure Fr (F : Nat → Prop) (w w' : World) : Prop where
  os : w'.os = w.os
  tape : w'.tape = w.tape
  output : w'.output = w.output
  size : w.heap.size ≤ w'.heap.size
  block : ∀ k, k < w.heap.size → ¬ F k → w'.heap[k]? = w.heap[k]?

theorem Fr.refl (F : Nat → Prop) (w : World) : Fr F w w := ⟨rfl, rfl, rfl, Nat.le_refl _, fun _ _ _ => rfl⟩
theorem Fr.mono {F G : Nat → Prop} {w w' : World} (h : Fr F w w') (hG : ∀ k, k < w.heap.size → F k → G k) : Fr G w w' :=
  ⟨h.os, h.tape, h.output, h.size, fun k hk hn => h.block k hk fun hf => hn (hG k hk hf)⟩
theorem Fr.trans {F G : Nat → Prop} {a b c : World} (h : Fr F a b) (k : Fr G b c) (hG : ∀ k, k < a.heap.size → G k → F k) : Fr F a c :=
  ⟨k.os.trans h.os, k.tape.trans h.tape, k.output.trans h.output, Nat.le_trans h.size k.size,
    fun i hi hn => (k.block i (Nat.lt_of_lt_of_le hi h.size) fun hg => hn (hG i hi hg)).trans (h.block i hi hn)⟩
theorem Fr.drew {F : Nat → Prop} {a w : World} (h : Fr F a w) : Fr F a w.drew := ⟨h.os, h.tape, h.output, h.size, h.block⟩
theorem Fr.drewN {F : Nat → Prop} {a w : World} (h : Fr F a w) (n : Nat) : Fr F a (w.drewN n) :=
  ⟨h.os, h.tape, h.output, h.size, h.block⟩
theorem Fr.alloc {F : Nat → Prop} {a w : World} (h : Fr F a w) (o : Obj) : Fr F a (w.alloc o) :=
  ⟨h.os, h.tape, h.output, by have := h.size; simp; omega, fun k hk hn => (Below.heap_alloc _ _ _ (Nat.lt_of_lt_of_le hk h.size)).trans (h.block k hk hn)⟩
theorem Fr.setCell {F : Nat → Prop} {a w : World} (h : Fr F a w) (p : Addr) (u : Value) (hp : F p.block ∨ a.heap.size ≤ p.block) : Fr F a (w.setCell p u) :=
  ⟨h.os, h.tape, h.output, by have := h.size; simpa [World.setCell] using this, fun k hk hn => by
    rw [Below.heap_setCell _ _ _ _ (fun e => by subst e; rcases hp with hp | hp; exact hn hp; omega)]
    exact h.block k hk hn⟩
theorem Fr.setRow {F : Nat → Prop} {a w : World} (h : Fr F a w) (g : Nat) (cs : Array Value) (hp : F g ∨ a.heap.size ≤ g) : Fr F a (w.setRow g cs) :=
  ⟨h.os, h.tape, h.output, by have := h.size; simpa using this, fun k hk hn => by
    rw [setRow_other w g k cs (fun e => by subst e; rcases hp with hp | hp; exact hn hp; omega)]
    exact h.block k hk hn⟩
theorem Fr.below {F : Nat → Prop} {B : Nat} {W w' : World} (h : Fr F W w') (hF : ∀ k, F k → B ≤ k) (hB : B ≤ W.heap.size) : Below B W w' :=
  ⟨h.os, h.tape, h.output, h.size, fun k hk => h.block k (by omega) fun hf => by have := hF k hf; omega⟩
theorem Fr.cell {F : Nat → Prop} {w w' : World} (h : Fr F w w') {p : Addr} (hp : p.block < w.heap.size) (hn : ¬ F p.block) : w'.cell? p = w.cell? p :=
  World.cell?_of_block (w := w) (h.block p.block hp hn)
theorem Fr.frozen {F : Nat → Prop} {w w' : World} (h : Fr F w w') {p : Addr} (hp : p.block < w.heap.size) (hn : ¬ F p.block) : w'.frozen? p = w.frozen? p :=
  World.frozen?_of_block (w := w) (h.block p.block hp hn)
theorem Fr.kept {F : Nat → Prop} {w w' : World} (h : Fr F w w') {k : Nat} {o : Obj} (hk : w.heap[k]? = some o) (hn : ¬ F k) : w'.heap[k]? = some o :=
  (h.block k (Array.getElem?_eq_some_iff.1 hk).1 hn).trans hk
/-- Nothing that was there has turned. -/
abbrev Still (w w' : World) : Prop := Fr (fun _ => False) w w'
theorem Fr.kept_still {w w' : World} (h : Still w w') {k : Nat} {o : Obj} (hk : w.heap[k]? = some o) : w'.heap[k]? = some o := h.kept hk (fun e => e)
theorem block_lt {w : World} {k : Nat} {o : Obj} (hk : w.heap[k]? = some o) : k < w.heap.size := (Array.getElem?_eq_some_iff.1 hk).1
theorem Still.to {F : Nat → Prop} {w w' : World} (h : Still w w') : Fr F w w' := h.mono fun _ _ e => e.elim
theorem Still.below {w w' : World} (h : Still w w') : Below w.heap.size w w' := Fr.below h (fun _ e => e.elim) (Nat.le_refl _)
theorem Still.undrew {w w' : World} (h : Still w.drew w') : Still w w' := ⟨h.os, h.tape, h.output, h.size, h.block⟩
theorem Still.undrewN {w w' : World} {k : Nat} (h : Still (w.drewN k) w') : Still w w' := ⟨h.os, h.tape, h.output, h.size, h.block⟩
theorem Still.trans {a b c : World} (h : Still a b) (k : Still b c) : Still a c := Fr.trans h k fun _ _ e => e
theorem Still.alloc (w : World) (o : Obj) : Still w (w.alloc o) := (Fr.refl _ w).alloc o

/-- The slice (ao, n, cap) reads the bytes bs. -/
structure Rd (w : World) (ao : Option Addr) (n cap : Nat) (bs : List UInt8) : Prop where
  len : bs.length = n
  le : n ≤ cap
  max : cap ≤ maxLen
  plain : ∀ a, ao = some a → 0 < n → a.spot = none
  nil : ao = none → cap = 0
  cells : ∀ a, ao = some a → ∀ j (h : j < bs.length), w.cell? ⟨a.block, a.off + j, none⟩ = some (.int .u8 (bs[j].toNat : Int))

theorem Rd.empty (w : World) : Rd w none 0 0 [] := ⟨rfl, Nat.le_refl _, by unfold maxLen; omega, fun _ h _ => (by cases h), fun _ => rfl, fun _ h => (by cases h)⟩
theorem Rd.addr {w : World} {ao : Option Addr} {n cap : Nat} {bs : List UInt8} (h : Rd w ao n cap bs) (hn : 0 < n) : ∃ b o, ao = some ⟨b, o, none⟩ := by
  cases ao with
  | none => have := h.nil rfl; have := h.le; omega
  | some a =>
    obtain ⟨b, o, s⟩ := a
    have := h.plain _ rfl hn
    simp at this
    subst this
    exact ⟨b, o, rfl⟩
theorem Rd.small {w : World} {ao : Option Addr} {n cap : Nat} {bs : List UInt8} (h : Rd w ao n cap bs) : n ≤ 9223372036854775807 := by
  have h1 := h.le; have h2 := h.max; unfold maxLen at h2; omega
theorem Rd.kept {F : Nat → Prop} {w w' : World} {ao : Option Addr} {n cap : Nat} {bs : List UInt8} (h : Rd w ao n cap bs) (hf : Fr F w w') (hn : ∀ a, ao = some a → 0 < n → ¬ F a.block) : Rd w' ao n cap bs :=
  ⟨h.len, h.le, h.max, h.plain, h.nil, fun a ha j hj => by
    have hc := h.cells a ha j hj
    have hlt := World.block_lt_of_cell? w _ hc
    rw [hf.cell hlt (hn a ha (by have := h.len; omega)), hc]⟩
theorem Rd.still {w w' : World} {ao : Option Addr} {n cap : Nat} {bs : List UInt8} (h : Rd w ao n cap bs) (hf : Still w w') : Rd w' ao n cap bs := h.kept hf fun _ _ _ e => e
theorem Rd.alloc {w : World} {ao : Option Addr} {n cap : Nat} {bs : List UInt8} (h : Rd w ao n cap bs) (o : Obj) : Rd (w.alloc o) ao n cap bs := h.still (Still.alloc w o)
theorem Rd.lt {w : World} {ao : Option Addr} {n cap : Nat} {bs : List UInt8} (h : Rd w ao n cap bs) (hn : 0 < n) : ∀ a, ao = some a → a.block < w.heap.size := fun a ha =>
  World.block_lt_of_cell? w ⟨a.block, a.off + 0, none⟩ (h.cells a ha 0 (by have := h.len; omega))
theorem Rd.drew {w : World} {ao : Option Addr} {n cap : Nat} {bs : List UInt8} (h : Rd w ao n cap bs) : Rd w.drew ao n cap bs := h.still ((Fr.refl _ w).drew)
theorem Rd.drewN {w : World} {ao : Option Addr} {n cap : Nat} {bs : List UInt8} (h : Rd w ao n cap bs) (k : Nat) : Rd (w.drewN k) ao n cap bs := h.still ((Fr.refl _ w).drewN k)
/-- The byte at k. -/
theorem Rd.byte {w : World} {b o n cap : Nat} {bs : List UInt8} (h : Rd w (some ⟨b, o, none⟩) n cap bs) {k : Nat} (hk : k < bs.length) : w.cell? ⟨b, o + k, none⟩ = some (.int .u8 (bs[k].toNat : Int)) := h.cells _ rfl k hk

/-- Where 's[i:]' begins. -/
def cutAt (ao : Option Addr) (cap i : Nat) : Option Addr := if cap = i then ao else ao.map (·.add (i * 1))
theorem add_plain (b o j : Nat) : (⟨b, o, none⟩ : Addr).add j = ⟨b, o + j, none⟩ := by unfold Addr.add; split <;> simp_all
theorem cutAt_block {ao : Option Addr} {cap i : Nat} : ∀ a, cutAt ao cap i = some a → ∃ a0, ao = some a0 ∧ a.block = a0.block := by
  intro a ha
  unfold cutAt at ha
  split at ha
  · exact ⟨a, ha, rfl⟩
  · cases ao with
    | none => cases ha
    | some a0 =>
      simp at ha
      subst ha
      refine ⟨a0, rfl, ?_⟩
      unfold Addr.add; split <;> rfl
theorem Rd.drop {w : World} {ao : Option Addr} {n cap : Nat} {bs : List UInt8} (h : Rd w ao n cap bs) {i : Nat} (hi : i ≤ n) : Rd w (cutAt ao cap i) (n - i) (cap - i) (bs.drop i) := by
  have hl := h.len
  have hle := h.le
  refine ⟨by simp [hl], by omega, by have := h.max; omega, ?_, ?_, ?_⟩
  · intro a ha hpos
    unfold cutAt at ha
    split at ha
    · omega
    · cases ao with
      | none => cases ha
      | some a0 =>
        have := h.plain a0 rfl (by omega)
        simp at ha
        subst ha
        unfold Addr.add
        split
        · exact this
        · rfl
  · intro ha
    unfold cutAt at ha
    split at ha
    · omega
    · cases ao with
      | none => have := h.nil rfl; omega
      | some a0 => cases ha
  · intro a ha j hj
    simp at hj
    unfold cutAt at ha
    rw [if_neg (by omega)] at ha
    obtain ⟨b, o, rfl⟩ := h.addr (by omega)
    simp [add_plain] at ha
    subst ha
    have := h.byte (k := i + j) (by omega)
    simp only [List.getElem_drop]
    rw [Nat.add_assoc]
    exact this
theorem Rd.take {w : World} {ao : Option Addr} {n cap : Nat} {bs : List UInt8} (h : Rd w ao n cap bs) {i : Nat} (hi : i ≤ n) : Rd w ao i cap (bs.take i) := by
  have hl := h.len
  refine ⟨by simp; omega, by have := h.le; omega, h.max, fun a ha hp => h.plain a ha (by omega), h.nil, fun a ha j hj => ?_⟩
  simp at hj
  simp only [List.getElem_take]
  exact h.cells a ha j (by omega)
theorem cutAt_zero (ao : Option Addr) (cap : Nat) : cutAt ao cap 0 = ao := by
  unfold cutAt
  split
  · rfl
  · cases ao with
    | none => rfl
    | some a => simp [Addr.add]

section
variable {P : Program}
/-- 's[i:]', and 's[:i]', of a slice of bytes, as the walk takes them. -/
theorem run_from (w : World) (t e : TypeId) (i : TypeInfo) (ht : P.underlying t = some (.slice e)) (hi : P.info? e = some i) (hs : i.size = 1) (k : IntKind) (ao : Option Addr) (n cap : Nat) (x : Int) (h0 : 0 ≤ x) (h1 : x ≤ n) :
    (Instr.slice t (.slice ao n cap) (some (.int k x)) none none).run P w = .ok (.slice (cutAt ao cap x.toNat) (n - x.toNat) (cap - x.toNat)) w := by
  have ht' : P.underlying t = some (.slice (P.elem t)) := by simp [Program.elem, ht]
  have he : P.elem t = e := by simp [Program.elem, ht]
  rw [run_slice_l w t ao n cap ht' k x h0 h1, he]
  simp [sizeOf, typeInfo, hi, hs, Result.andThen, sliced, cutAt]
theorem run_upto (w : World) (t e : TypeId) (i : TypeInfo) (ht : P.underlying t = some (.slice e)) (hi : P.info? e = some i) (hs : i.size = 1) (k : IntKind) (ao : Option Addr) (n cap : Nat) (x : Int) (h0 : 0 ≤ x) (h1 : x ≤ cap) :
    (Instr.slice t (.slice ao n cap) none (some (.int k x)) none).run P w = .ok (.slice ao x.toNat cap) w := by
  have ht' : P.underlying t = some (.slice (P.elem t)) := by simp [Program.elem, ht]
  have he : P.elem t = e := by simp [Program.elem, ht]
  rw [run_slice_h w t ao n cap ht' k x h0 h1, he]
  have := cutAt_zero ao cap
  simp only [cutAt] at this
  simp [sizeOf, typeInfo, hi, hs, Result.andThen, sliced]
  simpa using this
theorem run_fromto (w : World) (t e : TypeId) (i : TypeInfo) (ht : P.underlying t = some (.slice e)) (hi : P.info? e = some i) (hs : i.size = 1) (k : IntKind) (ao : Option Addr) (n cap : Nat) (x y : Int) (h0 : 0 ≤ x) (h1 : x ≤ y) (h2 : y ≤ cap) :
    (Instr.slice t (.slice ao n cap) (some (.int k x)) (some (.int k y)) none).run P w = .ok (.slice (cutAt ao cap x.toNat) (y.toNat - x.toNat) (cap - x.toNat)) w := by
  have ht' : P.underlying t = some (.slice (P.elem t)) := by simp [Program.elem, ht]
  have he : P.elem t = e := by simp [Program.elem, ht]
  rw [run_slice_lh w t ao n cap ht' k k x y h0 h1 h2, he]
  simp [sizeOf, typeInfo, hi, hs, Result.andThen, sliced, cutAt]

/-- 'string(b)'. -/
theorem run_string (w : World) (t e s : TypeId) (ht : P.underlying t = some (.slice e)) (he : P.underlying e = some (.int .u8)) (hs : P.underlying s = some .string) {ao : Option Addr} {n cap : Nat} {bs : List UInt8} (h : Rd w ao n cap bs) :
    (convert t s (.slice ao n cap)).run P w = .ok (.string ⟨bs.toArray⟩) w := by
  cases ao with
  | none =>
    have h1 := h.nil rfl
    have h2 := h.le
    have h3 := h.len
    have : bs = [] := List.eq_nil_of_length_eq_zero (by omega)
    subst this
    exact run_convert_bytes_nil w t e ht he n cap s hs
  | some a =>
    by_cases hn0 : n = 0
    · have h3 := h.len
      have : bs = [] := List.eq_nil_of_length_eq_zero (by omega)
      subst this
      subst hn0
      rw [run_convert_bytes_string w t s e _ 0 cap ht he hs, run_bytesToString w _ 0 cap [] (by simp [loadCells, loadCellsFrom])]
      rfl
    obtain ⟨b, o, sp⟩ := a
    have := h.plain _ rfl (by omega)
    simp at this
    subst this
    have hsz : (ByteArray.mk bs.toArray).size = n := by simpa [ByteArray.size] using h.len
    have hc := Lib.run_convert_whole (P := P) w t e s ht he hs b o ⟨bs.toArray⟩ (fun i hi => by
      have hi' : i < bs.length := by have := h.len; omega
      rw [h.byte hi']
      rfl) cap
    rw [hsz] at hc
    exact hc
end

/-- The slice (ao, n, cap) reads bs, and its whole row is its owner's (e: the type of a byte). -/
structure Ow (e : TypeId) (w : World) (ao : Option Addr) (n cap : Nat) (bs : List UInt8) : Prop where
  rd : Rd w ao n cap bs
  row : ∀ a, ao = some a → a.off = 0 ∧ a.spot = none ∧ ∃ cur, w.heap[a.block]? = some (.cells cur e (0, 0)) ∧ cur.size = cap

theorem Ow.empty (e : TypeId) (w : World) : Ow e w none 0 0 [] := ⟨Rd.empty w, fun _ h => by cases h⟩
theorem Ow.lt {e : TypeId} {w : World} {ao : Option Addr} {n cap : Nat} {bs : List UInt8} (h : Ow e w ao n cap bs) : ∀ a, ao = some a → a.block < w.heap.size := fun a ha => by
  obtain ⟨_, _, cur, hg, _⟩ := h.row a ha
  exact block_lt hg
theorem Ow.kept {F : Nat → Prop} {e : TypeId} {w w' : World} {ao : Option Addr} {n cap : Nat} {bs : List UInt8} (h : Ow e w ao n cap bs) (hf : Fr F w w') (hn : ∀ a, ao = some a → ¬ F a.block) : Ow e w' ao n cap bs :=
  ⟨h.rd.kept hf fun a ha _ => hn a ha, fun a ha => by
    obtain ⟨h0, hp, cur, hg, hs⟩ := h.row a ha
    exact ⟨h0, hp, cur, hf.kept hg (hn a ha), hs⟩⟩
theorem Ow.still {e : TypeId} {w w' : World} {ao : Option Addr} {n cap : Nat} {bs : List UInt8} (h : Ow e w ao n cap bs) (hf : Still w w') : Ow e w' ao n cap bs := h.kept hf fun _ _ e => e
theorem Ow.alloc {e : TypeId} {w : World} {ao : Option Addr} {n cap : Nat} {bs : List UInt8} (h : Ow e w ao n cap bs) (o : Obj) : Ow e (w.alloc o) ao n cap bs := h.still (Still.alloc w o)

/-- The cells of bytes. -/
def cellsOf (bs : List UInt8) : List Value := bs.map fun b => .int .u8 (b.toNat : Int)
theorem cellsOf_get {bs : List UInt8} {j : Nat} {u : Value} (h : (cellsOf bs)[j]? = some u) : ∃ hj : j < bs.length, u = .int .u8 (bs[j].toNat : Int) := by
  unfold cellsOf at h
  rw [List.getElem?_map] at h
  cases hb : bs[j]? with
  | none => simp [hb] at h
  | some b =>
    obtain ⟨hj, hb'⟩ := List.getElem?_eq_some_iff.1 hb
    simp [hb] at h
    exact ⟨hj, by rw [hb']; exact h.symm⟩
theorem cellsOf_at {bs : List UInt8} {j : Nat} (hj : j < bs.length) : (cellsOf bs).toArray[j]? = some (.int .u8 (bs[j].toNat : Int)) := by
  simp [cellsOf, hj]
theorem Rd.cellsAt {w : World} {a : Addr} {n cap : Nat} {bs : List UInt8} (h : Rd w (some a) n cap bs) : ∀ j u, (cellsOf bs)[j]? = some u → w.cell? (a.add j) = some u := by
  intro j u hu
  obtain ⟨hj, rfl⟩ := cellsOf_get hu
  obtain ⟨b, o, s⟩ := a
  have := h.plain _ rfl (by have := h.len; omega)
  simp at this
  subst this
  rw [add_plain]
  exact h.byte hj
theorem cellsOf_one (bs : List UInt8) : ∀ u ∈ cellsOf bs, u.oneCell' = true := by
  intro u hu
  obtain ⟨_, _, rfl⟩ := List.mem_map.1 hu
  rfl

section
variable {P : Program}
/-- A new row that holds bs at its head. -/
theorem Ow.fresh {e : TypeId} (w : World) (cur : Array Value) (cap n : Nat) (bs : List UInt8) (hl : bs.length = n) (hn : n ≤ cap) (hm : cap ≤ maxLen) (hc : cur.size = cap) (ht : ∀ j (h : j < bs.length), cur[j]? = some (.int .u8 (bs[j].toNat : Int))) :
    Ow e (w.alloc (.cells cur e)) (some ⟨w.heap.size, 0, none⟩) n cap bs := by
  have hh : (w.alloc (.cells cur e)).heap[w.heap.size]? = some (.cells cur e (0, 0)) := heap_alloc_new w _
  refine ⟨⟨hl, hn, hm, fun a ha _ => ?_, fun h => (by cases h), fun a ha j hj => ?_⟩, fun a ha => ?_⟩
  · cases ha; rfl
  · cases ha
    rw [cell_of_row _ _ _ _ _ _ hh, Nat.zero_add]
    exact ht j hj
  · cases ha
    exact ⟨rfl, rfl, cur, hh, hc⟩

theorem run_app (w : World) (t ty e : TypeId) (i : TypeInfo) (ht : P.underlying t = some (.slice e)) (hi : P.info? e = some i) (hz : i.zero = some (.int .u8 0)) (hs : i.size = 1) (hb : i.bytes = 1)
    {ao so : Option Addr} {n cap m c : Nat} {bs cs : List UInt8} (ho : Ow e w ao n cap bs) (hr : Rd w so m c cs) (h47 : n + m ≤ 140737488355328) :
    ∃ ao' cap' w', (Builtin.append_ #[t, t] ty #[.slice ao n cap, .slice so m c]).run P w = .ok (.slice ao' (n + m) cap') w' ∧ Ow e w' ao' (n + m) cap' (bs ++ cs) ∧
      Fr (fun k => ∃ a, ao = some a ∧ a.block = k) w w' ∧ (∀ a, ao' = some a → ao = some a ∨ w.heap.size ≤ a.block) ∧ (ao' = none → m = 0 ∧ ao = none) := by
  have hlb := ho.rd.len
  have hlc := hr.len
  have hle := ho.rd.le
  have hmx := ho.rd.max
  have h63 : n + m ≤ 9223372036854775807 := by omega
  cases so with
  | none =>
    have h1 := hr.nil rfl
    have h2 := hr.le
    have hm : m = 0 := by omega
    subst hm
    have hc : c = 0 := by omega
    subst hc
    have hcs : cs = [] := List.eq_nil_of_length_eq_zero (by omega)
    subst hcs
    refine ⟨ao, cap, w, ?_, by simpa using ho, Fr.refl _ _, fun a ha => .inl ha, fun h => ⟨rfl, h⟩⟩
    simp [Builtin.append_, run_underlying ht, sizeOf, typeInfo, hi, Builtin.lenOf, run_firstCells_none, hle]
    cases ao with
    | none => simp
    | some a => simp [storeCells]
  | some sa =>
    have hnews := hr.cellsAt
    have hl : (cellsOf cs).length = m * i.size := by simp [cellsOf, hs, hlc]
    cases ao with
    | none =>
      have hcap := ho.rd.nil rfl
      subst hcap
      have hn0 : n = 0 := by omega
      subst hn0
      have hbs : bs = [] := List.eq_nil_of_length_eq_zero hlb
      subst hbs
      by_cases hm : m = 0
      · subst hm
        have hcs : cs = [] := List.eq_nil_of_length_eq_zero hlc
        subst hcs
        refine ⟨none, 0, w, ?_, Ow.empty e w, Fr.refl _ _, fun a ha => .inl ha, fun _ => ⟨rfl, rfl⟩⟩
        simp [Builtin.append_, run_underlying ht, sizeOf, typeInfo, hi, Builtin.lenOf, Builtin.firstCells, loadCells, loadCellsFrom]
      · have hr' := run_append_nil (P := P) w t ty e i _ ht hi hz sa m c (cellsOf cs) hl hnews (by omega) (by omega) (by rw [hb]; omega)
        have hge := grownCap_ge w m 0 e
        have hgm := grownCap_le_maxLen w m 0 e (by unfold maxLen; omega)
        refine ⟨_, _, _, by rw [Nat.zero_add]; exact hr', ?_, ((Fr.refl _ w).drew.alloc _), fun a ha => .inr (by cases ha; exact Nat.le_refl _), fun h => by cases h⟩
        rw [List.nil_append, Nat.zero_add]
        exact Ow.fresh w.drew _ _ m cs hlc hge hgm (by simp [cellsOf, hlc, Builtin.zeroCells, Value.cells]; omega) (fun j hj => by
          rw [Array.getElem?_append_left (by simpa [cellsOf] using hj)]
          simp [cellsOf, hj])
    | some a =>
      obtain ⟨b, o, sp⟩ := a
      obtain ⟨h0, hp, cur, hg, hcs⟩ := ho.row _ rfl
      simp at h0 hg hp
      subst h0
      subst hp
      by_cases hroom : n + m ≤ cap
      · have hfit : n * i.size + (cellsOf cs).length ≤ cur.size := by simp [hs, cellsOf, hlc]; omega
        have hr' := run_append_room (P := P) w t ty e i ht hi b n cap cur hg sa m c (cellsOf cs) hl hnews (cellsOf_one cs) hroom hfit
        refine ⟨_, _, _, hr', ?_, (Fr.refl _ w).setRow b _ (.inl ⟨_, rfl, rfl⟩), fun a ha => .inl ha, fun h => by cases h⟩
        have hgn := setRow_heap w b cur (cur.toList.take (n * i.size) ++ cellsOf cs ++ cur.toList.drop (n * i.size + (cellsOf cs).length)).toArray e _ hg
        have hcl : (cellsOf cs).length = m := by simp [cellsOf, hlc]
        refine ⟨⟨by simp [hlb, hlc], hroom, hmx, fun a ha _ => (by cases ha; rfl), fun h => (by cases h), fun a ha j hj => ?_⟩, fun a ha => ?_⟩
        · cases ha
          rw [cell_of_row _ _ _ _ _ _ hgn]
          simp only [Nat.zero_add, List.getElem?_toArray, hs, Nat.mul_one]
          simp at hj
          by_cases hjn : j < n
          · rw [List.append_assoc, List.getElem?_append_left (by simp; omega), List.getElem?_take_of_lt hjn]
            have h1 := ho.rd.byte (k := j) (by omega)
            rw [cell_of_row _ _ _ _ _ _ hg] at h1
            simp only [Nat.zero_add] at h1
            rw [List.getElem_append_left (by omega)]
            simpa using h1
          · have htl : (cur.toList.take n).length = n := by simp; omega
            rw [List.append_assoc, List.getElem?_append_right (by omega), List.getElem?_append_left (by rw [htl, hcl]; omega), htl]
            rw [List.getElem_append_right (by omega)]
            have hj2 : j - n < cs.length := by omega
            simp only [cellsOf, List.getElem?_map, hlb, List.getElem?_eq_getElem hj2, Option.map_some]
        · cases ha
          refine ⟨rfl, rfl, _, hgn, ?_⟩
          simp only [List.size_toArray, List.length_append, List.length_take, List.length_drop, Array.length_toList, hs, Nat.mul_one, hcl]
          omega
      · have holds : ∀ j u, (cellsOf bs)[j]? = some u → w.cell? ((⟨b, 0, none⟩ : Addr).add j) = some u := ho.rd.cellsAt
        have hr' := run_append_grow (P := P) w t ty e i _ ht hi hz ⟨b, 0, none⟩ n cap (cellsOf bs) (by simp [cellsOf, hs, hlb]) holds sa m c (cellsOf cs) hl hnews (by omega) (by omega) (by rw [hb]; exact growslice_fits (by omega) (by omega))
        have hge := grownCap_ge w (n + m) cap e
        have hgm := grownCap_le_maxLen w (n + m) cap e (by unfold maxLen; omega)
        refine ⟨_, _, _, hr', ?_, ((Fr.refl _ w).drew.alloc _), fun a ha => .inr (by cases ha; exact Nat.le_refl _), fun h => by cases h⟩
        exact Ow.fresh w.drew _ _ (n + m) (bs ++ cs) (by simp [hlb, hlc]) hge hgm (by simp [cellsOf, hlb, hlc, Builtin.zeroCells, Value.cells]; omega) (fun j hj => by
          have hcl : (cellsOf bs).toArray ++ (cellsOf cs).toArray = (cellsOf (bs ++ cs)).toArray := by simp [cellsOf]
          rw [hcl, Array.getElem?_append_left (by simpa [cellsOf] using hj)]
          exact cellsOf_at hj)

/-- 'append(s, x...)' of bytes, s its owner's: as the walk takes it. -/
theorem wpList_app (w : World) {ops : Array Oper} {rest : List Oper} {o : Oper} {a : Act} {Q : Exit → Act → World → Prop} (hgd : o.guard = none) (s x : Operand) (t : TypeId)
    (hop : o.op = .call { callee := .builtin .append, args := #[s, x], argTypes := #[t, t] })
    (e : TypeId) (i : TypeInfo) (ht : P.underlying t = some (.slice e)) (hi : P.info? e = some i) (hz : i.zero = some (.int .u8 0)) (hs1 : i.size = 1) (hb : i.bytes = 1)
    (ao so : Option Addr) (n cap m c : Nat) (bs cs : List UInt8) (hs : a.eval s = .slice ao n cap) (hx : a.eval x = .slice so m c) (ho : Ow e w ao n cap bs) (hr : Rd w so m c cs) (h47 : n + m ≤ 140737488355328)
    (h : ∀ ao' cap' w', Ow e w' ao' (n + m) cap' (bs ++ cs) → Fr (fun k => ∃ a, ao = some a ∧ a.block = k) w w' → (∀ a, ao' = some a → ao = some a ∨ w.heap.size ≤ a.block) → (ao' = none → m = 0 ∧ ao = none) →
      wpList P ops Q rest (a.put o.dst (.slice ao' (n + m) cap')) w') : wpList P ops Q (o :: rest) a w := by
  refine wpList_plain hgd fun _ hK => ?_
  obtain ⟨ao', cap', w', hrun, h1, h2, h3, h4⟩ := run_app (P := P) w t o.type e i ht hi hz hs1 hb ho hr h47
  unfold Oper.wp execOp
  simp only [hop, resolve, invoke, builtin, Sem.run_bind, Sem.run_pure, Result.andThen_ok, List.map_toArray, List.map_cons, List.map_nil, hs, hx, hrun]
  exact hK _ _ (h ao' cap' w' h1 h2 h3 h4)
end
end Go.Proofs.YtaalbkmdmocdeaaDoor
