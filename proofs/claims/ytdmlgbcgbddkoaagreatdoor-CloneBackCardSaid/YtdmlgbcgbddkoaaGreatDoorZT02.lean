/- Parts of the proof, laid end to end. -/
import Derived.WalkKit
import Derived.Lib.SlBytesRow
import Derived.StillTail
import Derived.Deep.QuietTactic
import Derived.BigQuiet
import Derived.Test.YtdmlgbcgbddkoaaGreatDoorZT01
import Derived.Deep.RegionWith
import Derived.BigRegion
import Derived.Laws.ResultCell
import Derived.KernelRfl
import Derived.Laws.StructEq
import Derived.Lib.Strings
import Derived.WalkMore
import Derived.Laws.MakeOwn
set_option maxRecDepth 100000
namespace Go.Proofs.YtdmlgbcgbddkoaaGreatDoor
open Go.RowKit
theorem hid {p : Prop} (h : p) : Hid p := h
structure Fr (F : Nat -> Prop) (w w' : World) : Prop where
 os : w'.os = w.os
 tape : w'.tape = w.tape
 output : w'.output = w.output
 size : w.heap.size <= w'.heap.size
 block : ∀ k, k < w.heap.size -> ¬ F k -> w'.heap[k]? = w.heap[k]?
theorem Fr.refl (F : Nat -> Prop) (w : World) : Fr F w w := ⟨rfl, rfl, rfl, Nat.le_refl _, fun _ _ _ => rfl⟩
theorem Fr.mono {F G : Nat -> Prop} {w w' : World} (h : Fr F w w') (hG : ∀ k, k < w.heap.size -> F k -> G k) : Fr G w w' :=
 ⟨h.os, h.tape, h.output, h.size, fun k hk hn => h.block k hk fun hf => hn (hG k hk hf)⟩
theorem Fr.trans {F G : Nat -> Prop} {a b c : World} (h : Fr F a b) (k : Fr G b c) (hG : ∀ k, k < a.heap.size -> G k -> F k) : Fr F a c :=
 ⟨k.os.trans h.os, k.tape.trans h.tape, k.output.trans h.output, Nat.le_trans h.size k.size,
  fun i hi hn => (k.block i (Nat.lt_of_lt_of_le hi h.size) fun hg => hn (hG i hi hg)).trans (h.block i hi hn)⟩
theorem Fr.drew {F : Nat -> Prop} {a w : World} (h : Fr F a w) : Fr F a w.drew := ⟨h.os, h.tape, h.output, h.size, h.block⟩
theorem Fr.drewN {F : Nat -> Prop} {a w : World} (h : Fr F a w) (n : Nat) : Fr F a (w.drewN n) :=
 ⟨h.os, h.tape, h.output, h.size, h.block⟩
theorem Fr.alloc {F : Nat -> Prop} {a w : World} (h : Fr F a w) (o : Obj) : Fr F a (w.alloc o) :=
 ⟨h.os, h.tape, h.output, by have := h.size; simp; omega, fun k hk hn => (Below.heap_alloc _ _ _ (Nat.lt_of_lt_of_le hk h.size)).trans (h.block k hk hn)⟩
theorem Fr.setCell {F : Nat -> Prop} {a w : World} (h : Fr F a w) (p : Addr) (u : Value) (hp : F p.block \/ a.heap.size <= p.block) : Fr F a (w.setCell p u) :=
 ⟨h.os, h.tape, h.output, by have := h.size; simpa [World.setCell] using this, fun k hk hn => by
  rw [Below.heap_setCell _ _ _ _ (fun e => by subst e; rcases hp with hp | hp; exact hn hp; omega)]
  exact h.block k hk hn⟩
theorem Fr.setRow {F : Nat -> Prop} {a w : World} (h : Fr F a w) (g : Nat) (cs : Array Value) (hp : F g \/ a.heap.size <= g) : Fr F a (w.setRow g cs) :=
 ⟨h.os, h.tape, h.output, by have := h.size; simpa using this, fun k hk hn => by
  rw [setRow_other w g k cs (fun e => by subst e; rcases hp with hp | hp; exact hn hp; omega)]
  exact h.block k hk hn⟩
theorem Fr.below {F : Nat -> Prop} {B : Nat} {W w' : World} (h : Fr F W w') (hF : ∀ k, F k -> B <= k) (hB : B <= W.heap.size) : Below B W w' :=
 ⟨h.os, h.tape, h.output, h.size, fun k hk => h.block k (by omega) fun hf => by have := hF k hf; omega⟩
theorem Fr.cell {F : Nat -> Prop} {w w' : World} (h : Fr F w w') {p : Addr} (hp : p.block < w.heap.size) (hn : ¬ F p.block) : w'.cell? p = w.cell? p :=
 World.cell?_of_block (w := w) (h.block p.block hp hn)
theorem Fr.kept {F : Nat -> Prop} {w w' : World} (h : Fr F w w') {k : Nat} {o : Obj} (hk : w.heap[k]? = some o) (hn : ¬ F k) : w'.heap[k]? = some o :=
 (h.block k (Array.getElem?_eq_some_iff.1 hk).1 hn).trans hk
abbrev Still (w w' : World) : Prop := Fr (fun _ => False) w w'
theorem Fr.kept_still {w w' : World} (h : Still w w') {k : Nat} {o : Obj} (hk : w.heap[k]? = some o) : w'.heap[k]? = some o := h.kept hk (fun e => e)
theorem block_lt {w : World} {k : Nat} {o : Obj} (hk : w.heap[k]? = some o) : k < w.heap.size := (Array.getElem?_eq_some_iff.1 hk).1
theorem Still.to {F : Nat -> Prop} {w w' : World} (h : Still w w') : Fr F w w' := h.mono fun _ _ e => e.elim
theorem Still.below {w w' : World} (h : Still w w') : Below w.heap.size w w' := Fr.below h (fun _ e => e.elim) (Nat.le_refl _)
theorem Still.undrew {w w' : World} (h : Still w.drew w') : Still w w' := ⟨h.os, h.tape, h.output, h.size, h.block⟩
theorem Still.trans {a b c : World} (h : Still a b) (k : Still b c) : Still a c := Fr.trans h k fun _ _ e => e
theorem Still.alloc (w : World) (o : Obj) : Still w (w.alloc o) := (Fr.refl _ w).alloc o
structure Rd (w : World) (ao : Option Addr) (n cap : Nat) (bs : List UInt8) : Prop where
 len : bs.length = n
 le : n <= cap
 max : cap <= maxLen
 plain : ∀ a, ao = some a -> 0 < n -> a.spot = none
 nil : ao = none -> cap = 0
 cells : ∀ a, ao = some a -> ∀ j (h : j < bs.length), w.cell? ⟨a.block, a.off + j, none⟩ = some (.int .u8 (bs[j].toNat : Int))
theorem Rd.empty (w : World) : Rd w none 0 0 [] := ⟨rfl, Nat.le_refl _, by unfold maxLen; omega, fun _ h _ => (by cases h), fun _ => rfl, fun _ h => (by cases h)⟩
theorem Rd.addr {w : World} {ao : Option Addr} {n cap : Nat} {bs : List UInt8} (h : Rd w ao n cap bs) (hn : 0 < n) : ∃ b o, ao = some ⟨b, o, none⟩ := by
 cases ao with
 | none => have := h.nil rfl; have := h.le; omega
 | some a =>
  obtain ⟨b, o, s⟩ := a
  have := h.plain _ rfl hn
  simp at this
  subst this
  exact ⟨b, o, rfl⟩
theorem Rd.small {w : World} {ao : Option Addr} {n cap : Nat} {bs : List UInt8} (h : Rd w ao n cap bs) : n <= 9223372036854775807 := by
 have h1 := h.le; have h2 := h.max; unfold maxLen at h2; omega
theorem Rd.kept {F : Nat -> Prop} {w w' : World} {ao : Option Addr} {n cap : Nat} {bs : List UInt8} (h : Rd w ao n cap bs) (hf : Fr F w w') (hn : ∀ a, ao = some a -> 0 < n -> ¬ F a.block) : Rd w' ao n cap bs :=
 ⟨h.len, h.le, h.max, h.plain, h.nil, fun a ha j hj => by
  have hc := h.cells a ha j hj
  have hlt := World.block_lt_of_cell? w _ hc
  rw [hf.cell hlt (hn a ha (by have := h.len; omega)), hc]⟩
theorem Rd.still {w w' : World} {ao : Option Addr} {n cap : Nat} {bs : List UInt8} (h : Rd w ao n cap bs) (hf : Still w w') : Rd w' ao n cap bs := h.kept hf fun _ _ _ e => e
theorem Rd.alloc {w : World} {ao : Option Addr} {n cap : Nat} {bs : List UInt8} (h : Rd w ao n cap bs) (o : Obj) : Rd (w.alloc o) ao n cap bs := h.still (Still.alloc w o)
theorem Rd.lt {w : World} {ao : Option Addr} {n cap : Nat} {bs : List UInt8} (h : Rd w ao n cap bs) (hn : 0 < n) : ∀ a, ao = some a -> a.block < w.heap.size := fun a ha =>
 World.block_lt_of_cell? w ⟨a.block, a.off + 0, none⟩ (h.cells a ha 0 (by have := h.len; omega))
theorem Rd.drew {w : World} {ao : Option Addr} {n cap : Nat} {bs : List UInt8} (h : Rd w ao n cap bs) : Rd w.drew ao n cap bs := h.still ((Fr.refl _ w).drew)
theorem Rd.byte {w : World} {b o n cap : Nat} {bs : List UInt8} (h : Rd w (some ⟨b, o, none⟩) n cap bs) {k : Nat} (hk : k < bs.length) : w.cell? ⟨b, o + k, none⟩ = some (.int .u8 (bs[k].toNat : Int)) := h.cells _ rfl k hk
def cutAt (ao : Option Addr) (cap i : Nat) : Option Addr := if cap = i then ao else ao.map (·.add (i * 1))
theorem add_plain (b o j : Nat) : (⟨b, o, none⟩ : Addr).add j = ⟨b, o + j, none⟩ := by unfold Addr.add; split <;> simp_all
theorem cutAt_block {ao : Option Addr} {cap i : Nat} : ∀ a, cutAt ao cap i = some a -> ∃ a0, ao = some a0 /\ a.block = a0.block := by
 intro a ha
 unfold cutAt at ha
 split at ha
 ·exact ⟨a, ha, rfl⟩
 ·cases ao with
  | none => cases ha
  | some a0 =>
   simp at ha
   subst ha
   refine ⟨a0, rfl, ?_⟩
   unfold Addr.add; split <;> rfl
theorem Rd.drop {w : World} {ao : Option Addr} {n cap : Nat} {bs : List UInt8} (h : Rd w ao n cap bs) {i : Nat} (hi : i <= n) : Rd w (cutAt ao cap i) (n - i) (cap - i) (bs.drop i) := by
 have hl := h.len
 have hle := h.le
 refine ⟨by simp [hl], by omega, by have := h.max; omega, ?_, ?_, ?_⟩
 ·intro a ha hpos
  unfold cutAt at ha
  split at ha
  ·omega
  ·cases ao with
   | none => cases ha
   | some a0 =>
    have := h.plain a0 rfl (by omega)
    simp at ha
    subst ha
    unfold Addr.add
    split
    ·exact this
    ·rfl
 ·intro ha
  unfold cutAt at ha
  split at ha
  ·omega
  ·cases ao with
   | none => have := h.nil rfl; omega
   | some a0 => cases ha
 ·intro a ha j hj
  simp at hj
  unfold cutAt at ha
  rw [if_neg (by omega)] at ha
  obtain ⟨b, o, rfl⟩ := h.addr (by omega)
  simp [add_plain] at ha
  subst ha
  have := h.byte (k := i + j) (by omega)
  simp only [List.getElem_drop]
  rw [Nat.add_assoc]
  exact this
theorem Rd.take {w : World} {ao : Option Addr} {n cap : Nat} {bs : List UInt8} (h : Rd w ao n cap bs) {i : Nat} (hi : i <= n) : Rd w ao i cap (bs.take i) := by
 have hl := h.len
 refine ⟨by simp; omega, by have := h.le; omega, h.max, fun a ha hp => h.plain a ha (by omega), h.nil, fun a ha j hj => ?_⟩
 simp at hj
 simp only [List.getElem_take]
 exact h.cells a ha j (by omega)
theorem cutAt_zero (ao : Option Addr) (cap : Nat) : cutAt ao cap 0 = ao := by
 unfold cutAt
 split
 ·rfl
 ·cases ao with
  | none => rfl
  | some a => simp [Addr.add]
section
variable {P : Program}
theorem run_from (w : World) (t e : TypeId) (i : TypeInfo) (ht : P.underlying t = some (.slice e)) (hi : P.info? e = some i) (hs : i.size = 1) (k : IntKind) (ao : Option Addr) (n cap : Nat) (x : Int) (h0 : 0 <= x) (h1 : x <= n) :
  (Instr.slice t (.slice ao n cap) (some (.int k x)) none none).run P w = .ok (.slice (cutAt ao cap x.toNat) (n - x.toNat) (cap - x.toNat)) w := by
 have ht' : P.underlying t = some (.slice (P.elem t)) := by simp [Program.elem, ht]
 have he : P.elem t = e := by simp [Program.elem, ht]
 rw [run_slice_l w t ao n cap ht' k x h0 h1, he]
 simp [sizeOf, typeInfo, hi, hs, Result.andThen, sliced, cutAt]
theorem run_upto (w : World) (t e : TypeId) (i : TypeInfo) (ht : P.underlying t = some (.slice e)) (hi : P.info? e = some i) (hs : i.size = 1) (k : IntKind) (ao : Option Addr) (n cap : Nat) (x : Int) (h0 : 0 <= x) (h1 : x <= cap) :
  (Instr.slice t (.slice ao n cap) none (some (.int k x)) none).run P w = .ok (.slice ao x.toNat cap) w := by
 have ht' : P.underlying t = some (.slice (P.elem t)) := by simp [Program.elem, ht]
 have he : P.elem t = e := by simp [Program.elem, ht]
 rw [run_slice_h w t ao n cap ht' k x h0 h1, he]
 have := cutAt_zero ao cap
 simp only [cutAt] at this
 simp [sizeOf, typeInfo, hi, hs, Result.andThen, sliced]
 simpa using this
theorem run_string (w : World) (t e s : TypeId) (ht : P.underlying t = some (.slice e)) (he : P.underlying e = some (.int .u8)) (hs : P.underlying s = some .string) {ao : Option Addr} {n cap : Nat} {bs : List UInt8} (h : Rd w ao n cap bs) :
  (convert t s (.slice ao n cap)).run P w = .ok (.string ⟨bs.toArray⟩) w := by
 cases ao with
 | none =>
  have h1 := h.nil rfl
  have h2 := h.le
  have h3 := h.len
  have : bs = [] := List.eq_nil_of_length_eq_zero (by omega)
  subst this
  exact run_convert_bytes_nil w t e ht he n cap s hs
 | some a =>
  by_cases hn0 : n = 0
  ·have h3 := h.len
   have : bs = [] := List.eq_nil_of_length_eq_zero (by omega)
   subst this
   subst hn0
   rw [run_convert_bytes_string w t s e _ 0 cap ht he hs, run_bytesToString w _ 0 cap [] (by simp [loadCells, loadCellsFrom])]
   rfl
  obtain ⟨b, o, sp⟩ := a
  have := h.plain _ rfl (by omega)
  simp at this
  subst this
  have hsz : (ByteArray.mk bs.toArray).size = n := by simpa [ByteArray.size] using h.len
  have hc := Lib.run_convert_whole (P := P) w t e s ht he hs b o ⟨bs.toArray⟩ (fun i hi => by
   have hi' : i < bs.length := by have := h.len; omega
   rw [h.byte hi']
   rfl) cap
  rw [hsz] at hc
  exact hc
end
structure Ow (e : TypeId) (w : World) (ao : Option Addr) (n cap : Nat) (bs : List UInt8) : Prop where
 rd : Rd w ao n cap bs
 row : ∀ a, ao = some a -> a.off = 0 /\ a.spot = none /\ ∃ cur, w.heap[a.block]? = some (.cells cur e (0, 0)) /\ cur.size = cap
theorem Ow.empty (e : TypeId) (w : World) : Ow e w none 0 0 [] := ⟨Rd.empty w, fun _ h => by cases h⟩
theorem Ow.lt {e : TypeId} {w : World} {ao : Option Addr} {n cap : Nat} {bs : List UInt8} (h : Ow e w ao n cap bs) : ∀ a, ao = some a -> a.block < w.heap.size := fun a ha => by
 obtain ⟨_, _, cur, hg, _⟩ := h.row a ha
 exact block_lt hg
theorem Ow.kept {F : Nat -> Prop} {e : TypeId} {w w' : World} {ao : Option Addr} {n cap : Nat} {bs : List UInt8} (h : Ow e w ao n cap bs) (hf : Fr F w w') (hn : ∀ a, ao = some a -> ¬ F a.block) : Ow e w' ao n cap bs :=
 ⟨h.rd.kept hf fun a ha _ => hn a ha, fun a ha => by
  obtain ⟨h0, hp, cur, hg, hs⟩ := h.row a ha
  exact ⟨h0, hp, cur, hf.kept hg (hn a ha), hs⟩⟩
theorem Ow.still {e : TypeId} {w w' : World} {ao : Option Addr} {n cap : Nat} {bs : List UInt8} (h : Ow e w ao n cap bs) (hf : Still w w') : Ow e w' ao n cap bs := h.kept hf fun _ _ e => e
theorem Ow.alloc {e : TypeId} {w : World} {ao : Option Addr} {n cap : Nat} {bs : List UInt8} (h : Ow e w ao n cap bs) (o : Obj) : Ow e (w.alloc o) ao n cap bs := h.still (Still.alloc w o)
def cellsOf (bs : List UInt8) : List Value := bs.map fun b => .int .u8 (b.toNat : Int)
theorem cellsOf_get {bs : List UInt8} {j : Nat} {u : Value} (h : (cellsOf bs)[j]? = some u) : ∃ hj : j < bs.length, u = .int .u8 (bs[j].toNat : Int) := by
 unfold cellsOf at h
 rw [List.getElem?_map] at h
 cases hb : bs[j]? with
 | none => simp [hb] at h
 | some b =>
  obtain ⟨hj, hb'⟩ := List.getElem?_eq_some_iff.1 hb
  simp [hb] at h
  exact ⟨hj, by rw [hb']; exact h.symm⟩
theorem cellsOf_at {bs : List UInt8} {j : Nat} (hj : j < bs.length) : (cellsOf bs).toArray[j]? = some (.int .u8 (bs[j].toNat : Int)) := by
 simp [cellsOf, hj]
theorem Rd.cellsAt {w : World} {a : Addr} {n cap : Nat} {bs : List UInt8} (h : Rd w (some a) n cap bs) : ∀ j u, (cellsOf bs)[j]? = some u -> w.cell? (a.add j) = some u := by
 intro j u hu
 obtain ⟨hj, rfl⟩ := cellsOf_get hu
 obtain ⟨b, o, s⟩ := a
 have := h.plain _ rfl (by have := h.len; omega)
 simp at this
 subst this
 rw [add_plain]
 exact h.byte hj
theorem cellsOf_one (bs : List UInt8) : ∀ u ∈ cellsOf bs, u.oneCell' = true := by
 intro u hu
 obtain ⟨_, _, rfl⟩ := List.mem_map.1 hu
 rfl
section
variable {P : Program}
theorem Ow.fresh {e : TypeId} (w : World) (cur : Array Value) (cap n : Nat) (bs : List UInt8) (hl : bs.length = n) (hn : n <= cap) (hm : cap <= maxLen) (hc : cur.size = cap) (ht : ∀ j (h : j < bs.length), cur[j]? = some (.int .u8 (bs[j].toNat : Int))) :
  Ow e (w.alloc (.cells cur e)) (some ⟨w.heap.size, 0, none⟩) n cap bs := by
 have hh : (w.alloc (.cells cur e)).heap[w.heap.size]? = some (.cells cur e (0, 0)) := heap_alloc_new w _
 refine ⟨⟨hl, hn, hm, fun a ha _ => ?_, fun h => (by cases h), fun a ha j hj => ?_⟩, fun a ha => ?_⟩
 ·cases ha; rfl
 ·cases ha
  rw [cell_of_row _ _ _ _ _ _ hh, Nat.zero_add]
  exact ht j hj
 ·cases ha
  exact ⟨rfl, rfl, cur, hh, hc⟩
theorem run_app (w : World) (t ty e : TypeId) (i : TypeInfo) (ht : P.underlying t = some (.slice e)) (hi : P.info? e = some i) (hz : i.zero = some (.int .u8 0)) (hs : i.size = 1) (hb : i.bytes = 1)
  {ao so : Option Addr} {n cap m c : Nat} {bs cs : List UInt8} (ho : Ow e w ao n cap bs) (hr : Rd w so m c cs) (h47 : n + m <= 140737488355328) :
  ∃ ao' cap' w', (Builtin.append_ #[t, t] ty #[.slice ao n cap, .slice so m c]).run P w = .ok (.slice ao' (n + m) cap') w' /\ Ow e w' ao' (n + m) cap' (bs ++ cs) /\
   Fr (fun k => ∃ a, ao = some a /\ a.block = k) w w' /\ (∀ a, ao' = some a -> ao = some a \/ w.heap.size <= a.block) /\ (ao' = none -> m = 0 /\ ao = none) := by
 have hlb := ho.rd.len
 have hlc := hr.len
 have hle := ho.rd.le
 have hmx := ho.rd.max
 have h63 : n + m <= 9223372036854775807 := by omega
 cases so with
 | none =>
  have h1 := hr.nil rfl
  have h2 := hr.le
  have hm : m = 0 := by omega
  subst hm
  have hc : c = 0 := by omega
  subst hc
  have hcs : cs = [] := List.eq_nil_of_length_eq_zero (by omega)
  subst hcs
  refine ⟨ao, cap, w, ?_, by simpa using ho, Fr.refl _ _, fun a ha => .inl ha, fun h => ⟨rfl, h⟩⟩
  simp [Builtin.append_, run_underlying ht, sizeOf, typeInfo, hi, Builtin.lenOf, run_firstCells_none, hle]
  cases ao with
  | none => simp
  | some a => simp [storeCells]
 | some sa =>
  have hnews := hr.cellsAt
  have hl : (cellsOf cs).length = m * i.size := by simp [cellsOf, hs, hlc]
  cases ao with
  | none =>
   have hcap := ho.rd.nil rfl
   subst hcap
   have hn0 : n = 0 := by omega
   subst hn0
   have hbs : bs = [] := List.eq_nil_of_length_eq_zero hlb
   subst hbs
   by_cases hm : m = 0
   ·subst hm
    have hcs : cs = [] := List.eq_nil_of_length_eq_zero hlc
    subst hcs
    refine ⟨none, 0, w, ?_, Ow.empty e w, Fr.refl _ _, fun a ha => .inl ha, fun _ => ⟨rfl, rfl⟩⟩
    simp [Builtin.append_, run_underlying ht, sizeOf, typeInfo, hi, Builtin.lenOf, Builtin.firstCells, loadCells, loadCellsFrom]
   ·have hr' := run_append_nil (P := P) w t ty e i _ ht hi hz sa m c (cellsOf cs) hl hnews (by omega) (by omega) (by rw [hb]; omega)
    have hge := grownCap_ge w m 0 e
    have hgm := grownCap_le_maxLen w m 0 e (by unfold maxLen; omega)
    refine ⟨_, _, _, by rw [Nat.zero_add]; exact hr', ?_, ((Fr.refl _ w).drew.alloc _), fun a ha => .inr (by cases ha; exact Nat.le_refl _), fun h => by cases h⟩
    rw [List.nil_append, Nat.zero_add]
    exact Ow.fresh w.drew _ _ m cs hlc hge hgm (by simp [cellsOf, hlc, Builtin.zeroCells, Value.cells]; omega) (fun j hj => by
     rw [Array.getElem?_append_left (by simpa [cellsOf] using hj)]
     simp [cellsOf, hj])
  | some a =>
   obtain ⟨b, o, sp⟩ := a
   obtain ⟨h0, hp, cur, hg, hcs⟩ := ho.row _ rfl
   simp at h0 hg hp
   subst h0
   subst hp
   by_cases hroom : n + m <= cap
   ·have hfit : n * i.size + (cellsOf cs).length <= cur.size := by simp [hs, cellsOf, hlc]; omega
    have hr' := run_append_room (P := P) w t ty e i ht hi b n cap cur hg sa m c (cellsOf cs) hl hnews (cellsOf_one cs) hroom hfit
    refine ⟨_, _, _, hr', ?_, (Fr.refl _ w).setRow b _ (.inl ⟨_, rfl, rfl⟩), fun a ha => .inl ha, fun h => by cases h⟩
    have hgn := setRow_heap w b cur (cur.toList.take (n * i.size) ++ cellsOf cs ++ cur.toList.drop (n * i.size + (cellsOf cs).length)).toArray e _ hg
    have hcl : (cellsOf cs).length = m := by simp [cellsOf, hlc]
    refine ⟨⟨by simp [hlb, hlc], hroom, hmx, fun a ha _ => (by cases ha; rfl), fun h => (by cases h), fun a ha j hj => ?_⟩, fun a ha => ?_⟩
    ·cases ha
     rw [cell_of_row _ _ _ _ _ _ hgn]
     simp only [Nat.zero_add, List.getElem?_toArray, hs, Nat.mul_one]
     simp at hj
     by_cases hjn : j < n
     ·rw [List.append_assoc, List.getElem?_append_left (by simp; omega), List.getElem?_take_of_lt hjn]
      have h1 := ho.rd.byte (k := j) (by omega)
      rw [cell_of_row _ _ _ _ _ _ hg] at h1
      simp only [Nat.zero_add] at h1
      rw [List.getElem_append_left (by omega)]
      simpa using h1
     ·have htl : (cur.toList.take n).length = n := by simp; omega
      rw [List.append_assoc, List.getElem?_append_right (by omega), List.getElem?_append_left (by rw [htl, hcl]; omega), htl]
      rw [List.getElem_append_right (by omega)]
      have hj2 : j - n < cs.length := by omega
      simp only [cellsOf, List.getElem?_map, hlb, List.getElem?_eq_getElem hj2, Option.map_some]
    ·cases ha
     refine ⟨rfl, rfl, _, hgn, ?_⟩
     simp only [List.size_toArray, List.length_append, List.length_take, List.length_drop, Array.length_toList, hs, Nat.mul_one, hcl]
     omega
   ·have holds : ∀ j u, (cellsOf bs)[j]? = some u -> w.cell? ((⟨b, 0, none⟩ : Addr).add j) = some u := ho.rd.cellsAt
    have hr' := run_append_grow (P := P) w t ty e i _ ht hi hz ⟨b, 0, none⟩ n cap (cellsOf bs) (by simp [cellsOf, hs, hlb]) holds sa m c (cellsOf cs) hl hnews (by omega) (by omega) (by rw [hb]; exact growslice_fits (by omega) (by omega))
    have hge := grownCap_ge w (n + m) cap e
    have hgm := grownCap_le_maxLen w (n + m) cap e (by unfold maxLen; omega)
    refine ⟨_, _, _, hr', ?_, ((Fr.refl _ w).drew.alloc _), fun a ha => .inr (by cases ha; exact Nat.le_refl _), fun h => by cases h⟩
    exact Ow.fresh w.drew _ _ (n + m) (bs ++ cs) (by simp [hlb, hlc]) hge hgm (by simp [cellsOf, hlb, hlc, Builtin.zeroCells, Value.cells]; omega) (fun j hj => by
     have hcl : (cellsOf bs).toArray ++ (cellsOf cs).toArray = (cellsOf (bs ++ cs)).toArray := by simp [cellsOf]
     rw [hcl, Array.getElem?_append_left (by simpa [cellsOf] using hj)]
     exact cellsOf_at hj)
theorem wpList_app (w : World) {ops : Array Oper} {rest : List Oper} {o : Oper} {a : Act} {Q : Exit -> Act -> World -> Prop} (hgd : o.guard = none) (s x : Operand) (t : TypeId)
  (hop : o.op = .call { callee := .builtin .append, args := #[s, x], argTypes := #[t, t] })
  (e : TypeId) (i : TypeInfo) (ht : P.underlying t = some (.slice e)) (hi : P.info? e = some i) (hz : i.zero = some (.int .u8 0)) (hs1 : i.size = 1) (hb : i.bytes = 1)
  (ao so : Option Addr) (n cap m c : Nat) (bs cs : List UInt8) (hs : a.eval s = .slice ao n cap) (hx : a.eval x = .slice so m c) (ho : Ow e w ao n cap bs) (hr : Rd w so m c cs) (h47 : n + m <= 140737488355328)
  (h : ∀ ao' cap' w', Ow e w' ao' (n + m) cap' (bs ++ cs) -> Fr (fun k => ∃ a, ao = some a /\ a.block = k) w w' -> (∀ a, ao' = some a -> ao = some a \/ w.heap.size <= a.block) -> (ao' = none -> m = 0 /\ ao = none) ->
   wpList P ops Q rest (a.put o.dst (.slice ao' (n + m) cap')) w') : wpList P ops Q (o :: rest) a w := by
 refine wpList_plain hgd fun _ hK => ?_
 obtain ⟨ao', cap', w', hrun, h1, h2, h3, h4⟩ := run_app (P := P) w t o.type e i ht hi hz hs1 hb ho hr h47
 unfold Oper.wp execOp
 simp only [hop, resolve, invoke, builtin, Sem.run_bind, Sem.run_pure, Result.andThen_ok, List.map_toArray, List.map_cons, List.map_nil, hs, hx, hrun]
 exact hK _ _ (h ao' cap' w' h1 h2 h3 h4)
end
end Go.Proofs.YtdmlgbcgbddkoaaGreatDoor
namespace Go.Proofs.YtdmlgbcgbddkoaaGreatDoor
open Go
def cnt (L : Array Bool) : Nat -> Nat
 | 0 => 0
 | k + 1 => cnt L k + (if L.getD k true then 0 else 1)
theorem cnt_set_ge {L : Array Bool} {j : Nat} : ∀ {n : Nat}, n <= j -> cnt (L.setIfInBounds j true) n = cnt L n
 | 0, _ => rfl
 | n + 1, h => by
  unfold cnt
  rw [cnt_set_ge (by omega), getD_set_ne true (by omega)]
theorem cnt_set {L : Array Bool} {j : Nat} (hu : L.getD j true = false) : ∀ {n : Nat}, j < n -> cnt (L.setIfInBounds j true) n + 1 = cnt L n
 | 0, h => by omega
 | n + 1, h => by
  unfold cnt
  by_cases hj : j = n
  ·subst hj
   have hlt : j < L.size := by
    rcases Nat.lt_or_ge j L.size with h' | h'
    ·exact h'
    ·simp [Array.getElem?_eq_none h'] at hu
   rw [cnt_set_ge (Nat.le_refl _), hu]
   simp [hlt]
  ·rw [getD_set_ne true hj]
   have := cnt_set hu (n := n) (by omega)
   omega
theorem cnt_zero {L : Array Bool} : ∀ {n : Nat}, cnt L n = 0 -> ∀ i, i < n -> L.getD i true = true
 | 0, _, i, h => by omega
 | n + 1, hc, i, h => by
  unfold cnt at hc
  by_cases hi : i = n
  ·subst hi
   cases hb : L.getD i true with
   | true => rfl
   | false => rw [hb] at hc; simp at hc
  ·exact cnt_zero (n := n) (by omega) i (by omega)
theorem cnt_pos {L : Array Bool} : ∀ {n : Nat}, cnt L n ≠ 0 -> ∃ i, i < n /\ L.getD i true = false /\ ∀ k, k < i -> L.getD k true = true
 | 0, h => by simp [cnt] at h
 | n + 1, hc => by
  by_cases h0 : cnt L n = 0
  ·refine ⟨n, by omega, ?_, cnt_zero h0⟩
   unfold cnt at hc
   cases hb : L.getD n true with
   | true => rw [hb, h0] at hc; simp at hc
   | false => rfl
  ·obtain ⟨i, hi, h1, h2⟩ := cnt_pos h0
   exact ⟨i, by omega, h1, h2⟩
theorem cnt_new {N : Nat} : ∀ {n : Nat}, n <= N -> cnt (Array.replicate N false) n = n
 | 0, _ => rfl
 | n + 1, h => by
  unfold cnt
  rw [cnt_new (by omega)]
  simp [show n < N by omega]
def lowB (ops : Array Oper) (n : Nat) : Bool :=
 (List.range n).all fun i => match ops[i]? with
  | some o => (o.after.all fun e => decide (e.on < i)) && (match o.guard with | none => true | some (j, _) => decide (j < n))
  | none => false
theorem lowB_spec {ops : Array Oper} {n i : Nat} {o : Oper} (h : lowB ops n = true) (hi : i < n) (ho : ops[i]? = some o) :
  (∀ e ∈ o.after, e.on < i) /\ ∀ j b, o.guard = some (j, b) -> j < n := by
 have h1 := List.all_eq_true.1 h i (List.mem_range.2 hi)
 simp only [ho, Bool.and_eq_true] at h1
 refine ⟨fun e he => by simpa using (Array.all_eq_true'.1 h1.1) e he, fun j b hg => ?_⟩
 have h2 := h1.2
 rw [hg] at h2
 simpa using h2
section
variable {P : Program} {C : World -> Prop}
theorem head_at {l : List Oper} {n j : Nat} (hj : j < n) : (l.take n).toArray[j]? = l.toArray[j]? := by simp [hj]
theorem wanted_head {l : List Oper} {n : Nat} {o : Oper} {t : Array Value} (hg : ∀ j b, o.guard = some (j, b) -> j < n) :
  Region.wanted o (yielded (l.take n).toArray t) = Region.wanted o (yielded l.toArray t) := by
 unfold Region.wanted
 cases h : o.guard with
 | none => rfl
 | some x =>
  obtain ⟨j, b⟩ := x
  have : yielded (l.take n).toArray t j = yielded l.toArray t j := by unfold yielded; rw [head_at (hg j b h)]
  simp only [this]
theorem qOp_head {l : List Oper} {n j : Nat} (hlow : lowB l.toArray n = true) (hj : j < n) {K : Act -> Prop} {a : Act} (h : qOp P (l.take n).toArray C j K a) : qOp P l.toArray C j K a := by
 unfold qOp at h ⊢
 rw [head_at hj] at h
 cases ho : l.toArray[j]? with
 | none => simpa only [ho] using h
 | some o =>
  simp only [ho] at h ⊢
  rw [wanted_head (lowB_spec hlow hj ho).2] at h
  exact h
theorem any_of_head {l : List Oper} {n g : Nat} {Lq : Act -> Prop} {Q' : Exit -> Act -> World -> Prop} (hlow : lowB l.toArray n = true) (hs : Region.sinkB .any l.toArray n = true) (hc : Region.chainB .any l.toArray n = true) (hn : n < l.length)
  (hdone : ∀ (L : Array Bool) a w, L.size = l.length -> (∀ i, i < n -> L.getD i true = true) -> (∀ t, n <= t -> t < l.length -> L.getD t true = false) -> C w -> Lq a -> wpAny P .any l.toArray Q' g L a w) :
  ∀ (f : Nat) (lh L : Array Bool) (a : Act) (w : World), C w -> (∀ i b, i < n -> L.getD i b = lh.getD i b) -> HeadInv .any l.toArray n L -> cnt L n = f ->
   wpAnyQ P .any (l.take n).toArray C Lq f lh a -> wpAny P .any l.toArray Q' (f + g) L a w
 | 0, lh, L, a, w, hw, hag, inv, hcnt, h => by
  rw [Nat.zero_add]
  exact hdone L a w (by simpa using inv.size) (cnt_zero hcnt) (fun t h1 h2 => inv.tail t h1 (by simpa using h2)) hw h.2
 | f + 1, lh, L, a, w, hw, hag, inv, hcnt, h => by
  rw [show f + 1 + g = (f + g) + 1 by omega]
  obtain ⟨i, hi, hun, hmin⟩ := cnt_pos (L := L) (n := n) (by omega)
  have hsz : l.toArray.size = l.length := by simp
  refine ⟨fun h0 => ?_, fun j hj => ?_⟩
  ·exfalso
   have hio : ∃ o, l.toArray[i]? = some o := ⟨_, Array.getElem?_eq_getElem (by simp; omega)⟩
   obtain ⟨o, ho⟩ := hio
   have : i ∈ Region.ready .any l.toArray L := mem_ready.2 ⟨hun, o, ho, fun e he _ => by
    have hlt := (lowB_spec hlow hi ho).1 e he
    have hin : e.on < L.size := by rw [inv.size]; simp; omega
    have := hmin e.on hlt
    simp [hin] at this ⊢
    exact this⟩
   rw [h0] at this
   cases this
  ·have hjn : j < n := by
    rcases Nat.lt_or_ge j n with h' | h'
    ·exact h'
    ·exact absurd hj (tail_waits hs hc (by rw [hsz]; exact hn) inv _ i rfl hi hun j h')
   obtain ⟨hju, o, ho, hall⟩ := mem_ready.1 hj
   have hjh : j ∈ Region.ready .any (l.take n).toArray lh := mem_ready.2 ⟨by rw [<- hag j true hjn]; exact hju, o, by rw [head_at hjn]; exact ho, fun e he hb => by
    have hlt := (lowB_spec hlow hjn ho).1 e he
    rw [<- hag e.on false (by omega)]
    exact hall e he hb⟩
   have hq := qOp_head hlow hjn (h.2 j hjh)
   refine wpOp_of_qOp hw (fun a' w' hw' h' => any_of_head hlow hs hc hn hdone f (lh.setIfInBounds j true) (L.setIfInBounds j true) a' w' hw' ?_ (inv.set hj hjn) ?_ h') hq
   ·intro k b hk
    by_cases hjk : j = k
    ·subst hjk
     have h1 : j < L.size := by rw [inv.size, hsz]; omega
     have h2 : j < lh.size := by
      rcases Nat.lt_or_ge j lh.size with h' | h'
      ·exact h'
      ·have := (mem_ready.1 hjh).1
       simp [Array.getElem?_eq_none h'] at this
     simp [h1, h2]
    ·rw [getD_set_ne b hjk, getD_set_ne b hjk]
     exact hag k b hk
   ·have := cnt_set hju hjn
    omega
def tailB (l : List Oper) (n : Nat) : Bool :=
 lowB l.toArray n && Region.sinkB .any l.toArray n && Region.chainB .any l.toArray n && decide (n < l.length) && Region.lexB .any (l.take n).toArray &&
  Region.seqB .any l.toArray (l.length - n) n (List.replicate n true ++ List.replicate (l.length - n) false).toArray
theorem full_eq {N n : Nat} {L : Array Bool} (hn : n <= N) (hsz : L.size = N) (h1 : ∀ i, i < n -> L.getD i true = true) (h2 : ∀ t, n <= t -> t < N -> L.getD t true = false) :
  L = (List.replicate n true ++ List.replicate (N - n) false).toArray := by
 apply Array.ext
 ·simp; omega
 ·intro i hi1 hi2
  by_cases hi : i < n
  ·have := h1 i hi
   simp [hi1] at this
   simp [hi, this]
  ·have := h2 i (by omega) (by omega)
   simp [hi1] at this
   simp [List.getElem_append, hi, this]
theorem region_tail {id : Nat} {Q : Exit -> Act -> World -> Prop} {a : Act} {w : World} {l : List Oper} (n : Nat) (hm : P.follows .mixedOrders = true) (hB : tailB l n = true) (hC : C { w with drawn := w.drawn + 1 })
  (h : wpQuiet P (l.take n).toArray C (fun a' => ∀ w', C w' -> wpList P l.toArray Q (l.drop n) a' w') (l.take n) a) : (Code.region id l.toArray true).wp P Q a w := by
 simp only [tailB, Bool.and_eq_true, decide_eq_true_eq] at hB
 obtain ⟨⟨⟨⟨⟨hlow, hs⟩, hc⟩, hn⟩, hlex⟩, hseq⟩ := hB
 simp only [Region.lexB, Bool.and_eq_true] at hlex
 have hlen : (l.take n).length = n := by simp; omega
 have H := wpAnyQ_lex (P := P) (C := C) (md := .any) hlex.1 (l.take n) 0 (Array.replicate (l.take n).toArray.size false) a (by simp) (by simpa using hlex.2) h
 have inv0 : HeadInv .any l.toArray n (Array.replicate l.length false) :=
  ⟨by simp, fun j oj _ hl => (by rw [getD_replicate_false] at hl; cases hl), fun t _ ht => getD_in (by simpa using ht) (getD_replicate_false _ _)⟩
 refine wp_region_any hm ?_
 have key := any_of_head (P := P) (C := C) (Q' := Q) (g := l.length - n) hlow hs hc hn (Lq := fun a' => ∀ w', C w' -> wpList P l.toArray Q (l.drop n) a' w') (fun L a' w' hsz h1 h2 hw' hq => by
  have e := full_eq (by omega) hsz h1 h2
  subst e
  have := wpAny_of_seq (P := P) (md := .any) (ops := l.toArray) (Q' := Q) (l.drop n) n _ a' w' (fun j => by simp [List.getElem?_drop]) (by simpa using hseq) (hq w' hw')
  simpa using this) n (Array.replicate n false) (Array.replicate l.length false) a _ hC (fun i b hi => by
   simp [show i < l.length by omega, hi]) inv0 (cnt_new (by omega)) (by simp only [List.size_toArray, hlen] at H; exact H)
 have e : n + (l.length - n) = l.toArray.size := by simp; omega
 rw [e] at key
 simpa using key
end
structure Aft (w : World) : Type where
 u : World
 s : Still w u
theorem Aft.here (w : World) : Nonempty (Aft w) := ⟨⟨w, Fr.refl _ w⟩⟩
abbrev Cl (w : World) : World -> Prop := fun w' => ∃ z : Aft w, w' = z.u
theorem Cl.here (w : World) : Cl w { w with drawn := w.drawn + 1 } := ⟨⟨w.drew, (Fr.refl _ w).drew⟩, rfl⟩
theorem Calls.cl {P : Program} {f : FuncId} {args : Array Value} {w : World} {z : Aft w} {v : Value}
  (h : Calls P f args z.u fun e w' => e = .returned v /\ Still z.u w') : Calls P f args z.u fun e w'' => e = .returned v /\ ∃ y : Aft w, w'' = y.u :=
 h.mono fun _ w' ⟨he, hs⟩ => ⟨he, ⟨w', z.s.trans hs⟩, rfl⟩
theorem Calls.cl_same {P : Program} {f : FuncId} {args : Array Value} {w : World} {z : Aft w} {v : Value}
  (h : Calls P f args z.u fun e w' => e = .returned v /\ w' = z.u) : Calls P f args z.u fun e w'' => e = .returned v /\ ∃ y : Aft w, w'' = y.u :=
 h.mono fun _ _ ⟨he, hs⟩ => ⟨he, z, hs⟩
theorem region_all {P : Program} {id : Nat} {Q : Exit -> Act -> World -> Prop} {a : Act} {w : World} {l : List Oper} (hm : P.follows .mixedOrders = true) (hB : Region.lexB .any l.toArray = true)
  (h : wpQuiet P l.toArray (fun w' => ∃ z : Aft w, w' = z.u) (fun a' => ∀ w', Still w w' -> Q .normal a' w') l a) : (Code.region id l.toArray true).wp P Q a w :=
 wp_region_quiet (C := Cl w) hm hB (Cl.here w) (by
  have e : (fun a' => ∀ w', Still w w' -> Q .normal a' w') = fun a' => ∀ w', Cl w w' -> Q .normal a' w' := funext fun a' => propext ⟨fun h w' ⟨z, e⟩ => e ▸ h z.u z.s, fun h w' hs => h w' ⟨⟨w', hs⟩, rfl⟩⟩
  rw [e] at h
  simpa using h)
theorem region_rest {P : Program} {id : Nat} {Q : Exit -> Act -> World -> Prop} {a : Act} {w : World} {l : List Oper} (n : Nat) (hm : P.follows .mixedOrders = true) (hB : tailB l n = true)
  (h : wpQuiet P (l.take n).toArray (fun w' => ∃ z : Aft w, w' = z.u) (fun a' => ∀ w', Still w w' -> wpList P l.toArray Q (l.drop n) a' w') (l.take n) a) : (Code.region id l.toArray true).wp P Q a w := by
 have e : (fun a' => ∀ w', Still w w' -> wpList P l.toArray Q (l.drop n) a' w') = fun a' => ∀ w', Cl w w' -> wpList P l.toArray Q (l.drop n) a' w' := funext fun a' => propext ⟨fun h w' ⟨z, e⟩ => e ▸ h z.u z.s, fun h w' hs => h w' ⟨⟨w', hs⟩, rfl⟩⟩
 rw [e] at h
 exact region_tail (C := Cl w) n hm hB (Cl.here w) h
theorem Cl.cell {w : World} {p : Addr} {v : Value} (h : w.cell? p = some v) : ∀ z : Aft w, z.u.cell? p = some v :=
 fun z => (z.s.cell (World.block_lt_of_cell? w _ h) (fun e => e)).trans h
end Go.Proofs.YtdmlgbcgbddkoaaGreatDoor
namespace Go.Proofs.YtdmlgbcgbddkoaaGreatDoor
open Go.RowKit
open Pu Gp
abbrev pt (x y : Int) : Value := .agg #[.int .i64 x, .int .i64 y]
abbrev bx (a b c d : Int) : Value := .agg #[.int .i64 a, .int .i64 b, .int .i64 c, .int .i64 d]
theorem load_pt (w : World) (g : Nat) (x y : Int) (c0 : w.cell? ⟨g, 0, none⟩ = some (.int .i64 x)) (c1 : w.cell? ⟨g, 1, none⟩ = some (.int .i64 y)) :
  (loadVar 60 ⟨g, 0, none⟩).run Tryz.prog w = .ok (pt x y) w := by
 go_simp
theorem res_pt {fn : Func} {p : Tmp} (h : fn.results = #[.cell p 60]) (tmps : Array Value) (w : World) (g : Nat) (x y : Int) (hp : tmps.getD p undef = .pointer (some ⟨g, 0, none⟩))
  (c0 : w.cell? ⟨g, 0, none⟩ = some (.int .i64 x)) (c1 : w.cell? ⟨g, 1, none⟩ = some (.int .i64 y)) : (results fn tmps).run Tryz.prog w = .ok (pt x y) w := by
 have hp' : tmps[p]?.getD undef = .pointer (some ⟨g, 0, none⟩) := by simpa using hp
 simp [results, h, hp', asAddr, load_pt w g x y c0 c1]
def Pb (w : World) (b : Nat) (x y : Int) : Prop := w.heap[b]? = some (.cells #[.int .i64 x, .int .i64 y] 60 (0, 0))
theorem Pb.still {w w' : World} {b : Nat} {x y : Int} (h : Pb w b x y) (hs : Still w w') : Pb w' b x y := hs.kept_still h
theorem Pb.cells {w : World} {b : Nat} {x y : Int} (h : Pb w b x y) :
  w.cell? ⟨b, 0, none⟩ = some (.int .i64 x) /\ w.cell? ⟨b, 1, none⟩ = some (.int .i64 y) /\ ∀ o, w.frozen? ⟨b, o, none⟩ = false := by
 refine ⟨?_, ?_, fun o => frozen_of_row w b o _ _ h⟩ <;> (rw [cell_of_row _ _ _ _ _ _ h]; rfl)
abbrev setP (w : World) (b : Nat) (x y : Int) : World := (w.setCell ⟨b, 0, none⟩ (.int .i64 x)).setCell ⟨b, 1, none⟩ (.int .i64 y)
theorem Pb.set {w : World} {b : Nat} {x y : Int} (h : Pb w b x y) (x' y' : Int) : Pb (setP w b x' y') b x' y' := by
 unfold Pb
 have h1 := heap_setCell_same w b 0 _ _ (.int .i64 x') h
 have h2 := heap_setCell_same _ b 1 _ _ (.int .i64 y') h1
 rw [h2]; rfl
theorem setP_fr {F : Nat -> Prop} {a w : World} (h : Fr F a w) (b : Nat) (x y : Int) (hb : F b \/ a.heap.size <= b) : Fr F a (setP w b x y) := (h.setCell _ _ hb).setCell _ _ hb
theorem Pb.res {fn : Func} {p : Tmp} {w : World} {g : Nat} {x y : Int} (hb : Pb w g x y) (h : fn.results = #[.cell p 60]) (tmps : Array Value) (hp : tmps.getD p undef = .pointer (some ⟨g, 0, none⟩)) :
  (results fn tmps).run Tryz.prog w = .ok (pt x y) w := res_pt h tmps w g x y hp hb.cells.1 hb.cells.2.1
abbrev newP (w : World) (x y : Int) : World := w.alloc (.cells #[.int .i64 x, .int .i64 y] 60)
theorem newP_pb (w : World) (x y : Int) : Pb (newP w x y) w.heap.size x y := heap_alloc_new w _
theorem size_alloc (w : World) (o : Obj) : (w.alloc o).heap.size = w.heap.size + 1 := by simp
theorem gbound_any (x y : Int) (w : World) : Calls Tryz.prog 150 #[pt x y] w fun e w' => e = .returned (pt (bnd x) (bnd y)) /\ Still w w' := by
 obtain ⟨W, eW⟩ : ∃ W, W = (newP (newP w x y) 0 0) := ⟨_, rfl⟩
 have p0 : Pb W (w.heap.size) x y := by rw [eW]; have h := newP_pb w x y; exact (h.still (Still.alloc _ _))
 have c00 := Cl.cell p0.cells.1
 have c01 := Cl.cell p0.cells.2.1
 clear p0
 have r : Pb W (w.heap.size + 1) 0 0 := by rw [eW]; have h := newP_pb (newP w x y) 0 0; simp only [size_alloc] at h; exact h
 have HF := hid (show Still w W by rw [eW]; exact ((Still.alloc w _).trans (Still.alloc _ _)))
 have HW := hid eW
 have hne := Aft.here W
 clear eW
 have HB := hid (show w.heap.size <= w.heap.size + 1 by omega)
 go_enter Tryz.func150, Tryz.ntmps150
 go_wp2_with fail
 have e := HW.out
 simp only [newP] at e
 rw [<- e]
 clear e HW
 refine region_rest 6 (by kernel_rfl) (by kernel_rfl) ?_
 simp only [List.take_succ_cons, List.take_zero, List.drop_succ_cons, List.drop_zero]
 repeat (go_big_quiet_step ((go_at_call 166; exact Calls.cl_same (bound_any _ _))))
 refine wpQuiet_nil ?_
 intro w1 hs
 clear hne c00 c01
 have q := r.still hs
 obtain ⟨d0, d1, df⟩ := q.cells
 go_wp2_with fail
 (try simp only [Exit.inBlock, Exit.then])
 exact bodyPost_ret ((q.set _ _).res rfl _ rfl) rfl ⟨rfl, setP_fr (HF.out.trans hs) _ _ _ (.inr HB.out)⟩
theorem rgbound_any (x y : Int) (w : World) : Calls Tryz.prog 53 #[pt x y] w fun e w' => e = .returned (pt (bnd x) (bnd y)) /\ Still w w' := by
 obtain ⟨W, eW⟩ : ∃ W, W = (newP (newP w x y) 0 0) := ⟨_, rfl⟩
 have p0 : Pb W (w.heap.size) x y := by rw [eW]; have h := newP_pb w x y; exact (h.still (Still.alloc _ _))
 have c00 := Cl.cell p0.cells.1
 have c01 := Cl.cell p0.cells.2.1
 clear p0
 have r : Pb W (w.heap.size + 1) 0 0 := by rw [eW]; have h := newP_pb (newP w x y) 0 0; simp only [size_alloc] at h; exact h
 have HF := hid (show Still w W by rw [eW]; exact ((Still.alloc w _).trans (Still.alloc _ _)))
 have HW := hid eW
 have hne := Aft.here W
 clear eW
 have HB := hid (show w.heap.size <= w.heap.size + 1 by omega)
 go_enter Tryz.func53, Tryz.ntmps53
 go_wp2_with fail
 have e := HW.out
 simp only [newP] at e
 rw [<- e]
 clear e HW
 refine region_rest 6 (by kernel_rfl) (by kernel_rfl) ?_
 simp only [List.take_succ_cons, List.take_zero, List.drop_succ_cons, List.drop_zero]
 repeat (go_big_quiet_step ((go_at_call 98; exact Calls.cl_same (rbound_any _ _))))
 refine wpQuiet_nil ?_
 intro w1 hs
 clear hne c00 c01
 have q := r.still hs
 obtain ⟨d0, d1, df⟩ := q.cells
 go_wp2_with fail
 (try simp only [Exit.inBlock, Exit.then])
 exact bodyPost_ret ((q.set _ _).res rfl _ rfl) rfl ⟨rfl, setP_fr (HF.out.trans hs) _ _ _ (.inr HB.out)⟩
end Go.Proofs.YtdmlgbcgbddkoaaGreatDoor
namespace Go.Proofs.YtdmlgbcgbddkoaaGreatDoor
open Go.RowKit
open Pu Gp
theorem equal_pt (d : Nat) (x y z u : Int) (w : World) : (Op.equalIn (d + 2) 60 (pt x y) (pt z u)).run Tryz.prog w = .ok (x == z && y == u) w := by
 rw [run_equalIn_struct w (d + 1) _ _ _ (by kernel_rfl) (by kernel_rfl)]
 have e : (Tryz.prog.fieldsOf 60) = #[⟨ "X", 3, 0, false, "", "", 0⟩, ⟨ "Y", 3, 1, false, "", "", 8⟩] := by kernel_rfl
 rw [e]
 by_cases h1 : x = z
 ·by_cases h2 : y = u
  ·subst h1 h2
   go_simp
  ·have h3 : (y == u) = false := by simpa using h2
   subst h1
   go_simp
 ·have h3 : (x == z) = false := by simpa using h1
  go_simp
theorem eql_pt (x y z u : Int) (w : World) : (binOp .eql 60 (pt x y) (pt z u)).run Tryz.prog w = .ok (.bool (x == z && y == u)) w := by
 rw [run_eql_struct, equal_pt 9998]; rfl
theorem guard_pt (op : BinOp) (a b : Operand) (xs ys : Array Value) (w : World) : (eqGuard op 60 a b (.agg xs) (.agg ys)).run Tryz.prog w = .ok () w := run_eqGuard_agg w op _ a b xs ys (by kernel_rfl)
end Go.Proofs.YtdmlgbcgbddkoaaGreatDoor
namespace Go.Proofs.YtdmlgbcgbddkoaaGreatDoor
open Go.RowKit
open Pu Gp
end Go.Proofs.YtdmlgbcgbddkoaaGreatDoor
namespace Go.Proofs.YtdmlgbcgbddkoaaGreatDoor
open Go.RowKit
open Pu Gp
def okb (a b c d : Int) : Bool := decide (-2147483647 <= a /\ a <= 2147483647 /\ -2147483647 <= b /\ b <= 2147483647 /\ -2147483647 <= c /\ c <= 2147483647 /\ -2147483647 <= d /\ d <= 2147483647 /\ a <= c /\ b <= d)
def chk (a b c d : Int) : Int := if okb a b c d then 0 else 50
theorem bnd_in {x : Int} (h : bnd x = x) : -2147483647 <= x /\ x <= 2147483647 := by have a := bnd_lo x; have b := bnd_hi x; omega
end Go.Proofs.YtdmlgbcgbddkoaaGreatDoor
namespace Go.Proofs.YtdmlgbcgbddkoaaGreatDoor
open Go.RowKit
open Pu Gp
end Go.Proofs.YtdmlgbcgbddkoaaGreatDoor
namespace Go.Proofs.YtdmlgbcgbddkoaaGreatDoor
open Go
theorem wp_of_at {P : Program} {o : Oper} {a : Act} {w : World} {v : Value} {K : Act -> World -> Prop} {Q : Exit -> Act -> World -> Prop} (h : o.quietAt P a (fun u => Still w u) w v)
  (hK : ∀ w', Still w w' -> K (a.put o.dst v) w') : o.wp P a w K Q := by
 unfold Oper.quietAt at h
 unfold Oper.wp
 generalize (execOp a.eval o).run P w = r at h ⊢
 cases r with
 | halt x w' => simp only [Oper.quietUpon] at h
 | ok n w' =>
  cases n <;> simp only [Oper.quietUpon] at h
  case value u =>
   obtain ⟨rfl, rfl⟩ := h
   rw [Oper.upon_value]
   exact hK _ (Fr.refl _ _)
  case skip =>
   obtain ⟨rfl, rfl⟩ := h
   rw [Oper.upon_skip]
   exact hK _ (Fr.refl _ _)
  case enter f args =>
   obtain ⟨rfl, hc⟩ := h
   simp only [Oper.upon]
   exact hc.mono fun e w'' ⟨he, hs⟩ => by subst he; exact hK _ hs
def eachB (ops : Array Oper) (n d : Nat) : Bool :=
  (List.range n).all fun j => match ops[j]? with
    | some o => o.guard.isNone && (o.dst != some d) && (o.dst.isSome) &&
        ((List.range n).all fun i => (i == j) || (match ops[i]? with | some p => p.dst != o.dst | none => false)) &&
        o.op.operands.toList.all fun x => match x with
          | .tmp t => (t != d) && (List.range n).all fun i => match ops[i]? with
              | some p => (p.dst != some t) || o.after.any fun e => e.on == i && Region.binds .any e
              | none => false
          | _ => true
    | none => false
section
variable {P : Program} {W : World} {l : List Oper} {n d : Nat} {A : Act} {z : Obj}
structure Mid (l : List Oper) (n d : Nat) (A : Act) (W : World) (z : Obj) (L : Array Bool) (a : Act) (w : World) : Prop where
 still : Still W w
 size : a.tmps.size = A.tmps.size
 defers : a.defers = A.defers
 rest : ∀ t, (∀ j o, j < n -> l[j]? = some o -> o.dst ≠ some t) -> t ≠ d -> a.tmps[t]? = A.tmps[t]?
 done : ∀ j o t, j < n -> l[j]? = some o -> o.dst = some t -> L.getD j true = true -> a.tmps[t]? = A.tmps[t]?
 new : L.getD n true = true -> ∃ g, a.tmps[d]? = some (.pointer (some ⟨g, 0, none⟩)) /\ w.heap[g]? = some z /\ W.heap.size <= g
theorem each_spec (h : eachB l.toArray n d = true) {j : Nat} {o : Oper} (hj : j < n) (ho : l[j]? = some o) :
  o.guard = none /\ o.dst ≠ some d /\ (∃ t, o.dst = some t) /\ (∀ i p, i < n -> l[i]? = some p -> i ≠ j -> p.dst ≠ o.dst) /\
  ∀ t, .tmp t ∈ o.op.operands -> t ≠ d /\ ∀ i p, i < n -> l[i]? = some p -> p.dst = some t -> ∃ e ∈ o.after, e.on = i /\ Region.binds .any e = true := by
 have h1 := List.all_eq_true.1 h j (List.mem_range.2 hj)
 have ho' : l.toArray[j]? = some o := by simpa using ho
 simp only [ho', Bool.and_eq_true] at h1
 obtain ⟨⟨⟨⟨h2, h3⟩, h4⟩, h5⟩, h6⟩ := h1
 refine ⟨by simpa using h2, by simpa using h3, Option.isSome_iff_exists.1 h4, fun i p hi hp hij => ?_, fun t ht => ?_⟩
 ·have := List.all_eq_true.1 h5 i (List.mem_range.2 hi)
  have hp' : l.toArray[i]? = some p := by simpa using hp
  simp only [hp', Bool.or_eq_true, beq_iff_eq] at this
  rcases this with e | e
  ·exact absurd e hij
  ·simpa using e
 ·have := List.all_eq_true.1 h6 (.tmp t) (by simpa using ht)
  simp only [Bool.and_eq_true] at this
  refine ⟨by simpa using this.1, fun i p hi hp hd => ?_⟩
  have h7 := List.all_eq_true.1 this.2 i (List.mem_range.2 hi)
  have hp' : l.toArray[i]? = some p := by simpa using hp
  simp only [hp', Bool.or_eq_true] at h7
  rcases h7 with e | e
  ·simp [hd] at e
  ·obtain ⟨e, he, hb⟩ := Array.any_eq_true'.1 e
   simp only [Bool.and_eq_true, beq_iff_eq] at hb
   exact ⟨e, he, hb.1, hb.2⟩
theorem tmps_eval {a b : Act} {t : Nat} (h : a.tmps[t]? = b.tmps[t]?) : a.eval (.tmp t) = b.eval (.tmp t) := by
 simp only [Act.eval, Array.getD_eq_getD_getElem?, h]
theorem getD_true_false {L : Array Bool} {i : Nat} (hi : i < L.size) (h : L.getD i false = true) : L.getD i true = true := by
 simp [hi] at h ⊢; exact h
theorem any_new {dn : Nat} {on : Oper} {g' : Nat} {Q' : Exit -> Act -> World -> Prop} (hE : eachB l.toArray n dn = true) (hsel : Region.noSelect l.toArray = true) (hlow : lowB l.toArray (n + 1) = true)
  (hs : Region.sinkB .any l.toArray (n + 1) = true) (hc : Region.chainB .any l.toArray (n + 1) = true) (hn : n + 1 < l.length) (hon : l[n]? = some on) (hdn : on.dst = some dn) (hgn : on.guard = none) (hdA : dn < A.tmps.size)
  (hop : ∀ j o, j < n -> l[j]? = some o -> ∀ w, Still W w -> ∀ t, o.dst = some t -> o.quietAt P A (fun u => Still w u) w (A.tmps.getD t undef) /\ t < A.tmps.size)
  (hnew : ∀ w, Still W w -> ∀ a : Act, (execOp a.eval on).run P w = .ok (.value (.pointer (some ⟨w.heap.size, 0, none⟩))) (w.alloc z))
  (hdone : ∀ (L : Array Bool) a w, L.size = l.length -> (∀ i, i < n + 1 -> L.getD i true = true) -> (∀ t, n + 1 <= t -> t < l.length -> L.getD t true = false) -> Mid l n dn A W z L a w -> wpAny P .any l.toArray Q' g' L a w) :
  ∀ (f : Nat) (L : Array Bool) (a : Act) (w : World), HeadInv .any l.toArray (n + 1) L -> cnt L (n + 1) = f -> Mid l n dn A W z L a w -> wpAny P .any l.toArray Q' (f + g') L a w
 | 0, L, a, w, inv, hcnt, hm => by
  rw [Nat.zero_add]
  exact hdone L a w (by simpa using inv.size) (cnt_zero hcnt) (fun t h1 h2 => inv.tail t h1 (by simpa using h2)) hm
 | f + 1, L, a, w, inv, hcnt, hm => by
  rw [show f + 1 + g' = (f + g') + 1 by omega]
  obtain ⟨i, hi, hun, hmin⟩ := cnt_pos (L := L) (n := n + 1) (by omega)
  have hsz : l.toArray.size = l.length := by simp
  have hLs : L.size = l.length := by rw [inv.size, hsz]
  refine ⟨fun h0 => ?_, fun j hj => ?_⟩
  ·exfalso
   obtain ⟨o, ho⟩ : ∃ o, l.toArray[i]? = some o := ⟨_, Array.getElem?_eq_getElem (by simp; omega)⟩
   have : i ∈ Region.ready .any l.toArray L := mem_ready.2 ⟨hun, o, ho, fun e he _ => by
    have hlt := (lowB_spec hlow hi ho).1 e he
    have hin : e.on < L.size := by omega
    have := hmin e.on hlt
    simp [hin] at this ⊢
    exact this⟩
   rw [h0] at this
   cases this
  ·have hjn : j < n + 1 := by
    rcases Nat.lt_or_ge j (n + 1) with h' | h'
    ·exact h'
    ·exact absurd hj (tail_waits hs hc (by rw [hsz]; exact hn) inv _ i rfl hi hun j h')
   obtain ⟨hju, o, ho, hall⟩ := mem_ready.1 hj
   have ho' : l[j]? = some o := by simpa using ho
   have next : ∀ (a' : Act) (w' : World), Mid l n dn A W z (L.setIfInBounds j true) a' w' -> wpAny P .any l.toArray Q' (f + g') (L.setIfInBounds j true) a' w' := fun a' w' hm' =>
    any_new hE hsel hlow hs hc hn hon hdn hgn hdA hop hnew hdone f _ a' w' (inv.set hj hjn) (by have := cnt_set hju hjn; omega) hm'
   unfold wpOp
   simp only [ho]
   by_cases hjN : j = n
   ·subst hjN
    obtain rfl : on = o := Option.some.inj (hon.symm.trans ho')
    rw [if_pos (by unfold Region.wanted; rw [hgn])]
    refine .inl ?_
    unfold Oper.wp
    rw [hnew w hm.still a, Oper.upon_value]
    refine next _ _ ⟨hm.still.trans (Still.alloc w z), ?_, ?_, fun t h1 h2 => ?_, fun k p t hk hp ht hl => ?_, fun _ => ⟨w.heap.size, ?_, ?_, hm.still.size⟩⟩
    ·simp [Act.put, hdn, hm.size]
    ·simp [Act.put, hdn, hm.defers]
    ·simp only [Act.put, hdn, Array.getElem?_setIfInBounds_ne (Ne.symm h2)]
     exact hm.rest t h1 h2
    ·have hne : t ≠ dn := fun e => (each_spec hE hk hp).2.1 (by rw [ht, e])
     rw [getD_set_ne true (by omega)] at hl
     simp only [Act.put, hdn, Array.getElem?_setIfInBounds_ne (Ne.symm hne)]
     exact hm.done k p t hk hp ht hl
    ·simp only [Act.put, hdn]
     rw [Array.getElem?_setIfInBounds_self]
     simp [hm.size, hdA]
    ·exact heap_alloc_new w z
   ·have hj' : j < n := by omega
    obtain ⟨hg, hd1, ⟨t, ht⟩, hd2, hopn⟩ := each_spec hE hj' ho'
    rw [if_pos (by unfold Region.wanted; rw [hg])]
    refine .inl ?_
    have hcong : execOp a.eval o = execOp A.eval o := execOp_congr o (fun cs b => Region.noSelect_spec hsel j o cs b ho) fun x hx => by
     cases x with
     | tmp s =>
      obtain ⟨hs1, hs2⟩ := hopn s hx
      refine tmps_eval ?_
      by_cases hex : ∃ k p, k < n /\ l[k]? = some p /\ p.dst = some s
      ·obtain ⟨k, p, hk, hp, hps⟩ := hex
       obtain ⟨e, he, heo, hb⟩ := hs2 k p hk hp hps
       have := hall e he hb
       rw [heo] at this
       exact hm.done k p s hk hp hps (getD_true_false (by omega) this)
      ·exact hm.rest s (fun k p hk hp hps => hex ⟨k, p, hk, hp, hps⟩) hs1
     | const v => rfl
     | global g => rfl
     | func f => rfl
    obtain ⟨hq, hta⟩ := hop j o hj' ho' w hm.still t ht
    have hq' : o.quietAt P a (fun u => Still w u) w (A.tmps.getD t undef) := by
     unfold Oper.quietAt at hq ⊢
     rw [hcong]
     exact hq
    refine wp_of_at hq' fun w' hw' => next _ _ ⟨hm.still.trans hw', ?_, ?_, fun s h1 h2 => ?_, fun k p s hk hp hps hl => ?_, fun hl => ?_⟩
    ·simp [Act.put, ht, hm.size]
    ·simp [Act.put, ht, hm.defers]
    ·have hne : t ≠ s := fun e => h1 j o hj' ho' (by rw [ht, e])
     simp only [Act.put, ht, Array.getElem?_setIfInBounds_ne hne]
     exact hm.rest s h1 h2
    ·by_cases hkj : k = j
     ·subst hkj
      obtain rfl : o = p := Option.some.inj (ho'.symm.trans hp)
      obtain rfl : t = s := Option.some.inj (ht.symm.trans hps)
      simp only [Act.put, ht]
      rw [Array.getElem?_setIfInBounds_self]
      simp [hm.size, hta]
     ·have hne : t ≠ s := fun e => hd2 k p hk hp hkj (by rw [ht, hps, e])
      rw [getD_set_ne true (by omega)] at hl
      simp only [Act.put, ht, Array.getElem?_setIfInBounds_ne hne]
      exact hm.done k p s hk hp hps hl
    ·rw [getD_set_ne true hjN] at hl
     obtain ⟨g, hg1, hg2, hg3⟩ := hm.new hl
     have hne : t ≠ dn := fun e => hd1 (by rw [ht, e])
     refine ⟨g, ?_, hw'.kept_still hg2, hg3⟩
     simp only [Act.put, ht, Array.getElem?_setIfInBounds_ne hne]
     exact hg1
def newB? (l : List Oper) (n d : Nat) : Bool :=
 eachB l.toArray n d && Region.noSelect l.toArray && lowB l.toArray (n + 1) && Region.sinkB .any l.toArray (n + 1) && Region.chainB .any l.toArray (n + 1) && decide (n + 1 < l.length) &&
  Region.seqB .any l.toArray (l.length - (n + 1)) (n + 1) (List.replicate (n + 1) true ++ List.replicate (l.length - (n + 1)) false).toArray
theorem region_new {id : Nat} {Q : Exit -> Act -> World -> Prop} {a : Act} {w : World} {on : Oper} (n d : Nat) (A : Act) (z : Obj) (hm : P.follows .mixedOrders = true) (hB : newB? l n d = true) (hon : l[n]? = some on) (hdn : on.dst = some d) (hgn : on.guard = none) (hdA : d < A.tmps.size)
  (hsize : a.tmps.size = A.tmps.size) (hdef : a.defers = A.defers) (hrest : ∀ t, (∀ j o, j < n -> l[j]? = some o -> o.dst ≠ some t) -> t ≠ d -> a.tmps[t]? = A.tmps[t]?)
  (hop : ∀ j o, j < n -> l[j]? = some o -> ∀ u, Still w u -> ∀ t, o.dst = some t -> o.quietAt P A (fun v => Still u v) u (A.tmps.getD t undef) /\ t < A.tmps.size)
  (hnew : ∀ u, Still w u -> ∀ b : Act, (execOp b.eval on).run P u = .ok (.value (.pointer (some ⟨u.heap.size, 0, none⟩))) (u.alloc z))
  (h : ∀ u g, Still w u -> w.heap.size <= g -> u.heap[g]? = some z -> wpList P l.toArray Q (l.drop (n + 1)) (A.put (some d) (.pointer (some ⟨g, 0, none⟩))) u) : (Code.region id l.toArray true).wp P Q a w := by
 simp only [newB?, Bool.and_eq_true, decide_eq_true_eq] at hB
 obtain ⟨⟨⟨⟨⟨⟨hE, hsel⟩, hlow⟩, hs⟩, hc⟩, hn⟩, hseq⟩ := hB
 have inv0 : HeadInv .any l.toArray (n + 1) (Array.replicate l.length false) :=
  ⟨by simp, fun j oj _ hl => (by rw [getD_replicate_false] at hl; cases hl), fun t _ ht => getD_in (by simpa using ht) (getD_replicate_false _ _)⟩
 refine wp_region_any hm ?_
 have hst : Still w { w with drawn := w.drawn + 1 } := (Fr.refl _ w).drew
 have key := any_new (P := P) (W := w) (A := A) (z := z) (Q' := Q) (g' := l.length - (n + 1)) hE hsel hlow hs hc hn hon hdn hgn hdA hop hnew (fun L a' w' hsz h1 h2 hm' => by
  have e := full_eq (by omega) hsz h1 h2
  obtain ⟨g, hg1, hg2, hg3⟩ := hm'.new (h1 n (by omega))
  have ea : a' = A.put (some d) (.pointer (some ⟨g, 0, none⟩)) := by
   obtain ⟨ts, df⟩ := a'
   obtain ⟨Ts, Df⟩ := A
   have e2 : df = Df := hm'.defers
   subst e2
   have e1 : ts = Ts.setIfInBounds d (.pointer (some ⟨g, 0, none⟩)) := by
    apply Array.ext_getElem?
    intro t
    by_cases htd : t = d
    ·subst htd
     rw [hg1, Array.getElem?_setIfInBounds_self]
     simp only [show t < Ts.size from hdA, if_true]
    ·rw [Array.getElem?_setIfInBounds_ne (Ne.symm htd)]
     by_cases hex : ∃ k p, k < n /\ l[k]? = some p /\ p.dst = some t
     ·obtain ⟨k, p, hk, hp, hps⟩ := hex
      exact hm'.done k p t hk hp hps (h1 k (by omega))
     ·exact hm'.rest t (fun k p hk hp hps => hex ⟨k, p, hk, hp, hps⟩) htd
   rw [e1]; rfl
  rw [ea]
  subst e
  have := wpAny_of_seq (P := P) (md := .any) (ops := l.toArray) (Q' := Q) (l.drop (n + 1)) (n + 1) _ _ w' (fun j => by simp [List.getElem?_drop]) (by simpa using hseq) (h w' g hm'.still hg3 hg2)
  simpa using this) (n + 1) (Array.replicate l.length false) a { w with drawn := w.drawn + 1 } inv0 (cnt_new (by omega))
  ⟨hst, hsize, hdef, hrest, fun j o t hj ho ht hl => (by simp [show j < l.length by omega] at hl), fun hl => (by simp [show n < l.length by omega] at hl)⟩
 have e : n + 1 + (l.length - (n + 1)) = l.toArray.size := by simp; omega
 rw [e] at key
 simpa using key
def puts (a : Act) : List Oper -> List Value -> Act
 | o :: r, v :: vs => puts (a.put o.dst v) r vs
 | _, _ => a
theorem puts_same : ∀ (ops : List Oper) (vs : List Value) (a : Act), (puts a ops vs).tmps.size = a.tmps.size /\ (puts a ops vs).defers = a.defers /\ ∀ t, (∀ o ∈ ops, o.dst ≠ some t) -> (puts a ops vs).tmps[t]? = a.tmps[t]?
 | [], vs, a => by cases vs <;> exact ⟨rfl, rfl, fun _ _ => rfl⟩
 | o :: r, [], a => ⟨rfl, rfl, fun _ _ => rfl⟩
 | o :: r, v :: vs, a => by
  obtain ⟨h1, h2, h3⟩ := puts_same r vs (a.put o.dst v)
  have e : puts a (o :: r) (v :: vs) = puts (a.put o.dst v) r vs := rfl
  rw [e, h1, h2]
  refine ⟨?_, ?_, fun t ht => ?_⟩
  ·cases hd : o.dst <;> simp [Act.put]
  ·cases hd : o.dst <;> simp [Act.put]
  ·rw [h3 t fun p hp => ht p (List.mem_cons_of_mem _ hp)]
   have := ht o (List.mem_cons_self ..)
   cases hd : o.dst with
   | none => rfl
   | some d =>
    rw [hd] at this
    have hne : d ≠ t := fun e => this (by rw [e])
    simp only [Act.put, Array.getElem?_setIfInBounds_ne hne]
def wpEach (P : Program) (W : World) (A : Act) : List Oper -> Prop
 | [] => True
 | o :: r => (∀ u, Still W u -> o.quietAt P A (fun v => Still u v) u (A.tmps.getD (o.dst.getD 0) undef)) /\ wpEach P W A r
theorem wpEach_at : ∀ {ops : List Oper}, wpEach P W A ops -> ∀ (j : Nat) (o : Oper), ops[j]? = some o -> ∀ u, Still W u -> o.quietAt P A (fun v => Still u v) u (A.tmps.getD (o.dst.getD 0) undef)
 | [], _, j, o, h => by simp at h
 | p :: r, hw, 0, o, h => by
  simp at h
  subst h
  exact hw.1
 | p :: r, hw, j + 1, o, h => wpEach_at hw.2 j o (by simpa using h)
def inB (l : List Oper) (n m : Nat) : Bool := (l.take n).all fun o => match o.dst with | some t => decide (t < m) | none => true
theorem region_var {id : Nat} {Q : Exit -> Act -> World -> Prop} {a : Act} {w : World} {on : Oper} (n d : Nat) (z : Obj) (vs : List Value) (A : Act) (hm : P.follows .mixedOrders = true) (hB : newB? l n d = true) (hon : l[n]? = some on) (hdn : on.dst = some d) (hgn : on.guard = none)
  (hA : puts a (l.take n) vs = A) (hI : inB l n A.tmps.size = true) (hdA : d < A.tmps.size)
  (hop : wpEach P w A (l.take n))
  (hnew : ∀ u, Still w u -> ∀ b : Act, (execOp b.eval on).run P u = .ok (.value (.pointer (some ⟨u.heap.size, 0, none⟩))) (u.alloc z))
  (h : ∀ u g, Still w u -> w.heap.size <= g -> u.heap[g]? = some z -> wpList P l.toArray Q (l.drop (n + 1)) (A.put (some d) (.pointer (some ⟨g, 0, none⟩))) u) : (Code.region id l.toArray true).wp P Q a w := by
 obtain ⟨e1, e2, e3⟩ := puts_same (l.take n) vs a
 rw [hA] at e1 e2 e3
 refine region_new n d A z hm hB hon hdn hgn hdA e1.symm e2.symm (fun t h1 _ => (e3 t fun o ho => ?_).symm) (fun j o hj ho u hu t ht => ?_) hnew h
 ·obtain ⟨j, hj, e⟩ := List.mem_iff_getElem.1 ho
  have hjn : j < n := by simp at hj; omega
  exact h1 j o hjn (by rw [<- e]; simp)
 ·have := wpEach_at hop j o (by rw [List.getElem?_take_of_lt hj]; exact ho) u hu
  rw [ht] at this
  refine ⟨this, ?_⟩
  have h2 := List.all_eq_true.1 hI o (List.mem_iff_getElem?.2 ⟨j, by rw [List.getElem?_take_of_lt hj]; exact ho⟩)
  rw [ht] at h2
  simpa using h2
end
end Go.Proofs.YtdmlgbcgbddkoaaGreatDoor
namespace Go.Proofs.YtdmlgbcgbddkoaaGreatDoor
open Go.RowKit
open Pu Gp
def mt (a b c d a' b' c' d' : Int) : Bool := (okb a b c d && okb a' b' c' d') && okb (max a a') (max b b') (min c c') (min d d')
def mif (t : Bool) (x : Int) : Int := if t then x else 0
abbrev mb (a b c d a' b' c' d' : Int) : Value := bx (mif (mt a b c d a' b' c' d') (max a a')) (mif (mt a b c d a' b' c' d') (max b b')) (mif (mt a b c d a' b' c' d') (min c c')) (mif (mt a b c d a' b' c' d') (min d d'))
end Go.Proofs.YtdmlgbcgbddkoaaGreatDoor
namespace Go.Proofs.YtdmlgbcgbddkoaaGreatDoor
open Go.RowKit
open Pu Gp
def hdF (g : Nat -> Int) : Nat -> Nat
 | 0 => 0
 | k + 1 => if g (hdF g k) < g k then k else hdF g k
def hd (x y : Int) : Nat := hdF (dot x y) 16
end Go.Proofs.YtdmlgbcgbddkoaaGreatDoor
set_option maxRecDepth 100000
namespace Go.Proofs.YtdmlgbcgbddkoaaGreatDoor.Ap
open Pu Gp
/-! ### Cells -/
def dn (n : Int) : Int := n / 4096
def anyC (sol : Int -> Int -> Bool) (l t r b : Int) : Bool := (List.range (b - t + 1).toNat).any fun j => (List.range (r - l + 1).toNat).any fun i => sol (l + (i : Int)) (t + (j : Int))
def tch (sol : Int -> Int -> Bool) (a b c d : Int) : Bool := anyC sol (dn a) (dn b) (dn c) (dn d)
/-! ### A way that is gone step by step -/
def go (t : Nat -> Bool) : Nat -> Nat
 | 0 => 0
 | n + 1 => if go t n = n /\ t (n + 1) = false then n + 1 else go t n
/-! ### Steps -/
def stp (n : Int) : Int := clampf n (-2048) 2048
def sgn (n : Int) : Int := if 0 < n then 1 else if n < 0 then -1 else 0
def bdy (sol : Int -> Int -> Bool) (r x y : Int) : Bool := tch sol (subf x r) (subf y r) (addf x r) (addf y r)
end Go.Proofs.YtdmlgbcgbddkoaaGreatDoor.Ap
namespace Go.Proofs.YtdmlgbcgbddkoaaGreatDoor
open Go.RowKit
open Pu Gp Ap
abbrev ar (C R : Int) (s : ByteArray) : Value := .agg #[.int .i64 C, .int .i64 R, .string s]
def Ab (w : World) (b : Nat) (C R : Int) (s : ByteArray) : Prop := w.heap[b]? = some (.cells #[.int .i64 C, .int .i64 R, .string s] 24 (0, 0))
theorem Ab.still {w w' : World} {b : Nat} {C R : Int} {s : ByteArray} (h : Ab w b C R s) (hs : Still w w') : Ab w' b C R s := hs.kept_still h
theorem Ab.cells {w : World} {b : Nat} {C R : Int} {s : ByteArray} (h : Ab w b C R s) :
  w.cell? ⟨b, 0, none⟩ = some (.int .i64 C) /\ w.cell? ⟨b, 1, none⟩ = some (.int .i64 R) /\ w.cell? ⟨b, 2, none⟩ = some (.string s) /\ ∀ o, w.frozen? ⟨b, o, none⟩ = false := by
 refine ⟨?_, ?_, ?_, fun o => frozen_of_row w b o _ _ h⟩ <;> (rw [cell_of_row _ _ _ _ _ _ h]; rfl)
abbrev newA (w : World) (C R : Int) (s : ByteArray) : World := w.alloc (.cells #[.int .i64 C, .int .i64 R, .string s] 24)
theorem newA_ab (w : World) (C R : Int) (s : ByteArray) : Ab (newA w C R s) w.heap.size C R s := heap_alloc_new w _
def byt (s : ByteArray) (n : Nat) : Int := ((s.data.toList.getD n 0).toNat : Int)
theorem data_at (s : ByteArray) (n : Nat) (h : n < s.size) : s.data.toList[n]? = some s[n] := by
 rw [Array.getElem?_toList, Array.getElem?_eq_getElem h]; rfl
theorem byt_at (s : ByteArray) (n : Nat) (h : n < s.size) : ((s[n]'h).toNat : Int) = byt s n := by
 unfold byt
 rw [List.getD_eq_getElem?_getD, data_at s n h]
 rfl
def solB (C R : Int) (s : ByteArray) (col row : Int) : Bool := if col < 0 \/ C <= col \/ row < 0 \/ R <= row then true else if (s.size : Int) <= row * C + col then true else byt s (row * C + col).toNat == 35
theorem sol_out {C R col row : Int} {s : ByteArray} (h : col < 0 \/ C <= col \/ row < 0 \/ R <= row) : solB C R s col row = true := by unfold solB; rw [if_pos h]
theorem sol_end {C R col row : Int} {s : ByteArray} (h : (s.size : Int) <= row * C + col) : solB C R s col row = true := by
 unfold solB
 by_cases k : col < 0 \/ C <= col \/ row < 0 \/ R <= row
 ·rw [if_pos k]
 ·rw [if_neg k, if_pos h]
theorem sol_at {C R col row : Int} {s : ByteArray} {k : Nat} (h : ¬ (col < 0 \/ C <= col \/ row < 0 \/ R <= row)) (hk : row * C + col = (k : Int)) (hs : k < s.size) : solB C R s col row = (byt s k == 35) := by
 unfold solB
 rw [if_neg h, if_neg (by omega), hk]
 rfl
end Go.Proofs.YtdmlgbcgbddkoaaGreatDoor
namespace Go.Proofs.YtdmlgbcgbddkoaaGreatDoor
open Go.RowKit
open Pu Gp Ap
theorem ret_bool {a b : Bool} (h : a = b) : Ending.returned (.bool a) = .returned (.bool b) := by rw [h]
end Go.Proofs.YtdmlgbcgbddkoaaGreatDoor
namespace Go.Proofs.YtdmlgbcgbddkoaaGreatDoor
open Go.RowKit
open Pu Gp Ap
theorem sol1 (C R col row : Int) (s : ByteArray) (h : col < 0 \/ C <= col \/ row < 0 \/ R <= row) (w : World) : Calls Tryz.prog 144 #[ar C R s, .int .i64 col, .int .i64 row] w fun e w' => e = .returned (.bool true) /\ Still w w' := by
 have ho' : (decide (col < 0) = true) \/ (decide (col < 0) = false /\ decide (C <= col) = true) \/ (decide (col < 0) = false /\ decide (C <= col) = false /\ decide (row < 0) = true) \/ (decide (col < 0) = false /\ decide (C <= col) = false /\ decide (row < 0) = false /\ decide (R <= row) = true) := by
  by_cases x1 : col < 0
  ·exact .inl (by simpa using x1)
  by_cases x2 : C <= col
  ·exact .inr (.inl ⟨by simpa using x1, by simpa using x2⟩)
  by_cases x3 : row < 0
  ·exact .inr (.inr (.inl ⟨by simpa using x1, by simpa using x2, by simpa using x3⟩))
  ·exact .inr (.inr (.inr ⟨by simpa using x1, by simpa using x2, by simpa using x3, by simp; omega⟩))
 clear h
 rcases ho' with x1 | ⟨x1, x2⟩ | ⟨x1, x2, x3⟩ | ⟨x1, x2, x3, x4⟩
 all_goals
  go_enter Tryz.func144, Tryz.ntmps144
  go_wp2_with fail
  go_ret
  exact ⟨rfl, Still.alloc w _⟩
theorem sol2 (C R col row : Int) (s : ByteArray) (h1 : 0 <= col) (h2 : col < C) (h3 : 0 <= row) (h4 : row < R) (h5 : (s.size : Int) <= col) (w : World) : Calls Tryz.prog 144 #[ar C R s, .int .i64 col, .int .i64 row] w fun e w' => e = .returned (.bool true) /\ Still w w' := by
 go_enter Tryz.func144, Tryz.ntmps144
 go_wp2_with fail
 go_ret
 exact ⟨rfl, Still.alloc w _⟩
set_option maxHeartbeats 2000000 in
theorem sol3 (C R col row : Int) (s : ByteArray) (h1 : 0 <= col) (h2 : col < C) (h3 : 0 <= row) (h4 : row < R) (h5 : col < (s.size : Int)) (hz : s.size <= 281474976710656) (h6 : ((s.size : Int) - 1 - col) / C < row) (w : World) : Calls Tryz.prog 144 #[ar C R s, .int .i64 col, .int .i64 row] w fun e w' => e = .returned (.bool true) /\ Still w w' := by
 have e : ((s.size : Int) - 1 - col).tdiv C = ((s.size : Int) - 1 - col) / C := Int.tdiv_eq_ediv_of_nonneg (by omega)
 have q0 : 0 <= ((s.size : Int) - 1 - col) / C := Int.ediv_nonneg (by omega) (by omega)
 have q1 : ((s.size : Int) - 1 - col) / C <= (s.size : Int) - 1 - col := Int.ediv_le_self _ (by omega)
 go_enter Tryz.func144, Tryz.ntmps144
 go_wp2_with fail
 go_ret
 exact ⟨rfl, Still.alloc w _⟩
set_option maxHeartbeats 2000000 in
theorem sol4 (C R col row : Int) (s : ByteArray) (h1 : 0 <= col) (h2 : col < C) (h3 : 0 <= row) (h4 : row < R) (h5 : col < (s.size : Int)) (hz : s.size <= 281474976710656) (h6 : row <= ((s.size : Int) - 1 - col) / C) (k : Nat) (hk : row * C + col = (k : Int)) (hs : k < s.size) (w : World) : Calls Tryz.prog 144 #[ar C R s, .int .i64 col, .int .i64 row] w fun e w' => e = .returned (.bool (byt s k == 35)) /\ Still w w' := by
 have e : ((s.size : Int) - 1 - col).tdiv C = ((s.size : Int) - 1 - col) / C := Int.tdiv_eq_ediv_of_nonneg (by omega)
 have q0 : 0 <= ((s.size : Int) - 1 - col) / C := Int.ediv_nonneg (by omega) (by omega)
 have q1 : ((s.size : Int) - 1 - col) / C <= (s.size : Int) - 1 - col := Int.ediv_le_self _ (by omega)
 have m0 : 0 <= row * C := Int.mul_nonneg h3 (by omega)
 have m1 : row * C <= (s.size : Int) := by omega
 have hks : (k : Int) < (s.size : Int) := by omega
 have eb := byt_at s k hs
 go_enter Tryz.func144, Tryz.ntmps144
 go_wp2_with fail
 go_ret
 exact ⟨rfl, Still.alloc w _⟩
theorem solid_any (C R col row : Int) (s : ByteArray) (hz : s.size <= 281474976710656) (w : World) : Calls Tryz.prog 144 #[ar C R s, .int .i64 col, .int .i64 row] w fun e w' => e = .returned (.bool (solB C R s col row)) /\ Still w w' := by
 by_cases h : col < 0 \/ C <= col \/ row < 0 \/ R <= row
 ·rw [sol_out h]; exact sol1 C R col row s h w
 have n1 : 0 <= row * C := Int.mul_nonneg (by omega) (by omega)
 by_cases h5 : (s.size : Int) <= col
 ·rw [sol_end (by omega)]
  exact sol2 C R col row s (by omega) (by omega) (by omega) (by omega) h5 w
 by_cases h6 : ((s.size : Int) - 1 - col) / C < row
 ·have : (s.size : Int) - 1 - col < row * C := Int.lt_mul_of_ediv_lt (show 0 < C by omega) h6
  rw [sol_end (by omega)]
  exact sol3 C R col row s (by omega) (by omega) (by omega) (by omega) (by omega) hz h6 w
 ·have m1 : row * C <= (s.size : Int) - 1 - col := Int.le_trans (Int.mul_le_mul_of_nonneg_right (show row <= ((s.size : Int) - 1 - col) / C by omega) (by omega)) (Int.ediv_mul_le _ (by omega))
  obtain ⟨k, hk⟩ : ∃ k : Nat, row * C + col = (k : Int) := ⟨(row * C + col).toNat, by omega⟩
  rw [sol_at (k := k) h hk (by omega)]
  exact sol4 C R col row s (by omega) (by omega) (by omega) (by omega) (by omega) hz (by omega) k hk (by omega) w
theorem solid_is (C R col row : Int) (s : ByteArray) (hz : s.size <= 281474976710656) {t : Bool} (h : solB C R s col row = t) (w : World) : Calls Tryz.prog 144 #[ar C R s, .int .i64 col, .int .i64 row] w fun e w' => e = .returned (.bool t) /\ Still w w' := by
 have := solid_any C R col row s hz w
 rw [h] at this
 exact this
end Go.Proofs.YtdmlgbcgbddkoaaGreatDoor
set_option maxRecDepth 100000
namespace Go.Proofs.YtdmlgbcgbddkoaaGreatDoor
open Go.RowKit
open Pu Gp Ap
def atS (x s : Int) (j : Nat) : Int := addf x (s * (j : Int))
end Go.Proofs.YtdmlgbcgbddkoaaGreatDoor
namespace Go.Proofs.YtdmlgbcgbddkoaaGreatDoor
open Go.RowKit
open Pu Gp Ap
theorem setP_size (w : World) (b : Nat) (x y : Int) : (setP w b x y).heap.size = w.heap.size := by simp [setP, World.setCell]
def kX (sol : Int -> Int -> Bool) (r X Y p : Int) : Nat := go (fun j => bdy sol r (atS X (sgn p) j) (atS Y 0 j)) p.natAbs
def kY (sol : Int -> Int -> Bool) (r X Y q : Int) : Nat := go (fun j => bdy sol r (atS X 0 j) (atS Y (sgn q) j)) q.natAbs
def side (k n l m : Nat) : Int := (if k < n then 1 else 0) + (if l < m then 2 else 0)
end Go.Proofs.YtdmlgbcgbddkoaaGreatDoor
namespace Go.Proofs.YtdmlgbcgbddkoaaGreatDoor
open Go.RowKit
open Pu Gp Ap
def rp (X p : Int) (n j : Nat) : Int := if j = 0 then X else addf X ((p * (j : Int)).tdiv (n : Int))
def rayN (p q : Int) : Nat := (max p.natAbs q.natAbs + 63) / 64
def rayT (sol : Int -> Int -> Bool) (X Y p q : Int) (n j : Nat) : Bool := sol (dn (rp X p n j)) (dn (rp Y q n j))
end Go.Proofs.YtdmlgbcgbddkoaaGreatDoor
namespace Go.Proofs.YtdmlgbcgbddkoaaGreatDoor
open Pu Gp Ap
/-! ### Within the bounds -/
/-! ### Where a body comes -/
section
variable {sol : Int -> Int -> Bool} {r X Y P Q : Int}
end
/-! ### Rays -/
/-! ### Two slides, one behind the other, to the right -/
section
variable {sol : Int -> Int -> Bool} {r X Y : Int}
end
end Go.Proofs.YtdmlgbcgbddkoaaGreatDoor
set_option maxRecDepth 100000
namespace Go.Proofs.YtdmlgbcgbddkoaaGreatDoor
open Go
section
variable {P : Program}
end
section
variable {P : Program} {W : World} {l : List Oper} {n m : Nat} {ds : List Nat} {A : Act} {zs zs' : Nat -> Obj}
end
end Go.Proofs.YtdmlgbcgbddkoaaGreatDoor
set_option maxRecDepth 100000
namespace Go.Proofs.YtdmlgbcgbddkoaaGreatDoor
open Go
section
variable {P : Program} {W : World} {l : List Oper} {n q : Nat} {A : Act}
end
end Go.Proofs.YtdmlgbcgbddkoaaGreatDoor
set_option maxRecDepth 100000
namespace Go.Proofs.YtdmlgbcgbddkoaaGreatDoor
open Go
section
variable {P : Program} {W : World} {l : List Oper} {n r : Nat} {xs : List Nat} {A : Act}
end
end Go.Proofs.YtdmlgbcgbddkoaaGreatDoor
set_option maxRecDepth 100000
namespace Go.Proofs.YtdmlgbcgbddkoaaGreatDoor
open Go
set_option linter.unusedVariables false
section
variable {P : Program} {md : Region.Mode} {ops : Array Oper} {I : World -> Prop} {Q : Exit -> Act -> World -> Prop}
def wpAnyI (P : Program) (md : Region.Mode) (ops : Array Oper) (I : World -> Prop) (Q : Exit -> Act -> World -> Prop) : Nat -> Array Bool -> Act -> World -> Prop
 | 0, L, a, w => I w /\ Region.ready md ops L = [] /\ Q .normal a w
 | f + 1, L, a, w => I w /\ (Region.ready md ops L = [] -> Q .normal a w) /\ ∀ i ∈ Region.ready md ops L, wpOp P ops Q i (wpAnyI P md ops I Q f (L.setIfInBounds i true)) a w
theorem wpAnyI_to : ∀ (f : Nat) (L : Array Bool) (a : Act) (w : World), wpAnyI P md ops I Q f L a w -> wpAny P md ops Q f L a w
 | 0, _, _, _, h => h.2
 | f + 1, L, a, w, h => ⟨h.2.1, fun i hi => wpOp_mono (fun a' w' h' => wpAnyI_to f _ a' w' h') (h.2.2 i hi)⟩
theorem wpAnyI_has : ∀ {f : Nat} {L : Array Bool} {a : Act} {w : World}, wpAnyI P md ops I Q f L a w -> I w
 | 0, _, _, _, h => h.1
 | _ + 1, _, _, _, h => h.1
def YieldsI (P : Program) (I : World -> Prop) (o : Oper) (v : Value) (a : Act) : Prop := ∀ w, I w -> (execOp a.eval o).run P w = .ok (.value v) w
theorem wpOp_putI {j : Nat} {oi oj : Oper} {v : Value} {Y : Act -> Prop} (hj : ops[j]? = some oj) (hap : oi.apart ops oj = true) (hsj : ∀ cs b, oj.op ≠ .select cs b)
  (hQ : ∀ c a w, Q (.panic c) (a.put oi.dst v) w -> Q (.panic c) a w) {K : Act -> World -> Prop} {a : Act} {w : World}
  (hY : ∀ u, Y (a.put oj.dst u)) (hD : ∀ d, Y ({ a with defers := d :: a.defers }.put oj.dst undef)) (h : wpOp P ops Q j K (a.put oi.dst v) w) :
  wpOp P ops Q j (fun a' w' => Y a' /\ K (a'.put oi.dst v) w') a w := by
 obtain ⟨h1, h2, _⟩ := Oper.apart_spec hap
 have hw := wanted_put oj a oi.dst v h1
 have he := execOp_put oj hsj a oi.dst v h1
 have cm : ∀ u, (a.put oi.dst v).put oj.dst u = (a.put oj.dst u).put oi.dst v := fun u => Act.put_comm a v u h2
 unfold wpOp at h ⊢
 simp only [hj] at h ⊢
 rw [hw] at h
 by_cases hwt : Region.wanted oj (yielded ops a.tmps) = true
 ·rw [if_pos hwt] at h ⊢
  unfold Oper.wp Oper.asks at *
  rw [he] at h
  rcases h with h | h
  ·left
   cases hr : (execOp a.eval oj).run P w with
   | ok x w' =>
    rw [hr] at h
    cases x with
    | value u => exact ⟨hY u, (cm u) ▸ (show K ((a.put oi.dst v).put oj.dst u) w' from h)⟩
    | skip => exact ⟨hY undef, (cm undef) ▸ (show K ((a.put oi.dst v).put oj.dst undef) w' from h)⟩
    | defer d =>
     refine ⟨hD d, ?_⟩
     have e := Act.put_comm { a with defers := d :: a.defers } v undef h2
     rw [<- e, <- Act.put_defers]
     exact h
    | enter f args =>
     refine Calls.mono (show Calls P f args w' _ from h) fun e w'' q => ?_
     cases e with
     | returned u => exact ⟨hY u, (cm u) ▸ (show K ((a.put oi.dst v).put oj.dst u) w'' from q)⟩
     | panicked c => exact hQ _ _ _ q
     | outgrown => exact q
    | row r args => exact Rows.mono (show Rows P r args w' _ from h) fun u w'' q => ⟨hY u, (cm u) ▸ (show K ((a.put oi.dst v).put oj.dst u) w'' from q)⟩
    | _ => exact h
   | halt x w' =>
    rw [hr] at h
    cases x with
    | panic u => exact hQ _ _ _ h
    | _ => exact h
  ·exact .inr h
 ·rw [if_neg hwt] at h ⊢
  exact ⟨hY undef, (cm undef) ▸ h⟩
theorem wpAnyI_first {i : Nat} {oi : Oper} {v : Value} (hi : ops[i]? = some oi) (hg : oi.guard = none) (hsel : ∀ (j : Nat) (o : Oper) cs b, ops[j]? = some o -> o.op ≠ .select cs b)
    (hQ : ∀ c a w, Q (.panic c) (a.put oi.dst v) w -> Q (.panic c) a w) :
    ∀ (f : Nat) (L : Array Bool) (a : Act) (w : World),
      (∀ j oj, ops[j]? = some oj -> j ≠ i -> L.getD j true = false -> (∀ e ∈ oj.after, Region.binds md e = true -> e.on ≠ i) -> oi.apart ops oj = true) ->
      i ∈ Region.ready md ops L -> YieldsI P I oi v a -> wpAnyI P md ops I Q f (L.setIfInBounds i true) (a.put oi.dst v) w -> wpAnyI P md ops I Q (f + 1) L a w := by
  have hwant : ∀ t, Region.wanted oi (yielded ops t) = true := fun t => by unfold Region.wanted; rw [hg]
  have here : ∀ (f : Nat) (L : Array Bool) (a : Act) (w : World), YieldsI P I oi v a -> wpAnyI P md ops I Q f (L.setIfInBounds i true) (a.put oi.dst v) w -> wpOp P ops Q i (wpAnyI P md ops I Q f (L.setIfInBounds i true)) a w := by
    intro f L a w hy H
    unfold wpOp
    simp only [hi]
    rw [if_pos (hwant _)]
    left
    unfold Oper.wp
    rw [hy w (wpAnyI_has H)]
    exact H
  intro f
  induction f with
  | zero =>
    intro L a w _ hr hy H
    refine ⟨H.1, fun h => (by rw [h] at hr; cases hr), fun j hj => ?_⟩
    by_cases hji : j = i
    · subst hji; exact here 0 L a w hy H
    · have := ready_mono hj hji
      rw [H.2.1] at this
      cases this
  | succ f ih =>
    intro L a w hfree hr hy H
    refine ⟨H.1, fun h => (by rw [h] at hr; cases hr), fun j hj => ?_⟩
    by_cases hji : j = i
    · subst hji; exact here (f + 1) L a w hy H
    · have h1 := H.2.2 j (ready_mono hj hji)
      obtain ⟨hjun, oj, hoj, hall⟩ := mem_ready.1 hj
      have hnot : ∀ e ∈ oj.after, Region.binds md e = true -> e.on ≠ i := fun e he hb heq => by
        have h1 := hall e he hb
        have h0 := (mem_ready.1 hr).1
        rw [heq] at h1
        rcases Nat.lt_or_ge i L.size with h' | h'
        · simp [h'] at h0 h1; rw [h0] at h1; cases h1
        · simp [Array.getElem?_eq_none h'] at h1
      have hap := hfree j oj hoj hji hjun hnot
      obtain ⟨_, _, h3⟩ := Oper.apart_spec hap
      have hyk : ∀ b : Act, YieldsI P I oi v b -> ∀ u, YieldsI P I oi v (b.put oj.dst u) := fun b hb u w' hw' => by
        rw [execOp_put oi (fun cs b => hsel i oi cs b hi) b oj.dst u h3]
        exact hb w' hw'
      have h2 := wpOp_putI (Y := YieldsI P I oi v) hoj hap (fun cs b => hsel j oj cs b hoj) hQ (hyk a hy) (fun d => hyk { a with defers := d :: a.defers } (fun w' hw' => hy w' hw') undef) h1
      have hfree' : ∀ k ok, ops[k]? = some ok -> k ≠ i -> (L.setIfInBounds j true).getD k true = false ->
          (∀ e ∈ ok.after, Region.binds md e = true -> e.on ≠ i) -> oi.apart ops ok = true := fun k ok hk hki hun hno => by
        refine hfree k ok hk hki ?_ hno
        by_cases hjk : j = k
        · subst hjk; exact hjun
        · rw [getD_set_ne true hjk] at hun; exact hun
      refine wpOp_mono (fun a' w' h3 => ih (L.setIfInBounds j true) a' w' hfree' (ready_mono hr (Ne.symm hji)) h3.1 ?_) h2
      rw [Array.setIfInBounds_comm _ _ hji]
      exact h3.2
theorem wpAnyI_take {i : Nat} {oi : Oper} {v : Value} {f : Nat} {L : Array Bool} {a : Act} {w : World} (hi : ops[i]? = some oi) (hg : oi.guard.isNone = true)
  (hs : Region.noSelect ops = true) (hf : Region.free md ops L i = true) (hr : (Region.ready md ops L).contains i = true)
  (hQ : ∀ c a w, Q (.panic c) (a.put oi.dst v) w -> Q (.panic c) a w) (hy : YieldsI P I oi v a)
  (h : wpAnyI P md ops I Q f (L.setIfInBounds i true) (a.put oi.dst v) w) : wpAnyI P md ops I Q (f + 1) L a w :=
 wpAnyI_first hi (by simpa using hg) (Region.noSelect_spec hs) hQ f L a w (Region.free_spec hi hf) (by simpa using hr) hy h
def AllI (P : Program) (md : Region.Mode) (ops : Array Oper) (I : World -> Prop) (Q : Exit -> Act -> World -> Prop) (f : Nat) (L : Array Bool) (a : Act) (w : World) (rs : List Nat) : Prop :=
 ∀ i ∈ rs, wpOp P ops Q i (wpAnyI P md ops I Q f (L.setIfInBounds i true)) a w
theorem AllI.nil {f : Nat} {L : Array Bool} {a : Act} {w : World} : AllI P md ops I Q f L a w [] := fun _ h => by cases h
theorem AllI.cons {f : Nat} {L : Array Bool} {a : Act} {w : World} {i : Nat} {o : Oper} {rs : List Nat} (ho : ops[i]? = some o) (hg : o.guard.isNone = true)
  (h : ∀ K : Act -> World -> Prop, (∀ a w, wpAnyI P md ops I Q f (L.setIfInBounds i true) a w -> K a w) -> o.wp P a w K Q) (hr : AllI P md ops I Q f L a w rs) : AllI P md ops I Q f L a w (i :: rs) := by
 intro k hk
 rcases List.mem_cons.1 hk with rfl | hk
 ·unfold wpOp
  simp only [ho]
  rw [if_pos (by unfold Region.wanted; rw [show o.guard = none by simpa using hg])]
  exact .inl (h _ fun _ _ h => h)
 ·exact hr k hk
theorem wpAnyI_ready {rs : List Nat} {f : Nat} {L : Array Bool} {a : Act} {w : World} (hI : I w) (hr : Region.ready md ops L = rs) (hne : rs ≠ [])
  (h : AllI P md ops I Q f L a w rs) : wpAnyI P md ops I Q (f + 1) L a w := ⟨hI, fun h0 => absurd (hr ▸ h0) hne, hr ▸ h⟩
theorem wpAnyI_done {L : Array Bool} {a : Act} {w : World} (hI : I w) (hr : Region.ready md ops L = []) (h : Q .normal a w) : ∀ f, wpAnyI P md ops I Q f L a w
 | 0 => ⟨hI, hr, h⟩
 | _ + 1 => ⟨hI, fun _ => h, by rw [hr]; simp⟩
theorem region_I {id : Nat} {a : Act} {w : World} (I : World -> Prop) (hm : P.follows .mixedOrders = true)
  (h : wpAnyI P .any ops I Q ops.size (Array.replicate ops.size false) a w.drew) : (Code.region id ops true).wp P Q a w := wp_region_any hm (wpAnyI_to _ _ _ _ h)
end
end Go.Proofs.YtdmlgbcgbddkoaaGreatDoor
set_option maxRecDepth 100000
namespace Go.Proofs.YtdmlgbcgbddkoaaGreatDoor
open Go.RowKit
open Pu Gp Ap
end Go.Proofs.YtdmlgbcgbddkoaaGreatDoor
namespace Go.Proofs.YtdmlgbcgbddkoaaGreatDoor
open Pu Gp Ap
end Go.Proofs.YtdmlgbcgbddkoaaGreatDoor
namespace Go.Proofs.YtdmlgbcgbddkoaaGreatDoor
open Go.RowKit
open Pu Gp Ap
end Go.Proofs.YtdmlgbcgbddkoaaGreatDoor
namespace Go.Proofs.YtdmlgbcgbddkoaaGreatDoor
open Go.RowKit
open Pu Gp Ap
end Go.Proofs.YtdmlgbcgbddkoaaGreatDoor
namespace Go.Proofs.YtdmlgbcgbddkoaaGreatDoor
open Go.RowKit
open Pu Gp Ap
end Go.Proofs.YtdmlgbcgbddkoaaGreatDoor
namespace Go.Proofs.YtdmlgbcgbddkoaaGreatDoor
open Go.RowKit
open Pu Gp Ap
end Go.Proofs.YtdmlgbcgbddkoaaGreatDoor
set_option maxRecDepth 100000
namespace Go.Proofs.YtdmlgbcgbddkoaaGreatDoor
open Go.RowKit
open Pu Gp Ap
def fndF (s : ByteArray) (c : Int) : Nat -> Nat -> Int
 | 0, _ => -1
 | f + 1, i => if byt s i = c then (i : Int) else fndF s c f (i + 1)
def fnd (s : ByteArray) (c : Int) (i : Nat) : Int := fndF s c (s.size - i) i
theorem fnd_end {s : ByteArray} {c : Int} {i : Nat} (h : s.size <= i) : fnd s c i = -1 := by
 unfold fnd
 rw [show s.size - i = 0 by omega]
 rfl
theorem fnd_hit {s : ByteArray} {c : Int} {i : Nat} (h : i < s.size) (hc : byt s i = c) : fnd s c i = (i : Int) := by
 unfold fnd
 rw [show s.size - i = (s.size - (i + 1)) + 1 by omega, fndF, if_pos hc]
theorem fnd_miss {s : ByteArray} {c : Int} {i : Nat} (h : i < s.size) (hc : ¬ byt s i = c) : fnd s c i = fnd s c (i + 1) := by
 unfold fnd
 rw [show s.size - i = (s.size - (i + 1)) + 1 by omega, fndF, if_neg hc]
theorem fndF_spec (s : ByteArray) (c : Int) : ∀ (f i : Nat), i + f = s.size -> (fndF s c f i = -1 /\ ∀ j, i <= j -> j < s.size -> byt s j ≠ c) \/ ∃ k : Nat, fndF s c f i = (k : Int) /\ i <= k /\ k < s.size /\ byt s k = c /\ ∀ j, i <= j -> j < k -> byt s j ≠ c
 | 0, i, h => .inl ⟨rfl, fun j h1 h2 => by omega⟩
 | f + 1, i, h => by
  rw [fndF]
  by_cases hc : byt s i = c
  ·rw [if_pos hc]
   exact .inr ⟨i, rfl, Nat.le_refl _, by omega, hc, fun j h1 h2 => by omega⟩
  ·rw [if_neg hc]
   rcases fndF_spec s c f (i + 1) (by omega) with ⟨e, h1⟩ | ⟨k, e, h1, h2, h3, h4⟩
   ·refine .inl ⟨e, fun j j1 j2 => ?_⟩
    by_cases ej : j = i
    ·subst ej; exact hc
    ·exact h1 j (by omega) j2
   ·refine .inr ⟨k, e, by omega, h2, h3, fun j j1 j2 => ?_⟩
    by_cases ej : j = i
    ·subst ej; exact hc
    ·exact h4 j (by omega) j2
theorem fnd_spec (s : ByteArray) (c : Int) (i : Nat) (h : i <= s.size) : (fnd s c i = -1 /\ ∀ j, i <= j -> j < s.size -> byt s j ≠ c) \/ ∃ k : Nat, fnd s c i = (k : Int) /\ i <= k /\ k < s.size /\ byt s k = c /\ ∀ j, i <= j -> j < k -> byt s j ≠ c :=
 fndF_spec s c (s.size - i) i (by omega)
set_option maxHeartbeats 1000000 in
theorem rfind_any (s : ByteArray) (c : Int) (i : Nat) (hz : s.size <= 281474976710656) (hi : i <= s.size) (w : World) :
  Calls Tryz.prog 52 #[.string s, .int .u8 c, .int .i64 (i : Int)] w fun e w' => e = .returned (.int .i64 (fnd s c i)) /\ w' = w := by
 obtain ⟨T, eT⟩ : ∃ T, T = fnd s c i := ⟨_, rfl⟩
 have HT := hid eT
 rw [<- eT]
 clear eT
 go_enter Tryz.func52, Tryz.ntmps52
 go_wp2
 go_loop [7] (fun v => ∃ j : Nat, j <= s.size /\ v = .int .i64 (j : Int) /\ T = fnd s c j) (fun v => s.size - (intOf v).toNat)
 case atStart => exact ⟨i, hi, rfl, HT.out⟩
 case round =>
  obtain ⟨j, hj, rfl, hf⟩ := hrel
  by_cases hlt : j < s.size
  ·have e := byt_at s j hlt
   obtain ⟨b, eb⟩ : ∃ b, byt s j = b := ⟨_, rfl⟩
   rw [eb] at e
   by_cases hc : b = c
   ·have HF := hid (show (j : Int) = T by rw [hf, fnd_hit hlt (eb.trans hc)])
    clear hf eb
    subst hc
    go_wp2
    go_ret
    exact ⟨ret_int HF.out, rfl⟩
   ·have HF := hid (show T = fnd s c (j + 1) by rw [hf, fnd_miss hlt (by rw [eb]; exact hc)])
    have hc' : (b == c) = false := by simpa using hc
    clear hf eb
    go_wp2
    go_round
    case rel => exact ⟨j + 1, by omega, by go_num, HF.out⟩
    case measure => simp [intOf]; omega
  ·have HF := hid (show (-1 : Int) = T by rw [hf, fnd_end (by omega)])
   clear hf
   go_wp2
   go_ret
   exact ⟨ret_int HF.out, rfl⟩
def okC (c : Int) : Bool := c == 35 || c == 46 || c == 42 || (decide (49 <= c) && decide (c <= 54))
def sgnsB (s : ByteArray) : Nat -> Bool
 | 0 => true
 | n + 1 => sgnsB s n && okC (byt s n)
theorem sgns_more {s : ByteArray} : ∀ {n m : Nat}, n <= m -> sgnsB s n = false -> sgnsB s m = false
  | n, 0, h, k => by obtain rfl : n = 0 := by omega
                     exact k
  | n, m + 1, h, k => by
    by_cases e : n = m + 1
    · subst e; exact k
    · rw [sgnsB, sgns_more (n := n) (m := m) (by omega) k]; rfl
theorem sgns_iff {s : ByteArray} : ∀ {n : Nat}, sgnsB s n = true ↔ ∀ i, i < n -> okC (byt s i) = true
 | 0 => ⟨fun _ i h => by omega, fun _ => rfl⟩
 | n + 1 => by
  rw [sgnsB, Bool.and_eq_true, sgns_iff]
  constructor
  ·rintro ⟨h1, h2⟩ i hi
   by_cases e : i = n
   ·subst e; exact h2
   ·exact h1 i (by omega)
  ·intro h
   exact ⟨fun i hi => h i (by omega), h n (by omega)⟩
theorem sign_ways (b : Int) : (okC b = true /\ (b = 35 \/ b = 46 \/ b = 42 \/ ((b != 35) = true /\ (b != 46) = true /\ (b != 42) = true /\ decide (b < 49) = false /\ decide (54 < b) = false))) \/
  (okC b = false /\ (b != 35) = true /\ (b != 46) = true /\ (b != 42) = true /\ (decide (b < 49) = true \/ (decide (b < 49) = false /\ decide (54 < b) = true))) := by
 unfold okC
 by_cases h1 : b = 35
 ·subst h1; exact .inl ⟨by decide, .inl rfl⟩
 by_cases h2 : b = 46
 ·subst h2; exact .inl ⟨by decide, .inr (.inl rfl)⟩
 by_cases h3 : b = 42
 ·subst h3; exact .inl ⟨by decide, .inr (.inr (.inl rfl))⟩
 have n1 : (b != 35) = true := by simpa using h1
 have n2 : (b != 46) = true := by simpa using h2
 have n3 : (b != 42) = true := by simpa using h3
 by_cases h4 : b < 49
 ·exact .inr ⟨by simp [h1, h2, h3]; omega, n1, n2, n3, .inl (by simpa using h4)⟩
 by_cases h5 : 54 < b
 ·exact .inr ⟨by simp [h1, h2, h3]; omega, n1, n2, n3, .inr ⟨by simpa using h4, by simpa using h5⟩⟩
 ·exact .inl ⟨by simp; omega, .inr (.inr (.inr ⟨n1, n2, n3, by simpa using h4, by simpa using h5⟩))⟩
end Go.Proofs.YtdmlgbcgbddkoaaGreatDoor
set_option maxRecDepth 100000
namespace Go.Proofs.YtdmlgbcgbddkoaaGreatDoor
open Go.RowKit
open Pu Gp Ap
def mnyF (s : ByteArray) : Nat -> Nat -> Nat
 | 0, n => n
 | f + 1, n => if 0 <= fnd s (49 + (n : Int)) 0 then mnyF s f (n + 1) else n
def mny (s : ByteArray) : Nat := mnyF s 6 0
theorem rmany_any (C R : Int) (s : ByteArray) (hz : s.size <= 281474976710656) (w : World) : Calls Tryz.prog 50 #[ar C R s] w fun e w' => e = .returned (.int .i64 (mny s : Nat)) /\ Still w w' := by
 obtain ⟨T, eT⟩ : ∃ T, T = mny s := ⟨_, rfl⟩
 have HT := hid (show T = mnyF s 6 0 from eT)
 rw [<- eT]
 clear eT
 have p := newA_ab w C R s
 obtain ⟨c0, c1, c2, cf⟩ := p.cells
 simp only [newA] at c0 c1 c2 cf
 go_enter Tryz.func50, Tryz.ntmps50
 go_wp2_with fail
 go_loop [3] (fun v => ∃ n : Nat, n <= 6 /\ v = .int .i64 (n : Int) /\ T = mnyF s (6 - n) n) (fun v => 6 - (intOf v).toNat)
 case atStart => exact ⟨0, by omega, rfl, HT.out⟩
 case round =>
  obtain ⟨n, hn, rfl, hf⟩ := hrel
  by_cases hlt : n < 6
  ·rw [show 6 - n = (6 - (n + 1)) + 1 by omega, mnyF] at hf
   have hd := fnd_spec s (49 + (n : Int)) 0 (by omega)
   obtain ⟨F, eF⟩ : ∃ F, fnd s (49 + (n : Int)) 0 = F := ⟨_, rfl⟩
   have HC : Hid (∀ u : World, Calls Tryz.prog 52 #[.string s, .int .u8 (49 + (n : Int)), .int .i64 0] u fun e w' => e = .returned (.int .i64 F) /\ w' = u) := hid (fun u => by
    have h := rfind_any s (49 + (n : Int)) 0 hz (by omega) u
    rw [eF] at h
    exact h)
   rw [eF] at hf
   have wr8 : IntKind.u8.wrap (49 + (n : Int)) = 49 + (n : Int) := by rw [IntKind.wrap_u8]; omega
   clear hd eF
   by_cases hF : 0 <= F
   ·rw [if_pos hF] at hf
    have HF := hid hf
    clear hf
    go_wp2_with (go_at_call 52; refine (HC.out _).mono ?_; rintro e w' ⟨he, hw⟩; rw [he, hw]; clear he hw w')
    go_round
    case rel => exact ⟨n + 1, by omega, by go_num, HF.out⟩
    case measure => simp [intOf]; omega
   ·rw [if_neg hF] at hf
    have HF := hid (show ((n : Nat) : Int) = (T : Nat) by rw [hf])
    have hF' : decide (0 <= F) = false := decide_eq_false hF
    clear hf
    go_wp2_with (go_at_call 52; refine (HC.out _).mono ?_; rintro e w' ⟨he, hw⟩; rw [he, hw]; clear he hw w')
    go_ret
    exact ⟨ret_int HF.out, Still.alloc w _⟩
  ·obtain rfl : n = 6 := by omega
   have HF := hid (show ((6 : Nat) : Int) = (T : Nat) by rw [hf]; rfl)
   clear hf
   go_wp2_with fail
   go_ret
   exact ⟨ret_int HF.out, Still.alloc w _⟩
end Go.Proofs.YtdmlgbcgbddkoaaGreatDoor
set_option maxRecDepth 100000
namespace Go.Proofs.YtdmlgbcgbddkoaaGreatDoor
open Go.RowKit
open Pu Gp Ap
def edgB (C R : Int) (i : Nat) : Bool := decide ((i : Int) % C = 0) || decide ((i : Int) / C = 0) || decide ((i : Int) % C = C - 1) || decide ((i : Int) / C = R - 1)
def goodC (C R : Int) (s : ByteArray) (i : Nat) : Bool := byt s i == 35 || (!edgB C R i && okC (byt s i))
def goodN (C R : Int) (s : ByteArray) : Nat -> Bool
 | 0 => true
 | n + 1 => goodN C R s n && goodC C R s n
def spoN (s : ByteArray) : Nat -> Nat
 | 0 => 0
 | n + 1 => spoN s n + if byt s n = 42 then 1 else 0
def shaB (C R : Int) (s : ByteArray) : Bool := decide (3 <= C /\ C <= 32 /\ 3 <= R /\ R <= 24 /\ (s.size : Int) = C * R)
def forB (C R : Int) (s : ByteArray) : Bool := shaB C R s && (goodN C R s s.size && decide (spoN s s.size <= 16))
theorem good_more {C R : Int} {s : ByteArray} : ∀ {n m : Nat}, n <= m -> goodN C R s n = false -> goodN C R s m = false
  | n, 0, h, k => by obtain rfl : n = 0 := by omega
                     exact k
  | n, m + 1, h, k => by
    by_cases e : n = m + 1
    · subst e; exact k
    · rw [goodN, good_more (n := n) (m := m) (by omega) k]; rfl
theorem spo_le (s : ByteArray) : ∀ n, spoN s n <= n
 | 0 => Nat.le_refl _
 | n + 1 => by
  have := spo_le s n
  rw [spoN]
  split <;> omega
theorem rform_no (C R : Int) (s : ByteArray) (h : shaB C R s = false) (w : World) : Calls Tryz.prog 96 #[ar C R s] w fun e w' => e = .returned (.bool false) /\ Still w w' := by
  unfold shaB at h
  have h' := of_decide_eq_false h
  have hw : (decide (C < 3) = true) \/ (decide (C < 3) = false /\ decide (32 < C) = true) \/ (decide (C < 3) = false /\ decide (32 < C) = false /\ decide (R < 3) = true) \/ (decide (C < 3) = false /\ decide (32 < C) = false /\ decide (R < 3) = false /\ decide (24 < R) = true) \/
      (decide (C < 3) = false /\ decide (32 < C) = false /\ decide (R < 3) = false /\ decide (24 < R) = false /\ ((s.size : Int) != C * R) = true) := by
    by_cases x1 : C < 3
    · exact .inl (by simpa using x1)
    by_cases x2 : 32 < C
    · exact .inr (.inl ⟨by simpa using x1, by simpa using x2⟩)
    by_cases x3 : R < 3
    · exact .inr (.inr (.inl ⟨by simpa using x1, by simpa using x2, by simpa using x3⟩))
    by_cases x4 : 24 < R
    · exact .inr (.inr (.inr (.inl ⟨by simpa using x1, by simpa using x2, by simpa using x3, by simpa using x4⟩)))
    · refine .inr (.inr (.inr (.inr ⟨by simpa using x1, by simpa using x2, by simpa using x3, by simpa using x4, ?_⟩)))
      have : ¬ (s.size : Int) = C * R := fun e => h' ⟨by omega, by omega, by omega, by omega, e⟩
      simpa using this
  have hm : (3 <= C /\ C <= 32 /\ 3 <= R /\ R <= 24) -> 0 <= C * R /\ C * R <= 768 := by
    rintro ⟨a, b, c, d⟩
    have h1 : 0 <= C * R := Int.mul_nonneg (by omega) (by omega)
    have h2 : C * R <= 32 * 24 := Int.mul_le_mul b d (by omega) (by omega)
    omega
  clear h h'
  rcases hw with x1 | ⟨x1, x2⟩ | ⟨x1, x2, x3⟩ | ⟨x1, x2, x3, x4⟩ | ⟨x1, x2, x3, x4, x5⟩
  case inr.inr.inr.inr =>
    obtain ⟨m0, m1⟩ := hm ⟨by simpa using x1, by simpa using x2, by simpa using x3, by simpa using x4⟩
    clear hm
    go_enter Tryz.func96, Tryz.ntmps96
    go_wp2_with fail
    go_ret
    exact ⟨rfl, Still.alloc w _⟩
  all_goals
    clear hm
    go_enter Tryz.func96, Tryz.ntmps96
    go_wp2_with fail
    go_ret
    exact ⟨rfl, Still.alloc w _⟩
theorem edge_ways (C R q m : Int) : ((decide (m = 0) || decide (q = 0) || decide (m = C - 1) || decide (q = R - 1)) = true /\ ((m == 0) = true \/ ((m == 0) = false /\ (q == 0) = true) \/ ((m == 0) = false /\ (q == 0) = false /\ (m == C - 1) = true) \/ ((m == 0) = false /\ (q == 0) = false /\ (m == C - 1) = false /\ (q == R - 1) = true))) \/
  ((decide (m = 0) || decide (q = 0) || decide (m = C - 1) || decide (q = R - 1)) = false /\ (m == 0) = false /\ (q == 0) = false /\ (m == C - 1) = false /\ (q == R - 1) = false) := by
 by_cases h1 : m = 0
 ·exact .inl ⟨by simp [h1], .inl (by simpa using h1)⟩
 by_cases h2 : q = 0
 ·exact .inl ⟨by simp [h2], .inr (.inl ⟨by simpa using h1, by simpa using h2⟩)⟩
 by_cases h3 : m = C - 1
 ·exact .inl ⟨by simp [h3], .inr (.inr (.inl ⟨by simpa using h1, by simpa using h2, by simpa using h3⟩))⟩
 by_cases h4 : q = R - 1
 ·exact .inl ⟨by simp [h4], .inr (.inr (.inr ⟨by simpa using h1, by simpa using h2, by simpa using h3, by simpa using h4⟩))⟩
 ·exact .inr ⟨by simp [h1, h2, h3, h4], by simpa using h1, by simpa using h2, by simpa using h3, by simpa using h4⟩
set_option maxHeartbeats 8000000 in
set_option maxRecDepth 100000 in
theorem rform_in (C R : Int) (s : ByteArray) (h : shaB C R s = true) (w : World) : Calls Tryz.prog 96 #[ar C R s] w fun e w' => e = .returned (.bool (goodN C R s s.size && decide (spoN s s.size <= 16))) /\ Still w w' := by
 unfold shaB at h
 obtain ⟨h1, h2, h3, h4, h5⟩ := of_decide_eq_true h
 have m0 : 0 <= C * R := Int.mul_nonneg (by omega) (by omega)
 have m1 : C * R <= 768 := by
  have : C * R <= 32 * 24 := Int.mul_le_mul h2 h4 (by omega) (by omega)
  omega
 have hz : s.size <= 768 := by omega
 have h5' : ((s.size : Int) != C * R) = false := by simpa using h5
 obtain ⟨T, eT⟩ : ∃ T, T = (goodN C R s s.size && decide (spoN s s.size <= 16)) := ⟨_, rfl⟩
 have HT := hid eT
 have H5 := hid h5
 rw [<- eT]
 clear eT h h5
 have p := newA_ab w C R s
 obtain ⟨c0, c1, c2, cf⟩ := p.cells
 simp only [newA] at c0 c1 c2 cf
 go_enter Tryz.func96, Tryz.ntmps96
 go_wp2_with fail
 go_loop [3, 4] (fun v u => ∃ i : Nat, i <= s.size /\ u = .int .i64 (i : Int) /\ v = .int .i64 (spoN s i : Nat) /\ goodN C R s i = true) (fun _ u => s.size - (intOf u).toNat)
 case atStart => exact ⟨0, by omega, rfl, rfl, rfl⟩
 case round =>
  obtain ⟨i, hi, rfl, rfl, hg⟩ := hrel
  have sl := spo_le s i
  obtain ⟨S, eS⟩ : ∃ S, spoN s i = S := ⟨_, rfl⟩
  rw [eS] at sl ⊢
  have HS := hid eS
  clear eS
  by_cases hlt : i < s.size
  ·have e := byt_at s i hlt
   obtain ⟨b, eb⟩ : ∃ b, byt s i = b := ⟨_, rfl⟩
   rw [eb] at e
   have HB := hid eb
   clear eb
   obtain ⟨m, em⟩ : ∃ m, (i : Int) % C = m := ⟨_, rfl⟩
   obtain ⟨q, eq⟩ : ∃ q, (i : Int) / C = q := ⟨_, rfl⟩
   have b1 : 0 <= m /\ m < C := by rw [<- em]; exact ⟨Int.emod_nonneg _ (by omega), Int.emod_lt_of_pos _ (by omega)⟩
   have b2 : 0 <= q /\ q <= (i : Int) := by rw [<- eq]; exact ⟨Int.ediv_nonneg (by omega) (by omega), Int.ediv_le_self _ (by omega)⟩
   obtain ⟨b10, b11⟩ := b1
   obtain ⟨b20, b21⟩ := b2
   have et : (i : Int).tmod C = m := by rw [Int.tmod_eq_emod_of_nonneg (by omega), em]
   have ed : (i : Int).tdiv C = q := by rw [Int.tdiv_eq_ediv_of_nonneg (by omega), eq]
   have HE := hid (show edgB C R i = (decide (m = 0) || decide (q = 0) || decide (m = C - 1) || decide (q = R - 1)) by unfold edgB; rw [em, eq])
   have HG := hid hg
   clear hg
   rcases edge_ways C R q m with ⟨hE, hw⟩ | ⟨hE, x1, x2, x3, x4⟩
   ·have HE' := hid (HE.out.trans hE)
    clear hE HE
    by_cases h35 : b = 35
    ·have HN := hid (show goodN C R s (i + 1) = true /\ spoN s (i + 1) = S by
      rw [goodN, spoN, HG.out, goodC, HB.out, h35, HS.out]; exact ⟨rfl, rfl⟩)
     subst h35
     clear HB HG HE' HS
     rcases hw with x1 | ⟨x1, x2⟩ | ⟨x1, x2, x3⟩ | ⟨x1, x2, x3, x4⟩
     all_goals
      go_wp2_with fail
      go_round
      case rel => exact ⟨i + 1, by omega, by go_num, by rw [HN.out.2], HN.out.1⟩
      case measure => simp [intOf]; omega
    ·have n35 : (b != 35) = true := by simpa using h35
     have HF := hid (show false = T by
      rw [HT.out, good_more (n := i + 1) (m := s.size) (by omega) (by
       rw [goodN, HG.out, goodC, HB.out, HE'.out, show (b == 35) = false by simpa using h35]; rfl)]
      rfl)
     clear HB HG HE' HS h35
     rcases hw with x1 | ⟨x1, x2⟩ | ⟨x1, x2, x3⟩ | ⟨x1, x2, x3, x4⟩
     all_goals
      go_wp2_with fail
      go_ret
      exact ⟨ret_bool HF.out, Still.alloc w _⟩
   ·have HE' := hid (HE.out.trans hE)
    clear hE HE
    rcases sign_ways b with ⟨hok, hw⟩ | ⟨hok, n1, n2, n3, hw⟩
    ·have HN := hid (show goodN C R s (i + 1) = true by
      rw [goodN, HG.out, goodC, HB.out, HE'.out, hok]; simp)
     have HP := hid (show spoN s (i + 1) = S + if b = 42 then 1 else 0 by rw [spoN, HB.out, HS.out])
     clear HB HG HE' HS hok
     rcases hw with rfl | rfl | rfl | ⟨n1, n2, n3, n4, n5⟩
     case inr.inr.inl =>
      go_wp2_with fail
      go_round
      case rel => exact ⟨i + 1, by omega, by go_num, by rw [HP.out]; simp, HN.out⟩
      case measure => simp [intOf]; omega
     case inr.inr.inr =>
      have n6 : (b == 42) = false := by simpa using n3
      go_wp2_with fail
      go_round
      case rel => exact ⟨i + 1, by omega, by go_num, by rw [HP.out, if_neg (by simpa using n3)]; rfl, HN.out⟩
      case measure => simp [intOf]; omega
     all_goals
      go_wp2_with fail
      go_round
      case rel => exact ⟨i + 1, by omega, by go_num, by rw [HP.out]; rfl, HN.out⟩
      case measure => simp [intOf]; omega
    ·have HF := hid (show false = T by
      rw [HT.out, good_more (n := i + 1) (m := s.size) (by omega) (by
       rw [goodN, HG.out, goodC, HB.out, HE'.out, hok, show (b == 35) = false by simpa using n1]; rfl)]
      rfl)
     clear HB HG HE' HS hok
     rcases hw with n4 | ⟨n4, n5⟩
     all_goals
      go_wp2_with fail
      go_ret
      exact ⟨ret_bool HF.out, Still.alloc w _⟩
  ·have HF := hid (show decide (S <= 16) = T by
    rw [HT.out, show s.size = i by omega, hg, HS.out]; rfl)
   clear hg HS
   go_wp2_with fail
   go_ret
   exact ⟨ret_bool ((show decide ((S : Int) <= 16) = decide (S <= 16) from decide_eq_decide.2 (by omega)).trans HF.out), Still.alloc w _⟩
theorem rformed_any (C R : Int) (s : ByteArray) (w : World) : Calls Tryz.prog 96 #[ar C R s] w fun e w' => e = .returned (.bool (forB C R s)) /\ Still w w' := by
 unfold forB
 cases h : shaB C R s with
 | false => exact rform_no C R s h w
 | true =>
  rw [Bool.true_and]
  exact rform_in C R s h w
end Go.Proofs.YtdmlgbcgbddkoaaGreatDoor
set_option maxRecDepth 100000
namespace Go.Proofs.YtdmlgbcgbddkoaaGreatDoor
open Go.RowKit
open Pu Gp Ap
def rowB (I : Nat -> Bool) (n : Nat) : Array Value := ((List.range n).map fun i => Value.bool (I i)).toArray
theorem rowB_at (I : Nat -> Bool) {n i : Nat} (h : i < n) : (rowB I n)[i]? = some (.bool (I i)) := by simp [rowB, h]
theorem rowB_size (I : Nat -> Bool) (n : Nat) : (rowB I n).size = n := by simp [rowB]
def upd (I : Nat -> Bool) (k : Nat) : Nat -> Bool := fun j => if j = k then true else I j
theorem rowB_set (I : Nat -> Bool) {n k : Nat} (_h : k < n) : (rowB I n).setIfInBounds k (.bool true) = rowB (upd I k) n := by
 apply Array.ext_getElem?
 intro i
 by_cases hi : i < n
 ·rw [rowB_at _ hi]
  by_cases e : k = i
  ·subst e
   rw [Array.getElem?_setIfInBounds_self, rowB_size, if_pos hi]
   simp [upd]
  ·rw [Array.getElem?_setIfInBounds_ne e, rowB_at _ hi]
   simp [upd, show ¬ i = k from fun h => e h.symm]
 ·rw [Array.getElem?_eq_none (by rw [Array.size_setIfInBounds, rowB_size]; omega), Array.getElem?_eq_none (by rw [rowB_size]; omega)]
def Rb (w : World) (g n : Nat) (I : Nat -> Bool) : Prop := w.heap[g]? = some (.cells (rowB I n) 4 (0, 0))
theorem Rb.still {w w' : World} {g n : Nat} {I : Nat -> Bool} (h : Rb w g n I) (hs : Still w w') : Rb w' g n I := hs.kept_still h
theorem Rb.cell {w : World} {g n i : Nat} {I : Nat -> Bool} (h : Rb w g n I) (hi : i < n) : w.cell? ⟨g, i, none⟩ = some (.bool (I i)) := by
 rw [cell_of_row _ _ _ _ _ _ h, rowB_at _ hi]
theorem Rb.frozen {w : World} {g n : Nat} {I : Nat -> Bool} (h : Rb w g n I) (o : Nat) : w.frozen? ⟨g, o, none⟩ = false := frozen_of_row w g o _ _ h
theorem Rb.set {w : World} {g n k : Nat} {I : Nat -> Bool} (h : Rb w g n I) (hk : k < n) : Rb (w.setCell ⟨g, k, none⟩ (.bool true)) g n (upd I k) := by
 unfold Rb
 rw [heap_setCell_same w g k _ _ (.bool true) h, rowB_set I hk]
def cntB (I : Nat -> Bool) : Nat -> Nat
 | 0 => 0
 | n + 1 => cntB I n + if I n then 0 else 1
theorem cntB_congr {I J : Nat -> Bool} : ∀ {n : Nat}, (∀ i, i < n -> I i = J i) -> cntB I n = cntB J n
 | 0, _ => rfl
 | n + 1, h => by rw [cntB, cntB, cntB_congr (n := n) (fun i hi => h i (by omega)), h n (by omega)]
theorem cntB_upd {I : Nat -> Bool} {k : Nat} (hk : I k = false) : ∀ {n : Nat}, k < n -> cntB (upd I k) n + 1 = cntB I n
 | 0, h => by omega
 | n + 1, h => by
  rw [cntB, cntB]
  by_cases e : k = n
  ·subst e
   rw [cntB_congr (n := k) (J := I) (fun i hi => by simp [upd, show ¬ i = k by omega]), hk]
   simp [upd]
  ·have := cntB_upd hk (n := n) (by omega)
   simp only [upd, show ¬ n = k from fun h => e h.symm, if_false]
   omega
def cntW (w : World) (g : Nat) : Nat -> Nat
 | 0 => 0
 | n + 1 => cntW w g n + match w.cell? ⟨g, n, none⟩ with
  | some (.bool true) => 0
  | _ => 1
theorem cntW_eq {w : World} {g n : Nat} {I : Nat -> Bool} (h : Rb w g n I) : ∀ {m : Nat}, m <= n -> cntW w g m = cntB I m
 | 0, _ => rfl
 | m + 1, hm => by
  rw [cntW, cntB, cntW_eq h (by omega), h.cell (by omega)]
  cases I m <;> rfl
def nbB (C : Nat) (I : Nat -> Bool) (i : Nat) : Bool := I (i - 1) || (I (i + 1) || (I (i - C) || I (i + C)))
def Shut (C N : Nat) (s : ByteArray) (I : Nat -> Bool) : Prop := ∀ i, C <= i -> i + C < N -> byt s i ≠ 35 -> nbB C I i = true -> I i = true
def Rch (C N : Nat) (s : ByteArray) (f i : Nat) : Prop := ∀ I : Nat -> Bool, I f = true -> Shut C N s I -> I i = true
theorem rch_from (C N : Nat) (s : ByteArray) (f : Nat) : Rch C N s f f := fun _ h _ => h
theorem rch_step {C N : Nat} {s : ByteArray} {f i : Nat} {I : Nat -> Bool} (hI : ∀ j, I j = true -> Rch C N s f j) (h1 : C <= i) (h2 : i + C < N) (h3 : byt s i ≠ 35) (h4 : nbB C I i = true) : Rch C N s f i := by
 intro J hf hJ
 refine hJ i h1 h2 h3 ?_
 unfold nbB at h4 ⊢
 simp only [Bool.or_eq_true] at h4 ⊢
 rcases h4 with h | h | h | h
 ·exact .inl (hI _ h J hf hJ)
 ·exact .inr (.inl (hI _ h J hf hJ))
 ·exact .inr (.inr (.inl (hI _ h J hf hJ)))
 ·exact .inr (.inr (.inr (hI _ h J hf hJ)))
def IsR (C N : Nat) (s : ByteArray) (f : Nat) (I : Nat -> Bool) : Prop := I f = true /\ Shut C N s I /\ ∀ i, I i = true -> Rch C N s f i
theorem isR_one {C N : Nat} {s : ByteArray} {f : Nat} {I J : Nat -> Bool} (h : IsR C N s f I) (k : IsR C N s f J) (i : Nat) : I i = J i := by
 cases e : I i with
 | true => exact (h.2.2 i e J k.1 k.2.1).symm
 | false =>
  cases e2 : J i with
  | false => rfl
  | true =>
   rw [k.2.2 i e2 I h.1 h.2.1] at e
   cases e
end Go.Proofs.YtdmlgbcgbddkoaaGreatDoor
set_option maxRecDepth 100000
namespace Go.Proofs.YtdmlgbcgbddkoaaGreatDoor
open Go.RowKit
open Pu Gp Ap
theorem made_row (n : Nat) : madeCells #[Value.bool false] (n * 1) = rowB (fun _ => false) n := by
 apply Array.ext_getElem?
 intro i
 by_cases h : i < n
 ·rw [rowB_at _ h]; simp [madeCells, h, Nat.mod_one]
 ·rw [Array.getElem?_eq_none (by rw [size_madeCells]; omega), Array.getElem?_eq_none (by rw [rowB_size]; omega)]
theorem make_row (w : World) (n : Nat) (h : n <= 281474976710656) : (Instr.makeSlice 151 (.int .i64 (n : Int)) (.int .i64 (n : Int))).run Tryz.prog w = .ok (.slice (some ⟨w.heap.size, 0, none⟩) n n) (w.alloc (.cells (rowB (fun _ => false) n) 4)) := by
 obtain ⟨i, hi, hz, h1, h2⟩ : ∃ i, Tryz.prog.info? 4 = some i /\ i.zero = some (.bool false) /\ i.size = 1 /\ i.bytes = 1 := ⟨_, rfl, rfl, rfl, rfl⟩
 have hr := run_make (P := Tryz.prog) w 151 4 i (.bool false) Tryz.underlying151 hi hz .i64 .i64 (n : Int) (n : Int) (by omega) (by omega) (by rw [h2]; omega) (by omega)
 rw [h1] at hr
 simp only [Int.toNat_natCast] at hr
 rw [hr, <- made_row]
 rfl
def boolN (v : Value) : Nat := match v with
 | .bool true => 1
 | _ => 0
set_option maxHeartbeats 8000000 in
set_option maxRecDepth 100000 in
theorem rreach_any (C : Nat) (R : Int) (s : ByteArray) (f : Nat) (hC : 1 <= C) (hC2 : C <= 32) (hz : s.size <= 768) (hf : f < s.size) (w : World) :
    Calls Tryz.prog 97 #[ar (C : Int) R s, .int .i64 (f : Int)] w fun e w' => ∃ g I, e = .returned (.slice (some ⟨g, 0, none⟩) s.size s.size) /\ IsR C s.size s f I /\ Rb w' g s.size I /\ Still w w' := by
  have hmk := fun u => make_row u s.size (by omega)
  have p := (newA_ab w C R s).still (Still.alloc (newA w C R s) (.cells (rowB (fun _ => false) s.size) 4))
  have q : Rb ((newA w C R s).alloc (.cells (rowB (fun _ => false) s.size) 4)) (w.heap.size + 1) s.size (fun _ => false) := by
    have := heap_alloc_new (newA w C R s) (.cells (rowB (fun _ => false) s.size) 4)
    rw [size_alloc] at this
    exact this
  have HS0 := hid ((Still.alloc w (.cells #[.int .i64 (C : Int), .int .i64 R, .string s] 24)).trans (Still.alloc (newA w C R s) (.cells (rowB (fun _ => false) s.size) 4)))
  obtain ⟨c0, c1, c2, cf⟩ := (newA_ab w C R s).cells
  have c3 := q.cell hf
  have c4 := q.frozen f
  simp only [newA] at c0 c1 c2 cf c3 c4 p q HS0
  have hfi : (f : Int) < (s.size : Int) := by omega
  go_enter Tryz.func97, Tryz.ntmps97
  go_wp2_with fail
  have p2 : Ab ((w.alloc (.cells #[.int .i64 (C : Int), .int .i64 R, .string s] 24)).alloc (.cells ((rowB (fun _ => false) s.size).setIfInBounds f (.bool true)) 4)) w.heap.size C R s :=
    (newA_ab w C R s).still (Still.alloc _ _)
  have q2 : Rb ((w.alloc (.cells #[.int .i64 (C : Int), .int .i64 R, .string s] 24)).alloc (.cells ((rowB (fun _ => false) s.size).setIfInBounds f (.bool true)) 4)) (w.heap.size + 1) s.size (upd (fun _ => false) f) := by
    have := heap_alloc_new (newA w C R s) (.cells ((rowB (fun _ => false) s.size).setIfInBounds f (.bool true)) 4)
    rw [size_alloc, rowB_set _ hf] at this
    rw [rowB_set _ hf]
    exact this
  have HS2 := hid ((Still.alloc w (.cells #[.int .i64 (C : Int), .int .i64 R, .string s] 24)).trans (Still.alloc (newA w C R s) (.cells ((rowB (fun _ => false) s.size).setIfInBounds f (.bool true)) 4)))
  clear p q HS0 c0 c1 c2 cf c3 c4 hmk
  go_loopw [6] (fun v wr => ∃ (I : Nat -> Bool) (b : Bool), v = .bool b /\ Ab wr w.heap.size C R s /\ Rb wr (w.heap.size + 1) s.size I /\ (I f = true /\ ∀ i, I i = true -> Rch C s.size s f i) /\ (b = false -> Shut C s.size s I) /\ Still w wr) (fun v wr => 2 * cntW wr (w.heap.size + 1) s.size + boolN v)
  case atStart => exact ⟨upd (fun _ => false) f, true, rfl, p2, q2, ⟨by simp [upd], fun i hi => by
      by_cases e : i = f
      · subst e; exact rch_from C s.size s i
      · simp [upd, e] at hi⟩, fun h => (by cases h), HS2.out⟩
  case round =>
    obtain ⟨I, b, rfl, a3, r3, hI, hb, hs⟩ := hrel
    have HS3 := hid hs
    clear hs p2 q2 HS2
    cases b with
    | false =>
      have HR := hid (show IsR C s.size s f I from ⟨hI.1, hb rfl, hI.2⟩)
      clear hb hI
      go_wp2_with fail
      go_ret
      exact ⟨_, I, rfl, HR.out, r3, HS3.out⟩
    | true =>
      have HI := hid hI
      have HM := hid (cntW_eq r3 (Nat.le_refl _))
      clear hI hb
      obtain ⟨c0, c1, c2, cf⟩ := a3.cells
      go_wp2_with fail
      clear c0 c1 c2 cf
      go_loopw [6, 7] (fun v u wr => ∃ (i : Nat) (J : Nat -> Bool) (b : Bool), C <= i /\ i <= s.size + C /\ u = .int .i64 (i : Int) /\ v = .bool b /\ Ab wr w.heap.size C R s /\ Rb wr (w.heap.size + 1) s.size J /\ (J f = true /\ ∀ j, J j = true -> Rch C s.size s f j) /\
          (b = false -> (∀ j, J j = I j) /\ ∀ j, C <= j -> j < i -> byt s j ≠ 35 -> nbB C J j = true -> J j = true) /\ (b = true -> cntB J s.size < cntB I s.size) /\ Still w wr) (fun _ u _ => s.size + C - (intOf u).toNat)
      case atStart => exact ⟨C, I, false, by omega, by omega, rfl, rfl, a3, r3, HI.out, fun _ => ⟨fun _ => rfl, fun j h1 h2 => by omega⟩, fun h => (by cases h), HS3.out⟩
      case round =>
        obtain ⟨i, J, b, i1, i3, rfl, rfl, a4, r4, hJ0, hb, hc, hs⟩ := hrel
        have HJ := hid hJ0
        have HB := hid hb
        have HC := hid hc
        have HS4 := hid hs
        clear hJ0 hb hc hs
        obtain ⟨c0, c1, c2, cf⟩ := a4.cells
        by_cases i2 : i + C < s.size
        · have e := byt_at s i (by omega)
          obtain ⟨y, ey⟩ : ∃ y, byt s i = y := ⟨_, rfl⟩
          rw [ey] at e
          have k0 := r4.cell (i := i) (by omega)
          have k1 := r4.cell (i := i - 1) (by omega)
          have k2 := r4.cell (i := i + 1) (by omega)
          have k3 := r4.cell (i := i - C) (by omega)
          have k4 := r4.cell (i := i + C) (by omega)
          have z1 : (i : Int) - 1 = ((i - 1 : Nat) : Int) := by omega
          have z3 : (i : Int) - (C : Int) = ((i - C : Nat) : Int) := by omega
          have i2' : ((i + C : Nat) : Int) < (s.size : Int) := by omega
          have i5 : (i : Int) < (s.size : Int) := by omega
          cases hJ : J i with
          | true =>
            rw [hJ] at k0
            have HK := hid (show byt s i ≠ 35 -> nbB C J i = true -> J i = true from fun _ _ => hJ)
            clear hJ ey
            go_wp2_with fail
            go_roundw
            case rel => exact ⟨i + 1, J, b, by omega, by omega, by go_num, rfl, a4, r4, HJ.out, fun h => ⟨(HB.out h).1, fun j h1 h2 => by
                by_cases e : j = i
                · subst e; exact HK.out
                · exact (HB.out h).2 j h1 (by omega)⟩, HC.out, HS4.out⟩
            case measure => simp [intOf]; omega
          | false =>
            rw [hJ] at k0
            by_cases h35 : y = 35
            · have n35 : (y != 35) = false := by simpa using h35
              have HK := hid (show byt s i ≠ 35 -> nbB C J i = true -> J i = true from fun h => absurd (ey.trans h35) h)
              clear hJ ey h35
              go_wp2_with fail
              go_roundw
              case rel => exact ⟨i + 1, J, b, by omega, by omega, by go_num, rfl, a4, r4, HJ.out, fun h => ⟨(HB.out h).1, fun j h1 h2 => by
                  by_cases e : j = i
                  · subst e; exact HK.out
                  · exact (HB.out h).2 j h1 (by omega)⟩, HC.out, HS4.out⟩
              case measure => simp [intOf]; omega
            · have n35 : (y != 35) = true := by simpa using h35
              have h35 : byt s i ≠ 35 := fun h => h35 (ey.symm.trans h)
              clear ey
              cases h1 : J (i - 1) with
              | true =>
                rw [h1] at k1
                have HN := hid (show nbB C J i = true by unfold nbB; rw [h1]; rfl)
                have HV := hid (show cntB (upd J i) s.size < cntB I s.size by
                  have h1 := cntB_upd (k := i) hJ (n := s.size) (by omega)
                  cases hb : b with
                  | true => have := HC.out hb; omega
                  | false =>
                    have := cntB_congr (n := s.size) (fun j _ => (HB.out hb).1 j)
                    omega)
                have HR := hid (show ∀ j, upd J i j = true -> Rch C s.size s f j from fun j hj => by
                  by_cases e : j = i
                  · subst e; exact rch_step HJ.out.2 i1 i2 h35 HN.out
                  · exact HJ.out.2 j (by simpa [upd, e] using hj))
                have HF := hid (show upd J i f = true by
                  unfold upd
                  split
                  · rfl
                  · exact HJ.out.1)
                have fz := r4.frozen i
                have r5 := r4.set (k := i) (by omega)
                have a5 : Ab (wr.setCell ⟨w.heap.size + 1, i, none⟩ (.bool true)) w.heap.size C R s := by
                  unfold Ab
                  rw [heap_setCell_other _ _ _ _ (show w.heap.size ≠ w.heap.size + 1 by omega)]
                  exact a4
                have HS5 := hid (Fr.setCell HS4.out ⟨w.heap.size + 1, i, none⟩ (.bool true) (.inr (show w.heap.size <= w.heap.size + 1 by omega)))
                clear h35
                go_wp2_with fail
                go_roundw
                case rel => exact ⟨i + 1, upd J i, true, by omega, by omega, by go_num, rfl, a5, r5, ⟨HF.out, HR.out⟩, fun h => (by cases h), fun _ => HV.out, HS5.out⟩
                case measure => simp [intOf]; omega
              | false =>
                rw [h1] at k1
                cases h2 : J (i + 1) with
                | true =>
                  rw [h2] at k2
                  have HN := hid (show nbB C J i = true by unfold nbB; rw [h1, h2]; rfl)
                  have HV := hid (show cntB (upd J i) s.size < cntB I s.size by
                    have h1 := cntB_upd (k := i) hJ (n := s.size) (by omega)
                    cases hb : b with
                    | true => have := HC.out hb; omega
                    | false =>
                      have := cntB_congr (n := s.size) (fun j _ => (HB.out hb).1 j)
                      omega)
                  have HR := hid (show ∀ j, upd J i j = true -> Rch C s.size s f j from fun j hj => by
                    by_cases e : j = i
                    · subst e; exact rch_step HJ.out.2 i1 i2 h35 HN.out
                    · exact HJ.out.2 j (by simpa [upd, e] using hj))
                  have HF := hid (show upd J i f = true by
                    unfold upd
                    split
                    · rfl
                    · exact HJ.out.1)
                  have fz := r4.frozen i
                  have r5 := r4.set (k := i) (by omega)
                  have a5 : Ab (wr.setCell ⟨w.heap.size + 1, i, none⟩ (.bool true)) w.heap.size C R s := by
                    unfold Ab
                    rw [heap_setCell_other _ _ _ _ (show w.heap.size ≠ w.heap.size + 1 by omega)]
                    exact a4
                  have HS5 := hid (Fr.setCell HS4.out ⟨w.heap.size + 1, i, none⟩ (.bool true) (.inr (show w.heap.size <= w.heap.size + 1 by omega)))
                  clear h35
                  go_wp2_with fail
                  go_roundw
                  case rel => exact ⟨i + 1, upd J i, true, by omega, by omega, by go_num, rfl, a5, r5, ⟨HF.out, HR.out⟩, fun h => (by cases h), fun _ => HV.out, HS5.out⟩
                  case measure => simp [intOf]; omega
                | false =>
                  rw [h2] at k2
                  cases h3 : J (i - C) with
                  | true =>
                    rw [h3] at k3
                    have HN := hid (show nbB C J i = true by unfold nbB; rw [h1, h2, h3]; rfl)
                    have HV := hid (show cntB (upd J i) s.size < cntB I s.size by
                      have h1 := cntB_upd (k := i) hJ (n := s.size) (by omega)
                      cases hb : b with
                      | true => have := HC.out hb; omega
                      | false =>
                        have := cntB_congr (n := s.size) (fun j _ => (HB.out hb).1 j)
                        omega)
                    have HR := hid (show ∀ j, upd J i j = true -> Rch C s.size s f j from fun j hj => by
                      by_cases e : j = i
                      · subst e; exact rch_step HJ.out.2 i1 i2 h35 HN.out
                      · exact HJ.out.2 j (by simpa [upd, e] using hj))
                    have HF := hid (show upd J i f = true by
                      unfold upd
                      split
                      · rfl
                      · exact HJ.out.1)
                    have fz := r4.frozen i
                    have r5 := r4.set (k := i) (by omega)
                    have a5 : Ab (wr.setCell ⟨w.heap.size + 1, i, none⟩ (.bool true)) w.heap.size C R s := by
                      unfold Ab
                      rw [heap_setCell_other _ _ _ _ (show w.heap.size ≠ w.heap.size + 1 by omega)]
                      exact a4
                    have HS5 := hid (Fr.setCell HS4.out ⟨w.heap.size + 1, i, none⟩ (.bool true) (.inr (show w.heap.size <= w.heap.size + 1 by omega)))
                    clear h35
                    go_wp2_with fail
                    go_roundw
                    case rel => exact ⟨i + 1, upd J i, true, by omega, by omega, by go_num, rfl, a5, r5, ⟨HF.out, HR.out⟩, fun h => (by cases h), fun _ => HV.out, HS5.out⟩
                    case measure => simp [intOf]; omega
                  | false =>
                    rw [h3] at k3
                    cases h4 : J (i + C) with
                    | true =>
                      rw [h4] at k4
                      have HN := hid (show nbB C J i = true by unfold nbB; rw [h1, h2, h3, h4]; rfl)
                      have HV := hid (show cntB (upd J i) s.size < cntB I s.size by
                        have h1 := cntB_upd (k := i) hJ (n := s.size) (by omega)
                        cases hb : b with
                        | true => have := HC.out hb; omega
                        | false =>
                          have := cntB_congr (n := s.size) (fun j _ => (HB.out hb).1 j)
                          omega)
                      have HR := hid (show ∀ j, upd J i j = true -> Rch C s.size s f j from fun j hj => by
                        by_cases e : j = i
                        · subst e; exact rch_step HJ.out.2 i1 i2 h35 HN.out
                        · exact HJ.out.2 j (by simpa [upd, e] using hj))
                      have HF := hid (show upd J i f = true by
                        unfold upd
                        split
                        · rfl
                        · exact HJ.out.1)
                      have fz := r4.frozen i
                      have r5 := r4.set (k := i) (by omega)
                      have a5 : Ab (wr.setCell ⟨w.heap.size + 1, i, none⟩ (.bool true)) w.heap.size C R s := by
                        unfold Ab
                        rw [heap_setCell_other _ _ _ _ (show w.heap.size ≠ w.heap.size + 1 by omega)]
                        exact a4
                      have HS5 := hid (Fr.setCell HS4.out ⟨w.heap.size + 1, i, none⟩ (.bool true) (.inr (show w.heap.size <= w.heap.size + 1 by omega)))
                      clear h35
                      go_wp2_with fail
                      go_roundw
                      case rel => exact ⟨i + 1, upd J i, true, by omega, by omega, by go_num, rfl, a5, r5, ⟨HF.out, HR.out⟩, fun h => (by cases h), fun _ => HV.out, HS5.out⟩
                      case measure => simp [intOf]; omega
                    | false =>
                      rw [h4] at k4
                      have HK := hid (show byt s i ≠ 35 -> nbB C J i = true -> J i = true from fun _ h => by unfold nbB at h; rw [h1, h2, h3, h4] at h; cases h)
                      clear hJ h1 h2 h3 h4 h35
                      go_wp2_with fail
                      go_roundw
                      case rel => exact ⟨i + 1, J, b, by omega, by omega, by go_num, rfl, a4, r4, HJ.out, fun h => ⟨(HB.out h).1, fun j h1 h2 => by
                          by_cases e : j = i
                          · subst e; exact HK.out
                          · exact (HB.out h).2 j h1 (by omega)⟩, HC.out, HS4.out⟩
                      case measure => simp [intOf]; omega
        · have HE := hid (show (b = false -> Shut C s.size s J) from fun h => fun j h1 h2 h3 h4 => (HB.out h).2 j h1 (by omega) h3 h4)
          go_wp2_with fail
          go_roundw
          case rel => exact ⟨J, b, rfl, a4, r4, HJ.out, HE.out, HS4.out⟩
          case measure =>
            have h1 := HM.out
            have h2 := cntW_eq r4 (Nat.le_refl _)
            rw [h2, h1]
            cases b with
            | true => have := HC.out rfl; simp [boolN]; omega
            | false =>
              have := cntB_congr (n := s.size) (fun j _ => (HB.out rfl).1 j)
              simp [boolN]; omega
end Go.Proofs.YtdmlgbcgbddkoaaGreatDoor
set_option maxRecDepth 100000
namespace Go.Proofs.YtdmlgbcgbddkoaaGreatDoor
open Go.RowKit
open Pu Gp Ap
def okS (n : Nat) (I : Nat -> Bool) (s : ByteArray) (i : Nat) : Bool := byt s i == 35 || (byt s i == 46 || (I i && (byt s i == 42 || (decide (byt s i - 48 <= (n : Int)) && decide (fnd s (byt s i) (i + 1) < 0)))))
def allS (n : Nat) (I : Nat -> Bool) (s : ByteArray) : Nat -> Bool
 | 0 => true
 | k + 1 => allS n I s k && okS n I s k
theorem allS_more {n : Nat} {I : Nat -> Bool} {s : ByteArray} : ∀ {k m : Nat}, k <= m -> allS n I s k = false -> allS n I s m = false
  | k, 0, h, e => by obtain rfl : k = 0 := by omega
                     exact e
  | k, m + 1, h, e => by
    by_cases x : k = m + 1
    · subst x; exact e
    · rw [allS, allS_more (k := k) (m := m) (by omega) e]; rfl
theorem allS_congr {n : Nat} {I J : Nat -> Bool} {s : ByteArray} (h : ∀ i, I i = J i) : ∀ k, allS n I s k = allS n J s k
 | 0 => rfl
 | k + 1 => by rw [allS, allS, allS_congr h k]; unfold okS; rw [h k]
def ChkV (C R : Int) (s : ByteArray) (v : Int) : Prop :=
 (forB C R s = false /\ v = 61) \/ (forB C R s = true /\ mny s < 2 /\ v = 62) \/
 (forB C R s = true /\ 2 <= mny s /\ ∃ (f : Nat) (I : Nat -> Bool), fnd s 49 0 = (f : Int) /\ IsR C.toNat s.size s f I /\ v = if allS (mny s) I s s.size then 0 else 62)
theorem chkV_one {C R : Int} {s : ByteArray} {v u : Int} (h : ChkV C R s v) (k : ChkV C R s u) : v = u := by
 rcases h with ⟨h1, rfl⟩ | ⟨h1, h2, rfl⟩ | ⟨h1, h2, f, I, h3, h4, rfl⟩ <;> rcases k with ⟨k1, rfl⟩ | ⟨k1, k2, rfl⟩ | ⟨k1, k2, g, J, k3, k4, rfl⟩
 ·rfl
 ·rw [h1] at k1; cases k1
 ·rw [h1] at k1; cases k1
 ·rw [h1] at k1; cases k1
 ·rfl
 ·omega
 ·rw [h1] at k1; cases k1
 ·omega
 ·have e : f = g := by omega
  subst e
  rw [allS_congr (isR_one h4 k4)]
theorem mny_le (s : ByteArray) : ∀ f n, mnyF s f n <= n + f
 | 0, n => by simp [mnyF]
 | f + 1, n => by
  rw [mnyF]
  split
  ·have := mny_le s f (n + 1); omega
  ·omega
theorem mny_one {s : ByteArray} (h : 1 <= mny s) : ∃ f : Nat, fnd s 49 0 = (f : Int) /\ f < s.size := by
 unfold mny at h
 rw [mnyF] at h
 by_cases k : 0 <= fnd s (49 + ((0 : Nat) : Int)) 0
 ·rcases fnd_spec s 49 0 (by omega) with ⟨e, _⟩ | ⟨f, e, _, h2, _⟩
  ·rw [show (49 : Int) + ((0 : Nat) : Int) = 49 by omega, e] at k
   omega
  ·exact ⟨f, e, h2⟩
 ·rw [if_neg k] at h
  omega
theorem goodN_iff {C R : Int} {s : ByteArray} : ∀ {n : Nat}, goodN C R s n = true -> ∀ i, i < n -> goodC C R s i = true
 | 0, _, i, hi => by omega
 | n + 1, h, i, hi => by
  rw [goodN, Bool.and_eq_true] at h
  by_cases e : i = n
  ·subst e; exact h.2
  ·exact goodN_iff h.1 i (by omega)
theorem form_sign {C R : Int} {s : ByteArray} (h : forB C R s = true) {i : Nat} (hi : i < s.size) : byt s i = 35 \/ byt s i = 46 \/ byt s i = 42 \/ (49 <= byt s i /\ byt s i <= 54) := by
 unfold forB at h
 simp only [Bool.and_eq_true] at h
 have := goodN_iff h.2.1 i hi
 unfold goodC okC at this
 simp only [Bool.or_eq_true, Bool.and_eq_true, beq_iff_eq, decide_eq_true_eq] at this
 omega
theorem form_shape {C R : Int} {s : ByteArray} (h : forB C R s = true) : 3 <= C /\ C <= 32 /\ 3 <= R /\ R <= 24 /\ (s.size : Int) = C * R /\ s.size <= 768 := by
 unfold forB shaB at h
 simp only [Bool.and_eq_true] at h
 obtain ⟨h1, h2, h3, h4, h5⟩ := of_decide_eq_true h.1
 have : C * R <= 32 * 24 := Int.mul_le_mul h2 h4 (by omega) (by omega)
 exact ⟨h1, h2, h3, h4, h5, by omega⟩
theorem rformed_is (C R : Int) (s : ByteArray) {t : Bool} (h : forB C R s = t) (w : World) : Calls Tryz.prog 96 #[ar C R s] w fun e w' => e = .returned (.bool t) /\ Still w w' := by
 have := rformed_any C R s w
 rw [h] at this
 exact this
theorem rchk1 (C R : Int) (s : ByteArray) (h : forB C R s = false) (w : World) : Calls Tryz.prog 49 #[ar C R s] w fun e w' => e = .returned (.int .i64 61) /\ Still w w' := by
 go_enter Tryz.func49, Tryz.ntmps49
 go_wp2_with fail
 refine (rformed_is C R s h _).mono ?_
 rintro e w1 ⟨rfl, h1⟩
 go_wp2_with fail
 go_ret
 exact ⟨rfl, (Still.alloc w _).trans h1⟩
theorem rchk2 (C R : Int) (s : ByteArray) (hz : s.size <= 281474976710656) (h : forB C R s = true) (hm : mny s < 2) (w : World) : Calls Tryz.prog 49 #[ar C R s] w fun e w' => e = .returned (.int .i64 62) /\ Still w w' := by
 have p := newA_ab w C R s
 have H := hid h
 clear h
 go_enter Tryz.func49, Tryz.ntmps49
 go_wp2_with fail
 refine (rformed_is C R s H.out _).mono ?_
 rintro e w1 ⟨rfl, h1⟩
 obtain ⟨c0, c1, c2, cf⟩ := (p.still h1).cells
 have HS1 := hid ((Still.alloc w (.cells #[.int .i64 C, .int .i64 R, .string s] 24)).trans h1)
 clear p h1
 go_wp2_with fail
 refine (rmany_any C R s hz _).mono ?_
 rintro e w2 ⟨rfl, h2⟩
 have HS2 := hid (HS1.out.trans h2)
 clear HS1 h2 c0 c1 c2 cf
 go_wp2_with fail
 go_ret
 exact ⟨rfl, HS2.out⟩
set_option maxHeartbeats 8000000 in
set_option maxRecDepth 100000 in
theorem rchk3 (C : Nat) (R : Int) (s : ByteArray) (h : forB (C : Int) R s = true) (hm : 2 <= mny s) (f : Nat) (hf : fnd s 49 0 = (f : Int)) (hfs : f < s.size) (w : World) :
  Calls Tryz.prog 49 #[ar (C : Int) R s] w fun e w' => ∃ I, IsR C s.size s f I /\ e = .returned (.int .i64 (if allS (mny s) I s s.size then 0 else 62)) /\ Still w w' := by
 obtain ⟨q1, q2, q3, q4, q5, q6⟩ := form_shape h
 have HG := hid (fun i (hi : i < s.size) => form_sign h hi)
 have p := newA_ab w C R s
 have H := hid h
 obtain ⟨n, en⟩ : ∃ n, mny s = n := ⟨_, rfl⟩
 have nl : n <= 6 := by rw [<- en]; exact mny_le s 6 0
 have HN := hid en
 rw [en] at hm ⊢
 have HM : Hid (∀ u : World, Calls Tryz.prog 50 #[ar (C : Int) R s] u fun e w' => e = .returned (.int .i64 (n : Int)) /\ Still u w') := hid (fun u => by
  have := rmany_any C R s (by omega) u
  rw [en] at this
  exact this)
 have HQ : Hid (∀ u : World, Calls Tryz.prog 52 #[.string s, .int .u8 49, .int .i64 0] u fun e w' => e = .returned (.int .i64 (f : Int)) /\ w' = u) := hid (fun u => by
  have := rfind_any s 49 0 (by omega) (by omega) u
  rw [hf] at this
  exact this)
 clear h en hf
 go_enter Tryz.func49, Tryz.ntmps49
 go_wp2_with fail
 refine (rformed_is C R s H.out _).mono ?_
 rintro e w1 ⟨rfl, h1⟩
 have p1 := p.still h1
 have HS1 := hid ((Still.alloc w (.cells #[.int .i64 (C : Int), .int .i64 R, .string s] 24)).trans h1)
 clear p h1
 obtain ⟨c0, c1, c2, cf⟩ := p1.cells
 go_wp2_with fail
 refine (HM.out _).mono ?_
 rintro e w2 ⟨rfl, h2⟩
 have p2 := p1.still h2
 have HS2 := hid (HS1.out.trans h2)
 clear p1 HS1 h2 c0 c1 c2 cf HM
 have c0 := Cl.cell p2.cells.1
 have c1 := Cl.cell p2.cells.2.1
 have c2 := Cl.cell p2.cells.2.2.1
 have hne := Aft.here w2
 go_wp2_with fail
 refine region_rest 4 (by kernel_rfl) (by kernel_rfl) ?_
 simp only [List.take_succ_cons, List.take_zero, List.drop_succ_cons, List.drop_zero]
 repeat (go_big_quiet_step ((go_at_call 52; exact Calls.cl_same (HQ.out _))))
 refine wpQuiet_nil ?_
 intro w3 h3
 have p3 := p2.still h3
 have HS3 := hid (HS2.out.trans h3)
 clear p2 HS2 h3 c0 c1 c2 hne HQ
 go_wp2_with fail
 refine (rreach_any C R s f (by omega) (by omega) q6 hfs _).mono ?_
 rintro e w4 ⟨g, I, rfl, hI, r4, h4⟩
 have p4 := p3.still h4
 have HS4 := hid (HS3.out.trans h4)
 have HI := hid hI
 clear p3 HS3 h4 hI
 obtain ⟨c0, c1, c2, cf⟩ := p4.cells
 go_wp2_with fail
 go_loop [6] (fun v => ∃ i : Nat, i <= s.size /\ v = .int .i64 (i : Int) /\ allS n I s i = true) (fun v => s.size - (intOf v).toNat)
 case atStart => exact ⟨0, by omega, rfl, rfl⟩
 case round =>
  obtain ⟨i, hi, rfl, ha⟩ := hrel
  by_cases hlt : i < s.size
  ·have e := byt_at s i hlt
   have k0 := r4.cell hlt
   have hg := HG.out i hlt
   have hok : allS n I s (i + 1) = okS n I s i := by rw [allS, ha]; rfl
   have HX : Hid (okS n I s i = false -> (62 : Int) = if allS n I s s.size then 0 else 62) := hid (fun h => by
    rw [allS_more (k := i + 1) (m := s.size) (by omega) (hok.trans h)]
    rfl)
   obtain ⟨F, eF⟩ : ∃ F, fnd s (byt s i) (i + 1) = F := ⟨_, rfl⟩
   have HC : Hid (∀ u : World, Calls Tryz.prog 52 #[.string s, .int .u8 (byt s i), .int .i64 ((i : Int) + 1)] u fun e w' => e = .returned (.int .i64 F) /\ w' = u) := hid (fun u => by
    have h := rfind_any s (byt s i) (i + 1) (by omega) (by omega) u
    rw [eF, show ((i + 1 : Nat) : Int) = (i : Int) + 1 by omega] at h
    exact h)
   have HD : Hid (okS n I s i = (byt s i == 35 || (byt s i == 46 || (I i && (byt s i == 42 || (decide (byt s i - 48 <= (n : Int)) && decide (F < 0))))))) := hid (by unfold okS; rw [eF])
   obtain ⟨b, eb⟩ : ∃ b, byt s i = b := ⟨_, rfl⟩
   rw [eb] at e hg HC HD
   have HO := hid hok
   clear hok ha eF eb
   rcases hg with rfl | rfl | hg
   ·have HF := hid (show allS n I s (i + 1) = true by rw [HO.out, HD.out]; rfl)
    clear k0 HC HD HO HX
    go_wp2_with fail
    go_round
    case rel => exact ⟨i + 1, by omega, by go_num, HF.out⟩
    case measure => simp [intOf]; omega
   ·have HF := hid (show allS n I s (i + 1) = true by rw [HO.out, HD.out]; rfl)
    clear k0 HC HD HO HX
    go_wp2_with fail
    go_round
    case rel => exact ⟨i + 1, by omega, by go_num, HF.out⟩
    case measure => simp [intOf]; omega
   ·cases hI : I i with
    | false =>
     rw [hI] at k0
     have HF := hid (HX.out (by rw [HD.out, hI]; rcases hg with rfl | ⟨g1, g2⟩ <;> simp <;> omega))
     have n35 : (b == 35) = false := by simp; omega
     have n46 : (b == 46) = false := by simp; omega
     clear hI HC HD HO HX hg
     go_wp2_with fail
     go_ret
     exact ⟨I, HI.out, ret_int HF.out, HS4.out⟩
    | true =>
     rw [hI] at k0
     rcases hg with rfl | ⟨g1, g2⟩
     ·have HF := hid (show allS n I s (i + 1) = true by rw [HO.out, HD.out, hI]; rfl)
      clear hI HC HD HO HX
      go_wp2_with fail
      go_round
      case rel => exact ⟨i + 1, by omega, by go_num, HF.out⟩
      case measure => simp [intOf]; omega
     ·have n35 : (b == 35) = false := by simp; omega
      have n46 : (b == 46) = false := by simp; omega
      have n42 : (b != 42) = true := by simp; omega
      have wr8 : IntKind.u8.wrap (b - 48) = b - 48 := by rw [IntKind.wrap_u8]; omega
      by_cases hn : b - 48 <= (n : Int)
      ·have hn' : decide ((n : Int) < b - 48) = false := decide_eq_false (by omega)
       by_cases hF : F < 0
       ·have HF := hid (show allS n I s (i + 1) = true by rw [HO.out, HD.out, hI]; simp [hn, hF])
        have hF' : decide (0 <= F) = false := decide_eq_false (by omega)
        clear hI HD HO HX
        go_wp2_with (go_at_call 52; refine (HC.out _).mono ?_; rintro e w' ⟨he, hw⟩; rw [he, hw]; clear he hw w')
        go_round
        case rel => exact ⟨i + 1, by omega, by go_num, HF.out⟩
        case measure => simp [intOf]; omega
       ·have HF := hid (HX.out (by rw [HD.out, hI]; simp [hF]; omega))
        have hF' : 0 <= F := by omega
        clear hI HD HO HX
        go_wp2_with (go_at_call 52; refine (HC.out _).mono ?_; rintro e w' ⟨he, hw⟩; rw [he, hw]; clear he hw w')
        go_ret
        exact ⟨I, HI.out, ret_int HF.out, HS4.out⟩
      ·have HF := hid (HX.out (by rw [HD.out, hI]; simp [hn]; omega))
       have hn' : (n : Int) < b - 48 := by omega
       clear hI HC HD HO HX
       go_wp2_with fail
       go_ret
       exact ⟨I, HI.out, ret_int HF.out, HS4.out⟩
  ·have HF := hid (show (0 : Int) = if allS n I s s.size then 0 else 62 by
    rw [show s.size = i by omega, ha]; rfl)
   clear ha
   go_wp2_with fail
   go_ret
   exact ⟨I, HI.out, ret_int HF.out, HS4.out⟩
theorem rmapcheck_any (C R : Int) (s : ByteArray) (hz : s.size <= 281474976710656) (w : World) :
  Calls Tryz.prog 49 #[ar C R s] w fun e w' => ∃ v, e = .returned (.int .i64 v) /\ ChkV C R s v /\ Still w w' := by
 cases h : forB C R s with
 | false =>
  refine (rchk1 C R s h w).mono ?_
  rintro e w1 ⟨rfl, h1⟩
  exact ⟨61, rfl, .inl ⟨h, rfl⟩, h1⟩
 | true =>
  by_cases hm : mny s < 2
  ·refine (rchk2 C R s hz h hm w).mono ?_
   rintro e w1 ⟨rfl, h1⟩
   exact ⟨62, rfl, .inr (.inl ⟨h, hm, rfl⟩), h1⟩
  ·obtain ⟨f, hf, hfs⟩ := mny_one (s := s) (by omega)
   have q := (form_shape h).1
   have hc : C = (C.toNat : Int) := by omega
   have k := rchk3 C.toNat R s (by rw [<- hc]; exact h) (by omega) f hf hfs w
   rw [<- hc] at k
   refine k.mono ?_
   rintro e w1 ⟨I, hI, rfl, h1⟩
   exact ⟨_, rfl, .inr (.inr ⟨h, by omega, f, I, hf, hI, rfl⟩), h1⟩
end Go.Proofs.YtdmlgbcgbddkoaaGreatDoor
set_option maxRecDepth 100000
namespace Go.Proofs.YtdmlgbcgbddkoaaGreatDoor
open Go.RowKit
open Pu Gp Ap
theorem load_ar (w : World) (g : Nat) (C R : Int) (s : ByteArray) (c0 : w.cell? ⟨g, 0, none⟩ = some (.int .i64 C)) (c1 : w.cell? ⟨g, 1, none⟩ = some (.int .i64 R)) (c2 : w.cell? ⟨g, 2, none⟩ = some (.string s)) :
  (loadVar 24 ⟨g, 0, none⟩).run Tryz.prog w = .ok (ar C R s) w := by
 go_simp
theorem Ab.rest {fn : Func} {p q : Tmp} {w : World} {g : Nat} {C R : Int} {s : ByteArray} (hb : Ab w g C R s) (h : fn.results = #[.cell p 24, .tmp q]) (tmps : Array Value) (t : Value) (hp : tmps.getD p undef = .pointer (some ⟨g, 0, none⟩)) (hq : tmps.getD q undef = t) :
  (results fn tmps).run Tryz.prog w = .ok (.tuple #[ar C R s, t]) w := by
 rw [results_cell_tmp h, hp, hq]
 simp [asAddr, Result.andThen, load_ar w g C R s hb.cells.1 hb.cells.2.1 hb.cells.2.2.1]
def std3 : ByteArray := ⟨#[35, 35, 35, 35, 35, 35, 35, 35, 35, 49, 46, 46, 46, 46, 50, 35, 35, 46, 46, 42, 42, 46, 46, 35, 35, 46, 46, 46, 46, 46, 46, 35, 35, 51, 46, 46, 46, 46, 52, 35, 35, 35, 35, 35, 35, 35, 35, 35]⟩
theorem rstd_3 (w : World) : Calls Tryz.prog 13 #[.int .i64 3] w fun e w' => e = .returned (.tuple #[ar 8 6 std3, .int .i64 0]) /\ Still w w' := by
 have p := newA_ab w 8 6 std3
 go_enter Tryz.func13, Tryz.ntmps13
 go_wp2_with fail
 exact bodyPost_ret (p.rest rfl _ _ rfl rfl) rfl ⟨rfl, Still.alloc w _⟩
end Go.Proofs.YtdmlgbcgbddkoaaGreatDoor
set_option maxRecDepth 100000
namespace Go.Proofs.YtdmlgbcgbddkoaaGreatDoor
open Go.RowKit
open Pu Gp Ap
theorem chkV_ok {C R : Int} {s : ByteArray} (h : ChkV C R s 0) : forB C R s = true := by
 rcases h with ⟨_, e⟩ | ⟨_, _, e⟩ | ⟨h, _⟩
 ·cases e
 ·cases e
 ·exact h
end Go.Proofs.YtdmlgbcgbddkoaaGreatDoor
set_option maxRecDepth 100000
namespace Go.Proofs.YtdmlgbcgbddkoaaGreatDoor
open Go.RowKit
open Pu Gp
end Go.Proofs.YtdmlgbcgbddkoaaGreatDoor
set_option maxRecDepth 100000
namespace Go.Proofs.YtdmlgbcgbddkoaaGreatDoor
open Go.RowKit
open Pu Gp Ap
end Go.Proofs.YtdmlgbcgbddkoaaGreatDoor
