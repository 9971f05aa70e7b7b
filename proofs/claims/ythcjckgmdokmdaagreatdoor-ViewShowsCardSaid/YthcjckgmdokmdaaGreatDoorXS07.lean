/- Parts of the proof, laid end to end. -/
import Derived.Test.YthcjckgmdokmdaaGreatDoorProg
import Derived.Test.YthcjckgmdokmdaaGreatDoorXS01
import Derived.Laws.Bits64
import Derived.Laws.BitsLemmas
import Derived.Lib.EndianBits
import Derived.Lib.Hide
import Derived.Deep.QuietTactic
import Derived.BigQuiet
import Derived.Deep.RegionWith
import Derived.BigRegion
import Derived.Laws.CopyRow
import Derived.KernelRfl
import Derived.Deep.OwnRows
set_option maxRecDepth 100000
namespace Go.Proofs.YthcjckgmdokmdaaGreatDoor.Hx
def turn (n k : Nat) : Nat := n ^^^ n / 2 ^ k
end Go.Proofs.YthcjckgmdokmdaaGreatDoor.Hx
namespace Go.Proofs.YthcjckgmdokmdaaGreatDoor
open Go.RowKit
def turnI (n s : Int) : Int := bits .xor .u64 n (n / s)
def mulI (n c : Int) : Int := IntKind.u64.wrap (n * c)
def mixI (n : Int) : Int := turnI (mulI (turnI (mulI (turnI n 1073741824) 13787848793156543929) 134217728) 10723151780598845931) 2147483648
def chainI (a b : Int) : Int := mixI (IntKind.u64.wrap (mulI a 11400714819323198485 + mixI b))
end Go.Proofs.YthcjckgmdokmdaaGreatDoor
namespace Go.Proofs.YthcjckgmdokmdaaGreatDoor.Rg
def sum : List Int -> Int
 | [] => 0
 | w :: r => w + sum r
def pick (x : Int) : List Int -> Nat
 | [] => 0
 | w :: r => if x < w then 0 else pick (x - w) r + 1
end Go.Proofs.YthcjckgmdokmdaaGreatDoor.Rg
namespace Go.Proofs.YthcjckgmdokmdaaGreatDoor
open Go.RowKit
structure RdI (w : World) (ao : Option Addr) (n cap : Nat) (bs : List Int) : Prop where
 len : bs.length = n
 le : n <= cap
 max : cap <= maxLen
 plain : ∀ a, ao = some a -> 0 < n -> a.spot = none
 nil : ao = none -> cap = 0
 cells : ∀ a, ao = some a -> ∀ j (h : j < bs.length), w.cell? ⟨a.block, a.off + j, none⟩ = some (.int .i64 bs[j])
theorem RdI.empty (w : World) : RdI w none 0 0 [] := ⟨rfl, Nat.le_refl _, by unfold maxLen; omega, fun _ h _ => (by cases h), fun _ => rfl, fun _ h => (by cases h)⟩
theorem RdI.addr {w : World} {ao : Option Addr} {n cap : Nat} {bs : List Int} (h : RdI w ao n cap bs) (hn : 0 < n) : ∃ b o, ao = some ⟨b, o, none⟩ := by
 cases ao with
 | none => have := h.nil rfl; have := h.le; omega
 | some a =>
  obtain ⟨b, o, s⟩ := a
  have := h.plain _ rfl hn
  simp at this
  subst this
  exact ⟨b, o, rfl⟩
theorem RdI.small {w : World} {ao : Option Addr} {n cap : Nat} {bs : List Int} (h : RdI w ao n cap bs) : n <= 9223372036854775807 := by
 have h1 := h.le; have h2 := h.max; unfold maxLen at h2; omega
theorem RdI.kept {F : Nat -> Prop} {w w' : World} {ao : Option Addr} {n cap : Nat} {bs : List Int} (h : RdI w ao n cap bs) (hf : Fr F w w') (hn : ∀ a, ao = some a -> 0 < n -> ¬ F a.block) : RdI w' ao n cap bs :=
 ⟨h.len, h.le, h.max, h.plain, h.nil, fun a ha j hj => by
  have hc := h.cells a ha j hj
  have hlt := World.block_lt_of_cell? w _ hc
  rw [hf.cell hlt (hn a ha (by have := h.len; omega)), hc]⟩
theorem RdI.still {w w' : World} {ao : Option Addr} {n cap : Nat} {bs : List Int} (h : RdI w ao n cap bs) (hf : Still w w') : RdI w' ao n cap bs := h.kept hf fun _ _ _ e => e
theorem RdI.byte {w : World} {b o n cap : Nat} {bs : List Int} (h : RdI w (some ⟨b, o, none⟩) n cap bs) {k : Nat} (hk : k < bs.length) : w.cell? ⟨b, o + k, none⟩ = some (.int .i64 bs[k]) := h.cells _ rfl k hk
theorem RdI.take {w : World} {ao : Option Addr} {n cap : Nat} {bs : List Int} (h : RdI w ao n cap bs) {i : Nat} (hi : i <= n) : RdI w ao i cap (bs.take i) := by
 have hl := h.len
 refine ⟨by simp; omega, by have := h.le; omega, h.max, fun a ha hp => h.plain a ha (by omega), h.nil, fun a ha j hj => ?_⟩
 simp at hj
 simp only [List.getElem_take]
 exact h.cells a ha j (by omega)
structure OwI (e : TypeId) (w : World) (ao : Option Addr) (n cap : Nat) (bs : List Int) : Prop where
 rd : RdI w ao n cap bs
 row : ∀ a, ao = some a -> a.off = 0 /\ a.spot = none /\ ∃ cur, w.heap[a.block]? = some (.cells cur e (0, 0)) /\ cur.size = cap
theorem OwI.empty (e : TypeId) (w : World) : OwI e w none 0 0 [] := ⟨RdI.empty w, fun _ h => by cases h⟩
theorem OwI.kept {F : Nat -> Prop} {e : TypeId} {w w' : World} {ao : Option Addr} {n cap : Nat} {bs : List Int} (h : OwI e w ao n cap bs) (hf : Fr F w w') (hn : ∀ a, ao = some a -> ¬ F a.block) : OwI e w' ao n cap bs :=
 ⟨h.rd.kept hf fun a ha _ => hn a ha, fun a ha => by
  obtain ⟨h0, hp, cur, hg, hs⟩ := h.row a ha
  exact ⟨h0, hp, cur, hf.kept hg (hn a ha), hs⟩⟩
theorem OwI.still {e : TypeId} {w w' : World} {ao : Option Addr} {n cap : Nat} {bs : List Int} (h : OwI e w ao n cap bs) (hf : Still w w') : OwI e w' ao n cap bs := h.kept hf fun _ _ e => e
theorem OwI.alloc {e : TypeId} {w : World} {ao : Option Addr} {n cap : Nat} {bs : List Int} (h : OwI e w ao n cap bs) (o : Obj) : OwI e (w.alloc o) ao n cap bs := h.still (Still.alloc w o)
def intsOf (bs : List Int) : List Value := bs.map fun b => .int .i64 b
theorem intsOf_get {bs : List Int} {j : Nat} {u : Value} (h : (intsOf bs)[j]? = some u) : ∃ hj : j < bs.length, u = .int .i64 bs[j] := by
 unfold intsOf at h
 rw [List.getElem?_map] at h
 cases hb : bs[j]? with
 | none => simp [hb] at h
 | some b =>
  obtain ⟨hj, hb'⟩ := List.getElem?_eq_some_iff.1 hb
  simp [hb] at h
  exact ⟨hj, by rw [hb']; exact h.symm⟩
theorem intsOf_at {bs : List Int} {j : Nat} (hj : j < bs.length) : (intsOf bs).toArray[j]? = some (.int .i64 bs[j]) := by
 simp [intsOf, hj]
theorem RdI.cellsAt {w : World} {a : Addr} {n cap : Nat} {bs : List Int} (h : RdI w (some a) n cap bs) : ∀ j u, (intsOf bs)[j]? = some u -> w.cell? (a.add j) = some u := by
 intro j u hu
 obtain ⟨hj, rfl⟩ := intsOf_get hu
 obtain ⟨b, o, s⟩ := a
 have := h.plain _ rfl (by have := h.len; omega)
 simp at this
 subst this
 rw [add_plain]
 exact h.byte hj
theorem intsOf_one (bs : List Int) : ∀ u ∈ intsOf bs, u.oneCell' = true := by
 intro u hu
 obtain ⟨_, _, rfl⟩ := List.mem_map.1 hu
 rfl
section
variable {P : Program}
theorem OwI.fresh {e : TypeId} (w : World) (cur : Array Value) (cap n : Nat) (bs : List Int) (hl : bs.length = n) (hn : n <= cap) (hm : cap <= maxLen) (hc : cur.size = cap) (ht : ∀ j (h : j < bs.length), cur[j]? = some (.int .i64 bs[j])) :
  OwI e (w.alloc (.cells cur e)) (some ⟨w.heap.size, 0, none⟩) n cap bs := by
 have hh : (w.alloc (.cells cur e)).heap[w.heap.size]? = some (.cells cur e (0, 0)) := heap_alloc_new w _
 refine ⟨⟨hl, hn, hm, fun a ha _ => ?_, fun h => (by cases h), fun a ha j hj => ?_⟩, fun a ha => ?_⟩
 ·cases ha; rfl
 ·cases ha
  rw [cell_of_row _ _ _ _ _ _ hh, Nat.zero_add]
  exact ht j hj
 ·cases ha
  exact ⟨rfl, rfl, cur, hh, hc⟩
theorem run_appI (w : World) (t ty e : TypeId) (i : TypeInfo) (ht : P.underlying t = some (.slice e)) (hi : P.info? e = some i) (hz : i.zero = some (.int .i64 0)) (hs : i.size = 1) (hb : i.bytes = 8)
  {ao so : Option Addr} {n cap m c : Nat} {bs cs : List Int} (ho : OwI e w ao n cap bs) (hr : RdI w so m c cs) (h47 : n + m <= 17592186044416) :
  ∃ ao' cap' w', (Builtin.append_ #[t, t] ty #[.slice ao n cap, .slice so m c]).run P w = .ok (.slice ao' (n + m) cap') w' /\ OwI e w' ao' (n + m) cap' (bs ++ cs) /\
   Fr (fun k => ∃ a, ao = some a /\ a.block = k) w w' /\ (∀ a, ao' = some a -> ao = some a \/ w.heap.size <= a.block) /\ (ao' = none -> m = 0 /\ ao = none) := by
 have hlb := ho.rd.len
 have hlc := hr.len
 have hle := ho.rd.le
 have hmx := ho.rd.max
 have h63 : n + m <= 9223372036854775807 := by omega
 cases so with
 | none =>
  have h1 := hr.nil rfl
  have h2 := hr.le
  have hm : m = 0 := by omega
  subst hm
  have hc : c = 0 := by omega
  subst hc
  have hcs : cs = [] := List.eq_nil_of_length_eq_zero (by omega)
  subst hcs
  refine ⟨ao, cap, w, ?_, by simpa using ho, Fr.refl _ _, fun a ha => .inl ha, fun h => ⟨rfl, h⟩⟩
  simp [Builtin.append_, run_underlying ht, sizeOf, typeInfo, hi, Builtin.lenOf, run_firstCells_none, hle]
  cases ao with
  | none => simp
  | some a => simp [storeCells]
 | some sa =>
  have hnews := hr.cellsAt
  have hl : (intsOf cs).length = m * i.size := by simp [intsOf, hs, hlc]
  cases ao with
  | none =>
   have hcap := ho.rd.nil rfl
   subst hcap
   have hn0 : n = 0 := by omega
   subst hn0
   have hbs : bs = [] := List.eq_nil_of_length_eq_zero hlb
   subst hbs
   by_cases hm : m = 0
   ·subst hm
    have hcs : cs = [] := List.eq_nil_of_length_eq_zero hlc
    subst hcs
    refine ⟨none, 0, w, ?_, OwI.empty e w, Fr.refl _ _, fun a ha => .inl ha, fun _ => ⟨rfl, rfl⟩⟩
    simp [Builtin.append_, run_underlying ht, sizeOf, typeInfo, hi, Builtin.lenOf, Builtin.firstCells, loadCells, loadCellsFrom]
   ·have hr' := run_append_nil (P := P) w t ty e i _ ht hi hz sa m c (intsOf cs) hl hnews (by omega) (by omega) (by rw [hb]; omega)
    have hge := grownCap_ge w m 0 e
    have hgm := grownCap_le_maxLen w m 0 e (by unfold maxLen; omega)
    refine ⟨_, _, _, by rw [Nat.zero_add]; exact hr', ?_, ((Fr.refl _ w).drew.alloc _), fun a ha => .inr (by cases ha; exact Nat.le_refl _), fun h => by cases h⟩
    rw [List.nil_append, Nat.zero_add]
    exact OwI.fresh w.drew _ _ m cs hlc hge hgm (by simp [intsOf, hlc, Builtin.zeroCells, Value.cells]; omega) (fun j hj => by
     rw [Array.getElem?_append_left (by simpa [intsOf] using hj)]
     simp [intsOf, hj])
  | some a =>
   obtain ⟨b, o, sp⟩ := a
   obtain ⟨h0, hp, cur, hg, hcs⟩ := ho.row _ rfl
   simp at h0 hg hp
   subst h0
   subst hp
   by_cases hroom : n + m <= cap
   ·have hfit : n * i.size + (intsOf cs).length <= cur.size := by simp [hs, intsOf, hlc]; omega
    have hr' := run_append_room (P := P) w t ty e i ht hi b n cap cur hg sa m c (intsOf cs) hl hnews (intsOf_one cs) hroom hfit
    refine ⟨_, _, _, hr', ?_, (Fr.refl _ w).setRow b _ (.inl ⟨_, rfl, rfl⟩), fun a ha => .inl ha, fun h => by cases h⟩
    have hgn := setRow_heap w b cur (cur.toList.take (n * i.size) ++ intsOf cs ++ cur.toList.drop (n * i.size + (intsOf cs).length)).toArray e _ hg
    have hcl : (intsOf cs).length = m := by simp [intsOf, hlc]
    refine ⟨⟨by simp [hlb, hlc], hroom, hmx, fun a ha _ => (by cases ha; rfl), fun h => (by cases h), fun a ha j hj => ?_⟩, fun a ha => ?_⟩
    ·cases ha
     rw [cell_of_row _ _ _ _ _ _ hgn]
     simp only [Nat.zero_add, List.getElem?_toArray, hs, Nat.mul_one]
     simp at hj
     by_cases hjn : j < n
     ·rw [List.append_assoc, List.getElem?_append_left (by simp; omega), List.getElem?_take_of_lt hjn]
      have h1 := ho.rd.byte (k := j) (by omega)
      rw [cell_of_row _ _ _ _ _ _ hg] at h1
      simp only [Nat.zero_add] at h1
      rw [List.getElem_append_left (by omega)]
      simpa using h1
     ·have htl : (cur.toList.take n).length = n := by simp; omega
      rw [List.append_assoc, List.getElem?_append_right (by omega), List.getElem?_append_left (by rw [htl, hcl]; omega), htl]
      rw [List.getElem_append_right (by omega)]
      have hj2 : j - n < cs.length := by omega
      simp only [intsOf, List.getElem?_map, hlb, List.getElem?_eq_getElem hj2, Option.map_some]
    ·cases ha
     refine ⟨rfl, rfl, _, hgn, ?_⟩
     simp only [List.size_toArray, List.length_append, List.length_take, List.length_drop, Array.length_toList, hs, Nat.mul_one, hcl]
     omega
   ·have holds : ∀ j u, (intsOf bs)[j]? = some u -> w.cell? ((⟨b, 0, none⟩ : Addr).add j) = some u := ho.rd.cellsAt
    have hr' := run_append_grow (P := P) w t ty e i _ ht hi hz ⟨b, 0, none⟩ n cap (intsOf bs) (by simp [intsOf, hs, hlb]) holds sa m c (intsOf cs) hl hnews (by omega) (by omega) (by rw [hb]; exact growslice_fits (by omega) (by omega))
    have hge := grownCap_ge w (n + m) cap e
    have hgm := grownCap_le_maxLen w (n + m) cap e (by unfold maxLen; omega)
    refine ⟨_, _, _, hr', ?_, ((Fr.refl _ w).drew.alloc _), fun a ha => .inr (by cases ha; exact Nat.le_refl _), fun h => by cases h⟩
    exact OwI.fresh w.drew _ _ (n + m) (bs ++ cs) (by simp [hlb, hlc]) hge hgm (by simp [intsOf, hlb, hlc, Builtin.zeroCells, Value.cells]; omega) (fun j hj => by
     have hcl : (intsOf bs).toArray ++ (intsOf cs).toArray = (intsOf (bs ++ cs)).toArray := by simp [intsOf]
     rw [hcl, Array.getElem?_append_left (by simpa [intsOf] using hj)]
     exact intsOf_at hj)
theorem wpList_appI (w : World) {ops : Array Oper} {rest : List Oper} {o : Oper} {a : Act} {Q : Exit -> Act -> World -> Prop} (hgd : o.guard = none) (s x : Operand) (t : TypeId)
  (hop : o.op = .call { callee := .builtin .append, args := #[s, x], argTypes := #[t, t] })
  (e : TypeId) (i : TypeInfo) (ht : P.underlying t = some (.slice e)) (hi : P.info? e = some i) (hz : i.zero = some (.int .i64 0)) (hs1 : i.size = 1) (hb : i.bytes = 8)
  (ao so : Option Addr) (n cap m c : Nat) (bs cs : List Int) (hs : a.eval s = .slice ao n cap) (hx : a.eval x = .slice so m c) (ho : OwI e w ao n cap bs) (hr : RdI w so m c cs) (h47 : n + m <= 17592186044416)
  (h : ∀ ao' cap' w', OwI e w' ao' (n + m) cap' (bs ++ cs) -> Fr (fun k => ∃ a, ao = some a /\ a.block = k) w w' -> (∀ a, ao' = some a -> ao = some a \/ w.heap.size <= a.block) -> (ao' = none -> m = 0 /\ ao = none) ->
   wpList P ops Q rest (a.put o.dst (.slice ao' (n + m) cap')) w') : wpList P ops Q (o :: rest) a w := by
 refine wpList_plain hgd fun _ hK => ?_
 obtain ⟨ao', cap', w', hrun, h1, h2, h3, h4⟩ := run_appI (P := P) w t o.type e i ht hi hz hs1 hb ho hr h47
 unfold Oper.wp execOp
 simp only [hop, resolve, invoke, builtin, Sem.run_bind, Sem.run_pure, Result.andThen_ok, List.map_toArray, List.map_cons, List.map_nil, hs, hx, hrun]
 exact hK _ _ (h ao' cap' w' h1 h2 h3 h4)
end
end Go.Proofs.YthcjckgmdokmdaaGreatDoor
namespace Go.Proofs.YthcjckgmdokmdaaGreatDoor
open Go.RowKit
end Go.Proofs.YthcjckgmdokmdaaGreatDoor
namespace Go.Proofs.YthcjckgmdokmdaaGreatDoor
open Go.RowKit
def atI (s f u : Int) : Int := chainI (chainI s (IntKind.u64.wrap f)) (IntKind.u64.wrap u)
def bel (n k : Int) : Int := if k < 1 then 0 else n % k
end Go.Proofs.YthcjckgmdokmdaaGreatDoor
namespace Go.Proofs.YthcjckgmdokmdaaGreatDoor
open Go.RowKit
end Go.Proofs.YthcjckgmdokmdaaGreatDoor
namespace Go.Proofs.YthcjckgmdokmdaaGreatDoor
open Go.RowKit
def wgtE (bs : List Int) : Int := if 64 < bs.length then 2 else if bs.all (fun v => decide (0 <= v) && decide (v <= 2147483647)) = false then 1 else if Rg.sum bs = 0 then 40 else 0
def wgt (N : Int) (bs : List Int) : Int := if wgtE bs = 0 then ((Rg.pick (N % Rg.sum bs) bs : Nat) : Int) else 0
end Go.Proofs.YthcjckgmdokmdaaGreatDoor
namespace Go.Proofs.YthcjckgmdokmdaaGreatDoor
open Go.RowKit
end Go.Proofs.YthcjckgmdokmdaaGreatDoor
namespace Go.Proofs.YthcjckgmdokmdaaGreatDoor
open Go.RowKit
theorem OwI.head {e : TypeId} {w : World} {ao : Option Addr} {n cap : Nat} {bs : List Int} (h : OwI e w ao n cap bs) (hn : 0 < n) : ∃ g, ao = some ⟨g, 0, none⟩ := by
 obtain ⟨b, o, rfl⟩ := h.rd.addr hn
 obtain ⟨h0, _⟩ := h.row _ rfl
 simp at h0
 subst h0
 exact ⟨b, rfl⟩
end Go.Proofs.YthcjckgmdokmdaaGreatDoor
namespace Go.Proofs.YthcjckgmdokmdaaGreatDoor
open Go.RowKit
theorem OwI.one (e : TypeId) (wr : World) (x : Int) : OwI e (wr.alloc (.cells #[.int .i64 x] e)) (some ⟨wr.heap.size, 0, none⟩) 1 1 [x] :=
 OwI.fresh wr _ 1 1 [x] rfl (Nat.le_refl _) (by unfold maxLen; omega) rfl (fun j hj => by
  simp at hj
  subst hj
  rfl)
theorem still_appI {w wr w1 : World} {o : Obj} {ao ao' : Option Addr} (hs : Still w wr) (ha : ∀ a, ao = some a -> w.heap.size <= a.block) (hf : Fr (fun k => ∃ a, ao = some a /\ a.block = k) (wr.alloc o) w1)
  (hn : ∀ a, ao' = some a -> ao = some a \/ (wr.alloc o).heap.size <= a.block) : Still w w1 /\ ∀ a, ao' = some a -> w.heap.size <= a.block := by
 refine ⟨Fr.trans (Fr.alloc hs o) hf ?_, fun a h => ?_⟩
 ·rintro k hk ⟨a, h1, rfl⟩
  have := ha a h1
  omega
 ·rcases hn a h with h1 | h1
  ·exact ha a h1
  ·have := hs.size
   simp at h1
   omega
end Go.Proofs.YthcjckgmdokmdaaGreatDoor
