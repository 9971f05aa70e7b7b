/- Parts of the proof, laid end to end. -/
import Derived.Test.YtdljmpjfiggdiaaDoorProg
import Derived.Test.YtdljmpjfiggdiaaDoorZV01
import Derived.Laws.Bits64
import Derived.Laws.BitsLemmas
import Derived.Lib.EndianBits
import Derived.Lib.Hide
import Derived.Deep.QuietTactic
import Derived.BigQuiet
import Derived.Deep.RegionWith
import Derived.BigRegion
import Derived.Laws.CopyRow
import Derived.KernelRfl
import Derived.Deep.OwnRows
namespace Go.Proofs.YtdljmpjfiggdiaaDoor.Hx
def turn (n k : Nat) : Nat := n ^^^ n / 2 ^ k
theorem turn_lt {n : Nat} (h : n < 18446744073709551616) (k : Nat) : turn n k < 18446744073709551616 := by
 have h2 : n / 2 ^ k < 18446744073709551616 := Nat.lt_of_le_of_lt (Nat.div_le_self _ _) h
 have e : (2 : Nat) ^ 64 = 18446744073709551616 := by decide
 have := Nat.xor_lt_two_pow (n := 64) (by rw [e]; exact h) (by rw [e]; exact h2)
 rwa [e] at this
end Go.Proofs.YtdljmpjfiggdiaaDoor.Hx
namespace Go.Proofs.YtdljmpjfiggdiaaDoor
open Go.RowKit
theorem cell_on {F : Nat -> Prop} {w w' : World} (hf : Fr F w w') {p : Addr} {v : Value} (h : w.cell? p = some v) (hn : ¬ F p.block) : w'.cell? p = some v :=
 (hf.cell (World.block_lt_of_cell? w _ h) hn).trans h
theorem still_of_below {w w' : World} (h : Below w.heap.size w w') : Still w w' := by
 obtain ⟨a, b, c, d, e⟩ := h
 exact ⟨a, b, c, d, fun k hk _ => e k hk⟩
theorem quo_eq {x s : Int} (h0 : 0 <= x) (h1 : x < 18446744073709551616) (hs : 1 <= s) : IntKind.u64.wrap (x.tdiv s) = x / s := by
 rw [Int.tdiv_eq_ediv_of_nonneg h0, IntKind.wrap_u64]
 have a0 : 0 <= x / s := Int.ediv_nonneg h0 (by omega)
 have a1 : x / s <= x := Int.ediv_le_self s h0
 exact Int.emod_eq_of_lt a0 (by omega)
theorem quo_w (x : Int) {s : Int} (hs : 1 <= s) : IntKind.u64.wrap ((IntKind.u64.wrap x).tdiv s) = IntKind.u64.wrap x / s := by
 refine quo_eq ?_ ?_ hs
 ·rw [IntKind.wrap_u64]; omega
 ·rw [IntKind.wrap_u64]; omega
def turnI (n s : Int) : Int := bits .xor .u64 n (n / s)
def mulI (n c : Int) : Int := IntKind.u64.wrap (n * c)
def mixI (n : Int) : Int := turnI (mulI (turnI (mulI (turnI n 1073741824) 13787848793156543929) 134217728) 10723151780598845931) 2147483648
def chainI (a b : Int) : Int := mixI (IntKind.u64.wrap (mulI a 11400714819323198485 + mixI b))
theorem wrap_in (x : Int) : 0 <= IntKind.u64.wrap x /\ IntKind.u64.wrap x < 18446744073709551616 := by
 rw [IntKind.wrap_u64]; omega
theorem turn_nat (n k s : Nat) (hs : s = 2 ^ k) (h : n < 18446744073709551616) : turnI (n : Int) (s : Int) = ((Hx.turn n k : Nat) : Int) := by
 unfold turnI Hx.turn
 rw [xorShift_u64 n s h, hs]
theorem mul_in (n c : Int) : 0 <= mulI n c /\ mulI n c < 18446744073709551616 := wrap_in _
theorem mix_in (n : Int) : 0 <= mixI n /\ mixI n < 18446744073709551616 := by
 unfold mixI
 obtain ⟨h0, h1⟩ := mul_in (turnI (mulI (turnI n 1073741824) 13787848793156543929) 134217728) 10723151780598845931
 generalize mulI (turnI (mulI (turnI n 1073741824) 13787848793156543929) 134217728) 10723151780598845931 = m at h0 h1 ⊢
 obtain ⟨x, rfl⟩ : ∃ x : Nat, m = (x : Int) := ⟨m.toNat, by omega⟩
 have hx : x < 18446744073709551616 := by omega
 have e : turnI (x : Int) 2147483648 = ((Hx.turn x 31 : Nat) : Int) := turn_nat x 31 2147483648 (by decide) hx
 rw [e]
 have := Hx.turn_lt hx 31
 omega
theorem chain_in (a b : Int) : 0 <= chainI a b /\ chainI a b < 18446744073709551616 := mix_in _
end Go.Proofs.YtdljmpjfiggdiaaDoor
namespace Go.Proofs.YtdljmpjfiggdiaaDoor.Rg
def sum : List Int -> Int
 | [] => 0
 | w :: r => w + sum r
def pick (x : Int) : List Int -> Nat
 | [] => 0
 | w :: r => if x < w then 0 else pick (x - w) r + 1
theorem sum_append (a b : List Int) : sum (a ++ b) = sum a + sum b := by
 induction a with
 | nil => simp [sum]
 | cons w r ih => simp [sum, ih]; omega
theorem sum_nonneg {l : List Int} (h : ∀ w ∈ l, 0 <= w) : 0 <= sum l := by
 induction l with
 | nil => simp [sum]
 | cons w r ih =>
  have h1 := h w (List.mem_cons_self ..)
  have h2 := ih fun v hv => h v (List.mem_cons_of_mem _ hv)
  simp only [sum]; omega
theorem sum_le {l : List Int} {m : Int} (h : ∀ w ∈ l, w <= m) : sum l <= l.length * m := by
 induction l with
 | nil => simp [sum]
 | cons w r ih =>
  have h1 := h w (List.mem_cons_self ..)
  have h2 := ih fun v hv => h v (List.mem_cons_of_mem _ hv)
  simp only [sum, List.length_cons]
  rw [Int.natCast_add, Int.add_mul]
  have : ((1 : Nat) : Int) * m = m := by simp
  omega
theorem pick_ok : ∀ (l : List Int) (x : Int), (∀ w ∈ l, 0 <= w) -> 0 <= x -> x < sum l -> ∃ h : pick x l < l.length, 0 < l[pick x l]
 | [], x, _, h0, h1 => by simp [sum] at h1; omega
 | w :: r, x, hw, h0, h1 => by
  by_cases hx : x < w
  ·have e : pick x (w :: r) = 0 := by simp [pick, hx]
   refine ⟨by simp [e], ?_⟩
   simp only [e, List.getElem_cons_zero]
   omega
  ·have e : pick x (w :: r) = pick (x - w) r + 1 := by simp [pick, hx]
   obtain ⟨a, b⟩ := pick_ok r (x - w) (fun v hv => hw v (List.mem_cons_of_mem _ hv)) (by omega) (by simp only [sum] at h1; omega)
   refine ⟨by simp only [e, List.length_cons]; omega, ?_⟩
   simp only [e, List.getElem_cons_succ]
   exact b
theorem pick_step {l : List Int} {i : Nat} {x y : Int} (hi : i < l.length) (h : pick x l = i + pick y (l.drop i)) (hy : ¬ y < l[i]) : pick x l = (i + 1) + pick (y - l[i]) (l.drop (i + 1)) := by
 rw [h, List.drop_eq_getElem_cons hi]
 simp only [pick, if_neg hy]
 omega
theorem pick_here {l : List Int} {i : Nat} {x y : Int} (hi : i < l.length) (h : pick x l = i + pick y (l.drop i)) (hy : y < l[i]) : pick x l = i := by
 rw [h, List.drop_eq_getElem_cons hi]
 simp only [pick, if_pos hy]
 omega
def swap (l : List Int) (i j : Nat) : List Int := (l.set i (l.getD j 0)).set j (l.getD i 0)
theorem swap_length (l : List Int) (i j : Nat) : (swap l i j).length = l.length := by simp [swap]
theorem count_set {l : List Int} {i : Nat} (hi : i < l.length) (v u : Int) : (l.set i v).count u + (if l[i] = u then 1 else 0) = l.count u + (if v = u then 1 else 0) := by
 have e : l = l.take i ++ l[i] :: l.drop (i + 1) := by rw [<- List.drop_eq_getElem_cons hi, List.take_append_drop]
 have e2 : l.set i v = l.take i ++ v :: l.drop (i + 1) := by rw [List.set_eq_take_append_cons_drop, if_pos hi]
 rw [e2]
 have e3 : l.count u = (l.take i ++ l[i] :: l.drop (i + 1)).count u := congrArg (List.count u) e
 rw [e3]
 simp only [List.count_append, List.count_cons, beq_iff_eq]
 omega
theorem swap_count {l : List Int} {i j : Nat} (hi : i < l.length) (hj : j < l.length) (u : Int) : (swap l i j).count u = l.count u := by
 have a1 : l.getD j 0 = l[j] := by simp [List.getD, hj]
 have a2 : l.getD i 0 = l[i] := by simp [List.getD, hi]
 unfold swap
 rw [a1, a2]
 have h1 := count_set hi l[j] u
 have h2 := count_set (l := l.set i l[j]) (i := j) (by simpa using hj) l[i] u
 have h3 : (l.set i l[j])[j]'(by simpa using hj) = l[j] := by
  by_cases hij : i = j
  ·subst hij; simp
  ·rw [List.getElem_set_ne hij]
 rw [h3] at h2
 omega
def turns (f : Nat -> Nat) : Nat -> List Int -> List Int
 | 0, l => l
 | i + 1, l => turns f i (swap l (i + 1) (f (i + 1)))
theorem turns_length (f : Nat -> Nat) : ∀ (i : Nat) (l : List Int), (turns f i l).length = l.length
 | 0, _ => rfl
 | i + 1, l => by rw [turns, turns_length f i, swap_length]
theorem turns_count (f : Nat -> Nat) (u : Int) : ∀ (i : Nat) (l : List Int), i < l.length -> (∀ k, k <= i -> f k <= k) -> (turns f i l).count u = l.count u
 | 0, _, _, _ => rfl
 | i + 1, l, hi, hf => by
  have h1 := hf (i + 1) (Nat.le_refl _)
  rw [turns, turns_count f u i _ (by rw [swap_length]; omega) (fun k hk => hf k (by omega)), swap_count hi (by omega)]
def upTo : Nat -> List Int
 | 0 => []
 | n + 1 => upTo n ++ [(n : Int)]
theorem upTo_length (n : Nat) : (upTo n).length = n := by
 induction n with
 | zero => rfl
 | succ n ih => simp [upTo, ih]
theorem upTo_count (n m : Nat) : (upTo n).count (m : Int) = if m < n then 1 else 0 := by
 induction n with
 | zero => simp [upTo]
 | succ n ih =>
  simp only [upTo, List.count_append, ih, List.count_cons, List.count_nil, beq_iff_eq]
  split <;> split <;> split <;> omega
end Go.Proofs.YtdljmpjfiggdiaaDoor.Rg
namespace Go.Proofs.YtdljmpjfiggdiaaDoor
open Go.RowKit
structure RdI (w : World) (ao : Option Addr) (n cap : Nat) (bs : List Int) : Prop where
 len : bs.length = n
 le : n <= cap
 max : cap <= maxLen
 plain : ∀ a, ao = some a -> 0 < n -> a.spot = none
 nil : ao = none -> cap = 0
 cells : ∀ a, ao = some a -> ∀ j (h : j < bs.length), w.cell? ⟨a.block, a.off + j, none⟩ = some (.int .i64 bs[j])
theorem RdI.empty (w : World) : RdI w none 0 0 [] := ⟨rfl, Nat.le_refl _, by unfold maxLen; omega, fun _ h _ => (by cases h), fun _ => rfl, fun _ h => (by cases h)⟩
theorem RdI.addr {w : World} {ao : Option Addr} {n cap : Nat} {bs : List Int} (h : RdI w ao n cap bs) (hn : 0 < n) : ∃ b o, ao = some ⟨b, o, none⟩ := by
 cases ao with
 | none => have := h.nil rfl; have := h.le; omega
 | some a =>
  obtain ⟨b, o, s⟩ := a
  have := h.plain _ rfl hn
  simp at this
  subst this
  exact ⟨b, o, rfl⟩
theorem RdI.small {w : World} {ao : Option Addr} {n cap : Nat} {bs : List Int} (h : RdI w ao n cap bs) : n <= 9223372036854775807 := by
 have h1 := h.le; have h2 := h.max; unfold maxLen at h2; omega
theorem RdI.kept {F : Nat -> Prop} {w w' : World} {ao : Option Addr} {n cap : Nat} {bs : List Int} (h : RdI w ao n cap bs) (hf : Fr F w w') (hn : ∀ a, ao = some a -> 0 < n -> ¬ F a.block) : RdI w' ao n cap bs :=
 ⟨h.len, h.le, h.max, h.plain, h.nil, fun a ha j hj => by
  have hc := h.cells a ha j hj
  have hlt := World.block_lt_of_cell? w _ hc
  rw [hf.cell hlt (hn a ha (by have := h.len; omega)), hc]⟩
theorem RdI.still {w w' : World} {ao : Option Addr} {n cap : Nat} {bs : List Int} (h : RdI w ao n cap bs) (hf : Still w w') : RdI w' ao n cap bs := h.kept hf fun _ _ _ e => e
theorem RdI.alloc {w : World} {ao : Option Addr} {n cap : Nat} {bs : List Int} (h : RdI w ao n cap bs) (o : Obj) : RdI (w.alloc o) ao n cap bs := h.still (Still.alloc w o)
theorem RdI.lt {w : World} {ao : Option Addr} {n cap : Nat} {bs : List Int} (h : RdI w ao n cap bs) (hn : 0 < n) : ∀ a, ao = some a -> a.block < w.heap.size := fun a ha =>
 World.block_lt_of_cell? w ⟨a.block, a.off + 0, none⟩ (h.cells a ha 0 (by have := h.len; omega))
theorem RdI.drew {w : World} {ao : Option Addr} {n cap : Nat} {bs : List Int} (h : RdI w ao n cap bs) : RdI w.drew ao n cap bs := h.still ((Fr.refl _ w).drew)
theorem RdI.drewN {w : World} {ao : Option Addr} {n cap : Nat} {bs : List Int} (h : RdI w ao n cap bs) (k : Nat) : RdI (w.drewN k) ao n cap bs := h.still ((Fr.refl _ w).drewN k)
theorem RdI.byte {w : World} {b o n cap : Nat} {bs : List Int} (h : RdI w (some ⟨b, o, none⟩) n cap bs) {k : Nat} (hk : k < bs.length) : w.cell? ⟨b, o + k, none⟩ = some (.int .i64 bs[k]) := h.cells _ rfl k hk
theorem RdI.take {w : World} {ao : Option Addr} {n cap : Nat} {bs : List Int} (h : RdI w ao n cap bs) {i : Nat} (hi : i <= n) : RdI w ao i cap (bs.take i) := by
 have hl := h.len
 refine ⟨by simp; omega, by have := h.le; omega, h.max, fun a ha hp => h.plain a ha (by omega), h.nil, fun a ha j hj => ?_⟩
 simp at hj
 simp only [List.getElem_take]
 exact h.cells a ha j (by omega)
structure OwI (e : TypeId) (w : World) (ao : Option Addr) (n cap : Nat) (bs : List Int) : Prop where
 rd : RdI w ao n cap bs
 row : ∀ a, ao = some a -> a.off = 0 /\ a.spot = none /\ ∃ cur, w.heap[a.block]? = some (.cells cur e (0, 0)) /\ cur.size = cap
theorem OwI.empty (e : TypeId) (w : World) : OwI e w none 0 0 [] := ⟨RdI.empty w, fun _ h => by cases h⟩
theorem OwI.lt {e : TypeId} {w : World} {ao : Option Addr} {n cap : Nat} {bs : List Int} (h : OwI e w ao n cap bs) : ∀ a, ao = some a -> a.block < w.heap.size := fun a ha => by
 obtain ⟨_, _, cur, hg, _⟩ := h.row a ha
 exact block_lt hg
theorem OwI.kept {F : Nat -> Prop} {e : TypeId} {w w' : World} {ao : Option Addr} {n cap : Nat} {bs : List Int} (h : OwI e w ao n cap bs) (hf : Fr F w w') (hn : ∀ a, ao = some a -> ¬ F a.block) : OwI e w' ao n cap bs :=
 ⟨h.rd.kept hf fun a ha _ => hn a ha, fun a ha => by
  obtain ⟨h0, hp, cur, hg, hs⟩ := h.row a ha
  exact ⟨h0, hp, cur, hf.kept hg (hn a ha), hs⟩⟩
theorem OwI.still {e : TypeId} {w w' : World} {ao : Option Addr} {n cap : Nat} {bs : List Int} (h : OwI e w ao n cap bs) (hf : Still w w') : OwI e w' ao n cap bs := h.kept hf fun _ _ e => e
theorem OwI.alloc {e : TypeId} {w : World} {ao : Option Addr} {n cap : Nat} {bs : List Int} (h : OwI e w ao n cap bs) (o : Obj) : OwI e (w.alloc o) ao n cap bs := h.still (Still.alloc w o)
def intsOf (bs : List Int) : List Value := bs.map fun b => .int .i64 b
theorem intsOf_get {bs : List Int} {j : Nat} {u : Value} (h : (intsOf bs)[j]? = some u) : ∃ hj : j < bs.length, u = .int .i64 bs[j] := by
 unfold intsOf at h
 rw [List.getElem?_map] at h
 cases hb : bs[j]? with
 | none => simp [hb] at h
 | some b =>
  obtain ⟨hj, hb'⟩ := List.getElem?_eq_some_iff.1 hb
  simp [hb] at h
  exact ⟨hj, by rw [hb']; exact h.symm⟩
theorem intsOf_at {bs : List Int} {j : Nat} (hj : j < bs.length) : (intsOf bs).toArray[j]? = some (.int .i64 bs[j]) := by
 simp [intsOf, hj]
theorem RdI.cellsAt {w : World} {a : Addr} {n cap : Nat} {bs : List Int} (h : RdI w (some a) n cap bs) : ∀ j u, (intsOf bs)[j]? = some u -> w.cell? (a.add j) = some u := by
 intro j u hu
 obtain ⟨hj, rfl⟩ := intsOf_get hu
 obtain ⟨b, o, s⟩ := a
 have := h.plain _ rfl (by have := h.len; omega)
 simp at this
 subst this
 rw [add_plain]
 exact h.byte hj
theorem intsOf_one (bs : List Int) : ∀ u ∈ intsOf bs, u.oneCell' = true := by
 intro u hu
 obtain ⟨_, _, rfl⟩ := List.mem_map.1 hu
 rfl
section
variable {P : Program}
theorem OwI.fresh {e : TypeId} (w : World) (cur : Array Value) (cap n : Nat) (bs : List Int) (hl : bs.length = n) (hn : n <= cap) (hm : cap <= maxLen) (hc : cur.size = cap) (ht : ∀ j (h : j < bs.length), cur[j]? = some (.int .i64 bs[j])) :
  OwI e (w.alloc (.cells cur e)) (some ⟨w.heap.size, 0, none⟩) n cap bs := by
 have hh : (w.alloc (.cells cur e)).heap[w.heap.size]? = some (.cells cur e (0, 0)) := heap_alloc_new w _
 refine ⟨⟨hl, hn, hm, fun a ha _ => ?_, fun h => (by cases h), fun a ha j hj => ?_⟩, fun a ha => ?_⟩
 ·cases ha; rfl
 ·cases ha
  rw [cell_of_row _ _ _ _ _ _ hh, Nat.zero_add]
  exact ht j hj
 ·cases ha
  exact ⟨rfl, rfl, cur, hh, hc⟩
theorem run_appI (w : World) (t ty e : TypeId) (i : TypeInfo) (ht : P.underlying t = some (.slice e)) (hi : P.info? e = some i) (hz : i.zero = some (.int .i64 0)) (hs : i.size = 1) (hb : i.bytes = 8)
  {ao so : Option Addr} {n cap m c : Nat} {bs cs : List Int} (ho : OwI e w ao n cap bs) (hr : RdI w so m c cs) (h47 : n + m <= 17592186044416) :
  ∃ ao' cap' w', (Builtin.append_ #[t, t] ty #[.slice ao n cap, .slice so m c]).run P w = .ok (.slice ao' (n + m) cap') w' /\ OwI e w' ao' (n + m) cap' (bs ++ cs) /\
   Fr (fun k => ∃ a, ao = some a /\ a.block = k) w w' /\ (∀ a, ao' = some a -> ao = some a \/ w.heap.size <= a.block) /\ (ao' = none -> m = 0 /\ ao = none) := by
 have hlb := ho.rd.len
 have hlc := hr.len
 have hle := ho.rd.le
 have hmx := ho.rd.max
 have h63 : n + m <= 9223372036854775807 := by omega
 cases so with
 | none =>
  have h1 := hr.nil rfl
  have h2 := hr.le
  have hm : m = 0 := by omega
  subst hm
  have hc : c = 0 := by omega
  subst hc
  have hcs : cs = [] := List.eq_nil_of_length_eq_zero (by omega)
  subst hcs
  refine ⟨ao, cap, w, ?_, by simpa using ho, Fr.refl _ _, fun a ha => .inl ha, fun h => ⟨rfl, h⟩⟩
  simp [Builtin.append_, run_underlying ht, sizeOf, typeInfo, hi, Builtin.lenOf, run_firstCells_none, hle]
  cases ao with
  | none => simp
  | some a => simp [storeCells]
 | some sa =>
  have hnews := hr.cellsAt
  have hl : (intsOf cs).length = m * i.size := by simp [intsOf, hs, hlc]
  cases ao with
  | none =>
   have hcap := ho.rd.nil rfl
   subst hcap
   have hn0 : n = 0 := by omega
   subst hn0
   have hbs : bs = [] := List.eq_nil_of_length_eq_zero hlb
   subst hbs
   by_cases hm : m = 0
   ·subst hm
    have hcs : cs = [] := List.eq_nil_of_length_eq_zero hlc
    subst hcs
    refine ⟨none, 0, w, ?_, OwI.empty e w, Fr.refl _ _, fun a ha => .inl ha, fun _ => ⟨rfl, rfl⟩⟩
    simp [Builtin.append_, run_underlying ht, sizeOf, typeInfo, hi, Builtin.lenOf, Builtin.firstCells, loadCells, loadCellsFrom]
   ·have hr' := run_append_nil (P := P) w t ty e i _ ht hi hz sa m c (intsOf cs) hl hnews (by omega) (by omega) (by rw [hb]; omega)
    have hge := grownCap_ge w m 0 e
    have hgm := grownCap_le_maxLen w m 0 e (by unfold maxLen; omega)
    refine ⟨_, _, _, by rw [Nat.zero_add]; exact hr', ?_, ((Fr.refl _ w).drew.alloc _), fun a ha => .inr (by cases ha; exact Nat.le_refl _), fun h => by cases h⟩
    rw [List.nil_append, Nat.zero_add]
    exact OwI.fresh w.drew _ _ m cs hlc hge hgm (by simp [intsOf, hlc, Builtin.zeroCells, Value.cells]; omega) (fun j hj => by
     rw [Array.getElem?_append_left (by simpa [intsOf] using hj)]
     simp [intsOf, hj])
  | some a =>
   obtain ⟨b, o, sp⟩ := a
   obtain ⟨h0, hp, cur, hg, hcs⟩ := ho.row _ rfl
   simp at h0 hg hp
   subst h0
   subst hp
   by_cases hroom : n + m <= cap
   ·have hfit : n * i.size + (intsOf cs).length <= cur.size := by simp [hs, intsOf, hlc]; omega
    have hr' := run_append_room (P := P) w t ty e i ht hi b n cap cur hg sa m c (intsOf cs) hl hnews (intsOf_one cs) hroom hfit
    refine ⟨_, _, _, hr', ?_, (Fr.refl _ w).setRow b _ (.inl ⟨_, rfl, rfl⟩), fun a ha => .inl ha, fun h => by cases h⟩
    have hgn := setRow_heap w b cur (cur.toList.take (n * i.size) ++ intsOf cs ++ cur.toList.drop (n * i.size + (intsOf cs).length)).toArray e _ hg
    have hcl : (intsOf cs).length = m := by simp [intsOf, hlc]
    refine ⟨⟨by simp [hlb, hlc], hroom, hmx, fun a ha _ => (by cases ha; rfl), fun h => (by cases h), fun a ha j hj => ?_⟩, fun a ha => ?_⟩
    ·cases ha
     rw [cell_of_row _ _ _ _ _ _ hgn]
     simp only [Nat.zero_add, List.getElem?_toArray, hs, Nat.mul_one]
     simp at hj
     by_cases hjn : j < n
     ·rw [List.append_assoc, List.getElem?_append_left (by simp; omega), List.getElem?_take_of_lt hjn]
      have h1 := ho.rd.byte (k := j) (by omega)
      rw [cell_of_row _ _ _ _ _ _ hg] at h1
      simp only [Nat.zero_add] at h1
      rw [List.getElem_append_left (by omega)]
      simpa using h1
     ·have htl : (cur.toList.take n).length = n := by simp; omega
      rw [List.append_assoc, List.getElem?_append_right (by omega), List.getElem?_append_left (by rw [htl, hcl]; omega), htl]
      rw [List.getElem_append_right (by omega)]
      have hj2 : j - n < cs.length := by omega
      simp only [intsOf, List.getElem?_map, hlb, List.getElem?_eq_getElem hj2, Option.map_some]
    ·cases ha
     refine ⟨rfl, rfl, _, hgn, ?_⟩
     simp only [List.size_toArray, List.length_append, List.length_take, List.length_drop, Array.length_toList, hs, Nat.mul_one, hcl]
     omega
   ·have holds : ∀ j u, (intsOf bs)[j]? = some u -> w.cell? ((⟨b, 0, none⟩ : Addr).add j) = some u := ho.rd.cellsAt
    have hr' := run_append_grow (P := P) w t ty e i _ ht hi hz ⟨b, 0, none⟩ n cap (intsOf bs) (by simp [intsOf, hs, hlb]) holds sa m c (intsOf cs) hl hnews (by omega) (by omega) (by rw [hb]; exact growslice_fits (by omega) (by omega))
    have hge := grownCap_ge w (n + m) cap e
    have hgm := grownCap_le_maxLen w (n + m) cap e (by unfold maxLen; omega)
    refine ⟨_, _, _, hr', ?_, ((Fr.refl _ w).drew.alloc _), fun a ha => .inr (by cases ha; exact Nat.le_refl _), fun h => by cases h⟩
    exact OwI.fresh w.drew _ _ (n + m) (bs ++ cs) (by simp [hlb, hlc]) hge hgm (by simp [intsOf, hlb, hlc, Builtin.zeroCells, Value.cells]; omega) (fun j hj => by
     have hcl : (intsOf bs).toArray ++ (intsOf cs).toArray = (intsOf (bs ++ cs)).toArray := by simp [intsOf]
     rw [hcl, Array.getElem?_append_left (by simpa [intsOf] using hj)]
     exact intsOf_at hj)
theorem wpList_appI (w : World) {ops : Array Oper} {rest : List Oper} {o : Oper} {a : Act} {Q : Exit -> Act -> World -> Prop} (hgd : o.guard = none) (s x : Operand) (t : TypeId)
  (hop : o.op = .call { callee := .builtin .append, args := #[s, x], argTypes := #[t, t] })
  (e : TypeId) (i : TypeInfo) (ht : P.underlying t = some (.slice e)) (hi : P.info? e = some i) (hz : i.zero = some (.int .i64 0)) (hs1 : i.size = 1) (hb : i.bytes = 8)
  (ao so : Option Addr) (n cap m c : Nat) (bs cs : List Int) (hs : a.eval s = .slice ao n cap) (hx : a.eval x = .slice so m c) (ho : OwI e w ao n cap bs) (hr : RdI w so m c cs) (h47 : n + m <= 17592186044416)
  (h : ∀ ao' cap' w', OwI e w' ao' (n + m) cap' (bs ++ cs) -> Fr (fun k => ∃ a, ao = some a /\ a.block = k) w w' -> (∀ a, ao' = some a -> ao = some a \/ w.heap.size <= a.block) -> (ao' = none -> m = 0 /\ ao = none) ->
   wpList P ops Q rest (a.put o.dst (.slice ao' (n + m) cap')) w') : wpList P ops Q (o :: rest) a w := by
 refine wpList_plain hgd fun _ hK => ?_
 obtain ⟨ao', cap', w', hrun, h1, h2, h3, h4⟩ := run_appI (P := P) w t o.type e i ht hi hz hs1 hb ho hr h47
 unfold Oper.wp execOp
 simp only [hop, resolve, invoke, builtin, Sem.run_bind, Sem.run_pure, Result.andThen_ok, List.map_toArray, List.map_cons, List.map_nil, hs, hx, hrun]
 exact hK _ _ (h ao' cap' w' h1 h2 h3 h4)
end
end Go.Proofs.YtdljmpjfiggdiaaDoor
namespace Go.Proofs.YtdljmpjfiggdiaaDoor
open Go.RowKit
theorem info_int : (Tryd.prog.info? 3).map (fun i => (i.zero, i.size, i.bytes)) = some (some (.int .i64 0), 1, 8) := by kernel_rfl
theorem size_int : (Tryd.prog.info? 3).map (·.size) = some 1 := by kernel_rfl
theorem OwI.set {e : TypeId} {w : World} {g n cap k : Nat} {bs : List Int} {x : Int} (h : OwI e w (some ⟨g, 0, none⟩) n cap bs) (hk : k < n) :
  OwI e (w.setCell ⟨g, k, none⟩ (.int .i64 x)) (some ⟨g, 0, none⟩) n cap (bs.set k x) := by
 obtain ⟨_, _, cur, hg, hc⟩ := h.row _ rfl
 have hl := h.rd.len
 have hle := h.rd.le
 have hg' := heap_setCell_same w g k cur e (.int .i64 x) hg
 refine ⟨⟨by simp [hl], hle, h.rd.max, fun a ha _ => (by cases ha; rfl), fun h => (by cases h), fun a ha j hj => ?_⟩, fun a ha => ?_⟩
 ·cases ha
  rw [cell_of_row _ _ _ _ _ _ hg']
  simp only [List.length_set] at hj
  by_cases hjk : k = j
  ·subst hjk
   simp only [Nat.zero_add, List.getElem_set_self]
   rw [Array.getElem?_setIfInBounds_self_of_lt (by omega)]
  ·simp only [Nat.zero_add]
   rw [Array.getElem?_setIfInBounds_ne hjk, List.getElem_set_ne hjk]
   have := h.rd.byte hj
   rw [cell_of_row _ _ _ _ _ _ hg, Nat.zero_add] at this
   exact this
 ·cases ha
  exact ⟨rfl, rfl, _, hg', by simpa using hc⟩
theorem OwI.cellAt {e : TypeId} {w : World} {g n cap k : Nat} {bs : List Int} (h : OwI e w (some ⟨g, 0, none⟩) n cap bs) (hk : k < n) : (∃ v, w.cell? ⟨g, k, none⟩ = some v) /\ w.frozen? ⟨g, k, none⟩ = false := by
 obtain ⟨_, _, cur, hg, hc⟩ := h.row _ rfl
 have hlt : k < cur.size := by have := h.rd.le; omega
 exact ⟨⟨cur[k], by rw [cell_of_row _ _ _ _ _ _ hg, Array.getElem?_eq_getElem hlt]⟩, frozen_of_row w g k cur e hg⟩
theorem copy_owI {W : World} {g N : Nat} {so : Option Addr} {n c : Nat} {bs cs : List Int} (ho : OwI 3 W (some ⟨g, 0, none⟩) N N bs) (hr : RdI W so n c cs) (hn : n <= N) :
  ∃ W', (∀ ty, (Builtin.copy_ #[69, 69] ty #[.slice (some ⟨g, 0, none⟩) N N, .slice so n c]).run Tryd.prog W = .ok (goInt n) W') /\ OwI 3 W' (some ⟨g, 0, none⟩) N N (cs ++ bs.drop n) /\ Fr (fun k => k = g) W W' := by
 have hlc := hr.len
 have hlb := ho.rd.len
 cases so with
 | none =>
  have h1 := hr.nil rfl
  have h2 := hr.le
  obtain rfl : n = 0 := by omega
  obtain rfl : c = 0 := by omega
  obtain rfl : cs = [] := List.eq_nil_of_length_eq_zero hlc
  exact ⟨W, fun ty => run_copy_nil (P := Tryd.prog) W 69 69 ty 3 ⟨g, 0, none⟩ N N Tryd.underlying69 (by rw [size_int]; rfl), by simpa using ho, Fr.refl _ _⟩
 | some a =>
  obtain ⟨_, _, cur, hg, hc⟩ := ho.row _ rfl
  have hcl : (intsOf cs).length = n := by simp [intsOf, hlc]
  refine ⟨W.setRow g (cur.toList.take 0 ++ intsOf cs ++ cur.toList.drop (0 + (intsOf cs).length)).toArray, fun ty => ?_, ?_, (Fr.refl _ W).setRow g _ (.inl rfl)⟩
  ·have := run_copy_row (P := Tryd.prog) W 69 69 ty 3 g 0 N N a n c cur 3 (intsOf cs) Tryd.underlying69 size_int hg (by rw [hcl]; exact (Nat.min_eq_left hn).symm) hr.cellsAt (by rw [hcl]; omega) (intsOf_one cs)
   rw [hcl] at this ⊢
   exact this
  ·have hgn := setRow_heap W g cur (cur.toList.take 0 ++ intsOf cs ++ cur.toList.drop (0 + (intsOf cs).length)).toArray 3 _ hg
   refine ⟨⟨by simp [hlb, hlc]; omega, Nat.le_refl _, ho.rd.max, fun a ha _ => (by cases ha; rfl), fun h => (by cases h), fun a ha j hj => ?_⟩, fun a ha => ?_⟩
   ·cases ha
    rw [cell_of_row _ _ _ _ _ _ hgn]
    simp only [Nat.zero_add, List.getElem?_toArray, List.take_zero, List.nil_append, hcl]
    simp at hj
    by_cases hjn : j < n
    ·rw [List.getElem?_append_left (by omega), List.getElem_append_left (by omega)]
     simp only [intsOf, List.getElem?_map, List.getElem?_eq_getElem (show j < cs.length by omega), Option.map_some]
    ·rw [List.getElem?_append_right (by omega), hcl, List.getElem?_drop, List.getElem_append_right (by omega)]
     have h1 := ho.rd.byte (k := j) (by omega)
     rw [cell_of_row _ _ _ _ _ _ hg, Nat.zero_add] at h1
     rw [show n + (j - n) = j by omega]
     simp only [List.getElem_drop, hlc, show n + (j - n) = j by omega]
     simpa using h1
   ·cases ha
    refine ⟨rfl, rfl, _, hgn, ?_⟩
    simp only [List.size_toArray, List.length_append, List.length_take, List.length_drop, Array.length_toList, hcl]
    omega
end Go.Proofs.YtdljmpjfiggdiaaDoor
namespace Go.Proofs.YtdljmpjfiggdiaaDoor
open Go.RowKit
def atI (s f u : Int) : Int := chainI (chainI s (IntKind.u64.wrap f)) (IntKind.u64.wrap u)
theorem at_in (s f u : Int) : 0 <= atI s f u /\ atI s f u < 18446744073709551616 := chain_in _ _
theorem mod_in {n m : Int} (h0 : 0 <= n) (hm : 0 < m) : 0 <= n % m /\ n % m < m /\ n % m <= n := by
 have a0 : 0 <= n % m := Int.emod_nonneg _ (by omega)
 have a2 : n % m < m := Int.emod_lt_of_pos _ hm
 have h1 := Int.emod_add_mul_ediv n m
 have h2 : 0 <= m * (n / m) := Int.mul_nonneg (by omega) (Int.ediv_nonneg h0 (by omega))
 omega
theorem many_eq {l h : Int} (hl : -9223372036854775808 <= l) (hh : h <= 9223372036854775807) (hlh : l <= h) (hn : ¬ (l = -9223372036854775808 /\ h = 9223372036854775807)) :
  IntKind.u64.wrap (IntKind.u64.wrap (IntKind.u64.wrap h - IntKind.u64.wrap l) + 1) = h - l + 1 := by
 simp only [IntKind.wrap_u64]
 omega
theorem back_eq {l r : Int} (hl : -9223372036854775808 <= l) (h0 : 0 <= r) (h1 : l + r <= 9223372036854775807) : wrap64 (IntKind.u64.wrap (IntKind.u64.wrap l + r)) = l + r := by
 unfold wrap64
 rw [IntKind.wrap_u64, IntKind.wrap_u64]
 omega
def bel (n k : Int) : Int := if k < 1 then 0 else n % k
def belE (k : Int) : Int := if k < 1 then 40 else 0
def bet (n l h : Int) : Int := if h < l then 0 else if l = -9223372036854775808 /\ h = 9223372036854775807 then wrap64 n else l + n % (h - l + 1)
def betE (l h : Int) : Int := if h < l then 40 else 0
def cha (n o a : Int) : Bool := if a < 1 then false else if o < 0 \/ a < o then false else decide (n % a < o)
def chaE (o a : Int) : Int := if a < 1 then 40 else if o < 0 \/ a < o then 1 else 0
theorem rest_i64 {n k : Int} (h0 : 0 <= n) (h1 : n < 18446744073709551616) (hk : 0 < k) (hk2 : k <= 9223372036854775807) : wrap64 (n.tmod (IntKind.u64.wrap k)) = n % k := by
 have hr := mod_in (m := k) h0 hk
 have e : IntKind.u64.wrap k = k := by rw [IntKind.wrap_u64]; omega
 rw [e, Int.tmod_eq_emod_of_nonneg h0]
 unfold wrap64
 omega
theorem wrap_ne {k : Int} (hk : 0 < k) (hk2 : k <= 9223372036854775807) : ¬ IntKind.u64.wrap k = 0 := by
 rw [IntKind.wrap_u64]; omega
theorem many_whole : IntKind.u64.wrap (IntKind.u64.wrap (IntKind.u64.wrap 9223372036854775807 - IntKind.u64.wrap (-9223372036854775808)) + 1) = 0 := by decide
end Go.Proofs.YtdljmpjfiggdiaaDoor
namespace Go.Proofs.YtdljmpjfiggdiaaDoor
open Go.RowKit
def okW (v : Int) : Prop := 0 <= v /\ v <= 2147483647
theorem okW_dec (v : Int) : okW v \/ ¬ okW v := by unfold okW; omega
theorem sum_take {bs : List Int} {k : Nat} (hk : k < bs.length) : Rg.sum (bs.take (k + 1)) = Rg.sum (bs.take k) + bs[k] := by
 rw [List.take_succ_eq_append_getElem hk, Rg.sum_append]
 simp [Rg.sum]
theorem sum_in {bs : List Int} (h : ∀ v ∈ bs, okW v) (hn : bs.length <= 64) : 0 <= Rg.sum bs /\ Rg.sum bs <= 137438953408 := by
 refine ⟨Rg.sum_nonneg fun v hv => (h v hv).1, ?_⟩
 have := Rg.sum_le (m := 2147483647) fun v hv => (h v hv).2
 omega
theorem sum_take_in {bs : List Int} (h : ∀ v ∈ bs, okW v) (hn : bs.length <= 64) (k : Nat) : 0 <= Rg.sum (bs.take k) /\ Rg.sum (bs.take k) <= 137438953408 :=
 sum_in (fun v hv => h v (List.mem_of_mem_take hv)) (by simp; omega)
theorem add_u64 {a x y : Int} (ha : 0 <= a /\ a <= 137438953408) (hx : okW x) (hy : y = a + x) : IntKind.u64.wrap (a + IntKind.u64.wrap x) = y := by
 obtain ⟨h0, h1⟩ := hx
 subst hy
 rw [IntKind.wrap_u64, IntKind.wrap_u64]
 omega
end Go.Proofs.YtdljmpjfiggdiaaDoor
namespace Go.Proofs.YtdljmpjfiggdiaaDoor
open Go.RowKit
theorem place_step {bs : List Int} {L : Int} {i : Nat} (hi : i < bs.length) (hpk : Rg.pick L bs < bs.length) (h : Rg.pick L bs = i + Rg.pick (L - Rg.sum (bs.take i)) (bs.drop i)) (hle : Rg.sum (bs.take (i + 1)) <= L) :
  i + 1 < bs.length /\ Rg.pick L bs = (i + 1) + Rg.pick (L - Rg.sum (bs.take (i + 1))) (bs.drop (i + 1)) := by
 have e := sum_take hi
 have := Rg.pick_step hi h (by omega)
 rw [show L - Rg.sum (bs.take i) - bs[i] = L - Rg.sum (bs.take (i + 1)) by omega] at this
 exact ⟨by omega, this⟩
theorem place_here {bs : List Int} {L : Int} {i : Nat} (hi : i < bs.length) (h : Rg.pick L bs = i + Rg.pick (L - Rg.sum (bs.take i)) (bs.drop i)) (hlt : L < Rg.sum (bs.take (i + 1))) : Rg.pick L bs = i := by
 have e := sum_take hi
 exact Rg.pick_here hi h (by omega)
def wgtE (bs : List Int) : Int := if 64 < bs.length then 2 else if bs.all (fun v => decide (0 <= v) && decide (v <= 2147483647)) = false then 1 else if Rg.sum bs = 0 then 40 else 0
def wgt (N : Int) (bs : List Int) : Int := if wgtE bs = 0 then ((Rg.pick (N % Rg.sum bs) bs : Nat) : Int) else 0
theorem all_ok {bs : List Int} : bs.all (fun v => decide (0 <= v) && decide (v <= 2147483647)) = true ↔ ∀ v ∈ bs, okW v := by
 simp [List.all_eq_true, okW]
theorem wgt_long {bs : List Int} (N : Int) (h : 64 < bs.length) : wgtE bs = 2 /\ wgt N bs = 0 := by
 have e : wgtE bs = 2 := by simp [wgtE, h]
 exact ⟨e, by simp [wgt, e]⟩
theorem wgt_bad {bs : List Int} (N : Int) (h : ¬ 64 < bs.length) (hno : ¬ ∀ v ∈ bs, okW v) : wgtE bs = 1 /\ wgt N bs = 0 := by
 have e : wgtE bs = 1 := by
  unfold wgtE
  rw [if_neg h, if_pos (by rw [<- all_ok] at hno; simpa using hno)]
 exact ⟨e, by simp [wgt, e]⟩
theorem wgt_none {bs : List Int} (N : Int) (h : ¬ 64 < bs.length) (hok : ∀ v ∈ bs, okW v) (hs : Rg.sum bs = 0) : wgtE bs = 40 /\ wgt N bs = 0 := by
 have e : wgtE bs = 40 := by
  unfold wgtE
  rw [if_neg h, if_neg (by rw [all_ok.2 hok]; simp), if_pos hs]
 exact ⟨e, by simp [wgt, e]⟩
theorem wgt_some {bs : List Int} (N : Int) (h : ¬ 64 < bs.length) (hok : ∀ v ∈ bs, okW v) (hs : ¬ Rg.sum bs = 0) : wgtE bs = 0 /\ wgt N bs = ((Rg.pick (N % Rg.sum bs) bs : Nat) : Int) := by
 have e : wgtE bs = 0 := by
  unfold wgtE
  rw [if_neg h, if_neg (by rw [all_ok.2 hok]; simp), if_neg hs]
 exact ⟨e, by simp [wgt, e]⟩
end Go.Proofs.YtdljmpjfiggdiaaDoor
namespace Go.Proofs.YtdljmpjfiggdiaaDoor
open Go.RowKit
theorem rplace_step {bs : List Int} {L x : Int} {i : Nat} (hi : i < bs.length) (hpk : Rg.pick L bs < bs.length) (h : Rg.pick L bs = i + Rg.pick x (bs.drop i)) (hle : bs[i] <= x) :
  i + 1 < bs.length /\ Rg.pick L bs = (i + 1) + Rg.pick (x - bs[i]) (bs.drop (i + 1)) := by
 have := Rg.pick_step hi h (by omega)
 exact ⟨by omega, this⟩
end Go.Proofs.YtdljmpjfiggdiaaDoor
namespace Go.Proofs.YtdljmpjfiggdiaaDoor
open Go.RowKit
def ordF (N : Int) (i : Nat) : Nat := (chainI N (i : Int) % ((i : Int) + 1)).toNat
theorem ordF_le (N : Int) (i : Nat) : ordF N i <= i := by
 have := mod_in (n := chainI N (i : Int)) (m := (i : Int) + 1) (chain_in _ _).1 (by omega)
 unfold ordF
 omega
def ordL (N : Int) (n : Nat) : List Int := Rg.turns (ordF N) (n - 1) (Rg.upTo n)
theorem ordL_length (N : Int) (n : Nat) : (ordL N n).length = n := by unfold ordL; rw [Rg.turns_length, Rg.upTo_length]
theorem ordL_count (N : Int) (n m : Nat) : (ordL N n).count (m : Int) = if m < n then 1 else 0 := by
 unfold ordL
 cases n with
 | zero => simp [Rg.turns, Rg.upTo]
 | succ n =>
  rw [Rg.turns_count _ _ _ _ (by rw [Rg.upTo_length]; omega) (fun k _ => ordF_le N k), Rg.upTo_count]
theorem OwI.head {e : TypeId} {w : World} {ao : Option Addr} {n cap : Nat} {bs : List Int} (h : OwI e w ao n cap bs) (hn : 0 < n) : ∃ g, ao = some ⟨g, 0, none⟩ := by
 obtain ⟨b, o, rfl⟩ := h.rd.addr hn
 obtain ⟨h0, _⟩ := h.row _ rfl
 simp at h0
 subst h0
 exact ⟨b, rfl⟩
theorem set_midI {xs zs : List Int} {y v : Int} {k : Nat} (h : xs.length = k) : (xs ++ y :: zs).set k v = xs ++ v :: zs := by
 subst h
 induction xs with
 | nil => rfl
 | cons a r ih => simp [ih]
theorem zeros_consI {m k : Nat} (h : k < m) (v : Int) : List.replicate (m - k) v = v :: List.replicate (m - (k + 1)) v := by
 obtain ⟨d, rfl⟩ : ∃ d, m = k + 1 + d := ⟨m - (k + 1), by omega⟩
 rw [show k + 1 + d - k = d + 1 by omega, show k + 1 + d - (k + 1) = d by omega]
 rfl
theorem fill_step {n k : Nat} (h : k < n) : (Rg.upTo k ++ List.replicate (n - k) 0).set k (k : Int) = Rg.upTo (k + 1) ++ List.replicate (n - (k + 1)) 0 := by
 rw [zeros_consI h, set_midI (Rg.upTo_length k)]
 simp [Rg.upTo]
theorem swap_is {l : List Int} {i j : Nat} (hi : i < l.length) (hj : j < l.length) : (l.set i l[j]).set j l[i] = Rg.swap l i j := by
 simp [Rg.swap, List.getD, hi, hj]
theorem turns_step {f : Nat -> Nat} {i : Nat} {l r : List Int} (hi : 1 <= i) (h : Rg.turns f i l = r) : Rg.turns f (i - 1) (Rg.swap l i (f i)) = r := by
 obtain ⟨m, rfl⟩ : ∃ m, i = m + 1 := ⟨i - 1, by omega⟩
 exact h
theorem OwI.two {e : TypeId} {w : World} {g n i j : Nat} {l : List Int} (h : OwI e w (some ⟨g, 0, none⟩) n n l) (hi : i < n) (hj : j < n) :
  ∃ a b : Int, w.cell? ⟨g, i, none⟩ = some (.int .i64 a) /\ w.cell? ⟨g, j, none⟩ = some (.int .i64 b) /\ w.frozen? ⟨g, i, none⟩ = false /\ w.frozen? ⟨g, j, none⟩ = false /\
   (∃ v, (w.setCell ⟨g, i, none⟩ (.int .i64 b)).cell? ⟨g, j, none⟩ = some v) /\ (w.setCell ⟨g, i, none⟩ (.int .i64 b)).frozen? ⟨g, j, none⟩ = false /\
   OwI e ((w.setCell ⟨g, i, none⟩ (.int .i64 b)).setCell ⟨g, j, none⟩ (.int .i64 a)) (some ⟨g, 0, none⟩) n n (Rg.swap l i j) := by
 have hl := h.rd.len
 have h1 := h.set (x := l[j]'(by omega)) hi
 have h2 := h1.set (x := l[i]'(by omega)) hj
 rw [swap_is (by omega) (by omega)] at h2
 have c1 := h.rd.byte (k := i) (by omega)
 have c2 := h.rd.byte (k := j) (by omega)
 rw [Nat.zero_add] at c1 c2
 exact ⟨_, _, c1, c2, (h.cellAt hi).2, (h.cellAt hj).2, (h1.cellAt hj).1, (h1.cellAt hj).2, h2⟩
end Go.Proofs.YtdljmpjfiggdiaaDoor
namespace Go.Proofs.YtdljmpjfiggdiaaDoor
open Go.RowKit
theorem OwI.one (e : TypeId) (wr : World) (x : Int) : OwI e (wr.alloc (.cells #[.int .i64 x] e)) (some ⟨wr.heap.size, 0, none⟩) 1 1 [x] :=
 OwI.fresh wr _ 1 1 [x] rfl (Nat.le_refl _) (by unfold maxLen; omega) rfl (fun j hj => by
  simp at hj
  subst hj
  rfl)
theorem still_appI {w wr w1 : World} {o : Obj} {ao ao' : Option Addr} (hs : Still w wr) (ha : ∀ a, ao = some a -> w.heap.size <= a.block) (hf : Fr (fun k => ∃ a, ao = some a /\ a.block = k) (wr.alloc o) w1)
  (hn : ∀ a, ao' = some a -> ao = some a \/ (wr.alloc o).heap.size <= a.block) : Still w w1 /\ ∀ a, ao' = some a -> w.heap.size <= a.block := by
 refine ⟨Fr.trans (Fr.alloc hs o) hf ?_, fun a h => ?_⟩
 ·rintro k hk ⟨a, h1, rfl⟩
  have := ha a h1
  omega
 ·rcases hn a h with h1 | h1
  ·exact ha a h1
  ·have := hs.size
   simp at h1
   omega
theorem rest_ord (N : Int) (i : Nat) (h64 : i <= 64) : wrap64 ((chainI N (i : Int)).tmod ((i : Int) + 1)) = ((ordF N i : Nat) : Int) := by
 have h := mod_in (n := chainI N (i : Int)) (m := (i : Int) + 1) (chain_in _ _).1 (by omega)
 rw [Int.tmod_eq_emod_of_nonneg (chain_in _ _).1]
 unfold ordF
 rw [Int.toNat_of_nonneg h.1]
 unfold wrap64
 omega
theorem OwI.twoR {e : TypeId} {w : World} {g n cap i j : Nat} {l : List Int} (h : OwI e w (some ⟨g, 0, none⟩) n cap l) (hi : i < n) (hj : j < n) :
  ∃ a b : Int, w.cell? ⟨g, i, none⟩ = some (.int .i64 a) /\ w.cell? ⟨g, j, none⟩ = some (.int .i64 b) /\ w.frozen? ⟨g, i, none⟩ = false /\
   (∃ v, (w.setCell ⟨g, i, none⟩ (.int .i64 b)).cell? ⟨g, j, none⟩ = some v) /\ (w.setCell ⟨g, i, none⟩ (.int .i64 b)).frozen? ⟨g, j, none⟩ = false /\
   OwI e ((w.setCell ⟨g, i, none⟩ (.int .i64 b)).setCell ⟨g, j, none⟩ (.int .i64 a)) (some ⟨g, 0, none⟩) n cap (Rg.swap l i j) := by
 have hl := h.rd.len
 have h1 := h.set (x := l[j]'(by omega)) hi
 have h2 := h1.set (x := l[i]'(by omega)) hj
 rw [swap_is (by omega) (by omega)] at h2
 have c1 := h.rd.byte (k := i) (by omega)
 have c2 := h.rd.byte (k := j) (by omega)
 rw [Nat.zero_add] at c1 c2
 exact ⟨_, _, c1, c2, (h.cellAt hi).2, (h1.cellAt hj).1, (h1.cellAt hj).2, h2⟩
end Go.Proofs.YtdljmpjfiggdiaaDoor
