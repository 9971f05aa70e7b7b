/- The two ends of the law in memory; how many were laid for a frame. -/
import Derived.Test.YtcmgghfjakphmaaLku
import Derived.Test.YtcmgghfjakphmaaLkx
import Derived.Test.YtcmgghfjakphmaaHn
namespace Go.Proofs.Ytcmgghfjakphmaa
open Go.RowKit
open Wp Vp Lp
set_option maxRecDepth 100000
set_option linter.unusedVariables false
set_option linter.unusedSimpArgs false

/-- a datagram in a row -/
structure Dq where
  d : Dg
  co : Option Addr
  cn : Nat
  cp : Nat
def zDq : Dq := ⟨zD, none, 0, 0⟩
abbrev dqc (x : Dq) : Array Value := dgc x.d x.co x.cn x.cp
def KDq : Kd Dq := ⟨fun x => (dqc x).toList, 8, zDq, fun _ => rfl, fun m u hu => by
  simp at hu
  rcases hu with rfl | rfl | rfl | rfl | rfl | rfl | rfl | rfl <;> rfl, by decide⟩
theorem infoDq : ∃ i, Try.prog.info? 51 = some i ∧ i.zero = some (.agg (KDq.f KDq.d).toArray) ∧ i.size = KDq.k ∧ i.bytes = 80 := ⟨_, rfl, rfl, rfl, rfl⟩
def dq (Q : List Dq) (j : Nat) : Dq := Q.getD j zDq
theorem owDq {e : TypeId} {w : World} {B g n cap : Nat} {L : List Dq} (h : OwG KDq e w B (.slice (some ⟨g, 0, none⟩) n cap) L) {i : Nat} (hi : i < L.length) : w.cell? ⟨g, i * 8, none⟩ = some (.int .i64 (dq L i).d.kd) ∧ w.cell? ⟨g, i * 8 + 1, none⟩ = some (.int .u64 (dq L i).d.ss) ∧ w.cell? ⟨g, i * 8 + 2, none⟩ = some (.int .i64 (dq L i).d.fr) ∧ w.cell? ⟨g, i * 8 + 3, none⟩ = some (.int .i64 (dq L i).d.to) ∧ w.cell? ⟨g, i * 8 + 4, none⟩ = some (.int .i64 (dq L i).d.mrk) ∧ w.cell? ⟨g, i * 8 + 5, none⟩ = some (.int .i64 (dq L i).d.fi) ∧ w.cell? ⟨g, i * 8 + 6, none⟩ = some (.slice (dq L i).co (dq L i).cn (dq L i).cp) ∧ w.cell? ⟨g, i * 8 + 7, none⟩ = some (.int .i64 (dq L i).d.ak) :=
  ⟨h.get hi 0 _ rfl, h.get hi 1 _ rfl, h.get hi 2 _ rfl, h.get hi 3 _ rfl, h.get hi 4 _ rfl, h.get hi 5 _ rfl, h.get hi 6 _ rfl, h.get hi 7 _ rfl⟩
def Bl (o : Option Addr) (k : Nat) : Prop := ∃ a, o = some a ∧ a.block = k
/-- where all lies -/
structure Hst where
  pa : Nat
  ma : Nat
  ko : Option Addr
  kc : Nat
  pb : Nat
  mb : Nat
  lo : Option Addr
  lc : Nat
  so : Option Addr
  sc : Nat
  go : Option Addr
  gc : Nat
  Q : List Dq
abbrev hoc (H : Hst) (nl : Nat) (m : Int) (ns ng : Nat) : Array Value := #[.pointer (some ⟨H.pa, 0, none⟩), .pointer (some ⟨H.pb, 0, none⟩), .slice H.lo nl H.lc, .int .i64 m, .slice H.so ns H.sc, .slice H.go ng H.gc, .bool true]
/-- the two ends in memory -/
structure HoM (w0 w : World) (hb : Nat) (H : Hst) (LA L : List Cc) (m : Int) (S : List (Int × Nat)) (g gg : Nat) (mq : Int) (mt : Bool) : Prop where
  bk : w.heap[hb]? = some (.cells (hoc H L.length m S.length gg) 32 (0, 0))
  la : Lkk w w0.heap.size H.pa H.ma H.ko H.kc (hA LA)
  lb : Lkk w w0.heap.size H.pb H.mb none 0 (hB L g mq mt)
  lw : OwG KCc 47 w w0.heap.size (.slice H.lo L.length H.lc) L
  gw : OwG KCc 47 w w0.heap.size (.slice H.go gg H.gc) (L.take gg)
  gl : gg ≤ L.length
  sw : OwG KDq 51 w w0.heap.size (.slice H.so S.length H.sc) H.Q
  ql : H.Q.length = S.length
  qd : ∀ j, j < S.length → (dq H.Q j).d = hD L (S.getD j (0, 0)) ∧ (dq H.Q j).cn = (S.getD j (0, 0)).2 ∧ SrG KCc w (dq H.Q j).co (dq H.Q j).cp (hD L (S.getD j (0, 0))).cs ∧ ∀ a, (dq H.Q j).co = some a → w0.heap.size ≤ a.block ∧ (∃ cur, w.heap[a.block]? = some (.cells cur 47 (0, 0))) ∧ ¬ Bl H.ko a.block ∧ ¬ Bl H.lo a.block ∧ ¬ Bl H.go a.block
  dj : ∀ k, Bl H.ko k → ¬ Bl H.lo k ∧ ¬ Bl H.go k
  dg : ∀ k, Bl H.lo k → ¬ Bl H.go k
  pp : H.pa ≠ H.pb ∧ H.ma ≠ H.mb
  hl : w0.heap.size ≤ hb
  st : Still w0 w
  i : HoI L m S g mq
theorem HoM.cells {w0 w : World} {hb : Nat} {H : Hst} {LA L : List Cc} {m : Int} {S : List (Int × Nat)} {g gg : Nat} {mq : Int} {mt : Bool} (h : HoM w0 w hb H LA L m S g gg mq mt) : w.cell? ⟨hb, 0, none⟩ = some (.pointer (some ⟨H.pa, 0, none⟩)) ∧ w.cell? ⟨hb, 1, none⟩ = some (.pointer (some ⟨H.pb, 0, none⟩)) ∧ w.cell? ⟨hb, 2, none⟩ = some (.slice H.lo L.length H.lc) ∧ w.cell? ⟨hb, 3, none⟩ = some (.int .i64 m) ∧ w.cell? ⟨hb, 4, none⟩ = some (.slice H.so S.length H.sc) ∧ w.cell? ⟨hb, 5, none⟩ = some (.slice H.go gg H.gc) ∧ w.cell? ⟨hb, 6, none⟩ = some (.bool true) ∧ ∀ o, w.frozen? ⟨hb, o, none⟩ = false := by
  refine ⟨?_, ?_, ?_, ?_, ?_, ?_, ?_, fun o => frozen_of_row w hb o _ _ h.bk⟩ <;> (rw [cell_of_row _ _ _ _ _ _ h.bk]; rfl)
theorem HoM.still {w0 w w' : World} {hb : Nat} {H : Hst} {LA L : List Cc} {m : Int} {S : List (Int × Nat)} {g gg : Nat} {mq : Int} {mt : Bool} (h : HoM w0 w hb H LA L m S g gg mq mt) (hs : Still w w') : HoM w0 w' hb H LA L m S g gg mq mt :=
  ⟨hs.kept_still h.bk, h.la.still hs, h.lb.still hs, h.lw.still hs, h.gw.still hs, h.gl, h.sw.still hs, h.ql, fun j hj => by
    obtain ⟨a, b, c, d⟩ := h.qd j hj
    refine ⟨a, b, c.still hs, fun x hx => ?_⟩
    obtain ⟨e, ⟨cur, f⟩, r⟩ := d x hx
    exact ⟨e, ⟨cur, hs.kept_still f⟩, r⟩, h.dj, h.dg, h.pp, h.hl, h.st.trans hs, h.i⟩
theorem Bl.own {o : Option Addr} {n c k : Nat} : (Value.slice o n c).ownBlock = some k ↔ Bl o k := by
  unfold Bl
  cases o with
  | none => simp [Value.ownBlock]
  | some a => simp [Value.ownBlock]
set_option maxHeartbeats 2000000 in
theorem lon_any (hb : Nat) (H : Hst) (LA L : List Cc) (m : Int) (S : List (Int × Nat)) (g gg : Nat) (mq : Int) (mt : Bool) (f : Int) (w0 w : World) (h : HoM w0 w hb H LA L m S g gg mq mt) : Calls Try.prog 16 #[.pointer (some ⟨hb, 0, none⟩), .int .i64 f] w fun e w' => e = .returned (.int .i64 ((onN L f : Nat) : Int)) ∧ w' = w := by
  have hl := h.i.l1
  have c2 := h.cells.2.2.1
  have HW := hid h.lw
  clear h
  obtain ⟨n, en⟩ : ∃ n, L.length = n := ⟨_, rfl⟩
  rw [en] at c2 hl
  have HN := hid en
  go_enter Try.func16, Try.ntmps16
  go_wp2_with fail
  go_loopw [5, 6] (fun u5 u6 wr => ∃ i k : Nat, i ≤ n ∧ k ≤ i ∧ u6 = .int .i64 (i : Int) ∧ u5 = .int .i64 (k : Int) ∧ Hid (k = onN (L.take i) f) ∧ Hid (wr = w)) (fun _ u6 _ => n - (intOf u6).toNat)
  case atStart => exact ⟨0, 0, by omega, by omega, rfl, rfl, hid (by simp [onN]), hid rfl⟩
  case round =>
    obtain ⟨i, k, hi, hk, rfl, rfl, HK, HWr⟩ := hrel
    obtain rfl := HWr.out
    by_cases hin : i < n
    · have hlt : (i : Int) < (n : Int) := by omega
      obtain ⟨go8, cap8, e8, _, _⟩ := HW.out.head (by rw [HN.out]; omega)
      have ho8 := HW.out
      injection e8 with e81 e82 e83
      rw [e81] at ho8 c2
      obtain ⟨x0, x1, x2, x3, x4, x5, x6, xf⟩ := owCc ho8 (i := i) (by rw [HN.out]; exact hin)
      have ht := (take_one (L := L) (i := i) (by rw [HN.out]; exact hin)).1
      obtain ⟨x, ex⟩ : ∃ x, cc L i = x := ⟨_, rfl⟩
      rw [ex] at x0 ht
      have HT : Hid (onN (L.take (i + 1)) f = onN (L.take i) f + if x.fr = f then 1 else 0) := hid (by rw [ht, onN_snoc])
      clear ex ht x1 x2 x3 x4 x5 x6 xf e81 e82 e83 ho8
      have hw : IntKind.i64.wrap ((k : Int) + 1) = (k : Int) + 1 := wr64 (by omega) (by omega)
      cases hbq : (x.fr == f) with
      | true =>
        have HX : Hid (x.fr = f) := hid (by simpa using hbq)
        go_wp2_with fail
        go_roundw
        case rel => exact ⟨i + 1, k + 1, by omega, by omega, by go_num, by go_num, hid (by rw [HT.out, if_pos HX.out, HK.out]), hid (by trivial)⟩
        case measure => simp [intOf]; omega
      | false =>
        have HX : Hid (x.fr ≠ f) := hid (by simpa using hbq)
        go_wp2_with fail
        go_roundw
        case rel => exact ⟨i + 1, k, by omega, by omega, by go_num, rfl, hid (by rw [HT.out, if_neg HX.out, HK.out]; rfl), hid (by trivial)⟩
        case measure => simp [intOf]; omega
    · have hlt : ¬ (i : Int) < (n : Int) := by omega
      have HE : Hid (k = onN L f) := hid (by rw [HK.out, List.take_of_length_le (by rw [HN.out]; omega)])
      go_wp2_with fail
      go_ret
      exact ⟨by rw [HE.out]; rfl, rfl⟩
section
variable {w0 w w1 : World} {hb : Nat} {H : Hst} {LA L : List Cc} {m : Int} {S : List (Int × Nat)} {g gg : Nat} {mq : Int} {mt : Bool}
theorem HoM.lt (h : HoM w0 w hb H LA L m S g gg mq mt) : hb < w.heap.size := block_lt h.bk
/-- no other block that matters is the honest one's -/
theorem HoM.ne (h : HoM w0 w hb H LA L m S g gg mq mt) : H.pa ≠ hb ∧ H.ma ≠ hb ∧ H.pb ≠ hb ∧ H.mb ≠ hb ∧ (∀ k, Bl H.ko k → k ≠ hb) ∧ (∀ k, Bl H.lo k → k ≠ hb) ∧ (∀ k, Bl H.go k → k ≠ hb) ∧ ∀ k, Bl H.so k → k ≠ hb := by
  obtain ⟨es, c, hm⟩ := h.la.mp.map
  obtain ⟨es2, c2, hm2⟩ := h.lb.mp.map
  refine ⟨ty_ne h.la.bk h.bk (by decide), (map_ne h.bk hm).symm, ty_ne h.lb.bk h.bk (by decide), (map_ne h.bk hm2).symm, fun k hk => ?_, fun k hk => ?_, fun k hk => ?_, fun k hk => ?_⟩
  · obtain ⟨a, ha, rfl⟩ := hk
    obtain ⟨cur, hc⟩ := (h.la.kp.bl a ha).2
    exact ty_ne hc h.bk (by decide)
  · obtain ⟨cur, hc⟩ := ow_ty h.lw (Bl.own.2 hk)
    exact ty_ne hc h.bk (by decide)
  · obtain ⟨cur, hc⟩ := ow_ty h.gw (Bl.own.2 hk)
    exact ty_ne hc h.bk (by decide)
  · obtain ⟨cur, hc⟩ := ow_ty h.sw (Bl.own.2 hk)
    exact ty_ne hc h.bk (by decide)
/-- blocks of commands are none of the links', nor of the row of datagrams -/
theorem HoM.cne (h : HoM w0 w hb H LA L m S g gg mq mt) {k : Nat} (hk : ∃ cur, w.heap[k]? = some (.cells cur 47 (0, 0))) : k ≠ H.pa ∧ k ≠ H.ma ∧ k ≠ H.pb ∧ k ≠ H.mb ∧ k ≠ hb ∧ ¬ Bl H.so k := by
  obtain ⟨cur, hc⟩ := hk
  obtain ⟨es, c, hm⟩ := h.la.mp.map
  obtain ⟨es2, c2, hm2⟩ := h.lb.mp.map
  refine ⟨ty_ne hc h.la.bk (by decide), map_ne hc hm, ty_ne hc h.lb.bk (by decide), map_ne hc hm2, ty_ne hc h.bk (by decide), fun e => ?_⟩
  obtain ⟨cur2, hc2⟩ := ow_ty h.sw (Bl.own.2 e)
  exact ty_ne hc hc2 (by decide) rfl
theorem HoM.kty (h : HoM w0 w hb H LA L m S g gg mq mt) {k : Nat} (hk : Bl H.ko k ∨ Bl H.lo k ∨ Bl H.go k) : (∃ cur, w.heap[k]? = some (.cells cur 47 (0, 0))) ∧ w0.heap.size ≤ k ∧ k < w.heap.size := by
  rcases hk with hk | hk | hk
  · obtain ⟨a, ha, rfl⟩ := hk
    obtain ⟨h1, cur, h2⟩ := h.la.kp.bl a ha
    exact ⟨⟨cur, h2⟩, h1, block_lt h2⟩
  · exact ⟨ow_ty h.lw (Bl.own.2 hk), h.lw.block (Bl.own.2 hk)⟩
  · exact ⟨ow_ty h.gw (Bl.own.2 hk), h.gw.block (Bl.own.2 hk)⟩
/-- the parts of it, over what turns other blocks -/
theorem HoM.part {F : Nat → Prop} (h : HoM w0 w hb H LA L m S g gg mq mt) (hf : Fr F w w1) (h1 : ¬ F hb) (h3 : ¬ F H.pb) (h4 : ¬ F H.mb) (h5 : ∀ k, F k → ¬ Bl H.so k) (h6 : ∀ k, F k → w0.heap.size ≤ k) (h7 : ∀ k, F k → (∃ cur, w.heap[k]? = some (.cells cur 47 (0, 0))) → Bl H.ko k ∨ Bl H.lo k ∨ Bl H.go k) :
    w1.heap[hb]? = some (.cells (hoc H L.length m S.length gg) 32 (0, 0)) ∧ Lkk w1 w0.heap.size H.pb H.mb none 0 (hB L g mq mt) ∧ OwG KDq 51 w1 w0.heap.size (.slice H.so S.length H.sc) H.Q ∧ Still w0 w1 ∧ ∀ j, j < S.length → (dq H.Q j).d = hD L (S.getD j (0, 0)) ∧ (dq H.Q j).cn = (S.getD j (0, 0)).2 ∧ SrG KCc w1 (dq H.Q j).co (dq H.Q j).cp (hD L (S.getD j (0, 0))).cs ∧ ∀ a, (dq H.Q j).co = some a → w0.heap.size ≤ a.block ∧ (∃ cur, w1.heap[a.block]? = some (.cells cur 47 (0, 0))) ∧ ¬ Bl H.ko a.block ∧ ¬ Bl H.lo a.block ∧ ¬ Bl H.go a.block := by
  refine ⟨hf.kept h.bk h1, h.lb.keep hf h3 h4 (fun a e => by cases e), h.sw.keep hf (fun k hk e => h5 k hk (Bl.own.1 e)), Fr.trans h.st hf (fun k hk e => by have := h6 k e; omega), fun j hj => ?_⟩
  obtain ⟨a, b, c, d⟩ := h.qd j hj
  have hn : ∀ x, (dq H.Q j).co = some x → ¬ F x.block := fun x hx e => by
    obtain ⟨_, ht, r1, r2, r3⟩ := d x hx
    rcases h7 _ e ht with q | q | q
    · exact r1 q
    · exact r2 q
    · exact r3 q
  refine ⟨a, b, c.kept hf hn, fun x hx => ?_⟩
  obtain ⟨e, ⟨cur, f⟩, r⟩ := d x hx
  exact ⟨e, ⟨cur, hf.kept f (hn x hx)⟩, r⟩
/-- a store into the honest one -/
theorem HoM.self (h : HoM w0 w hb H LA L m S g gg mq mt) {o : Nat} {u : Value} : Fr (fun k => k = hb) w (w.setCell ⟨hb, o, none⟩ u) := Fr.setCell (Fr.refl _ _) _ _ (.inl rfl)
theorem HoM.hbn (h : HoM w0 w hb H LA L m S g gg mq mt) : ∀ k, k = hb → w0.heap.size ≤ k ∧ ¬ Bl H.so k ∧ ¬ Bl H.ko k ∧ ¬ Bl H.lo k ∧ ¬ Bl H.go k ∧ ∀ cur, w.heap[k]? ≠ some (.cells cur 47 (0, 0)) := by
  rintro k rfl
  obtain ⟨_, _, _, _, n1, n2, n3, n4⟩ := h.ne
  exact ⟨h.hl, fun e => n4 _ e rfl, fun e => n1 _ e rfl, fun e => n2 _ e rfl, fun e => n3 _ e rfl, fun cur hc => ty_ne hc h.bk (by decide) rfl⟩
theorem HoM.mark (h : HoM w0 w hb H LA L m S g gg mq mt) {m' : Int} (hi : HoI L m' S g mq) : HoM w0 (w.setCell ⟨hb, 3, none⟩ (.int .i64 m')) hb H LA L m' S g gg mq mt := by
  have f1 := h.self (o := 3) (u := .int .i64 m')
  obtain ⟨n1, n2, n3, n4, n5, n6, n7, n8⟩ := h.ne
  have hn := h.hbn
  have b1 := heap_setCell_same w hb 3 _ _ (.int .i64 m') h.bk
  have st1 : Still w0 (w.setCell ⟨hb, 3, none⟩ (.int .i64 m')) := Fr.trans h.st f1 (fun k hk e => by have := (hn k e).1; omega)
  refine ⟨b1.trans (by rfl), h.la.keep f1 n1 n2 (fun a ha e => n5 _ ⟨a, ha, rfl⟩ e), h.lb.keep f1 n3 n4 (fun a e => by cases e), h.lw.keep f1 (fun k hk e => n6 k (Bl.own.1 e) hk), h.gw.keep f1 (fun k hk e => n7 k (Bl.own.1 e) hk), h.gl, h.sw.keep f1 (fun k hk e => n8 k (Bl.own.1 e) hk), h.ql, fun j hj => ?_, h.dj, h.dg, h.pp, h.hl, st1, hi⟩
  obtain ⟨a, b, c, d⟩ := h.qd j hj
  have hx : ∀ x, (dq H.Q j).co = some x → x.block ≠ hb := fun x hx e => by
    obtain ⟨_, ⟨cur, ht⟩, _⟩ := d x hx
    exact (hn _ e).2.2.2.2.2 cur ht
  refine ⟨a, b, c.kept f1 (fun x hx2 e => hx x hx2 e), fun x hx2 => ?_⟩
  obtain ⟨e, ⟨cur, f⟩, r⟩ := d x hx2
  exact ⟨e, ⟨cur, f1.kept f (hx x hx2)⟩, r⟩
/-- .. which changes nothing -/
theorem HoM.right (h : HoM w0 w hb H LA L m S g gg mq mt) : HoM w0 (w.setCell ⟨hb, 6, none⟩ (.bool true)) hb H LA L m S g gg mq mt := by
  have f1 := h.self (o := 6) (u := .bool true)
  obtain ⟨n1, n2, n3, n4, n5, n6, n7, n8⟩ := h.ne
  have hn := h.hbn
  have b1 := heap_setCell_same w hb 6 _ _ (.bool true) h.bk
  have st1 : Still w0 (w.setCell ⟨hb, 6, none⟩ (.bool true)) := Fr.trans h.st f1 (fun k hk e => by have := (hn k e).1; omega)
  refine ⟨b1.trans (by rfl), h.la.keep f1 n1 n2 (fun a ha e => n5 _ ⟨a, ha, rfl⟩ e), h.lb.keep f1 n3 n4 (fun a e => by cases e), h.lw.keep f1 (fun k hk e => n6 k (Bl.own.1 e) hk), h.gw.keep f1 (fun k hk e => n7 k (Bl.own.1 e) hk), h.gl, h.sw.keep f1 (fun k hk e => n8 k (Bl.own.1 e) hk), h.ql, fun j hj => ?_, h.dj, h.dg, h.pp, h.hl, st1, h.i⟩
  obtain ⟨a, b, c, d⟩ := h.qd j hj
  have hx : ∀ x, (dq H.Q j).co = some x → x.block ≠ hb := fun x hx e => by
    obtain ⟨_, ⟨cur, ht⟩, _⟩ := d x hx
    exact (hn _ e).2.2.2.2.2 cur ht
  refine ⟨a, b, c.kept f1 (fun x hx2 e => hx x hx2 e), fun x hx2 => ?_⟩
  obtain ⟨e, ⟨cur, f⟩, r⟩ := d x hx2
  exact ⟨e, ⟨cur, f1.kept f (hx x hx2)⟩, r⟩
end
end Go.Proofs.Ytcmgghfjakphmaa
