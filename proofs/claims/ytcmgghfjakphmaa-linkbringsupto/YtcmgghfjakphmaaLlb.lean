/- One of the Turns arrives. -/
import Derived.Test.YtcmgghfjakphmaaLkz
import Derived.Deep.RegionHeld3
import Derived.Deep.DeepCutAuto
namespace Go.Proofs.Ytcmgghfjakphmaa
open Go.RowKit
open Wp Vp Lp
set_option maxRecDepth 100000
set_option linter.unusedVariables false
set_option linter.unusedSimpArgs false

/-- 'append' of many: the row is where it was, or new -/
theorem app_blockM {P : Program} {α : Type} {K : Kd α} {e : TypeId} {w : World} {B : Nat} {v : Value} {L : List α} (ho : OwG K e w B v L) {t ty : TypeId} (hu : P.underlying t = some (.slice e)) (bytes : Nat) (hinfo : ∃ i, P.info? e = some i ∧ i.zero = some (.agg (K.f K.d).toArray) ∧ i.size = K.k ∧ i.bytes = bytes) {S : List α} {ad : Addr} {cap : Nat} (hr : SrG K w (some ad) cap S) (h47 : (L.length + S.length) * bytes ≤ 140737488355328) (h63 : L.length + S.length ≤ 281474976710656) {v' : Value} {w' : World}
    (hrun : (Builtin.append_ #[t, t] ty #[v, .slice (some ad) S.length cap]).run P w = .ok v' w') (hv : v'.ownBlock ≠ none → 0 < L.length + S.length) : ∀ k, v'.ownBlock = some k → v.ownBlock = some k ∨ w.heap.size ≤ k := by
  obtain ⟨i, hi, hz, h1, h2⟩ := hinfo
  subst h2
  have hl : (K.row S).length = S.length * i.size := by rw [K.row_len, h1]
  have hnews := hr.rd.cellsAt
  rcases ho.2 with ⟨rfl, hn⟩ | ⟨g', cap', cur, rfl, hbg, hg, hnc, hcm, hcs, htake⟩
  · intro k hk
    have hpos : 0 < S.length := by have := hv (by rw [hk]; simp); omega
    have := run_append_nil (P := P) w t ty e i _ hu hi hz ad S.length cap (K.row S) hl hnews hpos (by omega) (by rw [hn] at h47; simp only [Nat.zero_add] at h47; omega)
    rw [this] at hrun
    injection hrun with hv2 _
    rw [← hv2] at hk
    simp [Value.ownBlock] at hk
    right; omega
  · by_cases hroom : L.length + S.length ≤ cap'
    · have := run_append_room (P := P) w t ty e i hu hi g' L.length cap' cur hg ad S.length cap (K.row S) hl hnews (K.row_one S) hroom (by rw [hl, hcs, ← h1, ← Nat.add_mul]; exact Nat.mul_le_mul_right _ hroom)
      rw [this] at hrun
      injection hrun with hv2 _
      intro k hk
      rw [← hv2] at hk
      left
      simpa [Value.ownBlock] using hk
    · have holds := World.ownsRow.cells ho (g := g') rfl
      have := run_append_grow (P := P) w t ty e i _ hu hi hz ⟨g', 0, none⟩ L.length cap' (K.row L) (by rw [K.row_len, h1]) holds ad S.length cap (K.row S) hl hnews (by omega) (by omega) (growslice_fits (by omega) h47)
      rw [this] at hrun
      injection hrun with hv2 _
      intro k hk
      rw [← hv2] at hk
      simp [Value.ownBlock] at hk
      right; omega
theorem wpList_appMQ {P : Program} {α : Type} {e : TypeId} (K : Kd α) (w : World) {ops : Array Oper} {rest : List Oper} {o : Oper} {a : Act} {Q : Exit → Act → World → Prop} (hgd : o.guard = none) (s x : Operand) (t : TypeId)
    (hop : o.op = .call { callee := .builtin .append, args := #[s, x], argTypes := #[t, t] })
    (hu : P.underlying t = some (.slice e)) (bytes : Nat) (hinfo : ∃ i, P.info? e = some i ∧ i.zero = some (.agg (K.f K.d).toArray) ∧ i.size = K.k ∧ i.bytes = bytes)
    (B : Nat) (v : Value) (L S : List α) (ao : Option Addr) (n cap : Nat) (hs : a.eval s = v) (hx : a.eval x = .slice ao n cap) (hn : S.length = n) (ho : OwG K e w B v L) (hr : SrG K w ao cap S) (h47 : (L.length + S.length) * bytes ≤ 140737488355328) (h63 : L.length + S.length ≤ 281474976710656) (hB : B ≤ w.heap.size)
    (h : ∀ v' w', OwG K e w' B v' (L ++ S) → Fr (fun k => v.ownBlock = some k) w w' → (∀ k, v'.ownBlock = some k → v.ownBlock = some k ∨ w.heap.size ≤ k) → wpList P ops Q rest (a.put o.dst v') w') : wpList P ops Q (o :: rest) a w := by
  have hinfo' := hinfo
  obtain ⟨i, hi, hz, h1, h2⟩ := hinfo
  subst hn
  cases ao with
  | none =>
    have hc := hr.nl rfl
    have hS : S = [] := List.eq_nil_of_length_eq_zero (by have := hr.le; omega)
    subst hS hc
    refine wpList_append_own_none hgd s x _ hop B e i K.k hu hi v L.length (K.row L) hs ho hx ?_
    exact h v w (by rw [List.append_nil]; exact ho) (Fr.refl _ _) (fun k hk => .inl hk)
  | some ad =>
    obtain ⟨v', w', hrun, h2', h3, h4⟩ := run_append_own (P := P) w B t o.type e i (.agg (K.f K.d).toArray) K.k bytes hu hi hz h1 h2 (by simp [Value.cells, K.len]) K.pos v L.length (K.row L) ho ad S.length cap (K.row S) (by rw [K.row_len]) hr.rd.cellsAt (K.row_one S) (by unfold maxLen; omega) h47 hB
    refine wpList_plain hgd fun Kc hK => ?_
    unfold Oper.wp execOp
    simp only [hop, resolve, invoke, builtin, Sem.run_bind, Sem.run_pure, Result.andThen_ok, List.map_toArray, List.map_cons, List.map_nil, hs, hx, hrun]
    have own : OwG K e w' B v' (L ++ S) := by
      unfold OwG
      rw [K.row_app, List.length_append]
      exact h2'
    by_cases hz0 : v = .slice none 0 0 ∧ S.length = 0
    · have e1 := h4.2 hz0
      refine hK _ _ (h v' w' own ⟨h3.os, h3.tape, h3.output, h3.size, fun k hk hn => h3.block k hk (fun e => hn e.symm)⟩ (fun k hk => by rw [e1] at hk; cases hk))
    · refine hK _ _ (h v' w' own ⟨h3.os, h3.tape, h3.output, h3.size, fun k hk hn => h3.block k hk (fun e => hn e.symm)⟩ (fun k hk => ?_))
      by_cases hp : 0 < L.length + S.length
      · exact app_blockM ho hu bytes hinfo' hr h47 h63 hrun (fun _ => hp) k hk
      · have hL0 : L.length = 0 := by omega
        have hS0 : S.length = 0 := by omega
        rcases ho.2 with ⟨rfl, hn⟩ | ⟨g', cap', cur, rfl, hbg, hg, hnc, hcm, hcs, htake⟩
        · exact absurd ⟨rfl, hS0⟩ hz0
        · have := run_append_room (P := P) w t o.type e i hu hi g' L.length cap' cur hg ad S.length cap (K.row S) (by rw [K.row_len, h1]) hr.rd.cellsAt (K.row_one S) (by omega) (by rw [K.row_len, hL0, hS0]; simp)
          rw [this] at hrun
          injection hrun with hv2 _
          rw [← hv2] at hk
          left
          simpa [Value.ownBlock] using hk
set_option maxHeartbeats 1000000 in
theorem larr_none (hb : Nat) (n : Int) (H : Hst) (L : List Cc) (m : Int) (g : Nat) (mq : Int) (mt : Bool) (w0 w : World) (h : HoM w0 w hb H L L m [] g g mq mt) : Calls Try.prog 6 #[.pointer (some ⟨hb, 0, none⟩), .int .i64 n] w fun e w' => e = .returned (.tuple #[]) ∧ w' = w := by
  have c4 := h.cells.2.2.2.2.1
  clear h
  go_enter Try.func6, Try.ntmps6
  go_wp2_with fail
  refine bodyPost_ret (results_none rfl _ _ _) rfl ?_
  exact ⟨rfl, rfl⟩
set_option maxHeartbeats 16000000 in
theorem larr_some (hb : Nat) (n : Int) (hn : In64 n) (H : Hst) (L : List Cc) (m : Int) (S : List (Int × Nat)) (g : Nat) (mq : Int) (mt : Bool) (hS0 : 0 < S.length) (hS : S.length ≤ 100000000) (w0 w : World) (h : HoM w0 w hb H L L m S g g mq mt) : Calls Try.prog 6 #[.pointer (some ⟨hb, 0, none⟩), .int .i64 n] w fun e w' => e = .returned (.tuple #[]) ∧ ∃ H', HoM w0 w' hb H' L L m S (max g (S.getD (pk n S.length).toNat (0, 0)).2) (max g (S.getD (pk n S.length).toNat (0, 0)).2) (max mq (S.getD (pk n S.length).toNat (0, 0)).1) true ∧ H'.pb = H.pb := by
  have hl := h.i.l1
  have hpk := pk_in n S.length (by omega)
  have HPk := hid (fun w => pick_any n S.length hn (by omega) (by omega) w)
  obtain ⟨j, ej⟩ : ∃ j : Nat, pk n S.length = (j : Int) := ⟨(pk n S.length).toNat, by omega⟩
  rw [ej] at HPk hpk ⊢
  have ej2 : ((j : Int)).toNat = j := by omega
  rw [ej2]
  have hj : j < S.length := by omega
  obtain ⟨qd1, qd2, qd3, qd4⟩ := h.qd j hj
  have hxS : S.getD j (0, 0) ∈ S := by rw [List.getD_eq_getElem?_getD, List.getElem?_eq_getElem hj]; exact List.getElem_mem _
  obtain ⟨x, ex⟩ : ∃ x, S.getD j (0, 0) = x := ⟨_, rfl⟩
  rw [ex] at qd1 qd2 qd3 hxS ⊢
  obtain ⟨sb, scap, es, _, hsl⟩ := h.sw.head (by rw [h.ql]; omega)
  have hsw := h.sw
  injection es with es1 es2 es3
  rw [es1] at hsw
  obtain ⟨k0, k1, k2, k3, k4, k5, k6, k7⟩ := owDq hsw (i := j) (by rw [h.ql]; exact hj)
  rw [qd1] at k0 k1 k2 k3 k4 k5 k7
  rw [qd2] at k6
  have hx2 : x.2 ≤ L.length := (h.i.s1 x hxS).2.2.1
  have hcsl : (hD L x).cs.length = x.2 := hD_len hx2
  obtain ⟨c0, c1, c2, c3, c4, c5, c6, cf⟩ := h.cells
  rw [es1] at c4
  have HOw : Hid (∀ u, Still w u → Calls Try.prog 14 #[dgv (hD L x) (dq H.Q j).co x.2 (dq H.Q j).cp] u fun e w' => ∃ co' cp', e = .returned (dgv (hD L x) co' x.2 cp') ∧ OwG KCc 47 w' u.heap.size (.slice co' x.2 cp') (hD L x).cs ∧ Still u w') := hid (fun u hu => lown_any (hD L x) (dq H.Q j).co x.2 (dq H.Q j).cp u hcsl (by omega) (qd3.still hu))
  have HH := hid h
  have HRf := hid (h.i.ref mt hxS)
  have HTk := hid (h.i.tak mt hxS)
  have hne0 : ((S.length : Int) == 0) = false := by simp only [beq_eq_false_iff_ne]; omega
  have HLe : Hid (L.length ≤ H.lc) := hid (by have := (SrG.own h.lw (by omega)).le; exact this)
  have hhb : hb < w.heap.size := h.lt
  have nw1 : w.heap.size ≠ hb := by omega
  have nw2 : w.heap.size ≠ sb := by omega
  obtain ⟨D, eD⟩ : ∃ D, hD L x = D := ⟨_, rfl⟩
  have HD := hid eD
  rw [eD] at k0 k1 k2 k3 k4 k5 k7 HOw HRf HTk hcsl
  obtain ⟨qo, eqo⟩ : ∃ q, (dq H.Q j).co = q := ⟨_, rfl⟩
  obtain ⟨qc, eqc⟩ : ∃ q, (dq H.Q j).cp = q := ⟨_, rfl⟩
  rw [eqo, eqc] at k6 HOw
  have HCl := hid hcsl
  have HSo := hid es1
  clear ej ej2 qd1 qd2 qd3 qd4 es2 es3 hsw ex eD eqo eqc hcsl es1 h
  go_enter Try.func6, Try.ntmps6
  go_upto_region 1 with fail
  go_cut [4] (fun v4 wx => ∃ gD co cp, v4 = .pointer (some ⟨gD, 0, none⟩) ∧ Dgb wx gD D co x.2 cp ∧ OwG KCc 47 wx w.heap.size (.slice co x.2 cp) D.cs ∧ Still w wx)
  case first =>
    go_region_held3 (fun w' => w'.cell? ⟨hb, 4, none⟩ = some (.slice (some ⟨sb, 0, none⟩) S.length H.sc) ∧ w'.cell? ⟨sb, j * 8, none⟩ = some (.int .i64 D.kd) ∧ w'.cell? ⟨sb, j * 8 + 1, none⟩ = some (.int .u64 D.ss) ∧ w'.cell? ⟨sb, j * 8 + 2, none⟩ = some (.int .i64 D.fr) ∧ w'.cell? ⟨sb, j * 8 + 3, none⟩ = some (.int .i64 D.to) ∧ w'.cell? ⟨sb, j * 8 + 4, none⟩ = some (.int .i64 D.mrk) ∧ w'.cell? ⟨sb, j * 8 + 5, none⟩ = some (.int .i64 D.fi) ∧ w'.cell? ⟨sb, j * 8 + 6, none⟩ = some (.slice qo x.2 qc) ∧ w'.cell? ⟨sb, j * 8 + 7, none⟩ = some (.int .i64 D.ak)) (go_keep)
      (first
        | (go_at_call 9
           refine (HPk.out _).mono ?_
           rintro e x0 ⟨rfl, rfl⟩)
        | (go_at_call 14
           refine (HOw.out _ (by repeat (first | exact Fr.refl _ _ | refine Fr.drew ?_ | refine Fr.alloc ?_ _))).mono ?_
           rintro e x1 ⟨co, cp, rfl, o1, g1⟩
           have HX1 : Hid (Still w x1) := hid (by
             refine Still.trans ?_ g1
             repeat (first | exact Fr.refl _ _ | refine Fr.drew ?_ | refine Fr.alloc ?_ _))
           have HO1 : Hid (OwG KCc 47 x1 w.heap.size (.slice co x.2 cp) D.cs) := hid (o1.less (by
             first
               | exact Nat.le_refl _
               | (simp only [World.drew]; exact Nat.le_refl _)
               | (rw [size_alloc]; exact Nat.le_succ _)
               | (simp)))
           have HO2 := hid (fun k hk => (o1.block (k := k) hk).1)
           have y4 := (HX1.out.cell (World.block_lt_of_cell? w _ c4) (fun e => e)).trans c4
           have z0 := (HX1.out.cell (World.block_lt_of_cell? w _ k0) (fun e => e)).trans k0
           have z1' := (HX1.out.cell (World.block_lt_of_cell? w _ k1) (fun e => e)).trans k1
           have z2 := (HX1.out.cell (World.block_lt_of_cell? w _ k2) (fun e => e)).trans k2
           have z3 := (HX1.out.cell (World.block_lt_of_cell? w _ k3) (fun e => e)).trans k3
           have z4 := (HX1.out.cell (World.block_lt_of_cell? w _ k4) (fun e => e)).trans k4
           have z5 := (HX1.out.cell (World.block_lt_of_cell? w _ k5) (fun e => e)).trans k5
           have z6 := (HX1.out.cell (World.block_lt_of_cell? w _ k6) (fun e => e)).trans k6
           have z7 := (HX1.out.cell (World.block_lt_of_cell? w _ k7) (fun e => e)).trans k7
           have nx1 : x1.heap.size ≠ hb := by have := HX1.out.size; omega
           have nx2 : x1.heap.size ≠ sb := by have := HX1.out.size; omega
           try (have z1 : Dgb x1 w.heap.size zD none 0 0 := Fr.kept_still (Still.undrew g1) (heap_alloc_new w _); obtain ⟨u0, u1, u2, u3, u4, u5, u6, u7, uf⟩ := z1.cells)
           clear o1 g1))
    all_goals
      first
        | (go_wp2_with fail
           go_meet
           exact ⟨w.heap.size, co, cp, rfl, z1.set D co x.2 cp, HO1.out.keep (setDg_fr (Fr.refl (fun k => k = w.heap.size) x1) w.heap.size D co x.2 cp (.inl rfl)) (fun k hk e => by have := HO2.out k e; simp at this; omega), setDg_fr HX1.out w.heap.size D co x.2 cp (.inr (Nat.le_refl _))⟩)
        | (go_wp2_with fail
           go_meet
           have hA1 := Still.alloc x1 (.cells (dgc D co x.2 cp) 51)
           exact ⟨x1.heap.size, co, cp, rfl, newDg_b x1 D co x.2 cp, HO1.out.still hA1, HX1.out.trans hA1⟩)
  case rest =>
    obtain ⟨gD, co, cp, rfl, hd, ho, hs⟩ := hcut
    have HDc := hid hd
    have HMc := hid (HH.out.still hs)
    have HOc := hid ho
    clear hd ho hs c0 c1 c2 c3 c4 c5 c6 cf k0 k1 k2 k3 k4 k5 k6 k7 HOw HPk HH
    go_upto_region 2 with fail
    obtain ⟨d0, d1, d2, d3, d4, d5, d6, d7, df⟩ := HDc.out.cells
    obtain ⟨c0, c1, c2, c3, c4, c5, c6, cf⟩ := HMc.out.cells
    have HTa : Hid (∀ u, Still wc u → Calls Try.prog 11 #[.pointer (some ⟨H.pb, 0, none⟩), dgv D co x.2 cp, .int .i64 m] u fun e w' => ∃ fo fc ko' kc', e = .returned (.tuple #[.slice fo (frs (hB L g mq mt) D).length fc, .bool (broB (hB L g mq mt) D), .int .i64 0]) ∧ OwG KCc 47 w' u.heap.size (.slice fo (frs (hB L g mq mt) D).length fc) (frs (hB L g mq mt) D) ∧ Lkk w' w0.heap.size H.pb H.mb ko' kc' (takS (hB L g mq mt) D) ∧ Fr (fun k => k = H.pb ∨ k = H.mb) u w' ∧ Kb none ko') := hid (fun u hu => by
      have hm3 := HMc.out.still hu
      have ho3 := HOc.out.still hu
      have hbl : ∀ a, co = some a → a.block ≠ H.mb ∧ a.block ≠ H.pb := fun a ha => by
        have hn := hm3.cne (ow_ty ho3 (Bl.own.2 ⟨a, ha, rfl⟩))
        exact ⟨hn.2.2.2.1, hn.2.2.1⟩
      exact ltake_yes H.pb none 0 H.mb w0.heap.size (hB L g mq mt) D co x.2 cp m (by show (0 : Nat) ≤ _; omega) (hB_fits hm3.i mt) HCl.out u hm3.lb (by have h1 := ho3; have h2 := HCl.out; rw [← h2] at h1; exact SrG.own h1 (by omega)) hbl HRf.out)
    rw [HTk.out.1, HTk.out.2.1] at HTa
    obtain ⟨F, eF⟩ : ∃ F, (L.take x.2).drop g = F := ⟨_, rfl⟩
    obtain ⟨g', eg'⟩ : ∃ y, max g x.2 = y := ⟨_, rfl⟩
    have HGl : Hid (g' ≤ L.length ∧ g ≤ L.length) := hid (by have := HMc.out.i.g1; omega)
    rw [eF, eg'] at HTa HTk
    have HEg := hid eg'
    obtain ⟨mq', emq'⟩ : ∃ y, max mq x.1 = y := ⟨_, rfl⟩
    rw [emq'] at HTa HTk
    have HEm := hid emq'
    have HFl : Hid (F.length ≤ 300) := hid (by rw [← eF, List.length_drop, List.length_take]; omega)
    have HDn : Hid (gD ≠ H.pb ∧ gD ≠ H.mb) := hid (by
      obtain ⟨es2, c2', hm2⟩ := HMc.out.lb.mp.map
      exact ⟨ty_ne HDc.out HMc.out.lb.bk (by decide), map_ne HDc.out hm2⟩)
    obtain ⟨bb, ebb⟩ : ∃ b, broB (hB L g mq mt) D = b := ⟨_, rfl⟩
    rw [ebb] at HTa
    clear eF eg' emq' ebb
    go_cut [5, 6, 7] (fun v5 v6 v7 wx => ∃ fo fc, v5 = .slice fo F.length fc ∧ v6 = .bool bb ∧ v7 = .int .i64 0 ∧ Hid (SrG KCc wx fo fc F ∧ (∀ a, fo = some a → a.block ≠ hb) ∧ HoM w0 wx hb H L L m S g' g mq' true))
    case first =>
      go_region_held3 (fun w' => w'.cell? ⟨hb, 1, none⟩ = some (.pointer (some ⟨H.pb, 0, none⟩)) ∧ w'.cell? ⟨hb, 3, none⟩ = some (.int .i64 m) ∧ w'.cell? ⟨gD, 0, none⟩ = some (.int .i64 D.kd) ∧ w'.cell? ⟨gD, 1, none⟩ = some (.int .u64 D.ss) ∧ w'.cell? ⟨gD, 2, none⟩ = some (.int .i64 D.fr) ∧ w'.cell? ⟨gD, 3, none⟩ = some (.int .i64 D.to) ∧ w'.cell? ⟨gD, 4, none⟩ = some (.int .i64 D.mrk) ∧ w'.cell? ⟨gD, 5, none⟩ = some (.int .i64 D.fi) ∧ w'.cell? ⟨gD, 6, none⟩ = some (.slice co x.2 cp) ∧ w'.cell? ⟨gD, 7, none⟩ = some (.int .i64 D.ak)) (go_keep)
        (first
          | (go_at_call 11
             refine (HTa.out _ (by repeat (first | exact Fr.refl _ _ | refine Fr.drew ?_ | refine Fr.alloc ?_ _))).mono ?_
             rintro e w4 ⟨fo, fc, ko', kc', rfl, ho4, l4, f4, hkb⟩
             have hko : ko' = none := by
               cases ko' with
               | none => rfl
               | some a => obtain ⟨b, hb0, _⟩ := hkb a rfl; cases hb0
             subst hko
             have hkc : kc' = 0 := l4.kp.sr.nl rfl
             subst hkc
             have HU : Hid (Fr (fun k => k = H.pb ∨ k = H.mb) wc w4) := hid (Fr.trans (Still.to (by repeat (first | exact Fr.refl _ _ | refine Fr.drew ?_ | refine Fr.alloc ?_ _))) f4 (fun _ _ e => e))
             have hh4 := HMc.out.aTake l4 HU.out HTk.out.2.2.2
             have hd4 : Dgb w4 gD D co x.2 cp := HDc.out.keepD HU.out (fun e => by rcases e with e | e; exact HDn.out.1 e; exact HDn.out.2 e)
             obtain ⟨v0, v1, v2, v3, v4', v5', v6', v7', vf⟩ := hd4.cells
             obtain ⟨a0, a1, a2, a3, a4, a5, a6, af⟩ := hh4.cells
             have HR4 : Hid (SrG KCc w4 fo fc F ∧ (∀ a, fo = some a → a.block ≠ hb) ∧ HoM w0 w4 hb H L L m S g' g mq' true) := hid ⟨SrG.own ho4 (by have := HFl.out; omega), fun a ha e => by
               have h1 := (ho4.block (Bl.own.2 ⟨a, ha, rfl⟩)).1
               have h2 := HMc.out.lt
               simp at h1
               omega, hh4⟩
             clear ho4 l4 f4 hkb hh4 hd4))
      all_goals
        (go_wp2_with fail
         go_meet
         exact ⟨fo, fc, rfl, rfl, rfl, HR4⟩)
    case rest =>
      obtain ⟨fo, fc, rfl, rfl, rfl, HX4⟩ := hcut
      obtain ⟨sr4, hfo, hh4⟩ := HX4.out
      have hh5 := hh4.right
      have f5 := hh4.self (o := 6) (u := .bool true)
      have sr5 := sr4.kept f5 (fun a ha e => hfo a ha e)
      clear d0 d1 d2 d3 d4 d5 d6 d7 df c0 c1 c2 c3 c4 c5 c6 cf
      obtain ⟨c0, c1, c2, c3, c4, c5, c6, cf⟩ := hh4.cells
      obtain ⟨w5, e5⟩ : ∃ V, wc.setCell ⟨hb, 6, none⟩ (.bool true) = V := ⟨_, rfl⟩
      rw [e5] at hh5 sr5
      have HH5 := hid hh5
      have HR5 := hid sr5
      have HB5 : Hid (w0.heap.size ≤ w5.heap.size) := hid hh5.st.size
      have u5 := hh5.cells.2.2.2.2.2.1
      have HGg : Hid ((L.take g).length = g) := hid (by rw [List.length_take]; have := HGl.out; omega)
      have HGg' : Hid ((L.take g').length = g') := hid (by rw [List.length_take]; have := HGl.out; omega)
      clear sr4 hfo hh4 hh5 f5 sr5 HTa HMc HOc HDc HX4
      go_upto_region 4 with fail
      clear c0 c1 c2 c3 c4 c5 c6 cf e5
      go_wp2_with (
        at_builtin
        refine wpList_appMQ KCc _ rfl _ _ _ rfl Try.underlying29 56 infoCc w0.heap.size _ (L.take g) F fo F.length fc rfl rfl rfl (by have := HH5.out.gw; exact this) HR5.out (by rw [HGg.out]; have := HFl.out; have := HGl.out; omega) (by rw [HGg.out]; have := HFl.out; have := HGl.out; omega) HB5.out ?_
        intro v9 w9 ho9 hf9 hb9
        rw [HTk.out.2.2.1] at ho9
        obtain ⟨go2, gc2, ev, _⟩ := ho9.slice
        rw [HGg'.out] at ev
        subst ev
        have hf9' : Fr (fun k => Bl H.go k) _ w9 := hf9.mono (fun k _ e => Bl.own.1 e)
        have hY := HH5.out.aGot ho9 hf9' (fun k hk => (hb9 k (Bl.own.2 hk)).imp (fun e => Bl.own.1 e) id)
        have hb' := hf9'.kept HH5.out.bk (fun e => HH5.out.ne.2.2.2.2.2.2.1 hb e rfl)
        have e5 : w9.cell? ⟨hb, 5, none⟩ = some (.slice H.go g H.gc) := by rw [cell_of_row _ _ _ _ _ _ hb']; rfl
        have ef := fun o => frozen_of_row w9 hb o _ _ hb'
        obtain ⟨w10, e10⟩ : ∃ V, w9.setCell ⟨hb, 5, none⟩ (.slice go2 g' gc2) = V := ⟨_, rfl⟩
        rw [e10] at hY
        have HY := hid hY
        clear ho9 hf9 hb9 hf9' hY hb' u5 HH5 HR5)
      (try simp only [Exit.inBlock, Exit.then])
      have q5 := Cl.cell HY.out.cells.2.2.2.2.2.1
      have q2 := Cl.cell HY.out.cells.2.2.1
      have hne := Aft.here w10
      have hgl := HGl.out.1
      have hleq : (g' : Int) ≤ (L.length : Int) := by omega
      have hleq' : decide ((g' : Int) ≤ (L.length : Int)) = true := by simpa using hleq
      have hsl : ∀ W, (Instr.slice 29 (.slice H.lo L.length H.lc) none (some (.int .i64 (g' : Int))) none).run Try.prog W = .ok (.slice H.lo g' H.lc) W := fun W => by
        have := run_uptoG (P := Try.prog) (t := 29) (e := 47) Try.underlying29 (by obtain ⟨i, h1, _⟩ := infoCc; exact ⟨i, h1⟩) W H.lo L.length H.lc (g' : Int) (by omega) (by have := HLe.out; omega)
        simpa using this
      have HSa : Hid (∀ z : Aft w10, Calls Try.prog 15 #[.slice go2 g' gc2, .slice H.lo g' H.lc] z.u fun e w' => e = .returned (.bool true) ∧ Still z.u w') := hid (fun z => by
        have hy := HY.out.still z.s
        have h1 : RdG KCc z.u go2 g' (L.take g') := by
          have := (SrG.own (e := 47) (S := L.take g') (B := w0.heap.size) (ao := go2) (cap := gc2) (by rw [HGg'.out]; exact hy.gw) (by rw [HGg'.out]; omega)).rd
          rw [HGg'.out] at this
          exact this
        have h2 : RdG KCc z.u H.lo g' (L.take g') := by
          have := OwG.rd (L := L.take g') (M := L.drop g') (by rw [List.take_append_drop]; exact hy.lw) (by rw [HGg'.out]; omega)
          rw [HGg'.out] at this
          exact this
        exact rsamc_t (L.take g') go2 H.lo g' gc2 H.lc z.u h1 h2)
      clear e5 ef e10
      go_upto_region 5 with fail
      refine region_all (by kernel_rfl) (by kernel_rfl) ?_
      repeat (go_big_quiet_step ((go_at_call 15; exact Calls.cl (HSa.out _))))
      refine wpQuiet_nil ?_
      intro w11 h11
      have hy11 := HY.out.still h11
      have HY12 := hid hy11.right
      obtain ⟨c0, c1, c2, c3, c4, c5, c6, cf⟩ := hy11.cells
      clear h11 hy11 q5 q2 hne HSa hsl
      go_wp2_with fail
      go_end0
      exact ⟨rfl, (⟨H.pa, H.ma, H.ko, H.kc, H.pb, H.mb, H.lo, H.lc, H.so, H.sc, go2, gc2, H.Q⟩ : Hst), by rw [HEg.out, HEm.out]; exact HY12.out, rfl⟩
end Go.Proofs.Ytcmgghfjakphmaa
