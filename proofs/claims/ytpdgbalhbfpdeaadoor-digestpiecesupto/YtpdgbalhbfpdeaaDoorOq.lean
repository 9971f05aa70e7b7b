/- Arguments opened: pieces; what the bound on their bulk gives. -/
import Derived.Test.YtpdgbalhbfpdeaaDoorOb
import Derived.Test.YtpdgbalhbfpdeaaDoorPi
namespace Go.Proofs.YtpdgbalhbfpdeaaDoor
open Go.ChangeShapes Go.WideShapes Go.ChangeAt Go.RowKit Go.Deep

theorem cells_piece : Tryd.prog.cellsOf 41 = 2 := by kernel_rfl
theorem two_of {α : Type} {l : List α} (h : l.length = 2) : ∃ a b, l = [a, b] := by
  cases l with
  | nil => cases h
  | cons a r =>
    cases r with
    | nil => cases h
    | cons b r2 =>
      cases r2 with
      | nil => exact ⟨a, b, rfl⟩
      | cons c r3 => simp at h
section
variable {H : Type} {enc : TypeId × Value → H} {w : World}
/-- A piece that came in. -/
theorem open_piece {fuel : Nat} {cs : List Value} {x : DataW H × List MemPlace} (h : DataW.trod enc Tryd.prog w 0 (fun _ => true) true fuel 41 cs = some x) :
    ∃ o : Pce, cs = o.val.toList ∧ Rd w o.ao o.len o.cap o.bs ∧ ∃ d0 d1, x.1 = .agg [d0, d1] ∧ Lies d0 o.ao o.len o.cap := by
  obtain ⟨xs, n, _, rfl, hcl, hxl, hf⟩ := DataW.trod_struct Tryd.underlying41 h
  rw [cells_piece] at hcl
  have hx2 : xs.length = 2 := hxl
  obtain ⟨c0, c1, rfl⟩ := two_of hcl
  obtain ⟨y0, y1, rfl⟩ := two_of hx2
  have i1 : Tryd.prog.cellsOf 32 = 1 := by kernel_rfl
  have i2 : Tryd.prog.cellsOf 4 = 1 := by kernel_rfl
  have g0 : DataW.trod enc Tryd.prog w 0 (fun _ => true) true n 32 (([c0, c1].drop 0).take (Tryd.prog.cellsOf 32)) = some y0 := hf 0 _ rfl
  rw [i1] at g0
  have g1 : DataW.trod enc Tryd.prog w 0 (fun _ => true) true n 4 (([c0, c1].drop 1).take (Tryd.prog.cellsOf 4)) = some y1 := hf 1 _ rfl
  rw [i2] at g1
  obtain ⟨b, e1, _⟩ := DataW.trod_bool Tryd.underlying4 g1
  obtain ⟨ao, len, cap, bs, e0, hrd, hlies⟩ := open_bytes g0
  simp at e0 e1
  subst e0 e1
  exact ⟨⟨ao, len, cap, bs, b⟩, rfl, hrd, _, _, rfl, hlies⟩
/-- What a piece that came in reads as. -/
def PieceLies (d : DataW H) (o : Pce) : Prop := ∃ d0 d1, d = .agg [d0, d1] ∧ Lies d0 o.ao o.len o.cap
/-- What pieces that came in read as. -/
def PiecesLie (d : DataW H) (ps : List Pce) (cap : Nat) : Prop := (d = .nil ∧ ps = []) ∨ ∃ (D : Nat → DataW H) (sp : List (DataW H)), d = .slice ((List.range ps.length).map D) sp ∧ ps.length + sp.length = cap ∧ ∀ i (h : i < ps.length), PieceLies (D i) ps[i]
/-- Pieces that came in. -/
theorem open_pieces {fuel : Nat} {cs : List Value} {x : DataW H × List MemPlace} (h : DataW.trod enc Tryd.prog w 0 (fun _ => true) true fuel 37 cs = some x) :
    ∃ so cap ps, cs = [.slice so ps.length cap] ∧ Pieces w so ps ∧ ps.length ≤ cap ∧ cap ≤ maxLen ∧ PiecesLie x.1 ps cap := by
  rcases open_slice Tryd.underlying37 h with ⟨rfl, rfl⟩ | ⟨a, len, cap, m, n, D, Pl, rfl, _, hl, hm, hmm, rfl, hx⟩
  · exact ⟨none, 0, [], rfl, ⟨fun _ h => (by cases h), fun _ => rfl, fun _ h => (by cases h), fun _ h => (by cases h)⟩, Nat.zero_le _, Nat.zero_le _, .inl ⟨rfl, rfl⟩⟩
  · simp only [if_true] at hmm
    subst hmm
    rw [cells_piece] at hx
    obtain ⟨f, hf⟩ := @choose_lt Pce ⟨⟨none, 0, 0, [], false⟩⟩ len (fun i o => (w.cells? 0 (a.add (i * 2)) 2 = some o.val.toList ∧ Rd w o.ao o.len o.cap o.bs) ∧ PieceLies (D i) o) (fun i hi => by
      obtain ⟨cs', h1, h2⟩ := hx i (by omega)
      obtain ⟨o, rfl, hok, hd⟩ := open_piece h2
      exact ⟨o, ⟨h1, hok⟩, hd⟩)
    have hlen : ((List.range len).map f).length = len := by simp
    refine ⟨some a, m, (List.range len).map f, by rw [hlen], ⟨?_, fun h => (by cases h), ?_, ?_⟩, by rw [hlen]; exact hl, hm, .inr ⟨D, (List.range (m - len)).map fun j => D (len + j), by rw [hlen], by rw [hlen]; simp; omega, ?_⟩⟩
    · intro a' ha hp
      cases ha
      rw [hlen] at hp
      have h1 := (World.cells?_some (hf 0 hp).1.1).2.2 0 (by omega)
      have h2 : (f 0).val.toList[0]? = some (.slice (f 0).ao (f 0).len (f 0).cap) := rfl
      rw [h2] at h1
      simpa [Addr.add] using World.cell?_spot h1
    · intro a' ha i hi g v hv
      cases ha
      rw [hlen] at hi
      have e : ((List.range len).map f)[i]'(by rw [hlen]; exact hi) = f i := by simp
      rw [e] at hv
      have hg : g < 2 := by
        have := (Array.getElem?_eq_some_iff.1 hv).1
        simpa [Pce.val] using this
      have h1 := (World.cells?_some (hf i hi).1.1).2.2 g hg
      have h0 := (World.cells?_some (hf 0 (by omega)).1.1).2.2 0 (by omega)
      have h2 : (f 0).val.toList[0]? = some (.slice (f 0).ao (f 0).len (f 0).cap) := rfl
      rw [h2] at h0
      have hsp : a.spot = none := by simpa [Addr.add] using World.cell?_spot h0
      obtain ⟨b, o, s⟩ := a
      simp at hsp
      subst hsp
      rw [add_plain, add_plain] at h1
      rw [h1]
      simpa using hv
    · intro o ho
      obtain ⟨i, hi, rfl⟩ := List.mem_map.1 ho
      exact (hf i (by simpa using hi)).1.2
    · intro i hi
      rw [hlen] at hi
      have e : ((List.range len).map f)[i]'(by rw [hlen]; exact hi) = f i := by simp
      rw [e]
      exact (hf i hi).2
theorem bulk_len (l : List (DataW H)) : l.length ≤ Rows.uptoBulkAll l := by
  induction l with
  | nil => simp [Rows.uptoBulkAll]
  | cons x r ih =>
    have h1 : 1 ≤ Rows.uptoBulk x := by
      cases x with
      | lit l => cases l <;> simp [Rows.uptoBulk]
      | _ => simp [Rows.uptoBulk]
    simp only [Rows.uptoBulkAll, List.length_cons]
    omega
theorem lies_bulk {d : DataW H} {ao : Option Addr} {n cap : Nat} (h : Lies d ao n cap) : n + 1 ≤ Rows.uptoBulk d := by
  rcases h with ⟨rfl, _, rfl, _⟩ | ⟨es, sp, rfl, h1, _⟩
  · simp [Rows.uptoBulk]
  · have := bulk_len es
    simp only [Rows.uptoBulk]
    omega
theorem piece_bulk {d : DataW H} {o : Pce} (h : PieceLies d o) : o.len + 2 ≤ Rows.uptoBulk d := by
  obtain ⟨d0, d1, rfl, hl⟩ := h
  have := lies_bulk hl
  simp only [Rows.uptoBulk, Rows.uptoBulkAll]
  omega
theorem lens_bulk {w : World} : ∀ (ps : List Pce) (D : Nat → DataW H), (∀ o ∈ ps, Rd w o.ao o.len o.cap o.bs) → (∀ i (h : i < ps.length), PieceLies (D i) ps[i]) → (ps.map fun o => o.bs.length).sum ≤ Rows.uptoBulkAll ((List.range ps.length).map D)
  | [], _, _, _ => by simp
  | o :: r, D, hok, hl => by
    have ih := lens_bulk r (fun i => D (i + 1)) (fun x hx => hok x (List.mem_cons_of_mem _ hx)) (fun i hi => hl (i + 1) (by simpa using hi))
    have h0 := piece_bulk (hl 0 (by simp))
    have h1 := (hok o (List.mem_cons_self ..)).len
    have e : (List.range (o :: r).length).map D = D 0 :: (List.range r.length).map fun i => D (i + 1) := by
      rw [List.length_cons, List.range_succ_eq_map]
      simp [Function.comp_def]
    rw [e]
    simp only [List.map_cons, List.sum_cons, Rows.uptoBulkAll]
    simp only [List.getElem_cons_zero] at h0
    omega
theorem pieces_bulk {so : Option Addr} {d : DataW H} {ps : List Pce} {cap : Nat} (hS : Pieces w so ps) (h : PiecesLie d ps cap) : lens ps 0 ≤ Rows.uptoBulk d := by
  unfold lens
  rw [List.drop_zero]
  rcases h with ⟨rfl, rfl⟩ | ⟨D, sp, rfl, _, hl⟩
  · simp
  · have := lens_bulk ps D hS.ok hl
    simp only [Rows.uptoBulk]
    omega
end
end Go.Proofs.YtpdgbalhbfpdeaaDoor
