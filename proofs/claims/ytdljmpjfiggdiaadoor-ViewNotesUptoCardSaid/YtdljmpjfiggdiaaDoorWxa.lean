/- Rows of strings; the Builder's WriteString, laid at this program by hand; a Builder that a call made. -/
import Derived.Test.YtdljmpjfiggdiaaDoorWva
import Derived.Test.YtdljmpjfiggdiaaDoorBga
import Derived.Shelf.Strings.BuilderK
namespace Go.Proofs
open Go.Shelf
def Tryd.lays166v_ren : Go.Shelf.Ren := ⟨fun | 166 => 42 | 240 => 54 | 276 => 62 | n => n, fun | 70 => 80 | 72 => 83 | 37 => 81 | 75 => 85 | 80 => 88 | 164 => 104 | 20 => 20 | n => n, fun | n => n⟩
theorem Tryd.lays166v : Go.Proofs.Lays.n166 Tryd.prog Tryd.lays166v_ren := {
  mixed := by kernel_rfl
  f166 := Tryd.func42.trans (congrArg some (by kernel_rfl))
  f240 := Tryd.func54.trans (congrArg some (by kernel_rfl))
  f276 := Tryd.func62.trans (congrArg some (by kernel_rfl))
  t0 := Tryd.underlying0
  a0 := Tryd.isAgg0
  z0 := Tryd.sizeOf0
  v0 := Tryd.zeroValue0
  t3 := Tryd.underlying3
  a3 := Tryd.isAgg3
  z3 := Tryd.sizeOf3
  v3 := Tryd.zeroValue3
  t4 := Tryd.underlying4
  a4 := Tryd.isAgg4
  z4 := Tryd.sizeOf4
  v4 := Tryd.zeroValue4
  t9 := Tryd.underlying9
  a9 := Tryd.isAgg9
  z9 := Tryd.sizeOf9
  v9 := Tryd.zeroValue9
  t20 := Tryd.underlying20
  a20 := Tryd.isAgg20
  z20 := Tryd.sizeOf20
  v20 := Tryd.zeroValue20
  t37 := Tryd.underlying81
  a37 := Tryd.isAgg81
  z37 := Tryd.sizeOf81
  v37 := Tryd.zeroValue81
  t70 := Tryd.underlying80
  a70 := Tryd.isAgg80
  z70 := Tryd.sizeOf80
  v70 := Tryd.zeroValue80
  t72 := Tryd.underlying83
  a72 := Tryd.isAgg83
  z72 := Tryd.sizeOf83
  v72 := Tryd.zeroValue83
  t75 := Tryd.underlying85
  a75 := Tryd.isAgg85
  z75 := Tryd.sizeOf85
  v75 := Tryd.zeroValue85
  t164 := Tryd.underlying104
  a164 := Tryd.isAgg104
  z164 := Tryd.sizeOf104
  v164 := Tryd.zeroValue104 }
theorem Tryd.Builder_Extra_166v : Builder.Extra Tryd.prog Tryd.lays166v_ren := {
  sizeBuilder := by kernel_rfl
  liesBuilder := by kernel_rfl
  t5 := Tryd.underlying5
  a5 := Tryd.isAgg5
  z5 := Tryd.sizeOf5
  v5 := Tryd.zeroValue5
  infoByte := by kernel_rfl
  cellsByte := by kernel_rfl
  sizeByte := by kernel_rfl
  neB5 := by decide }
open Go.RowKit in
theorem Tryd.Builder_WriteString_kv (B b : Nat) (bs : List Value) (s : ByteArray) (w : World) (h : Lib.IsBuilderF 83 5 B b bs w) (hlen : bs.length + s.size ≤ 140737488355328) (hBw : B ≤ w.heap.size) :
    Calls Tryd.prog 42 #[.pointer (some ⟨b, 0, none⟩), .string s] w fun e w' => e = .returned (.tuple #[.int .i64 s.size, .nilIface]) ∧ (Lib.BuilderAtF 83 5 B b (.pointer (some ⟨b, 0, none⟩)) (bs ++ Lib.strCells s) w' ∧ Below B w w' ∧ Lib.OthersKept 5 (some b) w w') := Any.Builder_WriteString_k Tryd.lays166v Tryd.Builder_Extra_166v B b bs s w h hlen hBw
end Go.Proofs
namespace Go.Proofs.YtdljmpjfiggdiaaDoor
open Go.RowKit
set_option maxRecDepth 100000

/-- the Builder in block b (its rows from B on) holds the text t -/
def BldV (w : World) (B b : Nat) (t : ByteArray) : Prop := Lib.IsBuilderF 83 5 B b (Lib.byteCells t.data.toList) w
theorem builder_keepV {T e : TypeId} {B b : Nat} {p : Value} {bs : List Value} {w w' : World} {F : Nat → Prop} (h : Lib.BuilderAtF T e B b p bs w) (hf : Fr F w w') (hF : ∀ k, F k → k < B) : Lib.BuilderAtF T e B b p bs w' := by
  obtain ⟨hB, v, hb, ⟨hl, hown⟩, hne⟩ := h
  refine ⟨hB, v, hf.kept hb (fun h => by have := hF _ h; omega), ⟨hl, ?_⟩, hne⟩
  rcases hown with hn | ⟨g, cap, cur, fz, rfl, hg, hh, rest⟩
  · exact .inl hn
  · exact .inr ⟨g, cap, cur, fz, rfl, hg, hf.kept hh (fun h => by have := hF _ h; omega), rest⟩
theorem BldV.keep {w w' : World} {B b : Nat} {t : ByteArray} {F : Nat → Prop} (h : BldV w B b t) (hf : Fr F w w') (hF : ∀ k, F k → k < B) : BldV w' B b t :=
  h.elim (fun k => .inl (builder_keepV k hf hF)) (fun k => .inr (builder_keepV k hf hF))
theorem BldV.still {w w' : World} {B b : Nat} {t : ByteArray} (h : BldV w B b t) (hf : Still w w') : BldV w' B b t := h.keep hf (fun _ e => e.elim)
theorem BldV.fresh (w : World) : BldV (w.alloc (.cells #[.pointer none, .slice none 0 0] 83)) w.heap.size w.heap.size ByteArray.empty := Lib.IsBuilderF.of (Lib.fresh_isBuilder _ _ w)
theorem BldV.lt {w : World} {B b : Nat} {t : ByteArray} (h : BldV w B b t) : b < w.heap.size ∧ B ≤ b := h.elim (fun k => ⟨k.lt, k.1⟩) (fun k => ⟨k.lt, k.1⟩)
theorem cells_appV (t s : ByteArray) : Lib.byteCells t.data.toList ++ Lib.strCells s = Lib.byteCells (t ++ s).data.toList := by
  unfold Lib.byteCells Lib.strCells
  rw [← List.map_append, ByteArray.data_append, Array.toList_append]
theorem below_frV {B : Nat} {w w' : World} (h : Below B w w') : Fr (fun k => B ≤ k) w w' := ⟨h.os, h.tape, h.output, h.size, fun k _ hk => h.block k (by omega)⟩
theorem still_belowV {B : Nat} {w0 w w' : World} (hs : Still w0 w) (h : Below B w w') (hB : w0.heap.size ≤ B) : Still w0 w' := Fr.trans hs (below_frV h) (fun k hk e => by omega)
theorem writeV_any (B b : Nat) (t s : ByteArray) (w : World) (h : BldV w B b t) (hlen : t.size + s.size ≤ 140737488355328) :
    Calls Tryd.prog 42 #[.pointer (some ⟨b, 0, none⟩), .string s] w fun e w' => e = .returned (.tuple #[.int .i64 s.size, .nilIface]) ∧ BldV w' B b (t ++ s) ∧ Below B w w' := by
  have hl := h.lt
  have k := Tryd.Builder_WriteString_kv B b (Lib.byteCells t.data.toList) s w h (by rw [Lib.byteCells_length, Array.length_toList]; exact hlen) (by omega)
  refine k.mono ?_
  rintro e w' ⟨he, h1, h2, _⟩
  rw [cells_appV] at h1
  exact ⟨he, .inr h1, h2⟩
theorem stringV_any (B b : Nat) (t : ByteArray) (w : World) (h : BldV w B b t) :
    Calls Tryd.prog 43 #[.pointer (some ⟨b, 0, none⟩)] w fun e w' => e = .returned (.string t) ∧ Below B w w' := by
  have hl := h.lt
  refine (Tryd.Builder_String_any_k B b t.data.toList w h (by omega)).mono ?_
  rintro e w' ⟨he, _, h2, _⟩
  exact ⟨by rw [he], h2⟩
/-- rows of strings -/
def KSt : Kd ByteArray := ⟨fun s => [.string s], 1, ⟨#[]⟩, fun _ => rfl, fun m u hu => by
  simp at hu
  subst hu
  rfl, by decide⟩
theorem infoSt : ∃ i, Tryd.prog.info? 9 = some i ∧ i.zero = some (.string ⟨#[]⟩) ∧ i.size = KSt.k ∧ i.bytes = 16 := ⟨_, rfl, rfl, rfl, rfl⟩
theorem KSt_row : ∀ L : List ByteArray, KSt.row L = L.map Value.string
  | [] => rfl
  | x :: L => by rw [Kd.row_cons, KSt_row L]; rfl
theorem rdSt {w : World} {B o n : Nat} {L : List ByteArray} (h : RdG KSt w (some ⟨B, o, none⟩) n L) {i : Nat} (hi : i < n) : w.cell? ⟨B, o + i, none⟩ = some (.string (L.getD i ⟨#[]⟩)) := by
  have := h.get hi 0 _ rfl
  simpa [KSt] using this
/-- lines as text -/
def enS (L : List ByteArray) : ByteArray := L.foldl (fun s x => (s ++ x) ++ ⟨#[10]⟩) ByteArray.empty
theorem enF_le (L : List ByteArray) : ∀ s : ByteArray, s.size ≤ (L.foldl (fun s x => (s ++ x) ++ ⟨#[10]⟩) s).size := by
  induction L with
  | nil => exact fun s => Nat.le_refl _
  | cons x L ih => exact fun s => Nat.le_trans (by rw [ByteArray.size_append, ByteArray.size_append]; omega) (ih _)
theorem enS_le (L : List ByteArray) (i : Nat) : (enS (L.take i)).size ≤ (enS L).size := by
  have h := enF_le (L.drop i) (enS (L.take i))
  have e : (L.drop i).foldl (fun s x => (s ++ x) ++ ⟨#[10]⟩) (enS (L.take i)) = enS L := by
    unfold enS
    rw [← List.foldl_append, List.take_append_drop]
  rwa [e] at h
theorem enS_step {L : List ByteArray} {i : Nat} (h : i < L.length) : enS (L.take (i + 1)) = (enS (L.take i) ++ L.getD i ⟨#[]⟩) ++ ⟨#[10]⟩ := by
  unfold enS
  rw [List.take_succ_eq_append_getElem h, List.foldl_append]
  simp [List.getD, h]
set_option maxHeartbeats 4000000 in
theorem ended_any (L : List ByteArray) (hz : (enS L).size ≤ 140737488355328) (ao : Option Addr) (n cap : Nat) (w : World) (hr : RdG KSt w ao n L) : Calls Tryd.prog 22 #[.slice ao n cap] w fun e w' => e = .returned (.string (enS L)) ∧ Still w w' := by
  have HR := hid hr
  have HL := hid hr.1
  have hn47 : n ≤ 281474976710656 := hr.2.1
  have HZ := hid (fun i => Nat.le_trans (enS_le L i) hz)
  have A0 := Still.alloc w (.cells #[.pointer none, .slice none 0 0] 83)
  have b0 := BldV.fresh w
  have HS0 := hid A0
  clear hr hz A0
  go_enter Tryd.func22, Tryd.ntmps22
  go_wp2_with fail
  go_loopw [8] (fun u wr => ∃ i : Nat, i ≤ n ∧ u = .int .i64 (i : Int) ∧ BldV wr w.heap.size w.heap.size (enS (L.take i)) ∧ Still w wr) (fun u _ => n - (intOf u).toNat)
  case atStart => exact ⟨0, by omega, rfl, b0, HS0.out⟩
  case round =>
    obtain ⟨i, hi, rfl, b1, hs⟩ := hrel
    have HS1 := hid hs
    clear b0 HS0
    by_cases hin : i < n
    · have hlt : (i : Int) < (n : Int) := by omega
      have hiL : i < L.length := by have := HL.out; omega
      have hr1 := HR.out.still hs
      obtain ⟨B, o, rfl⟩ := hr1.at (by omega)
      have c0 := rdSt hr1 hin
      have HSt := hid (enS_step hiL)
      have z1 := HZ.out (i + 1)
      rw [HSt.out, ByteArray.size_append, ByteArray.size_append, show ((⟨#[10]⟩ : ByteArray)).size = 1 from rfl] at z1
      obtain ⟨x, ex⟩ : ∃ x, L.getD i ⟨#[]⟩ = x := ⟨_, rfl⟩
      obtain ⟨T, eT⟩ : ∃ T, enS (L.take i) = T := ⟨_, rfl⟩
      rw [ex] at c0 HSt z1
      rw [eT] at b1 HSt z1
      have Z1 := hid z1
      clear ex eT hr1 hs hiL z1
      go_wp2_with fail
      refine (writeV_any _ _ T x _ b1 (by have := Z1.out; omega)).mono ?_
      rintro e w2 ⟨rfl, b2, h2⟩
      have HS2 := hid (still_belowV HS1.out h2 (Nat.le_refl _))
      clear b1 HS1 h2 c0
      go_wp2_with fail
      refine (writeV_any _ _ (T ++ x) ⟨#[10]⟩ _ b2 (by rw [ByteArray.size_append]; exact Z1.out)).mono ?_
      rintro e w3 ⟨rfl, b3, h3⟩
      have HS3 := hid (still_belowV HS2.out h3 (Nat.le_refl _))
      rw [← HSt.out] at b3
      clear b2 HS2 h3
      go_wp2_with fail
      go_roundw
      case rel => exact ⟨i + 1, by omega, by go_num, b3, HS3.out⟩
      case measure => first | (simp [intOf]; done) | (simp [intOf]; omega)
    · have hge : ¬ (i : Int) < (n : Int) := by omega
      have HTk : Hid (L.take i = L) := hid (List.take_of_length_le (by have := HL.out; omega))
      rw [HTk.out] at b1
      clear hs hin
      go_wp2_with fail
      refine (stringV_any _ _ _ _ b1).mono ?_
      rintro e w4 ⟨rfl, h4⟩
      have HS4 := hid (still_belowV HS1.out h4 (Nat.le_refl _))
      clear h4 b1 HS1
      go_wp2_with fail
      go_ret
      exact ⟨rfl, HS4.out⟩
end Go.Proofs.YtdljmpjfiggdiaaDoor
