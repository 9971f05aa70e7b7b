import Derived.Test.YthcjckgmdokmdaaGreatDoorXQ23
import Derived.Test.YthcjckgmdokmdaaGreatDoorXQ07
namespace Go.Proofs.YthcjckgmdokmdaaGreatDoor
open Go.RowKit
set_option maxRecDepth 100000
theorem Z2 {a b:ByteArray} {m n:Nat} (ha:a.size<=m) (hb:b.size<=n):(a ++ b).size<=m+n:=by
 rw [ByteArray.size_append];omega
theorem IH {x:Nv} (ha:I64 x.a) (hb:I64 x.b):(lnS x).size<=33:=by
 unfold lnS;split
 ·exact Nat.le_trans (Z2 (Z2 (YU _) (show ((⟨#[32,102,105,114,101,100,32]⟩:ByteArray)).size<=7 by decide)) (YN hb)) (by decide)
 split
 ·exact Nat.le_trans (Z2 (Z2 (YU _) (show ((⟨#[32,104,105,116,32,98,121,32]⟩:ByteArray)).size<=8 by decide)) (YU _)) (by decide)
 split
 ·exact Nat.le_trans (Z2 (Z2 (YU _) (show ((⟨#[32,111,117,116,32,98,121,32]⟩:ByteArray)).size<=8 by decide)) (YU _)) (by decide)
 split
 ·exact Nat.le_trans (Z2 (YU _) (show ((⟨#[32,98,97,99,107]⟩:ByteArray)).size<=5 by decide)) (by decide)
 split
 ·exact Nat.le_trans (Z2 (Z2 (YU _) (show ((⟨#[32,116,111,111,107,32]⟩:ByteArray)).size<=6 by decide)) (Wt _)) (by decide)
 split
 ·exact Nat.le_trans (Z2 (Z2 (Z2 (show ((⟨#[115,112,111,116,32]⟩:ByteArray)).size<=5 by decide) (YN ha)) (show ((⟨#[32]⟩:ByteArray)).size<=1 by decide)) (Wt _)) (by decide)
 split
 ·exact Nat.le_trans (Z2 (Z2 (YU _) (show ((⟨#[32,98,111,117,110,99,101,115,32]⟩:ByteArray)).size<=9 by decide)) (YU _)) (by decide)
 ·exact Nat.le_trans (Z2 (Z2 (YU _) (show ((⟨#[32,115,97,121,115,32]⟩:ByteArray)).size<=6 by decide)) (YN hb)) (by decide)
def zNv:Nv:=⟨0,0,0⟩
def KNv:Kd Nv:=⟨fun x=>(Yv x).toList,3,zNv,fun _=>rfl,fun m u hu=>by
 simp at hu;rcases hu with rfl | rfl | rfl <;> rfl,by decide⟩
def nvd (L:List Nv) (i:Nat):Nv:=L.getD i zNv
theorem UG {L:List Nv} {i:Nat} (h:i<L.length):nvd L i=L[i]:=by simp [nvd,List.getD,h]
theorem II {w:World} {B o n:Nat} {L:List Nv} (h:RdG KNv w (some ⟨B,o,none⟩) n L) {i:Nat} (hi:i<n):w.cell? ⟨B,o+i*3,none⟩=some (.int .i64 (nvd L i).k)/\w.cell? ⟨B,o+i*3+1,none⟩=some (.int .i64 (nvd L i).a)/\w.cell? ⟨B,o+i*3+2,none⟩=some (.int .i64 (nvd L i).b) :=
 ⟨h.get hi 0 _ rfl,h.get hi 1 _ rfl,h.get hi 2 _ rfl⟩
def ntS (L:List Nv):ByteArray:=L.foldl (fun s x=>(s ++ lnS x) ++ ⟨#[10]⟩) ByteArray.empty
theorem IJ {L:List Nv} {i:Nat} (h:i<L.length):ntS (L.take (i+1))=(ntS (L.take i) ++ lnS (nvd L i)) ++ ⟨#[10]⟩:=by
 unfold ntS;rw [List.take_succ_eq_append_getElem h,List.foldl_append,UG h];rfl
theorem Wv {L:List Nv} (hL:∀ x∈L,I64 x.a/\I64 x.b):∀ i,i<=L.length->(ntS (L.take i)).size<=34*i
 | 0,_=>by simp [ntS]
 | i+1,h=>by
  rw [IJ (by omega)];have h1:=Wv hL i (by omega);have hx:=hL (nvd L i) (by rw [UG (by omega)]; exact List.getElem_mem _);have h2:=Z2 (Z2 h1 (IH hx.1 hx.2)) (show ((⟨#[10]⟩:ByteArray)).size<=1 by decide);omega
theorem IK {L:List Nv} {i:Nat} (h:i<L.length):(L.take (i+1)).all okN=((L.take i).all okN && okN (nvd L i)):=by
 rw [List.take_succ_eq_append_getElem h,List.all_append,UG h];simp
theorem IL {L:List Nv} {i:Nat} (h:i<L.length) (e:okN (nvd L i)=false):L.all okN=false:=by
 rw [List.all_eq_false];exact ⟨L[i],List.getElem_mem h,by rw [<- UG h,e]; simp⟩
def ntR (L:List Nv):ByteArray:=if L.all okN then ntS L else ByteArray.empty
def ntE (L:List Nv):Int:=if L.all okN then 0 else 230
theorem Ww {L:List Nv} (h:L.all okN=false):ntR L=ByteArray.empty/\ntE L=230:=by
 unfold ntR ntE;rw [h];exact ⟨rfl,rfl⟩
theorem Q1 {L:List Nv} (h:L.all okN=true):ntR L=ntS L/\ntE L=0:=by
 unfold ntR ntE;rw [h];exact ⟨rfl,rfl⟩
end Go.Proofs.YthcjckgmdokmdaaGreatDoor
