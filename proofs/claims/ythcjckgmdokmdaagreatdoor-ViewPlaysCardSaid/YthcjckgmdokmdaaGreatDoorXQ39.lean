import Derived.Test.YthcjckgmdokmdaaGreatDoorXQ38
import Derived.Test.YthcjckgmdokmdaaGreatDoorXQ24
set_option maxRecDepth 100000
set_option maxHeartbeats 4000000
namespace Go.Proofs
open Go.Shelf
def Tryz.lays166v_ren:Go.Shelf.Ren:=⟨fun | 166=>44 | 240=>100 | 276=>145 | n=>n,fun | 70=>107 | 72=>110 | 37=>108 | 75=>112 | 80=>118 | 164=>217 | 20=>20 | n=>n,fun | n=>n⟩
theorem Tryz.lays166v:Go.Proofs.Lays.n166 Tryz.prog Tryz.lays166v_ren:={
 mixed:=by kernel_rfl
 f166:=Tryz.func44.trans (congrArg some (by kernel_rfl))
 f240:=Tryz.func100.trans (congrArg some (by kernel_rfl))
 f276:=Tryz.func145.trans (congrArg some (by kernel_rfl))
 t0:=Tryz.underlying0
 a0:=Tryz.isAgg0
 z0:=Tryz.sizeOf0
 v0:=Tryz.zeroValue0
 t3:=Tryz.underlying3
 a3:=Tryz.isAgg3
 z3:=Tryz.sizeOf3
 v3:=Tryz.zeroValue3
 t4:=Tryz.underlying4
 a4:=Tryz.isAgg4
 z4:=Tryz.sizeOf4
 v4:=Tryz.zeroValue4
 t9:=Tryz.underlying9
 a9:=Tryz.isAgg9
 z9:=Tryz.sizeOf9
 v9:=Tryz.zeroValue9
 t20:=Tryz.underlying20
 a20:=Tryz.isAgg20
 z20:=Tryz.sizeOf20
 v20:=Tryz.zeroValue20
 t37:=Tryz.underlying108
 a37:=Tryz.isAgg108
 z37:=Tryz.sizeOf108
 v37:=Tryz.zeroValue108
 t70:=Tryz.underlying107
 a70:=Tryz.isAgg107
 z70:=Tryz.sizeOf107
 v70:=Tryz.zeroValue107
 t72:=Tryz.underlying110
 a72:=Tryz.isAgg110
 z72:=Tryz.sizeOf110
 v72:=Tryz.zeroValue110
 t75:=Tryz.underlying112
 a75:=Tryz.isAgg112
 z75:=Tryz.sizeOf112
 v75:=Tryz.zeroValue112
 t164:=Tryz.underlying217
 a164:=Tryz.isAgg217
 z164:=Tryz.sizeOf217
 v164:=Tryz.zeroValue217 }
theorem Tryz.Builder_Extra_166v:Builder.Extra Tryz.prog Tryz.lays166v_ren:={
 sizeBuilder:=by kernel_rfl
 liesBuilder:=by kernel_rfl
 t5:=Tryz.underlying5
 a5:=Tryz.isAgg5
 z5:=Tryz.sizeOf5
 v5:=Tryz.zeroValue5
 infoByte:=by kernel_rfl
 cellsByte:=by kernel_rfl
 sizeByte:=by kernel_rfl
 neB5:=by decide }
open Go.RowKit in
theorem Tryz.Builder_WriteString_kv (B b:Nat) (bs:List Value) (s:ByteArray) (w:World) (h:Lib.IsBuilderF 110 5 B b bs w) (hlen:bs.length+s.size<=140737488355328) (hBw:B<=w.heap.size) :
  Calls Tryz.prog 44 #[.pointer (some ⟨b,0,none⟩),.string s] w fun e w'=>e=.returned (.tuple #[.int .i64 s.size,.nilIface])/\(Lib.BuilderAtF 110 5 B b (.pointer (some ⟨b,0,none⟩)) (bs ++ Lib.strCells s) w'/\Below B w w'/\Lib.OthersKept 5 (some b) w w'):=Any.Builder_WriteString_k Tryz.lays166v Tryz.Builder_Extra_166v B b bs s w h hlen hBw
end Go.Proofs
namespace Go.Proofs.YthcjckgmdokmdaaGreatDoor
open Go.RowKit
set_option maxRecDepth 100000
def BldV (w:World) (B b:Nat) (t:ByteArray):Prop:=Lib.IsBuilderF 110 5 B b (Lib.byteCells t.data.toList) w
theorem B6 {T e:TypeId} {B b:Nat} {p:Value} {bs:List Value} {w w':World} {F:Nat->Prop} (h:Lib.BuilderAtF T e B b p bs w) (hf:Fr F w w') (hF:∀ k,F k->k<B):Lib.BuilderAtF T e B b p bs w':=by
 obtain ⟨hB,v,hb,⟨hl,hown⟩,hne⟩:=h;refine ⟨hB,v,hf.kept hb (fun h=>by have:=hF _ h; omega),⟨hl, ?_⟩,hne⟩;rcases hown with hn | ⟨g,cap,cur,fz,rfl,hg,hh,rest⟩
 ·exact .inl hn
 ·exact .inr ⟨g,cap,cur,fz,rfl,hg,hf.kept hh (fun h=>by have:=hF _ h; omega),rest⟩
theorem BldV.keep {w w':World} {B b:Nat} {t:ByteArray} {F:Nat->Prop} (h:BldV w B b t) (hf:Fr F w w') (hF:∀ k,F k->k<B):BldV w' B b t :=
 h.elim (fun k=>.inl (B6 k hf hF)) (fun k=>.inr (B6 k hf hF))
theorem BldV.sT {w w':World} {B b:Nat} {t:ByteArray} (h:BldV w B b t) (hf:Yc w w'):BldV w' B b t:=h.keep hf (fun _ e=>e.elim)
theorem BldV.fresh (w:World):BldV (w.alloc (.cells #[.pointer none,.slice none 0 0] 110)) w.heap.size w.heap.size ByteArray.empty:=Lib.IsBuilderF.of (Lib.fresh_isBuilder _ _ w)
theorem BldV.lt {w:World} {B b:Nat} {t:ByteArray} (h:BldV w B b t):b<w.heap.size/\B<=b:=h.elim (fun k=>⟨k.lt,k.1⟩) (fun k=>⟨k.lt,k.1⟩)
theorem Mc (t s:ByteArray):Lib.byteCells t.data.toList ++ Lib.strCells s=Lib.byteCells (t ++ s).data.toList:=by
 unfold Lib.byteCells Lib.strCells;rw [<- List.map_append,ByteArray.data_append,Array.toList_append]
theorem Md {B:Nat} {w w':World} (h:Below B w w'):Fr (fun k=>B<=k) w w':=⟨h.os,h.tape,h.output,h.size,fun k _ hk=>h.block k (by omega)⟩
theorem Jt {B:Nat} {w0 w w':World} (hs:Yc w0 w) (h:Below B w w') (hB:w0.heap.size<=B):Yc w0 w':=Fr.trans hs (Md h) (fun k hk e=>by omega)
theorem QP (B b:Nat) (t s:ByteArray) (w:World) (h:BldV w B b t) (hlen:t.size+s.size<=140737488355328) :
  Calls Tryz.prog 44 #[.pointer (some ⟨b,0,none⟩),.string s] w fun e w'=>e=.returned (.tuple #[.int .i64 s.size,.nilIface])/\BldV w' B b (t ++ s)/\Below B w w':=by
 have hl:=h.lt;have k:=Tryz.Builder_WriteString_kv B b (Lib.byteCells t.data.toList) s w h (by rw [Lib.byteCells_length,Array.length_toList]; exact hlen) (by omega);refine k.mono ?_;rintro e w' ⟨he,h1,h2,_⟩;rw [Mc] at h1;exact ⟨he,.inr h1,h2⟩
theorem B7 (B b:Nat) (t:ByteArray) (w:World) (h:BldV w B b t) :
  Calls Tryz.prog 46 #[.pointer (some ⟨b,0,none⟩)] w fun e w'=>e=.returned (.string t)/\Below B w w':=by
 have hl:=h.lt;refine (Tryz.Builder_String_any_k B b t.data.toList w h (by omega)).mono ?_;rintro e w' ⟨he,_,h2,_⟩;exact ⟨by rw [he],h2⟩
def KSt:Kd ByteArray:=⟨fun s=>[.string s],1,⟨#[]⟩,fun _=>rfl,fun m u hu=>by
 simp at hu;subst hu;rfl,by decide⟩
theorem Xv:∃ i,Tryz.prog.info? 9=some i/\i.zero=some (.string ⟨#[]⟩)/\i.size=KSt.k/\i.bytes=16:=⟨_,rfl,rfl,rfl,rfl⟩
theorem Me {w:World} {B o n:Nat} {L:List ByteArray} (h:RdG KSt w (some ⟨B,o,none⟩) n L) {i:Nat} (hi:i<n):w.cell? ⟨B,o+i,none⟩=some (.string (L.getD i ⟨#[]⟩)):=by
 have:=h.get hi 0 _ rfl;simpa [KSt] using this
def enS (L:List ByteArray):ByteArray:=L.foldl (fun s x=>(s ++ x) ++ ⟨#[10]⟩) ByteArray.empty
theorem Mf (L:List ByteArray):∀ s:ByteArray,s.size<=(L.foldl (fun s x=>(s ++ x) ++ ⟨#[10]⟩) s).size:=by
 induction L with
 | nil=>exact fun s=>Nat.le_refl _
 | cons x L ih=>exact fun s=>Nat.le_trans (by rw [ByteArray.size_append,ByteArray.size_append]; omega) (ih _)
theorem Mg (L:List ByteArray) (i:Nat):(enS (L.take i)).size<=(enS L).size:=by
 have h:=Mf (L.drop i) (enS (L.take i));have e:(L.drop i).foldl (fun s x=>(s ++ x) ++ ⟨#[10]⟩) (enS (L.take i))=enS L:=by
  unfold enS;rw [<- List.foldl_append,List.take_append_drop]
 rwa [e] at h
theorem Mh {L:List ByteArray} {i:Nat} (h:i<L.length):enS (L.take (i+1))=(enS (L.take i) ++ L.getD i ⟨#[]⟩) ++ ⟨#[10]⟩:=by
 unfold enS;rw [List.take_succ_eq_append_getElem h,List.foldl_append];simp [List.getD,h]
theorem B8 (L:List ByteArray) (hz:(enS L).size<=140737488355328) (ao:Option Addr) (n cap:Nat) (w:World) (hr:RdG KSt w ao n L):Ya 18 #[.slice ao n cap] w (.string (enS L)):=by
 have HR:=hid hr;have HL:=hid hr.1;have hn47:n<=281474976710656:=hr.2.1;have HZ:=hid (fun i=>Nat.le_trans (Mg L i) hz);have A0:=aL w (.cells #[.pointer none,.slice none 0 0] 110);have b0:=BldV.fresh w;have HS0:=hid A0;clear hr hz A0;go_enter Tryz.func18,Tryz.ntmps18;go_wp2_with fail;go_loopw [8] (fun u wr=>∃ i:Nat,i<=n/\u=.int .i64 (i:Int)/\BldV wr w.heap.size w.heap.size (enS (L.take i))/\Yc w wr) (fun u _=>n - (intOf u).toNat);case atStart=>exact ⟨0,by omega,rfl,b0,HS0.o⟩
 case round =>
  obtain ⟨i,hi,rfl,b1,hs⟩:=hrel;have HS1:=hid hs;clear b0 HS0;by_cases hin:i<n
  ·have hlt:(i:Int)<(n:Int):=by omega
   have hiL:i<L.length:=by have:=HL.o; omega
   have hr1:=HR.o.sT hs;obtain ⟨B,o,rfl⟩:=hr1.at (by omega);have c0:=Me hr1 hin;have HSt:=hid (Mh hiL);have z1:=HZ.o (i+1);rw [HSt.o,ByteArray.size_append,ByteArray.size_append,show ((⟨#[10]⟩:ByteArray)).size=1 from rfl] at z1;obtain ⟨x,ex⟩:∃ x,L.getD i ⟨#[]⟩=x:=⟨_,rfl⟩;obtain ⟨T,eT⟩:∃ T,enS (L.take i)=T:=⟨_,rfl⟩;rw [ex] at c0 HSt z1;rw [eT] at b1 HSt z1;have Z1:=hid z1;clear ex eT hr1 hs hiL z1;go_wp2_with fail;refine (QP _ _ T x _ b1 (by have:=Z1.o; omega)).mono ?_;rintro e w2 ⟨rfl,b2,h2⟩;have HS2:=hid (Jt HS1.o h2 (Nat.le_refl _));clear b1 HS1 h2 c0;go_wp2_with fail;refine (QP _ _ (T ++ x) ⟨#[10]⟩ _ b2 (by rw [ByteArray.size_append]; exact Z1.o)).mono ?_;rintro e w3 ⟨rfl,b3,h3⟩;have HS3:=hid (Jt HS2.o h3 (Nat.le_refl _));rw [<- HSt.o] at b3;clear b2 HS2 h3;go_wp2_with fail;go_roundw;case rel=>exact ⟨i+1,by omega,by go_num,b3,HS3.o⟩
   case measure=>first | (simp [intOf]; done) | (simp [intOf]; omega)
  ·have hge:¬ (i:Int)<(n:Int):=by omega
   have HTk:Hid (L.take i=L):=hid (List.take_of_length_le (by have:=HL.o; omega));rw [HTk.o] at b1;clear hs hin;go_wp2_with fail;refine (B7 _ _ _ _ b1).mono ?_;rintro e w4 ⟨rfl,h4⟩;have HS4:=hid (Jt HS1.o h4 (Nat.le_refl _));clear h4 b1 HS1;go_wp2_with fail;go_ret;exact ⟨rfl,HS4.o⟩
structure Nmd where
 wd:ByteArray
 n:Int
def zNm:Nmd:=⟨⟨#[]⟩,0⟩
abbrev VN (x:Nmd):Array Value:=#[.string x.wd,.int .i64 x.n]
def KNm:Kd Nmd:=⟨fun x=>(VN x).toList,2,zNm,fun _=>rfl,fun m u hu=>by
 simp at hu;rcases hu with rfl | rfl <;> rfl,by decide⟩
def nmA (L:List Nmd) (i:Nat):Nmd:=L.getD i zNm
theorem Mi {w:World} {B o n:Nat} {L:List Nmd} (h:RdG KNm w (some ⟨B,o,none⟩) n L) {i:Nat} (hi:i<n):w.cell? ⟨B,o+i*2,none⟩=some (.string (nmA L i).wd)/\w.cell? ⟨B,o+i*2+1,none⟩=some (.int .i64 (nmA L i).n) :=
 ⟨h.get hi 0 _ rfl,h.get hi 1 _ rfl⟩
def Nmb (w:World) (g:Nat) (x:Nmd):Prop:=w.heap[g]?=some (.cells (VN x) 97 (0,0))
theorem Nmb.cells {w:World} {g:Nat} {x:Nmd} (h:Nmb w g x):w.cell? ⟨g,0,none⟩=some (.string x.wd)/\w.cell? ⟨g,1,none⟩=some (.int .i64 x.n):=by
 constructor <;> (rw [cell_of_row _ _ _ _ _ _ h]; rfl)
def jnW (L:List Nmd):List ByteArray:=L.flatMap fun x=>[x.wd,itS x.n]
def jnS (L:List Nmd):ByteArray:=⟨(Lib.join ((jnW L).map (·.data.toList)) [32]).toArray⟩
theorem Mj {L:List Nmd} {i:Nat} (h:i<L.length):jnW (L.take (i+1))=jnW (L.take i) ++ [(nmA L i).wd,itS (nmA L i).n]:=by
 unfold jnW;rw [List.take_succ_eq_append_getElem h,List.flatMap_append];simp [nmA,List.getD,h]
theorem UK:∀ L:List Nmd,(jnW L).length=2*L.length
 | []=>rfl
 | x :: L=>by
  have:=UK L;unfold jnW at this ⊢;rw [List.flatMap_cons,List.length_append,this];simp;omega
theorem Mk {xs:List (List UInt8)} {m:Nat} (h:∀ x∈xs,x.length<=m):Lib.lens xs<=m*xs.length:=by
 induction xs with
 | nil=>simp [Lib.lens]
 | cons x xs ih =>
  have h1:=h x (List.mem_cons_self ..);have h2:=ih (fun y hy=>h y (List.mem_cons_of_mem _ hy));simp only [Lib.lens,List.map_cons,List.sum_cons,List.length_cons,Nat.mul_add,Nat.mul_one] at h2 ⊢;omega
theorem B9 {L:List Nmd} (h:∀ x∈L,I64 x.n/\x.wd.size<=21) (hl:L.length<=9):(Lib.join ((jnW L).map (·.data.toList)) [32]).length<=1000:=by
 have h1:Lib.lens ((jnW L).map (·.data.toList))<=21*((jnW L).map (·.data.toList)).length:=Mk (fun y hy=>by
  obtain ⟨b,hb,rfl⟩:=List.mem_map.1 hy;obtain ⟨x,hx,hb⟩:=List.mem_flatMap.1 hb;obtain ⟨hi,hw⟩:=h x hx;simp at hb;rcases hb with rfl | rfl
  ·exact hw
  ·exact YN hi)
 rw [List.length_map,UK] at h1;have h2:=UK L;cases e:jnW L with
 | nil=>simp [Lib.join,List.intercalate]
 | cons y r =>
  rw [e] at h1 h2;rw [List.map_cons] at h1 ⊢;rw [Lib.join_length,List.length_map];rw [List.length_cons] at h2;show [32].length*r.length+_<=_;simp only [List.length_cons,List.length_nil] at h2 ⊢;omega
theorem Ml {o:Oper} {ρ:Operand->Value} {x y:Operand} {s t:ByteArray} (ho:o.op=.buildSlice 66 2 #[(0,x),(1,y)]) (hx:ρ x=.string s) (hy:ρ y=.string t) (u:World):(execOp ρ o).run Tryz.prog u=.ok (.value (.slice (some ⟨u.heap.size,0,none⟩) 2 2)) (u.alloc (.cells #[.string s,.string t] 9)):=by
 unfold execOp;rw [ho];simp only [List.map_toArray,List.map_cons,List.map_nil,hx,hy];go_simp;try rfl
theorem Mm {o:Oper} {ρ:Operand->Value} {x:Operand} {s:ByteArray} (ho:o.op=.buildSlice 66 1 #[(0,x)]) (hx:ρ x=.string s) (u:World):(execOp ρ o).run Tryz.prog u=.ok (.value (.slice (some ⟨u.heap.size,0,none⟩) 1 1)) (u.alloc (.cells #[.string s] 9)):=by
 unfold execOp;rw [ho];simp only [List.map_toArray,List.map_cons,List.map_nil,hx];go_simp;try rfl
theorem Vb {w:World} {g:Nat} {s:ByteArray} (h:w.heap[g]?=some (.cells #[.string s] 9 (0,0))):SrG KSt w (some ⟨g,0,none⟩) 1 [s]:=⟨⟨rfl,Nat.le_of_ble_eq_true rfl,.inr ⟨g,0,rfl,fun j hj m u hu=>by
 rw [cell_of_row _ _ _ _ _ _ h];have hm:m=0:=by
  have:=(List.getElem?_eq_some_iff.1 hu).1;simp [KSt] at this;exact this
 subst hm;match j,hj with
 | 0,_=>exact hu⟩⟩,Nat.le_refl _,fun e=>by cases e⟩
theorem Mn {w:World} {g:Nat} {s t:ByteArray} (h:w.heap[g]?=some (.cells #[.string s,.string t] 9 (0,0))):SrG KSt w (some ⟨g,0,none⟩) 2 [s,t]:=⟨⟨rfl,Nat.le_of_ble_eq_true rfl,.inr ⟨g,0,rfl,fun j hj m u hu=>by
 rw [cell_of_row _ _ _ _ _ _ h];have hm:m=0:=by
  have:=(List.getElem?_eq_some_iff.1 hu).1;simp [KSt] at this;exact this
 subst hm;match j,hj with
 | 0,_=>exact hu
 | 1,_=>exact hu⟩⟩,Nat.le_refl _,fun e=>by cases e⟩
theorem BA (L:List Nmd) (hL:∀ x∈L,I64 x.n/\x.wd.size<=21) (hl:L.length<=9) (h0:0<L.length) (ao:Option Addr) (n cap:Nat) (w:World) (hr:RdG KNm w ao n L) (ht:PTabV w):Ya 37 #[.slice ao n cap] w (.string (jnS L)):=by
 have HR:=hid hr;have HL:=hid hr.1;have hn9:n<=9:=by have:=hr.1; omega
 have HX:=hid hL;have HT:=hid ht;have HJ:=hid (B9 hL hl);have H0:=hid h0;clear hr hL ht hl h0;go_enter Tryz.func37,Tryz.ntmps37;go_wp2_with fail;go_loopw [3,8] (fun v u wr=>∃ i:Nat,i<=n/\u=.int .i64 (i:Int)/\OwG KSt 9 wr w.heap.size v (jnW (L.take i))/\Yc w wr) (fun _ u _=>n - (intOf u).toNat);case atStart=>exact ⟨0,by omega,rfl,OwG.nil _ _,Fr.refl _ _⟩
 case round =>
  obtain ⟨i,hi,rfl,ho,hs⟩:=hrel;have HS:=hid hs;have HO:=hid ho;obtain ⟨lo,lcp,rfl,hlo⟩:=ho.slice;by_cases hin:i<n
  ·have hlt:(i:Int)<(n:Int):=by omega
   have hiL:i<L.length:=by have:=HL.o; omega
   have hr1:=HR.o.sT hs;obtain ⟨B,o,rfl⟩:=hr1.at (by omega);obtain ⟨c0,c1⟩:=Mi hr1 hin;have hx:=HX.o (nmA L i) (by unfold nmA; rw [List.getD_eq_getElem?_getD,List.getElem?_eq_getElem hiL]; exact List.getElem_mem _);have HStp:=hid (Mj hiL);have HLe:Hid ((jnW (L.take i)).length=2*i):=hid (by rw [UK,List.length_take]; omega);obtain ⟨x,ex⟩:∃ x,nmA L i=x:=⟨_,rfl⟩;rw [ex] at c0 c1 HStp hx;obtain ⟨LL,eLL⟩:∃ m,jnW (L.take i)=m:=⟨_,rfl⟩;rw [eLL] at HO HStp HLe;rw [eLL];have A2:=aL wr (.cells (VN x) 97);have p2:Nmb (wr.alloc (.cells (VN x) 97)) wr.heap.size x:=heap_alloc_new wr _;have HO2:=hid (HO.o.sT A2);have HS2:=hid (HS.o.trans A2);have HI:=hid (fun u (hu:Yc w u)=>ZL x.n hx.1 u (HT.o.sT hu));obtain ⟨y,ey⟩:∃ y,itS x.n=y:=⟨_,rfl⟩;rw [ey] at HI HStp;obtain ⟨W2,eW2⟩:∃ X,wr.alloc (.cells (VN x) 97)=X:=⟨_,rfl⟩;rw [eW2] at p2 HO2 HS2;clear ex ey eLL hr1 hs ho hx hiL A2 hlo;go_upto_region 5 with fail;clear c0 c1;have HP2:=hid p2;clear p2;refine J3 6 1 (by kernel_rfl) (by kernel_rfl) (by kernel_rfl) ?_;apply Exists.intro;refine And.intro ?_ (And.intro ?_ ?_)
   ·intro u hu;obtain ⟨d0,d1⟩:=(show Nmb u wr.heap.size x from hu.kept_still HP2.o).cells;have k0:=kC d0;have k1:=kC d1;have hne:=Aft.here u;have G:=hid (fun z:Aft u=>HI.o z.u (HS2.o.trans (hu.trans z.s)));clear d0 d1;simp only [List.take_succ_cons,List.take_zero];repeat (go_big_quiet_step ((first | (go_at_call 23; with_reducible exact Calls.cl (G.o _)))))
    exact wpQuiet_nil rfl
   ·intro _ o ho u hu;obtain rfl:=Option.some.inj ho;exact ⟨_,_,Ml rfl rfl rfl u,aL u _⟩
   intro w3 h3;simp only [List.drop_succ_cons,List.drop_zero];have A4:=aL w3 (.cells #[.string x.wd,.string y] 9);have hy4:(w3.alloc (.cells #[.string x.wd,.string y] 9)).heap[w3.heap.size]?=some (.cells #[.string x.wd,.string y] 9 (0,0)):=heap_alloc_new w3 _;have HO4:=hid (HO2.o.sT (h3.trans A4));have HS4:=hid (HS2.o.trans (h3.trans A4));have HY4:=hid (Mn hy4);have HB4:Hid (w.heap.size<=(w3.alloc (.cells #[.string x.wd,.string y] 9)).heap.size):=hid HS4.o.size;have HL4:Hid ((LL.length+[x.wd,y].length)*16<=140737488355328):=hid (by have:=HLe.o; simp only [List.length_cons,List.length_nil]; omega);have HL5:Hid (LL.length+[x.wd,y].length<=281474976710656):=hid (by have:=HLe.o; simp only [List.length_cons,List.length_nil]; omega);clear A4 hy4 h3 HI HP2;go_wp2_with (
    at_builtin;refine Xu KSt _ rfl _ _ 66 rfl Tryz.underlying66 16 (.string ⟨#[]⟩) rfl Xv w.heap.size (.slice lo LL.length lcp) LL [x.wd,y] (some ⟨w3.heap.size,0,none⟩) 2 2 rfl rfl rfl HO4.o HY4.o HL4.o HL5.o HB4.o ?_;intro v' w' ho' hf';have HO9:=hid ho';have HF9:=hid hf';clear ho' hf')
   refine ⟨rfl, ?_⟩;go_wp2_with fail;go_roundw;case rel=>exact ⟨i+1,by omega,by go_num,by rw [HStp.o]; exact HO9.o,Zy HS4.o HO4.o HF9.o (Nat.le_refl _)⟩
   case measure=>first | (simp [intOf]; done) | (simp [intOf]; omega)
  ·have hge:¬ (i:Int)<(n:Int):=by omega
   have HTk:Hid (L.take i=L):=hid (List.take_of_length_le (by have:=HL.o; omega));rw [HTk.o] at HO ho;rw [HTk.o];have hLn:=HL.o;have hlen:(jnW L).length=2*n:=by rw [UK,hLn]
   obtain ⟨g,cap',e1,hg1,hg2⟩:=ho.head (by have:=H0.o; rw [UK]; omega);injection e1 with e1 e2 e3;subst e1 e3;have hcap:(jnW L).length<=lcp:=by
    rcases ho.2 with ⟨hv,_⟩ | ⟨g',cap'',cur,hv,hb,hg,hn,_⟩
    ·cases hv
    ·cases hv; exact hn
   have HC:=hid (Tryz.strings_Join g 0 lcp (jnW L) ⟨#[32]⟩ wr (fun j z hz=>by
    have hj:=(List.getElem?_eq_some_iff.1 hz).1;have:=ho.get hj 0 _ rfl;rw [List.getD_eq_getElem?_getD,hz] at this;simpa [KSt] using this) hg2 (by rw [hlen]; omega) hcap (Nat.le_trans HJ.o (by decide)))
   clear hs hin ho hlo hLn hlen e2 hg1 hg2 hcap;go_wp2_with fail;refine HC.o.mono ?_;rintro e w4 ⟨rfl,h4⟩;have HS4:=hid (HS.o.trans (Qz h4));clear h4 HC;go_wp2_with fail;go_ret;exact ⟨rfl,HS4.o⟩
theorem ZW (n:Int) (h:Yu n=true) (w:World):Ya 47 #[.int .i64 n] w (.string (ltS n.toNat)):=by
 have h1:=seatB_iff.1 h;obtain ⟨k,rfl⟩:∃ k:Nat,n=(k:Int):=⟨n.toNat,by omega⟩;have hk:k<6:=by omega
 clear h h1;match k,hk with
 | 0,_ | 1,_ | 2,_ | 3,_ | 4,_ | 5,_ =>
  go_enter Tryz.func47,Tryz.ntmps47;go_wp2_with fail;go_ret;exact ⟨rfl,Fr.refl _ _⟩
theorem Kp (n:Int) (w:World):Yb 76 #[.int .i64 n] w (.bool true):=by
 go_enter Tryz.func76,Tryz.ntmps76;go_wp2_with fail;go_ret;exact ⟨rfl,rfl⟩
theorem Zt (n:Int) (w:World):Yb 75 #[.int .i64 n] w (.bool (Yu n)):=by
 by_cases h1:0<=n
 ·by_cases h2:n<=5
  ·have e:Yu n=true:=seatB_iff.2 ⟨h1,h2⟩;have h3:n<6:=by omega
   go_enter Tryz.func75,Tryz.ntmps75;go_wp2_with fail;go_ret;exact ⟨by first | rfl | (rw [e]; rfl),rfl⟩
  ·have e:Yu n=false:=by unfold Yu; simp; omega
   have h3:¬ n<6:=by omega
   go_enter Tryz.func75,Tryz.ntmps75;go_wp2_with fail;go_ret;exact ⟨by first | rfl | (rw [e]; rfl),rfl⟩
 ·have e:Yu n=false:=by unfold Yu; simp; omega
  go_enter Tryz.func75,Tryz.ntmps75;go_wp2_with fail;go_ret;exact ⟨by first | rfl | (rw [e]; rfl),rfl⟩
theorem Kq (n:Int) (w:World):Yb 81 #[.int .i64 n] w (.bool (ZM n)):=by
 by_cases h1:1<=n
 ·by_cases h2:n<=3
  ·have e:ZM n=true:=kindB_iff.2 ⟨h1,h2⟩;have h3:n<4:=by omega
   go_enter Tryz.func81,Tryz.ntmps81;go_wp2_with fail;go_ret;exact ⟨by first | rfl | (rw [e]; rfl),rfl⟩
  ·have e:ZM n=false:=by unfold ZM; simp; omega
   have h3:¬ n<4:=by omega
   go_enter Tryz.func81,Tryz.ntmps81;go_wp2_with fail;go_ret;exact ⟨by first | rfl | (rw [e]; rfl),rfl⟩
 ·have e:ZM n=false:=by unfold ZM; simp; omega
  go_enter Tryz.func81,Tryz.ntmps81;go_wp2_with fail;go_ret;exact ⟨by first | rfl | (rw [e]; rfl),rfl⟩
def kdN (k:Nat):ByteArray:=if k=1 then ⟨#[104,101,97,108]⟩ else if k=2 then ⟨#[99,104,97,114,103,101]⟩ else if k=3 then ⟨#[112,114,105,122,101]⟩ else ⟨#[]⟩
def kdG (k:Nat):ByteArray:=if k=1 then ⟨#[104]⟩ else if k=2 then ⟨#[99]⟩ else if k=3 then ⟨#[112]⟩ else ⟨#[]⟩
structure KTab (w:World):Prop where
 nm:∀ k,k<4->w.cell? ⟨0,k*2,none⟩=some (.string (kdN k))
 sg:∀ k,k<4->w.cell? ⟨0,k*2+1,none⟩=some (.string (kdG k))
theorem KTab.sT {w w':World} (h:KTab w) (hs:Yc w w'):KTab w' :=
 ⟨fun d hd=>(hs.cell (World.block_lt_of_cell? w _ (h.nm d hd)) (fun e=>e)).trans (h.nm d hd),fun d hd=>(hs.cell (World.block_lt_of_cell? w _ (h.sg d hd)) (fun e=>e)).trans (h.sg d hd)⟩
theorem KTab.at1 {w:World} (h:KTab w):w.cell? ⟨0,2,none⟩=some (.string ⟨#[104,101,97,108]⟩)/\w.cell? ⟨0,4,none⟩=some (.string ⟨#[99,104,97,114,103,101]⟩)/\w.cell? ⟨0,6,none⟩=some (.string ⟨#[112,114,105,122,101]⟩):=⟨h.nm 1 (by decide),h.nm 2 (by decide),h.nm 3 (by decide)⟩
theorem Mo (x:Nv) (ha:Yu x.a=true) (hb:I64 x.b) (w:World) (ht:PTabV w) (hk:KTab w):Ya 77 #[.agg (Yv x)] w (.string ((ltS x.a.toNat ++ ⟨#[32,102,105,114,101,100,32]⟩) ++ itS x.b)):=by
 have H0:=hid (fun u=>ZW x.a ha u);have X0:=YU x.a.toNat;have H1:=hid (fun u (hu:Yc w u)=>ZL x.b hb u (ht.sT hu));have X1:=YN hb;have A0:=aL w (.cells (Yv x) 49);have p0:Nvb (w.alloc (.cells (Yv x) 49)) w.heap.size x:=heap_alloc_new w _;have HS0:=hid A0;have HP0:=hid p0;have HK0:=hid (hk.sT A0);obtain ⟨x0,ex0⟩:∃ z,ltS x.a.toNat=z:=⟨_,rfl⟩;rw [ex0] at H0 X0;rw [ex0];obtain ⟨x1,ex1⟩:∃ z,itS x.b=z:=⟨_,rfl⟩;rw [ex1] at H1 X1;rw [ex1];obtain ⟨y1,f1,z1,s1⟩:=Yr (a:=x0) (b:=⟨#[32,102,105,114,101,100,32]⟩) (m:=1) (n:=7) X0 (by decide) (by decide);obtain ⟨y2,f2,z2,s2⟩:=Yr (a:=y1) (b:=x1) (m:=8) (n:=21) z1 X1 (by decide);rw [f1,f2];clear f1 z1 f2 z2 A0 p0 ex0 X0 ex1 X1 ha hb;obtain ⟨W0,eW0⟩:∃ X,w.alloc (.cells (Yv x) 49)=X:=⟨_,rfl⟩;rw [eW0] at HS0 HP0 HK0;go_enter Tryz.func77,Tryz.ntmps77;go_upto_region 1 with fail;clear eW0;obtain ⟨c0,c1,c2,cf⟩:=HP0.o.cells;have k0:=kC c0;have k1:=kC c1;have k2:=kC c2;have hne:=Aft.here W0;have G0:=hid (fun z:Aft W0=>H0.o z.u);have G1:=hid (fun z:Aft W0=>H1.o z.u (HS0.o.trans z.s));clear c0 c1 c2 cf;refine Yo (by kernel_rfl) (by kernel_rfl) ?_;repeat (go_big_quiet_step ((first | (go_at_call 47; with_reducible exact Calls.cl (G0.o _)) | (go_at_call 23; with_reducible exact Calls.cl (G1.o _)))))
 refine wpQuiet_nil ?_;intro w1 h1;have HS1:=hid (HS0.o.trans h1);clear h1 hne k0 k1 k2;go_wp2_with fail;go_ret;exact ⟨rfl,HS1.o⟩
theorem Mp (x:Nv) (ha:Yu x.a=true) (hb:Yu x.b=true) (w:World) (_:PTabV w) (hk:KTab w):Ya 78 #[.agg (Yv x)] w (.string ((ltS x.a.toNat ++ ⟨#[32,104,105,116,32,98,121,32]⟩) ++ ltS x.b.toNat)):=by
 have H0:=hid (fun u=>ZW x.a ha u);have X0:=YU x.a.toNat;have H1:=hid (fun u=>ZW x.b hb u);have X1:=YU x.b.toNat;have A0:=aL w (.cells (Yv x) 49);have p0:Nvb (w.alloc (.cells (Yv x) 49)) w.heap.size x:=heap_alloc_new w _;have HS0:=hid A0;have HP0:=hid p0;have HK0:=hid (hk.sT A0);obtain ⟨x0,ex0⟩:∃ z,ltS x.a.toNat=z:=⟨_,rfl⟩;rw [ex0] at H0 X0;rw [ex0];obtain ⟨x1,ex1⟩:∃ z,ltS x.b.toNat=z:=⟨_,rfl⟩;rw [ex1] at H1 X1;rw [ex1];obtain ⟨y1,f1,z1,s1⟩:=Yr (a:=x0) (b:=⟨#[32,104,105,116,32,98,121,32]⟩) (m:=1) (n:=8) X0 (by decide) (by decide);obtain ⟨y2,f2,z2,s2⟩:=Yr (a:=y1) (b:=x1) (m:=9) (n:=1) z1 X1 (by decide);rw [f1,f2];clear f1 z1 f2 z2 A0 p0 ex0 X0 ex1 X1 ha hb;obtain ⟨W0,eW0⟩:∃ X,w.alloc (.cells (Yv x) 49)=X:=⟨_,rfl⟩;rw [eW0] at HS0 HP0 HK0;go_enter Tryz.func78,Tryz.ntmps78;go_upto_region 1 with fail;clear eW0;obtain ⟨c0,c1,c2,cf⟩:=HP0.o.cells;have k0:=kC c0;have k1:=kC c1;have k2:=kC c2;have hne:=Aft.here W0;have G0:=hid (fun z:Aft W0=>H0.o z.u);have G1:=hid (fun z:Aft W0=>H1.o z.u);clear c0 c1 c2 cf;refine Yo (by kernel_rfl) (by kernel_rfl) ?_;repeat (go_big_quiet_step ((first | (go_at_call 47; with_reducible exact Calls.cl (G0.o _)) | (go_at_call 47; with_reducible exact Calls.cl (G1.o _)))))
 refine wpQuiet_nil ?_;intro w1 h1;have HS1:=hid (HS0.o.trans h1);clear h1 hne k0 k1 k2;go_wp2_with fail;go_ret;exact ⟨rfl,HS1.o⟩
theorem Mq (x:Nv) (ha:Yu x.a=true) (hb:Yu x.b=true) (w:World) (_:PTabV w) (hk:KTab w):Ya 79 #[.agg (Yv x)] w (.string ((ltS x.a.toNat ++ ⟨#[32,111,117,116,32,98,121,32]⟩) ++ ltS x.b.toNat)):=by
 have H0:=hid (fun u=>ZW x.a ha u);have X0:=YU x.a.toNat;have H1:=hid (fun u=>ZW x.b hb u);have X1:=YU x.b.toNat;have A0:=aL w (.cells (Yv x) 49);have p0:Nvb (w.alloc (.cells (Yv x) 49)) w.heap.size x:=heap_alloc_new w _;have HS0:=hid A0;have HP0:=hid p0;have HK0:=hid (hk.sT A0);obtain ⟨x0,ex0⟩:∃ z,ltS x.a.toNat=z:=⟨_,rfl⟩;rw [ex0] at H0 X0;rw [ex0];obtain ⟨x1,ex1⟩:∃ z,ltS x.b.toNat=z:=⟨_,rfl⟩;rw [ex1] at H1 X1;rw [ex1];obtain ⟨y1,f1,z1,s1⟩:=Yr (a:=x0) (b:=⟨#[32,111,117,116,32,98,121,32]⟩) (m:=1) (n:=8) X0 (by decide) (by decide);obtain ⟨y2,f2,z2,s2⟩:=Yr (a:=y1) (b:=x1) (m:=9) (n:=1) z1 X1 (by decide);rw [f1,f2];clear f1 z1 f2 z2 A0 p0 ex0 X0 ex1 X1 ha hb;obtain ⟨W0,eW0⟩:∃ X,w.alloc (.cells (Yv x) 49)=X:=⟨_,rfl⟩;rw [eW0] at HS0 HP0 HK0;go_enter Tryz.func79,Tryz.ntmps79;go_upto_region 1 with fail;clear eW0;obtain ⟨c0,c1,c2,cf⟩:=HP0.o.cells;have k0:=kC c0;have k1:=kC c1;have k2:=kC c2;have hne:=Aft.here W0;have G0:=hid (fun z:Aft W0=>H0.o z.u);have G1:=hid (fun z:Aft W0=>H1.o z.u);clear c0 c1 c2 cf;refine Yo (by kernel_rfl) (by kernel_rfl) ?_;repeat (go_big_quiet_step ((first | (go_at_call 47; with_reducible exact Calls.cl (G0.o _)) | (go_at_call 47; with_reducible exact Calls.cl (G1.o _)))))
 refine wpQuiet_nil ?_;intro w1 h1;have HS1:=hid (HS0.o.trans h1);clear h1 hne k0 k1 k2;go_wp2_with fail;go_ret;exact ⟨rfl,HS1.o⟩
theorem Mr (x:Nv) (ha:Yu x.a=true) (w:World) (_:PTabV w) (hk:KTab w):Ya 80 #[.agg (Yv x)] w (.string (ltS x.a.toNat ++ ⟨#[32,98,97,99,107]⟩)):=by
 have H0:=hid (fun u=>ZW x.a ha u);have X0:=YU x.a.toNat;have A0:=aL w (.cells (Yv x) 49);have p0:Nvb (w.alloc (.cells (Yv x) 49)) w.heap.size x:=heap_alloc_new w _;have HS0:=hid A0;have HP0:=hid p0;have HK0:=hid (hk.sT A0);obtain ⟨x0,ex0⟩:∃ z,ltS x.a.toNat=z:=⟨_,rfl⟩;rw [ex0] at H0 X0;rw [ex0];obtain ⟨y1,f1,z1,s1⟩:=Yr (a:=x0) (b:=⟨#[32,98,97,99,107]⟩) (m:=1) (n:=5) X0 (by decide) (by decide);rw [f1];clear f1 z1 A0 p0 ex0 X0 ha;obtain ⟨W0,eW0⟩:∃ X,w.alloc (.cells (Yv x) 49)=X:=⟨_,rfl⟩;rw [eW0] at HS0 HP0 HK0;go_enter Tryz.func80,Tryz.ntmps80;obtain ⟨c0,c1,c2,cf⟩:=HP0.o.cells;go_wp2_with fail;refine (H0.o _).mono ?_;rintro e w1 ⟨rfl,h1⟩;have HS1:=hid (HS0.o.trans h1);clear h1 c0 c1 c2 cf eW0;go_wp2_with fail;go_ret;exact ⟨rfl,HS1.o⟩
theorem Ms (x:Nv) (ha:Yu x.a=true) (hb:ZM x.b=true) (w:World) (_:PTabV w) (hk:KTab w):Ya 82 #[.agg (Yv x)] w (.string ((ltS x.a.toNat ++ ⟨#[32,116,111,111,107,32]⟩) ++ ZD x.b)):=by
 have hb1:=kindB_iff.1 hb;obtain ⟨xk,xa,xb⟩:=x;dsimp only at hb hb1 ha ⊢;rcases (show xb=1\/xb=2\/xb=3 by omega) with rfl | rfl | rfl
 ·rw [show ZD 1=⟨#[104,101,97,108]⟩ from rfl];clear hb hb1;have H0:=hid (fun u=>ZW xa ha u);have X0:=YU xa.toNat;have A0:=aL w (.cells (Yv ⟨xk,xa,1⟩) 49);have p0:Nvb (w.alloc (.cells (Yv ⟨xk,xa,1⟩) 49)) w.heap.size ⟨xk,xa,1⟩:=heap_alloc_new w _;have HS0:=hid A0;have HP0:=hid p0;have HK0:=hid (hk.sT A0);obtain ⟨x0,ex0⟩:∃ z,ltS xa.toNat=z:=⟨_,rfl⟩;rw [ex0] at H0 X0;rw [ex0];obtain ⟨y1,f1,z1,s1⟩:=Yr (a:=x0) (b:=⟨#[32,116,111,111,107,32]⟩) (m:=1) (n:=6) X0 (by decide) (by decide);obtain ⟨y2,f2,z2,s2⟩:=Yr (a:=y1) (b:=⟨#[104,101,97,108]⟩) (m:=7) (n:=4) z1 (by decide) (by decide);rw [f1,f2];clear f1 z1 f2 z2 A0 p0 ex0 X0 ha;obtain ⟨W0,eW0⟩:∃ X,w.alloc (.cells (Yv ⟨xk,xa,1⟩) 49)=X:=⟨_,rfl⟩;rw [eW0] at HS0 HP0 HK0;go_enter Tryz.func82,Tryz.ntmps82;go_upto_region 1 with fail;clear eW0;obtain ⟨c0,c1,c2,cf⟩:=HP0.o.cells;have k0:=kC c0;have k1:=kC c1;have k2:=kC c2;have hne:=Aft.here W0;have G0:=hid (fun z:Aft W0=>H0.o z.u);obtain ⟨n1,n2,n3⟩:=HK0.o.at1;have k3:=kC n1;clear n1 n2 n3;clear c0 c1 c2 cf;refine Yo (by kernel_rfl) (by kernel_rfl) ?_;repeat (go_big_quiet_step ((first | (go_at_call 47; with_reducible exact Calls.cl (G0.o _)))))
  refine wpQuiet_nil ?_;intro w1 h1;have HS1:=hid (HS0.o.trans h1);clear h1 hne k0 k1 k2;go_wp2_with fail;go_ret;exact ⟨rfl,HS1.o⟩
 ·rw [show ZD 2=⟨#[99,104,97,114,103,101]⟩ from rfl];clear hb hb1;have H0:=hid (fun u=>ZW xa ha u);have X0:=YU xa.toNat;have A0:=aL w (.cells (Yv ⟨xk,xa,2⟩) 49);have p0:Nvb (w.alloc (.cells (Yv ⟨xk,xa,2⟩) 49)) w.heap.size ⟨xk,xa,2⟩:=heap_alloc_new w _;have HS0:=hid A0;have HP0:=hid p0;have HK0:=hid (hk.sT A0);obtain ⟨x0,ex0⟩:∃ z,ltS xa.toNat=z:=⟨_,rfl⟩;rw [ex0] at H0 X0;rw [ex0];obtain ⟨y1,f1,z1,s1⟩:=Yr (a:=x0) (b:=⟨#[32,116,111,111,107,32]⟩) (m:=1) (n:=6) X0 (by decide) (by decide);obtain ⟨y2,f2,z2,s2⟩:=Yr (a:=y1) (b:=⟨#[99,104,97,114,103,101]⟩) (m:=7) (n:=6) z1 (by decide) (by decide);rw [f1,f2];clear f1 z1 f2 z2 A0 p0 ex0 X0 ha;obtain ⟨W0,eW0⟩:∃ X,w.alloc (.cells (Yv ⟨xk,xa,2⟩) 49)=X:=⟨_,rfl⟩;rw [eW0] at HS0 HP0 HK0;go_enter Tryz.func82,Tryz.ntmps82;go_upto_region 1 with fail;clear eW0;obtain ⟨c0,c1,c2,cf⟩:=HP0.o.cells;have k0:=kC c0;have k1:=kC c1;have k2:=kC c2;have hne:=Aft.here W0;have G0:=hid (fun z:Aft W0=>H0.o z.u);obtain ⟨n1,n2,n3⟩:=HK0.o.at1;have k3:=kC n2;clear n1 n2 n3;clear c0 c1 c2 cf;refine Yo (by kernel_rfl) (by kernel_rfl) ?_;repeat (go_big_quiet_step ((first | (go_at_call 47; with_reducible exact Calls.cl (G0.o _)))))
  refine wpQuiet_nil ?_;intro w1 h1;have HS1:=hid (HS0.o.trans h1);clear h1 hne k0 k1 k2;go_wp2_with fail;go_ret;exact ⟨rfl,HS1.o⟩
 ·rw [show ZD 3=⟨#[112,114,105,122,101]⟩ from rfl];clear hb hb1;have H0:=hid (fun u=>ZW xa ha u);have X0:=YU xa.toNat;have A0:=aL w (.cells (Yv ⟨xk,xa,3⟩) 49);have p0:Nvb (w.alloc (.cells (Yv ⟨xk,xa,3⟩) 49)) w.heap.size ⟨xk,xa,3⟩:=heap_alloc_new w _;have HS0:=hid A0;have HP0:=hid p0;have HK0:=hid (hk.sT A0);obtain ⟨x0,ex0⟩:∃ z,ltS xa.toNat=z:=⟨_,rfl⟩;rw [ex0] at H0 X0;rw [ex0];obtain ⟨y1,f1,z1,s1⟩:=Yr (a:=x0) (b:=⟨#[32,116,111,111,107,32]⟩) (m:=1) (n:=6) X0 (by decide) (by decide);obtain ⟨y2,f2,z2,s2⟩:=Yr (a:=y1) (b:=⟨#[112,114,105,122,101]⟩) (m:=7) (n:=5) z1 (by decide) (by decide);rw [f1,f2];clear f1 z1 f2 z2 A0 p0 ex0 X0 ha;obtain ⟨W0,eW0⟩:∃ X,w.alloc (.cells (Yv ⟨xk,xa,3⟩) 49)=X:=⟨_,rfl⟩;rw [eW0] at HS0 HP0 HK0;go_enter Tryz.func82,Tryz.ntmps82;go_upto_region 1 with fail;clear eW0;obtain ⟨c0,c1,c2,cf⟩:=HP0.o.cells;have k0:=kC c0;have k1:=kC c1;have k2:=kC c2;have hne:=Aft.here W0;have G0:=hid (fun z:Aft W0=>H0.o z.u);obtain ⟨n1,n2,n3⟩:=HK0.o.at1;have k3:=kC n3;clear n1 n2 n3;clear c0 c1 c2 cf;refine Yo (by kernel_rfl) (by kernel_rfl) ?_;repeat (go_big_quiet_step ((first | (go_at_call 47; with_reducible exact Calls.cl (G0.o _)))))
  refine wpQuiet_nil ?_;intro w1 h1;have HS1:=hid (HS0.o.trans h1);clear h1 hne k0 k1 k2;go_wp2_with fail;go_ret;exact ⟨rfl,HS1.o⟩
theorem Mt (x:Nv) (ha:I64 x.a) (hb:ZM x.b=true) (w:World) (ht:PTabV w) (hk:KTab w):Ya 83 #[.agg (Yv x)] w (.string ((((⟨#[115,112,111,116,32]⟩:ByteArray) ++ itS x.a) ++ ⟨#[32]⟩) ++ ZD x.b)):=by
 have hb1:=kindB_iff.1 hb;obtain ⟨xk,xa,xb⟩:=x;dsimp only at hb hb1 ha ⊢;rcases (show xb=1\/xb=2\/xb=3 by omega) with rfl | rfl | rfl
 ·rw [show ZD 1=⟨#[104,101,97,108]⟩ from rfl];clear hb hb1;have H0:=hid (fun u (hu:Yc w u)=>ZL xa ha u (ht.sT hu));have X0:=YN ha;have A0:=aL w (.cells (Yv ⟨xk,xa,1⟩) 49);have p0:Nvb (w.alloc (.cells (Yv ⟨xk,xa,1⟩) 49)) w.heap.size ⟨xk,xa,1⟩:=heap_alloc_new w _;have HS0:=hid A0;have HP0:=hid p0;have HK0:=hid (hk.sT A0);obtain ⟨x0,ex0⟩:∃ z,itS xa=z:=⟨_,rfl⟩;rw [ex0] at H0 X0;rw [ex0];obtain ⟨y1,f1,z1,s1⟩:=Yr (a:=⟨#[115,112,111,116,32]⟩) (b:=x0) (m:=5) (n:=21) (by decide) X0 (by decide);obtain ⟨y2,f2,z2,s2⟩:=Yr (a:=y1) (b:=⟨#[32]⟩) (m:=26) (n:=1) z1 (by decide) (by decide);obtain ⟨y3,f3,z3,s3⟩:=Yr (a:=y2) (b:=⟨#[104,101,97,108]⟩) (m:=27) (n:=4) z2 (by decide) (by decide);rw [f1,f2,f3];clear f1 z1 f2 z2 f3 z3 A0 p0 ex0 X0 ha;obtain ⟨W0,eW0⟩:∃ X,w.alloc (.cells (Yv ⟨xk,xa,1⟩) 49)=X:=⟨_,rfl⟩;rw [eW0] at HS0 HP0 HK0;go_enter Tryz.func83,Tryz.ntmps83;go_upto_region 1 with fail;clear eW0;obtain ⟨c0,c1,c2,cf⟩:=HP0.o.cells;have k0:=kC c0;have k1:=kC c1;have k2:=kC c2;have hne:=Aft.here W0;have G0:=hid (fun z:Aft W0=>H0.o z.u (HS0.o.trans z.s));obtain ⟨n1,n2,n3⟩:=HK0.o.at1;have k3:=kC n1;clear n1 n2 n3;clear c0 c1 c2 cf;refine Yo (by kernel_rfl) (by kernel_rfl) ?_;repeat (go_big_quiet_step ((first | (go_at_call 23; with_reducible exact Calls.cl (G0.o _)))))
  refine wpQuiet_nil ?_;intro w1 h1;have HS1:=hid (HS0.o.trans h1);clear h1 hne k0 k1 k2;go_wp2_with fail;go_ret;exact ⟨rfl,HS1.o⟩
 ·rw [show ZD 2=⟨#[99,104,97,114,103,101]⟩ from rfl];clear hb hb1;have H0:=hid (fun u (hu:Yc w u)=>ZL xa ha u (ht.sT hu));have X0:=YN ha;have A0:=aL w (.cells (Yv ⟨xk,xa,2⟩) 49);have p0:Nvb (w.alloc (.cells (Yv ⟨xk,xa,2⟩) 49)) w.heap.size ⟨xk,xa,2⟩:=heap_alloc_new w _;have HS0:=hid A0;have HP0:=hid p0;have HK0:=hid (hk.sT A0);obtain ⟨x0,ex0⟩:∃ z,itS xa=z:=⟨_,rfl⟩;rw [ex0] at H0 X0;rw [ex0];obtain ⟨y1,f1,z1,s1⟩:=Yr (a:=⟨#[115,112,111,116,32]⟩) (b:=x0) (m:=5) (n:=21) (by decide) X0 (by decide);obtain ⟨y2,f2,z2,s2⟩:=Yr (a:=y1) (b:=⟨#[32]⟩) (m:=26) (n:=1) z1 (by decide) (by decide);obtain ⟨y3,f3,z3,s3⟩:=Yr (a:=y2) (b:=⟨#[99,104,97,114,103,101]⟩) (m:=27) (n:=6) z2 (by decide) (by decide);rw [f1,f2,f3];clear f1 z1 f2 z2 f3 z3 A0 p0 ex0 X0 ha;obtain ⟨W0,eW0⟩:∃ X,w.alloc (.cells (Yv ⟨xk,xa,2⟩) 49)=X:=⟨_,rfl⟩;rw [eW0] at HS0 HP0 HK0;go_enter Tryz.func83,Tryz.ntmps83;go_upto_region 1 with fail;clear eW0;obtain ⟨c0,c1,c2,cf⟩:=HP0.o.cells;have k0:=kC c0;have k1:=kC c1;have k2:=kC c2;have hne:=Aft.here W0;have G0:=hid (fun z:Aft W0=>H0.o z.u (HS0.o.trans z.s));obtain ⟨n1,n2,n3⟩:=HK0.o.at1;have k3:=kC n2;clear n1 n2 n3;clear c0 c1 c2 cf;refine Yo (by kernel_rfl) (by kernel_rfl) ?_;repeat (go_big_quiet_step ((first | (go_at_call 23; with_reducible exact Calls.cl (G0.o _)))))
  refine wpQuiet_nil ?_;intro w1 h1;have HS1:=hid (HS0.o.trans h1);clear h1 hne k0 k1 k2;go_wp2_with fail;go_ret;exact ⟨rfl,HS1.o⟩
 ·rw [show ZD 3=⟨#[112,114,105,122,101]⟩ from rfl];clear hb hb1;have H0:=hid (fun u (hu:Yc w u)=>ZL xa ha u (ht.sT hu));have X0:=YN ha;have A0:=aL w (.cells (Yv ⟨xk,xa,3⟩) 49);have p0:Nvb (w.alloc (.cells (Yv ⟨xk,xa,3⟩) 49)) w.heap.size ⟨xk,xa,3⟩:=heap_alloc_new w _;have HS0:=hid A0;have HP0:=hid p0;have HK0:=hid (hk.sT A0);obtain ⟨x0,ex0⟩:∃ z,itS xa=z:=⟨_,rfl⟩;rw [ex0] at H0 X0;rw [ex0];obtain ⟨y1,f1,z1,s1⟩:=Yr (a:=⟨#[115,112,111,116,32]⟩) (b:=x0) (m:=5) (n:=21) (by decide) X0 (by decide);obtain ⟨y2,f2,z2,s2⟩:=Yr (a:=y1) (b:=⟨#[32]⟩) (m:=26) (n:=1) z1 (by decide) (by decide);obtain ⟨y3,f3,z3,s3⟩:=Yr (a:=y2) (b:=⟨#[112,114,105,122,101]⟩) (m:=27) (n:=5) z2 (by decide) (by decide);rw [f1,f2,f3];clear f1 z1 f2 z2 f3 z3 A0 p0 ex0 X0 ha;obtain ⟨W0,eW0⟩:∃ X,w.alloc (.cells (Yv ⟨xk,xa,3⟩) 49)=X:=⟨_,rfl⟩;rw [eW0] at HS0 HP0 HK0;go_enter Tryz.func83,Tryz.ntmps83;go_upto_region 1 with fail;clear eW0;obtain ⟨c0,c1,c2,cf⟩:=HP0.o.cells;have k0:=kC c0;have k1:=kC c1;have k2:=kC c2;have hne:=Aft.here W0;have G0:=hid (fun z:Aft W0=>H0.o z.u (HS0.o.trans z.s));obtain ⟨n1,n2,n3⟩:=HK0.o.at1;have k3:=kC n3;clear n1 n2 n3;clear c0 c1 c2 cf;refine Yo (by kernel_rfl) (by kernel_rfl) ?_;repeat (go_big_quiet_step ((first | (go_at_call 23; with_reducible exact Calls.cl (G0.o _)))))
  refine wpQuiet_nil ?_;intro w1 h1;have HS1:=hid (HS0.o.trans h1);clear h1 hne k0 k1 k2;go_wp2_with fail;go_ret;exact ⟨rfl,HS1.o⟩
theorem Mu (x:Nv) (ha:Yu x.a=true) (hb:Yu x.b=true) (w:World) (_:PTabV w) (hk:KTab w):Ya 84 #[.agg (Yv x)] w (.string ((ltS x.a.toNat ++ ⟨#[32,98,111,117,110,99,101,115,32]⟩) ++ ltS x.b.toNat)):=by
 have H0:=hid (fun u=>ZW x.a ha u);have X0:=YU x.a.toNat;have H1:=hid (fun u=>ZW x.b hb u);have X1:=YU x.b.toNat;have A0:=aL w (.cells (Yv x) 49);have p0:Nvb (w.alloc (.cells (Yv x) 49)) w.heap.size x:=heap_alloc_new w _;have HS0:=hid A0;have HP0:=hid p0;have HK0:=hid (hk.sT A0);obtain ⟨x0,ex0⟩:∃ z,ltS x.a.toNat=z:=⟨_,rfl⟩;rw [ex0] at H0 X0;rw [ex0];obtain ⟨x1,ex1⟩:∃ z,ltS x.b.toNat=z:=⟨_,rfl⟩;rw [ex1] at H1 X1;rw [ex1];obtain ⟨y1,f1,z1,s1⟩:=Yr (a:=x0) (b:=⟨#[32,98,111,117,110,99,101,115,32]⟩) (m:=1) (n:=9) X0 (by decide) (by decide);obtain ⟨y2,f2,z2,s2⟩:=Yr (a:=y1) (b:=x1) (m:=10) (n:=1) z1 X1 (by decide);rw [f1,f2];clear f1 z1 f2 z2 A0 p0 ex0 X0 ex1 X1 ha hb;obtain ⟨W0,eW0⟩:∃ X,w.alloc (.cells (Yv x) 49)=X:=⟨_,rfl⟩;rw [eW0] at HS0 HP0 HK0;go_enter Tryz.func84,Tryz.ntmps84;go_upto_region 1 with fail;clear eW0;obtain ⟨c0,c1,c2,cf⟩:=HP0.o.cells;have k0:=kC c0;have k1:=kC c1;have k2:=kC c2;have hne:=Aft.here W0;have G0:=hid (fun z:Aft W0=>H0.o z.u);have G1:=hid (fun z:Aft W0=>H1.o z.u);clear c0 c1 c2 cf;refine Yo (by kernel_rfl) (by kernel_rfl) ?_;repeat (go_big_quiet_step ((first | (go_at_call 47; with_reducible exact Calls.cl (G0.o _)) | (go_at_call 47; with_reducible exact Calls.cl (G1.o _)))))
 refine wpQuiet_nil ?_;intro w1 h1;have HS1:=hid (HS0.o.trans h1);clear h1 hne k0 k1 k2;go_wp2_with fail;go_ret;exact ⟨rfl,HS1.o⟩
theorem Mw (x:Nv) (ha:Yu x.a=true) (hb:I64 x.b) (w:World) (ht:PTabV w) (hk:KTab w):Ya 85 #[.agg (Yv x)] w (.string ((ltS x.a.toNat ++ ⟨#[32,115,97,121,115,32]⟩) ++ itS x.b)):=by
 have H0:=hid (fun u=>ZW x.a ha u);have X0:=YU x.a.toNat;have H1:=hid (fun u (hu:Yc w u)=>ZL x.b hb u (ht.sT hu));have X1:=YN hb;have A0:=aL w (.cells (Yv x) 49);have p0:Nvb (w.alloc (.cells (Yv x) 49)) w.heap.size x:=heap_alloc_new w _;have HS0:=hid A0;have HP0:=hid p0;have HK0:=hid (hk.sT A0);obtain ⟨x0,ex0⟩:∃ z,ltS x.a.toNat=z:=⟨_,rfl⟩;rw [ex0] at H0 X0;rw [ex0];obtain ⟨x1,ex1⟩:∃ z,itS x.b=z:=⟨_,rfl⟩;rw [ex1] at H1 X1;rw [ex1];obtain ⟨y1,f1,z1,s1⟩:=Yr (a:=x0) (b:=⟨#[32,115,97,121,115,32]⟩) (m:=1) (n:=6) X0 (by decide) (by decide);obtain ⟨y2,f2,z2,s2⟩:=Yr (a:=y1) (b:=x1) (m:=7) (n:=21) z1 X1 (by decide);rw [f1,f2];clear f1 z1 f2 z2 A0 p0 ex0 X0 ex1 X1 ha hb;obtain ⟨W0,eW0⟩:∃ X,w.alloc (.cells (Yv x) 49)=X:=⟨_,rfl⟩;rw [eW0] at HS0 HP0 HK0;go_enter Tryz.func85,Tryz.ntmps85;go_upto_region 1 with fail;clear eW0;obtain ⟨c0,c1,c2,cf⟩:=HP0.o.cells;have k0:=kC c0;have k1:=kC c1;have k2:=kC c2;have hne:=Aft.here W0;have G0:=hid (fun z:Aft W0=>H0.o z.u);have G1:=hid (fun z:Aft W0=>H1.o z.u (HS0.o.trans z.s));clear c0 c1 c2 cf;refine Yo (by kernel_rfl) (by kernel_rfl) ?_;repeat (go_big_quiet_step ((first | (go_at_call 47; with_reducible exact Calls.cl (G0.o _)) | (go_at_call 23; with_reducible exact Calls.cl (G1.o _)))))
 refine wpQuiet_nil ?_;intro w1 h1;have HS1:=hid (HS0.o.trans h1);clear h1 hne k0 k1 k2;go_wp2_with fail;go_ret;exact ⟨rfl,HS1.o⟩
end Go.Proofs.YthcjckgmdokmdaaGreatDoor
