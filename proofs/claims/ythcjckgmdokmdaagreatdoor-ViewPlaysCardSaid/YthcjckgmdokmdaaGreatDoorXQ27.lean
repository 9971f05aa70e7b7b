import Derived.Test.YthcjckgmdokmdaaGreatDoorXQ01
set_option maxRecDepth 100000
set_option maxHeartbeats 8000000
namespace Go.Proofs.YthcjckgmdokmdaaGreatDoor
open Go.RowKit
open Pu Gp Ap
theorem On (n:Nat):madeCells #[Value.bool false] (n*1)=rowB (fun _=>false) n:=by
 apply Array.ext_getElem?;intro i;by_cases h:i<n
 ·rw [JB _ h]; simp [madeCells,h,Nat.mod_one]
 ·rw [Array.getElem?_eq_none (by rw [size_madeCells]; omega),Array.getElem?_eq_none (by rw [JC]; omega)]
theorem WI (w:World) (n:Nat) (h:n<=281474976710656):(Instr.makeSlice 180 (.int .i64 (n:Int)) (.int .i64 (n:Int))).run Tryz.prog w=.ok (.slice (some ⟨w.heap.size,0,none⟩) n n) (w.alloc (.cells (rowB (fun _=>false) n) 4)):=by
 obtain ⟨i,hi,hz,h1,h2⟩:∃ i,Tryz.prog.info? 4=some i/\i.zero=some (.bool false)/\i.size=1/\i.bytes=1:=⟨_,rfl,rfl,rfl,rfl⟩;have hr:=run_make (P:=Tryz.prog) w 180 4 i (.bool false) Tryz.underlying180 hi hz .i64 .i64 (n:Int) (n:Int) (by omega) (by omega) (by rw [h2]; omega) (by omega);rw [h1] at hr;simp only [Int.toNat_natCast] at hr;rw [hr,<- On];rfl
def QA (v:Value):Nat:=match v with
 | .bool true=>1
 | _=>0
set_option maxRecDepth 100000 in
theorem Oo (C : Nat) (R : Int) (s : ByteArray) (f : Nat) (hC : 1 <= C) (hC2 : C <= 32) (hz : s.size <= 768) (hf : f < s.size) (w : World) :
    Calls Tryz.prog 107 #[ar (C:Int) R s,.int .i64 (f:Int)] w fun e w'=>∃ g I,e=.returned (.slice (some ⟨g,0,none⟩) s.size s.size)/\IsR C s.size s f I/\Rb w' g s.size I/\Yc w w':=by
  have hmk:=fun u=>WI u s.size (by omega);have p:=(Y0 w C R s).sT (aL (Yn w C R s) (.cells (rowB (fun _=>false) s.size) 4));have q:Rb ((Yn w C R s).alloc (.cells (rowB (fun _=>false) s.size) 4)) (w.heap.size+1) s.size (fun _=>false):=by
    have:=heap_alloc_new (Yn w C R s) (.cells (rowB (fun _=>false) s.size) 4);rw [Yf] at this;exact this
  have HS0:=hid ((aL w (.cells #[.int .i64 (C:Int),.int .i64 R,.string s] 24)).trans (aL (Yn w C R s) (.cells (rowB (fun _=>false) s.size) 4)));obtain ⟨c0,c1,c2,cf⟩:=(Y0 w C R s).cells;have c3:=q.cell hf;have c4:=q.frozen f;simp only [Yn] at c0 c1 c2 cf c3 c4 p q HS0;have hfi:(f:Int)<(s.size:Int):=by omega
  go_enter Tryz.func107,Tryz.ntmps107;go_wp2_with fail;have p2:Ab ((w.alloc (.cells #[.int .i64 (C:Int),.int .i64 R,.string s] 24)).alloc (.cells ((rowB (fun _=>false) s.size).setIfInBounds f (.bool true)) 4)) w.heap.size C R s :=
    (Y0 w C R s).sT (aL _ _)
  have q2:Rb ((w.alloc (.cells #[.int .i64 (C:Int),.int .i64 R,.string s] 24)).alloc (.cells ((rowB (fun _=>false) s.size).setIfInBounds f (.bool true)) 4)) (w.heap.size+1) s.size (upd (fun _=>false) f):=by
    have:=heap_alloc_new (Yn w C R s) (.cells ((rowB (fun _=>false) s.size).setIfInBounds f (.bool true)) 4);rw [Yf,UW _ hf] at this;rw [UW _ hf];exact this
  have HS2:=hid ((aL w (.cells #[.int .i64 (C:Int),.int .i64 R,.string s] 24)).trans (aL (Yn w C R s) (.cells ((rowB (fun _=>false) s.size).setIfInBounds f (.bool true)) 4)));clear p q HS0 c0 c1 c2 cf c3 c4 hmk;go_loopw [6] (fun v wr=>∃ (I:Nat->Bool) (b:Bool),v=.bool b/\Ab wr w.heap.size C R s/\Rb wr (w.heap.size+1) s.size I/\(I f=true/\∀ i,I i=true->Rch C s.size s f i)/\(b=false->Shut C s.size s I)/\Yc w wr) (fun v wr=>2*UX wr (w.heap.size+1) s.size+QA v);case atStart => exact ⟨upd (fun _ => false) f, true, rfl, p2, q2, ⟨by simp [upd], fun i hi => by
      by_cases e:i=f
      · subst e; exact KI C s.size s i
      · simp [upd,e] at hi⟩,fun h=>(by cases h),HS2.o⟩
  case round =>
    obtain ⟨I,b,rfl,a3,r3,hI,hb,hs⟩:=hrel;have HS3:=hid hs;clear hs p2 q2 HS2;cases b with
    | false =>
      have HR:=hid (show IsR C s.size s f I from ⟨hI.1,hb rfl,hI.2⟩);clear hb hI;go_wp2_with fail;go_ret;exact ⟨_,I,rfl,HR.o,r3,HS3.o⟩
    | true =>
      have HI:=hid hI;have HM:=hid (UY r3 (Nat.le_refl _));clear hI hb;obtain ⟨c0,c1,c2,cf⟩:=a3.cells;go_wp2_with fail;clear c0 c1 c2 cf;go_loopw [6, 7] (fun v u wr => ∃ (i : Nat) (J : Nat -> Bool) (b : Bool), C <= i /\ i <= s.size + C /\ u = .int .i64 (i : Int) /\ v = .bool b /\ Ab wr w.heap.size C R s /\ Rb wr (w.heap.size + 1) s.size J /\ (J f = true /\ ∀ j, J j = true -> Rch C s.size s f j) /\
          (b=false->(∀ j,J j=I j)/\∀ j,C<=j->j<i->byt s j≠35->nbB C J j=true->J j=true)/\(b=true->YQ J s.size<YQ I s.size)/\Yc w wr) (fun _ u _=>s.size+C - (intOf u).toNat)
      case atStart=>exact ⟨C,I,false,by omega,by omega,rfl,rfl,a3,r3,HI.o,fun _=>⟨fun _=>rfl,fun j h1 h2=>by omega⟩,fun h=>(by cases h),HS3.o⟩
      case round =>
        obtain ⟨i,J,b,i1,i3,rfl,rfl,a4,r4,hJ0,hb,hc,hs⟩:=hrel;have HJ:=hid hJ0;have HB:=hid hb;have HC:=hid hc;have HS4:=hid hs;clear hJ0 hb hc hs;obtain ⟨c0,c1,c2,cf⟩:=a4.cells;by_cases i2:i+C<s.size
        · have e:=ZF s i (by omega)
          obtain ⟨y,ey⟩:∃ y,byt s i=y:=⟨_,rfl⟩;rw [ey] at e;have k0:=r4.cell (i:=i) (by omega);have k1:=r4.cell (i:=i - 1) (by omega);have k2:=r4.cell (i:=i+1) (by omega);have k3:=r4.cell (i:=i - C) (by omega);have k4:=r4.cell (i:=i+C) (by omega);have z1:(i:Int) - 1=((i - 1:Nat):Int):=by omega
          have z3:(i:Int) - (C:Int)=((i - C:Nat):Int):=by omega
          have i2':((i+C:Nat):Int)<(s.size:Int):=by omega
          have i5:(i:Int)<(s.size:Int):=by omega
          cases hJ:J i with
          | true =>
            rw [hJ] at k0;have HK:=hid (show byt s i≠35->nbB C J i=true->J i=true from fun _ _=>hJ);clear hJ ey;go_wp2_with fail;go_roundw;case rel => exact ⟨i + 1, J, b, by omega, by omega, by go_num, rfl, a4, r4, HJ.o, fun h => ⟨(HB.o h).1, fun j h1 h2 => by
                by_cases e:j=i
                · subst e; exact HK.o
                · exact (HB.o h).2 j h1 (by omega)⟩,HC.o,HS4.o⟩
            case measure=>simp [intOf]; omega
          | false =>
            rw [hJ] at k0;by_cases h35:y=35
            · have n35:(y != 35)=false:=by simpa using h35
              have HK:=hid (show byt s i≠35->nbB C J i=true->J i=true from fun h=>absurd (ey.trans h35) h);clear hJ ey h35;go_wp2_with fail;go_roundw;case rel => exact ⟨i + 1, J, b, by omega, by omega, by go_num, rfl, a4, r4, HJ.o, fun h => ⟨(HB.o h).1, fun j h1 h2 => by
                  by_cases e:j=i
                  · subst e; exact HK.o
                  · exact (HB.o h).2 j h1 (by omega)⟩,HC.o,HS4.o⟩
              case measure=>simp [intOf]; omega
            · have n35:(y != 35)=true:=by simpa using h35
              have h35:byt s i≠35:=fun h=>h35 (ey.symm.trans h);clear ey;cases h1:J (i - 1) with
              | true =>
                rw [h1] at k1;have HN:=hid (show nbB C J i=true by unfold nbB; rw [h1]; rfl);have HV:=hid (show YQ (upd J i) s.size<YQ I s.size by
                  have h1:=XN (k:=i) hJ (n:=s.size) (by omega);cases hb:b with
                  | true=>have:=HC.o hb; omega
                  | false =>
                    have:=VZ (n:=s.size) (fun j _=>(HB.o hb).1 j);omega)
                have HR:=hid (show ∀ j,upd J i j=true->Rch C s.size s f j from fun j hj=>by
                  by_cases e:j=i
                  · subst e; exact Uw HJ.o.2 i1 i2 h35 HN.o
                  · exact HJ.o.2 j (by simpa [upd,e] using hj))
                have HF:=hid (show upd J i f=true by
                  unfold upd;split
                  · rfl
                  · exact HJ.o.1)
                have fz:=r4.frozen i;have r5:=r4.set (k:=i) (by omega);have a5:Ab (wr.setCell ⟨w.heap.size+1,i,none⟩ (.bool true)) w.heap.size C R s:=by
                  unfold Ab;rw [heap_setCell_other _ _ _ _ (show w.heap.size≠w.heap.size+1 by omega)];exact a4
                have HS5:=hid (Fr.setCell HS4.o ⟨w.heap.size+1,i,none⟩ (.bool true) (.inr (show w.heap.size<=w.heap.size+1 by omega)));clear h35;go_wp2_with fail;go_roundw;case rel=>exact ⟨i+1,upd J i,true,by omega,by omega,by go_num,rfl,a5,r5,⟨HF.o,HR.o⟩,fun h=>(by cases h),fun _=>HV.o,HS5.o⟩
                case measure=>simp [intOf]; omega
              | false =>
                rw [h1] at k1;cases h2:J (i+1) with
                | true =>
                  rw [h2] at k2;have HN:=hid (show nbB C J i=true by unfold nbB; rw [h1,h2]; rfl);have HV:=hid (show YQ (upd J i) s.size<YQ I s.size by
                    have h1:=XN (k:=i) hJ (n:=s.size) (by omega);cases hb:b with
                    | true=>have:=HC.o hb; omega
                    | false =>
                      have:=VZ (n:=s.size) (fun j _=>(HB.o hb).1 j);omega)
                  have HR:=hid (show ∀ j,upd J i j=true->Rch C s.size s f j from fun j hj=>by
                    by_cases e:j=i
                    · subst e; exact Uw HJ.o.2 i1 i2 h35 HN.o
                    · exact HJ.o.2 j (by simpa [upd,e] using hj))
                  have HF:=hid (show upd J i f=true by
                    unfold upd;split
                    · rfl
                    · exact HJ.o.1)
                  have fz:=r4.frozen i;have r5:=r4.set (k:=i) (by omega);have a5:Ab (wr.setCell ⟨w.heap.size+1,i,none⟩ (.bool true)) w.heap.size C R s:=by
                    unfold Ab;rw [heap_setCell_other _ _ _ _ (show w.heap.size≠w.heap.size+1 by omega)];exact a4
                  have HS5:=hid (Fr.setCell HS4.o ⟨w.heap.size+1,i,none⟩ (.bool true) (.inr (show w.heap.size<=w.heap.size+1 by omega)));clear h35;go_wp2_with fail;go_roundw;case rel=>exact ⟨i+1,upd J i,true,by omega,by omega,by go_num,rfl,a5,r5,⟨HF.o,HR.o⟩,fun h=>(by cases h),fun _=>HV.o,HS5.o⟩
                  case measure=>simp [intOf]; omega
                | false =>
                  rw [h2] at k2;cases h3:J (i - C) with
                  | true =>
                    rw [h3] at k3;have HN:=hid (show nbB C J i=true by unfold nbB; rw [h1,h2,h3]; rfl);have HV:=hid (show YQ (upd J i) s.size<YQ I s.size by
                      have h1:=XN (k:=i) hJ (n:=s.size) (by omega);cases hb:b with
                      | true=>have:=HC.o hb; omega
                      | false =>
                        have:=VZ (n:=s.size) (fun j _=>(HB.o hb).1 j);omega)
                    have HR:=hid (show ∀ j,upd J i j=true->Rch C s.size s f j from fun j hj=>by
                      by_cases e:j=i
                      · subst e; exact Uw HJ.o.2 i1 i2 h35 HN.o
                      · exact HJ.o.2 j (by simpa [upd,e] using hj))
                    have HF:=hid (show upd J i f=true by
                      unfold upd;split
                      · rfl
                      · exact HJ.o.1)
                    have fz:=r4.frozen i;have r5:=r4.set (k:=i) (by omega);have a5:Ab (wr.setCell ⟨w.heap.size+1,i,none⟩ (.bool true)) w.heap.size C R s:=by
                      unfold Ab;rw [heap_setCell_other _ _ _ _ (show w.heap.size≠w.heap.size+1 by omega)];exact a4
                    have HS5:=hid (Fr.setCell HS4.o ⟨w.heap.size+1,i,none⟩ (.bool true) (.inr (show w.heap.size<=w.heap.size+1 by omega)));clear h35;go_wp2_with fail;go_roundw;case rel=>exact ⟨i+1,upd J i,true,by omega,by omega,by go_num,rfl,a5,r5,⟨HF.o,HR.o⟩,fun h=>(by cases h),fun _=>HV.o,HS5.o⟩
                    case measure=>simp [intOf]; omega
                  | false =>
                    rw [h3] at k3;cases h4:J (i+C) with
                    | true =>
                      rw [h4] at k4;have HN:=hid (show nbB C J i=true by unfold nbB; rw [h1,h2,h3,h4]; rfl);have HV:=hid (show YQ (upd J i) s.size<YQ I s.size by
                        have h1:=XN (k:=i) hJ (n:=s.size) (by omega);cases hb:b with
                        | true=>have:=HC.o hb; omega
                        | false =>
                          have:=VZ (n:=s.size) (fun j _=>(HB.o hb).1 j);omega)
                      have HR:=hid (show ∀ j,upd J i j=true->Rch C s.size s f j from fun j hj=>by
                        by_cases e:j=i
                        · subst e; exact Uw HJ.o.2 i1 i2 h35 HN.o
                        · exact HJ.o.2 j (by simpa [upd,e] using hj))
                      have HF:=hid (show upd J i f=true by
                        unfold upd;split
                        · rfl
                        · exact HJ.o.1)
                      have fz:=r4.frozen i;have r5:=r4.set (k:=i) (by omega);have a5:Ab (wr.setCell ⟨w.heap.size+1,i,none⟩ (.bool true)) w.heap.size C R s:=by
                        unfold Ab;rw [heap_setCell_other _ _ _ _ (show w.heap.size≠w.heap.size+1 by omega)];exact a4
                      have HS5:=hid (Fr.setCell HS4.o ⟨w.heap.size+1,i,none⟩ (.bool true) (.inr (show w.heap.size<=w.heap.size+1 by omega)));clear h35;go_wp2_with fail;go_roundw;case rel=>exact ⟨i+1,upd J i,true,by omega,by omega,by go_num,rfl,a5,r5,⟨HF.o,HR.o⟩,fun h=>(by cases h),fun _=>HV.o,HS5.o⟩
                      case measure=>simp [intOf]; omega
                    | false =>
                      rw [h4] at k4;have HK:=hid (show byt s i≠35->nbB C J i=true->J i=true from fun _ h=>by unfold nbB at h; rw [h1,h2,h3,h4] at h; cases h);clear hJ h1 h2 h3 h4 h35;go_wp2_with fail;go_roundw;case rel => exact ⟨i + 1, J, b, by omega, by omega, by go_num, rfl, a4, r4, HJ.o, fun h => ⟨(HB.o h).1, fun j h1 h2 => by
                          by_cases e:j=i
                          · subst e; exact HK.o
                          · exact (HB.o h).2 j h1 (by omega)⟩,HC.o,HS4.o⟩
                      case measure=>simp [intOf]; omega
        · have HE:=hid (show (b=false->Shut C s.size s J) from fun h=>fun j h1 h2 h3 h4=>(HB.o h).2 j h1 (by omega) h3 h4)
          go_wp2_with fail;go_roundw;case rel=>exact ⟨J,b,rfl,a4,r4,HJ.o,HE.o,HS4.o⟩
          case measure =>
            have h1:=HM.o;have h2:=UY r4 (Nat.le_refl _);rw [h2,h1];cases b with
            | true=>have:=HC.o rfl; simp [QA]; omega
            | false =>
              have:=VZ (n:=s.size) (fun j _=>(HB.o rfl).1 j);simp [QA]; omega
end Go.Proofs.YthcjckgmdokmdaaGreatDoor
set_option maxRecDepth 100000
namespace Go.Proofs.YthcjckgmdokmdaaGreatDoor
open Go.RowKit
open Pu Gp Ap
def okS (n:Nat) (I:Nat->Bool) (s:ByteArray) (i:Nat):Bool:=byt s i == 35 || (byt s i == 46 || (I i && (byt s i == 42 || (decide (byt s i - 48<=(n:Int)) && decide (fnd s (byt s i) (i+1)<0)))))
def Zk (n:Nat) (I:Nat->Bool) (s:ByteArray):Nat->Bool
 | 0=>true
 | k+1=>Zk n I s k && okS n I s k
theorem WJ {n:Nat} {I:Nat->Bool} {s:ByteArray}:∀ {k m:Nat},k<=m->Zk n I s k=false->Zk n I s m=false
  | k, 0, h, e => by obtain rfl : k = 0 := by omega
                     exact e
  | k,m+1,h,e=>by
    by_cases x:k=m+1
    · subst x; exact e
    · rw [Zk,WJ (k:=k) (m:=m) (by omega) e]; rfl
theorem WK {n:Nat} {I J:Nat->Bool} {s:ByteArray} (h:∀ i,I i=J i):∀ k,Zk n I s k=Zk n J s k
 | 0=>rfl
 | k+1=>by rw [Zk,Zk,WK h k]; unfold okS; rw [h k]
def YZ (C R:Int) (s:ByteArray) (v:Int):Prop :=
 (YM C R s=false/\v=61)\/(YM C R s=true/\mny s<2/\v=62) \/
 (YM C R s=true/\2<=mny s/\∃ (f:Nat) (I:Nat->Bool),fnd s 49 0=(f:Int)/\IsR C.toNat s.size s f I/\v=if Zk (mny s) I s s.size then 0 else 62)
theorem VK {C R:Int} {s:ByteArray} {v u:Int} (h:YZ C R s v) (k:YZ C R s u):v=u:=by
 rcases h with ⟨h1,rfl⟩ | ⟨h1,h2,rfl⟩ | ⟨h1,h2,f,I,h3,h4,rfl⟩ <;> rcases k with ⟨k1,rfl⟩ | ⟨k1,k2,rfl⟩ | ⟨k1,k2,g,J,k3,k4,rfl⟩
 ·rfl
 ·rw [h1] at k1; cases k1
 ·rw [h1] at k1; cases k1
 ·rw [h1] at k1; cases k1
 ·rfl
 ·omega
 ·rw [h1] at k1; cases k1
 ·omega
 ·have e:f=g:=by omega
  subst e;rw [WK (Nu h4 k4)]
theorem QB (s:ByteArray):∀ f n,ZG s f n<=n+f
 | 0,n=>by simp [ZG]
 | f+1,n=>by
  rw [ZG];split
  ·have:=QB s f (n+1); omega
  ·omega
theorem WL {s:ByteArray} (h:1<=mny s):∃ f:Nat,fnd s 49 0=(f:Int)/\f<s.size:=by
 unfold mny at h;rw [ZG] at h;by_cases k:0<=fnd s (49+((0:Nat):Int)) 0
 ·rcases Uv s 49 0 (by omega) with ⟨e,_⟩ | ⟨f,e,_,h2,_⟩
  ·rw [show (49:Int)+((0:Nat):Int)=49 by omega,e] at k;omega
  ·exact ⟨f,e,h2⟩
 ·rw [if_neg k] at h;omega
theorem JX {C R:Int} {s:ByteArray}:∀ {n:Nat},Zu C R s n=true->∀ i,i<n->Xl C R s i=true
 | 0,_,i,hi=>by omega
 | n+1,h,i,hi=>by
  rw [Zu,Bool.and_eq_true] at h;by_cases e:i=n
  ·subst e; exact h.2
  ·exact JX h.1 i (by omega)
theorem WM {C R:Int} {s:ByteArray} (h:YM C R s=true) {i:Nat} (hi:i<s.size):byt s i=35\/byt s i=46\/byt s i=42\/(49<=byt s i/\byt s i<=54):=by
 unfold YM at h;simp only [Bool.and_eq_true] at h;have:=JX h.2.1 i hi;unfold Xl okC at this;simp only [Bool.or_eq_true,Bool.and_eq_true,beq_iff_eq,decide_eq_true_eq] at this;omega
theorem Xk {C R:Int} {s:ByteArray} (h:YM C R s=true):3<=C/\C<=32/\3<=R/\R<=24/\(s.size:Int)=C*R/\s.size<=768:=by
 unfold YM ZY at h;simp only [Bool.and_eq_true] at h;obtain ⟨h1,h2,h3,h4,h5⟩:=of_decide_eq_true h.1;have:C*R<=32*24:=Int.mul_le_mul h2 h4 (by omega) (by omega);exact ⟨h1,h2,h3,h4,h5,by omega⟩
theorem QC (C R:Int) (s:ByteArray) {t:Bool} (h:YM C R s=t) (w:World):Ya 106 #[ar C R s] w (.bool t):=by
 have:=Nt C R s w;rw [h] at this;exact this
theorem Oq (C R:Int) (s:ByteArray) (h:YM C R s=false) (w:World):Ya 51 #[ar C R s] w (.int .i64 61):=by
 go_enter Tryz.func51,Tryz.ntmps51;go_wp2_with fail;refine (QC C R s h _).mono ?_;rintro e w1 ⟨rfl,h1⟩;go_wp2_with fail;go_ret;exact ⟨rfl,(aL w _).trans h1⟩
theorem Ot (C R:Int) (s:ByteArray) (hz:s.size<=281474976710656) (h:YM C R s=true) (hm:mny s<2) (w:World):Ya 51 #[ar C R s] w (.int .i64 62):=by
 have p:=Y0 w C R s;have H:=hid h;clear h;go_enter Tryz.func51,Tryz.ntmps51;go_wp2_with fail;refine (QC C R s H.o _).mono ?_;rintro e w1 ⟨rfl,h1⟩;obtain ⟨c0,c1,c2,cf⟩:=(p.sT h1).cells;have HS1:=hid ((aL w (.cells #[.int .i64 C,.int .i64 R,.string s] 24)).trans h1);clear p h1;go_wp2_with fail;refine (KF C R s hz _).mono ?_;rintro e w2 ⟨rfl,h2⟩;have HS2:=hid (HS1.o.trans h2);clear HS1 h2 c0 c1 c2 cf;go_wp2_with fail;go_ret;exact ⟨rfl,HS2.o⟩
set_option maxRecDepth 100000 in
theorem Ou (C:Nat) (R:Int) (s:ByteArray) (h:YM (C:Int) R s=true) (hm:2<=mny s) (f:Nat) (hf:fnd s 49 0=(f:Int)) (hfs:f<s.size) (w:World) :
  Calls Tryz.prog 51 #[ar (C:Int) R s] w fun e w'=>∃ I,IsR C s.size s f I/\e=.returned (.int .i64 (if Zk (mny s) I s s.size then 0 else 62))/\Yc w w':=by
 obtain ⟨q1,q2,q3,q4,q5,q6⟩:=Xk h;have HG:=hid (fun i (hi:i<s.size)=>WM h hi);have p:=Y0 w C R s;have H:=hid h;obtain ⟨n,en⟩:∃ n,mny s=n:=⟨_,rfl⟩;have nl:n<=6:=by rw [<- en]; exact QB s 6 0
 have HN:=hid en;rw [en] at hm ⊢;have HM:Hid (∀ u:World,Ya 56 #[ar (C:Int) R s] u (.int .i64 (n:Int))):=hid (fun u=>by
  have:=KF C R s (by omega) u;rw [en] at this;exact this)
 have HQ:Hid (∀ u:World,Yb 57 #[.string s,.int .u8 49,.int .i64 0] u (.int .i64 (f:Int))):=hid (fun u=>by
  have:=JA s 49 0 (by omega) (by omega) u;rw [hf] at this;exact this)
 clear h en hf;go_enter Tryz.func51,Tryz.ntmps51;go_wp2_with fail;refine (QC C R s H.o _).mono ?_;rintro e w1 ⟨rfl,h1⟩;have p1:=p.sT h1;have HS1:=hid ((aL w (.cells #[.int .i64 (C:Int),.int .i64 R,.string s] 24)).trans h1);clear p h1;obtain ⟨c0,c1,c2,cf⟩:=p1.cells;go_wp2_with fail;refine (HM.o _).mono ?_;rintro e w2 ⟨rfl,h2⟩;have p2:=p1.sT h2;have HS2:=hid (HS1.o.trans h2);clear p1 HS1 h2 c0 c1 c2 cf HM;have c0:=kC p2.cells.1;have c1:=kC p2.cells.2.1;have c2:=kC p2.cells.2.2.1;have hne:=Aft.here w2;go_wp2_with fail;refine YC 4 (by kernel_rfl) (by kernel_rfl) ?_;simp only [List.take_succ_cons,List.take_zero,List.drop_succ_cons,List.drop_zero];repeat (go_big_quiet_step ((go_at_call 57; exact Calls.cl_same (HQ.o _))))
 refine wpQuiet_nil ?_;intro w3 h3;have p3:=p2.sT h3;have HS3:=hid (HS2.o.trans h3);clear p2 HS2 h3 c0 c1 c2 hne HQ;go_wp2_with fail;refine (Oo C R s f (by omega) (by omega) q6 hfs _).mono ?_;rintro e w4 ⟨g,I,rfl,hI,r4,h4⟩;have p4:=p3.sT h4;have HS4:=hid (HS3.o.trans h4);have HI:=hid hI;clear p3 HS3 h4 hI;obtain ⟨c0,c1,c2,cf⟩:=p4.cells;go_wp2_with fail;go_loop [6] (fun v=>∃ i:Nat,i<=s.size/\v=.int .i64 (i:Int)/\Zk n I s i=true) (fun v=>s.size - (intOf v).toNat);case atStart=>exact ⟨0,by omega,rfl,rfl⟩
 case round =>
  obtain ⟨i,hi,rfl,ha⟩:=hrel;by_cases hlt:i<s.size
  ·have e:=ZF s i hlt;have k0:=r4.cell hlt;have hg:=HG.o i hlt;have hok:Zk n I s (i+1)=okS n I s i:=by rw [Zk,ha]; rfl
   have HX:Hid (okS n I s i=false->(62:Int)=if Zk n I s s.size then 0 else 62):=hid (fun h=>by
    rw [WJ (k:=i+1) (m:=s.size) (by omega) (hok.trans h)];rfl)
   obtain ⟨F,eF⟩:∃ F,fnd s (byt s i) (i+1)=F:=⟨_,rfl⟩;have HC:Hid (∀ u:World,Yb 57 #[.string s,.int .u8 (byt s i),.int .i64 ((i:Int)+1)] u (.int .i64 F)):=hid (fun u=>by
    have h:=JA s (byt s i) (i+1) (by omega) (by omega) u;rw [eF,show ((i+1:Nat):Int)=(i:Int)+1 by omega] at h;exact h)
   have HD:Hid (okS n I s i=(byt s i == 35 || (byt s i == 46 || (I i && (byt s i == 42 || (decide (byt s i - 48<=(n:Int)) && decide (F<0))))))):=hid (by unfold okS; rw [eF]);obtain ⟨b,eb⟩:∃ b,byt s i=b:=⟨_,rfl⟩;rw [eb] at e hg HC HD;have HO:=hid hok;clear hok ha eF eb;rcases hg with rfl | rfl | hg
   ·have HF:=hid (show Zk n I s (i+1)=true by rw [HO.o,HD.o]; rfl);clear k0 HC HD HO HX;go_wp2_with fail;go_round
    case rel=>exact ⟨i+1,by omega,by go_num,HF.o⟩
    case measure=>simp [intOf]; omega
   ·have HF:=hid (show Zk n I s (i+1)=true by rw [HO.o,HD.o]; rfl);clear k0 HC HD HO HX;go_wp2_with fail;go_round
    case rel=>exact ⟨i+1,by omega,by go_num,HF.o⟩
    case measure=>simp [intOf]; omega
   ·cases hI:I i with
    | false =>
     rw [hI] at k0;have HF:=hid (HX.o (by rw [HD.o,hI]; rcases hg with rfl | ⟨g1,g2⟩ <;> simp <;> omega));have n35:(b == 35)=false:=by simp; omega
     have n46:(b == 46)=false:=by simp; omega
     clear hI HC HD HO HX hg;go_wp2_with fail;go_ret;exact ⟨I,HI.o,Zb HF.o,HS4.o⟩
    | true =>
     rw [hI] at k0;rcases hg with rfl | ⟨g1,g2⟩
     ·have HF:=hid (show Zk n I s (i+1)=true by rw [HO.o,HD.o,hI]; rfl);clear hI HC HD HO HX;go_wp2_with fail;go_round
      case rel=>exact ⟨i+1,by omega,by go_num,HF.o⟩
      case measure=>simp [intOf]; omega
     ·have n35:(b == 35)=false:=by simp; omega
      have n46:(b == 46)=false:=by simp; omega
      have n42:(b != 42)=true:=by simp; omega
      have wr8:IntKind.u8.wrap (b - 48)=b - 48:=by rw [IntKind.wrap_u8]; omega
      by_cases hn:b - 48<=(n:Int)
      ·have hn':decide ((n:Int)<b - 48)=false:=decide_eq_false (by omega);by_cases hF:F<0
       ·have HF:=hid (show Zk n I s (i+1)=true by rw [HO.o,HD.o,hI]; simp [hn,hF]);have hF':decide (0<=F)=false:=decide_eq_false (by omega);clear hI HD HO HX;go_wp2_with (go_at_call 57; refine (HC.o _).mono ?_; rintro e w' ⟨he,hw⟩; rw [he,hw]; clear he hw w');go_round
        case rel=>exact ⟨i+1,by omega,by go_num,HF.o⟩
        case measure=>simp [intOf]; omega
       ·have HF:=hid (HX.o (by rw [HD.o,hI]; simp [hF]; omega));have hF':0<=F:=by omega
        clear hI HD HO HX;go_wp2_with (go_at_call 57; refine (HC.o _).mono ?_; rintro e w' ⟨he,hw⟩; rw [he,hw]; clear he hw w');go_ret;exact ⟨I,HI.o,Zb HF.o,HS4.o⟩
      ·have HF:=hid (HX.o (by rw [HD.o,hI]; simp [hn]; omega));have hn':(n:Int)<b - 48:=by omega
       clear hI HC HD HO HX;go_wp2_with fail;go_ret;exact ⟨I,HI.o,Zb HF.o,HS4.o⟩
  ·have HF:=hid (show (0:Int)=if Zk n I s s.size then 0 else 62 by
    rw [show s.size=i by omega,ha]; rfl)
   clear ha;go_wp2_with fail;go_ret;exact ⟨I,HI.o,Zb HF.o,HS4.o⟩
theorem QD (C R:Int) (s:ByteArray) (hz:s.size<=281474976710656) (w:World) :
  Calls Tryz.prog 51 #[ar C R s] w fun e w'=>∃ v,e=.returned (.int .i64 v)/\YZ C R s v/\Yc w w':=by
 cases h:YM C R s with
 | false =>
  refine (Oq C R s h w).mono ?_;rintro e w1 ⟨rfl,h1⟩;exact ⟨61,rfl,.inl ⟨h,rfl⟩,h1⟩
 | true =>
  by_cases hm:mny s<2
  ·refine (Ot C R s hz h hm w).mono ?_;rintro e w1 ⟨rfl,h1⟩;exact ⟨62,rfl,.inr (.inl ⟨h,hm,rfl⟩),h1⟩
  ·obtain ⟨f,hf,hfs⟩:=WL (s:=s) (by omega);have q:=(Xk h).1;have hc:C=(C.toNat:Int):=by omega
   have k:=Ou C.toNat R s (by rw [<- hc]; exact h) (by omega) f hf hfs w;rw [<- hc] at k;refine k.mono ?_;rintro e w1 ⟨I,hI,rfl,h1⟩;exact ⟨_,rfl,.inr (.inr ⟨h,by omega,f,I,hf,hI,rfl⟩),h1⟩
end Go.Proofs.YthcjckgmdokmdaaGreatDoor
set_option maxRecDepth 100000
namespace Go.Proofs.YthcjckgmdokmdaaGreatDoor
open Go.RowKit
open Pu Gp Ap
end Go.Proofs.YthcjckgmdokmdaaGreatDoor
set_option maxRecDepth 100000
namespace Go.Proofs.YthcjckgmdokmdaaGreatDoor
open Go.RowKit
open Pu Gp Ap
theorem UI {C R:Int} {s:ByteArray} (h:YZ C R s 0):YM C R s=true:=by
 rcases h with ⟨_,e⟩ | ⟨_,_,e⟩ | ⟨h,_⟩
 ·cases e
 ·cases e
 ·exact h
end Go.Proofs.YthcjckgmdokmdaaGreatDoor
set_option maxRecDepth 100000
namespace Go.Proofs.YthcjckgmdokmdaaGreatDoor
open Go.RowKit
open Pu Gp
end Go.Proofs.YthcjckgmdokmdaaGreatDoor
set_option maxRecDepth 100000
namespace Go.Proofs.YthcjckgmdokmdaaGreatDoor
open Go.RowKit
open Pu Gp
theorem Xs (a b c d:Int) (h:okb a b c d=true) (w:World):Ya 158 #[bx a b c d] w (.int .i64 0):=by
 have:=J0 a b c d w;unfold chk at this;rw [h] at this;exact this
theorem UJ (a b c d:Int) (h:okb a b c d=false) (w:World):Ya 158 #[bx a b c d] w (.int .i64 50):=by
 have:=J0 a b c d w;unfold chk at this;rw [h] at this;exact this
theorem Bb.set0 {w:World} {b:Nat} {x y z u:Int} (h:Bb w b x y z u) (v:Int):Bb (w.setCell ⟨b,0,none⟩ (.int .i64 v)) b v y z u:=by
 unfold Bb; rw [heap_setCell_same w b 0 _ _ (.int .i64 v) h]; rfl
theorem Bb.set1 {w:World} {b:Nat} {x y z u:Int} (h:Bb w b x y z u) (v:Int):Bb (w.setCell ⟨b,1,none⟩ (.int .i64 v)) b x v z u:=by
 unfold Bb; rw [heap_setCell_same w b 1 _ _ (.int .i64 v) h]; rfl
theorem Bb.set2 {w:World} {b:Nat} {x y z u:Int} (h:Bb w b x y z u) (v:Int):Bb (w.setCell ⟨b,2,none⟩ (.int .i64 v)) b x y v u:=by
 unfold Bb; rw [heap_setCell_same w b 2 _ _ (.int .i64 v) h]; rfl
theorem Bb.set3 {w:World} {b:Nat} {x y z u:Int} (h:Bb w b x y z u) (v:Int):Bb (w.setCell ⟨b,3,none⟩ (.int .i64 v)) b x y z v:=by
 unfold Bb; rw [heap_setCell_same w b 3 _ _ (.int .i64 v) h]; rfl
theorem Bb.off {w:World} {b:Nat} {x y z u:Int} {p:Addr} {v:Value} (h:Bb w b x y z u) (hb:b≠p.block):Bb (w.setCell p v) b x y z u:=by
 unfold Bb; rw [heap_setCell_other _ _ _ _ hb]; exact h
theorem Ov (a b c d a' b' c' d':Int) (h1:okb a b c d=false) (h2:okb a' b' c' d'=true) (w:World):Ya 156 #[bx a b c d,bx a' b' c' d'] w (.tuple #[bx 0 0 0 0,.bool false]):=by
 have p:=((Y4 w a b c d).sT (aL (Yl w a b c d) (.cells #[.int .i64 a',.int .i64 b',.int .i64 c',.int .i64 d'] 194))).sT (aL (Yl (Yl w a b c d) a' b' c' d') (.cells #[.int .i64 0,.int .i64 0,.int .i64 0,.int .i64 0] 194));have q:=(Y4 (Yl w a b c d) a' b' c' d').sT (aL (Yl (Yl w a b c d) a' b' c' d') (.cells #[.int .i64 0,.int .i64 0,.int .i64 0,.int .i64 0] 194));have r:=Y4 (Yl (Yl w a b c d) a' b' c' d') 0 0 0 0;simp only [Yf] at q r;have HS0:=hid (((aL w (.cells #[.int .i64 a,.int .i64 b,.int .i64 c,.int .i64 d] 194)).trans (aL (Yl w a b c d) (.cells #[.int .i64 a',.int .i64 b',.int .i64 c',.int .i64 d'] 194))).trans (aL (Yl (Yl w a b c d) a' b' c' d') (.cells #[.int .i64 0,.int .i64 0,.int .i64 0,.int .i64 0] 194)));have HB:=hid (show w.heap.size<=w.heap.size+1+1 by omega);go_enter Tryz.func156,Tryz.ntmps156;go_wp2_with fail;refine (UJ a b c d h1 _).mono ?_;rintro e w1 ⟨rfl,hs1⟩;have p1:=p.sT hs1;have q1:=q.sT hs1;have r1:=r.sT hs1;have HF1:=hid (HS0.o.trans hs1);clear p q r HS0 hs1;obtain ⟨c0,c1,c2,c3,cf⟩:=p1.cells;obtain ⟨g0,g1,g2,g3,gf⟩:=q1.cells;go_wp2_with fail;refine (Xs a' b' c' d' h2 _).mono ?_;rintro e w2 ⟨rfl,hs2⟩;have p2:=p1.sT hs2;have q2:=q1.sT hs2;have r2:=r1.sT hs2;have HF2:=hid (HF1.o.trans hs2);clear p1 q1 r1 HF1 hs2 c0 c1 c2 c3 cf g0 g1 g2 g3 gf;obtain ⟨d0,d1,d2,d3,df⟩:=r2.cells;go_wp2_with fail
 (try simp only [Exit.inBlock,Exit.then])
 exact bodyPost_ret ((r2.set _ _ _ _).resb rfl _ _ rfl rfl) rfl ⟨rfl,V1 HF2.o _ _ _ _ _ (.inr HB.o)⟩
theorem Ow (a b c d a' b' c' d':Int) (h1:okb a b c d=false) (h2:okb a' b' c' d'=false) (w:World):Ya 156 #[bx a b c d,bx a' b' c' d'] w (.tuple #[bx 0 0 0 0,.bool false]):=by
 have p:=((Y4 w a b c d).sT (aL (Yl w a b c d) (.cells #[.int .i64 a',.int .i64 b',.int .i64 c',.int .i64 d'] 194))).sT (aL (Yl (Yl w a b c d) a' b' c' d') (.cells #[.int .i64 0,.int .i64 0,.int .i64 0,.int .i64 0] 194));have q:=(Y4 (Yl w a b c d) a' b' c' d').sT (aL (Yl (Yl w a b c d) a' b' c' d') (.cells #[.int .i64 0,.int .i64 0,.int .i64 0,.int .i64 0] 194));have r:=Y4 (Yl (Yl w a b c d) a' b' c' d') 0 0 0 0;simp only [Yf] at q r;have HS0:=hid (((aL w (.cells #[.int .i64 a,.int .i64 b,.int .i64 c,.int .i64 d] 194)).trans (aL (Yl w a b c d) (.cells #[.int .i64 a',.int .i64 b',.int .i64 c',.int .i64 d'] 194))).trans (aL (Yl (Yl w a b c d) a' b' c' d') (.cells #[.int .i64 0,.int .i64 0,.int .i64 0,.int .i64 0] 194)));have HB:=hid (show w.heap.size<=w.heap.size+1+1 by omega);go_enter Tryz.func156,Tryz.ntmps156;go_wp2_with fail;refine (UJ a b c d h1 _).mono ?_;rintro e w1 ⟨rfl,hs1⟩;have p1:=p.sT hs1;have q1:=q.sT hs1;have r1:=r.sT hs1;have HF1:=hid (HS0.o.trans hs1);clear p q r HS0 hs1;obtain ⟨c0,c1,c2,c3,cf⟩:=p1.cells;obtain ⟨g0,g1,g2,g3,gf⟩:=q1.cells;go_wp2_with fail;refine (UJ a' b' c' d' h2 _).mono ?_;rintro e w2 ⟨rfl,hs2⟩;have p2:=p1.sT hs2;have q2:=q1.sT hs2;have r2:=r1.sT hs2;have HF2:=hid (HF1.o.trans hs2);clear p1 q1 r1 HF1 hs2 c0 c1 c2 c3 cf g0 g1 g2 g3 gf;obtain ⟨d0,d1,d2,d3,df⟩:=r2.cells;go_wp2_with fail
 (try simp only [Exit.inBlock,Exit.then])
 exact bodyPost_ret ((r2.set _ _ _ _).resb rfl _ _ rfl rfl) rfl ⟨rfl,V1 HF2.o _ _ _ _ _ (.inr HB.o)⟩
theorem Ox (a b c d a' b' c' d':Int) (h1:okb a b c d=true) (h2:okb a' b' c' d'=false) (w:World):Ya 156 #[bx a b c d,bx a' b' c' d'] w (.tuple #[bx 0 0 0 0,.bool false]):=by
 have p:=((Y4 w a b c d).sT (aL (Yl w a b c d) (.cells #[.int .i64 a',.int .i64 b',.int .i64 c',.int .i64 d'] 194))).sT (aL (Yl (Yl w a b c d) a' b' c' d') (.cells #[.int .i64 0,.int .i64 0,.int .i64 0,.int .i64 0] 194));have q:=(Y4 (Yl w a b c d) a' b' c' d').sT (aL (Yl (Yl w a b c d) a' b' c' d') (.cells #[.int .i64 0,.int .i64 0,.int .i64 0,.int .i64 0] 194));have r:=Y4 (Yl (Yl w a b c d) a' b' c' d') 0 0 0 0;simp only [Yf] at q r;have HS0:=hid (((aL w (.cells #[.int .i64 a,.int .i64 b,.int .i64 c,.int .i64 d] 194)).trans (aL (Yl w a b c d) (.cells #[.int .i64 a',.int .i64 b',.int .i64 c',.int .i64 d'] 194))).trans (aL (Yl (Yl w a b c d) a' b' c' d') (.cells #[.int .i64 0,.int .i64 0,.int .i64 0,.int .i64 0] 194)));have HB:=hid (show w.heap.size<=w.heap.size+1+1 by omega);go_enter Tryz.func156,Tryz.ntmps156;go_wp2_with fail;refine (Xs a b c d h1 _).mono ?_;rintro e w1 ⟨rfl,hs1⟩;have p1:=p.sT hs1;have q1:=q.sT hs1;have r1:=r.sT hs1;have HF1:=hid (HS0.o.trans hs1);clear p q r HS0 hs1;obtain ⟨c0,c1,c2,c3,cf⟩:=p1.cells;obtain ⟨g0,g1,g2,g3,gf⟩:=q1.cells;go_wp2_with fail;refine (UJ a' b' c' d' h2 _).mono ?_;rintro e w2 ⟨rfl,hs2⟩;have p2:=p1.sT hs2;have q2:=q1.sT hs2;have r2:=r1.sT hs2;have HF2:=hid (HF1.o.trans hs2);clear p1 q1 r1 HF1 hs2 c0 c1 c2 c3 cf g0 g1 g2 g3 gf;obtain ⟨d0,d1,d2,d3,df⟩:=r2.cells;go_wp2_with fail
 (try simp only [Exit.inBlock,Exit.then])
 exact bodyPost_ret ((r2.set _ _ _ _).resb rfl _ _ rfl rfl) rfl ⟨rfl,V1 HF2.o _ _ _ _ _ (.inr HB.o)⟩
theorem Oy (a b c d a' b' c' d':Int) (A B C D:Int) (h1:okb a b c d=true) (h2:okb a' b' c' d'=true) (h3:okb A B C D=true)
  (k1:(a<a'/\A=a')\/(¬ a<a'/\A=a)) (k2:(b<b'/\B=b')\/(¬ b<b'/\B=b)) (k3:(c' < c/\C=c')\/(¬ c' < c/\C=c)) (k4:(d' < d/\D=d')\/(¬ d' < d/\D=d)) (w:World):Ya 156 #[bx a b c d,bx a' b' c' d'] w (.tuple #[bx A B C D,.bool true]):=by
 have p:=((Y4 w a b c d).sT (aL (Yl w a b c d) (.cells #[.int .i64 a',.int .i64 b',.int .i64 c',.int .i64 d'] 194))).sT (aL (Yl (Yl w a b c d) a' b' c' d') (.cells #[.int .i64 0,.int .i64 0,.int .i64 0,.int .i64 0] 194));have q:=(Y4 (Yl w a b c d) a' b' c' d').sT (aL (Yl (Yl w a b c d) a' b' c' d') (.cells #[.int .i64 0,.int .i64 0,.int .i64 0,.int .i64 0] 194));have r:=Y4 (Yl (Yl w a b c d) a' b' c' d') 0 0 0 0;simp only [Yf] at q r;have HS0:=hid (((aL w (.cells #[.int .i64 a,.int .i64 b,.int .i64 c,.int .i64 d] 194)).trans (aL (Yl w a b c d) (.cells #[.int .i64 a',.int .i64 b',.int .i64 c',.int .i64 d'] 194))).trans (aL (Yl (Yl w a b c d) a' b' c' d') (.cells #[.int .i64 0,.int .i64 0,.int .i64 0,.int .i64 0] 194)));have HB:=hid (show w.heap.size<=w.heap.size+1+1 by omega);have HN:=hid (show w.heap.size+1+1≠w.heap.size by omega);go_enter Tryz.func156,Tryz.ntmps156;go_wp2_with fail;refine (Xs a b c d h1 _).mono ?_;rintro e w1 ⟨rfl,hs1⟩;have p1:=p.sT hs1;have q1:=q.sT hs1;have r1:=r.sT hs1;have HF1:=hid (HS0.o.trans hs1);clear p q r HS0 hs1;obtain ⟨c0,c1,c2,c3,cf⟩:=p1.cells;obtain ⟨g0,g1,g2,g3,gf⟩:=q1.cells;go_wp2_with fail;refine (Xs a' b' c' d' h2 _).mono ?_;rintro e w2 ⟨rfl,hs2⟩;have p2:=p1.sT hs2;have q2:=q1.sT hs2;have r2:=r1.sT hs2;have HF2:=hid (HF1.o.trans hs2);clear p1 q1 r1 HF1 hs2 c0 c1 c2 c3 cf g0 g1 g2 g3 gf;obtain ⟨c0,c1,c2,c3,cf⟩:=p2.cells;obtain ⟨g0,g1,g2,g3,gf⟩:=q2.cells;have H3:=hid h3;clear h1 h2 h3;rcases k1 with ⟨k1,rfl⟩ | ⟨k1,rfl⟩ <;> rcases k2 with ⟨k2,rfl⟩ | ⟨k2,rfl⟩ <;> rcases k3 with ⟨k3,rfl⟩ | ⟨k3,rfl⟩ <;> rcases k4 with ⟨k4,rfl⟩ | ⟨k4,rfl⟩
 all_goals
  go_wp2_with fail;refine (Xs _ _ _ _ H3.o _).mono ?_;rintro e w4 ⟨rfl,hs4⟩;have p4:Bb w4 w.heap.size A B C D:=Bb.sT (by with_reducible repeat' (first | apply Bb.set3 | apply Bb.set2 | apply Bb.set1 | apply Bb.set0 | exact p2)) hs4;have r4:=Bb.sT (w':=w4) (b:=w.heap.size+1+1) (x:=0) (y:=0) (z:=0) (u:=0) (by with_reducible repeat' (first | exact r2 | refine Bb.off ?_ HN.o)) hs4;have HF4:=hid (Yc.trans (show Yc w _ by with_reducible repeat' (first | exact HF2.o | refine Fr.setCell ?_ _ _ (.inr (Nat.le_refl _)))) hs4);clear p2 q2 r2 HF2 hs4 c0 c1 c2 c3 cf g0 g1 g2 g3 gf k1 k2 k3 k4 HN;obtain ⟨c0,c1,c2,c3,cf⟩:=p4.cells;obtain ⟨d0,d1,d2,d3,df⟩:=r4.cells;go_wp2_with fail
  (try simp only [Exit.inBlock,Exit.then])
  exact bodyPost_ret ((r4.set _ _ _ _).resb rfl _ _ rfl rfl) rfl ⟨rfl,V1 HF4.o _ _ _ _ _ (.inr HB.o)⟩
theorem Oz (a b c d a' b' c' d':Int) (A B C D:Int) (h1:okb a b c d=true) (h2:okb a' b' c' d'=true) (h3:okb A B C D=false)
  (k1:(a<a'/\A=a')\/(¬ a<a'/\A=a)) (k2:(b<b'/\B=b')\/(¬ b<b'/\B=b)) (k3:(c' < c/\C=c')\/(¬ c' < c/\C=c)) (k4:(d' < d/\D=d')\/(¬ d' < d/\D=d)) (w:World):Ya 156 #[bx a b c d,bx a' b' c' d'] w (.tuple #[bx 0 0 0 0,.bool false]):=by
 have p:=((Y4 w a b c d).sT (aL (Yl w a b c d) (.cells #[.int .i64 a',.int .i64 b',.int .i64 c',.int .i64 d'] 194))).sT (aL (Yl (Yl w a b c d) a' b' c' d') (.cells #[.int .i64 0,.int .i64 0,.int .i64 0,.int .i64 0] 194));have q:=(Y4 (Yl w a b c d) a' b' c' d').sT (aL (Yl (Yl w a b c d) a' b' c' d') (.cells #[.int .i64 0,.int .i64 0,.int .i64 0,.int .i64 0] 194));have r:=Y4 (Yl (Yl w a b c d) a' b' c' d') 0 0 0 0;simp only [Yf] at q r;have HS0:=hid (((aL w (.cells #[.int .i64 a,.int .i64 b,.int .i64 c,.int .i64 d] 194)).trans (aL (Yl w a b c d) (.cells #[.int .i64 a',.int .i64 b',.int .i64 c',.int .i64 d'] 194))).trans (aL (Yl (Yl w a b c d) a' b' c' d') (.cells #[.int .i64 0,.int .i64 0,.int .i64 0,.int .i64 0] 194)));have HB:=hid (show w.heap.size<=w.heap.size+1+1 by omega);have HN:=hid (show w.heap.size+1+1≠w.heap.size by omega);go_enter Tryz.func156,Tryz.ntmps156;go_wp2_with fail;refine (Xs a b c d h1 _).mono ?_;rintro e w1 ⟨rfl,hs1⟩;have p1:=p.sT hs1;have q1:=q.sT hs1;have r1:=r.sT hs1;have HF1:=hid (HS0.o.trans hs1);clear p q r HS0 hs1;obtain ⟨c0,c1,c2,c3,cf⟩:=p1.cells;obtain ⟨g0,g1,g2,g3,gf⟩:=q1.cells;go_wp2_with fail;refine (Xs a' b' c' d' h2 _).mono ?_;rintro e w2 ⟨rfl,hs2⟩;have p2:=p1.sT hs2;have q2:=q1.sT hs2;have r2:=r1.sT hs2;have HF2:=hid (HF1.o.trans hs2);clear p1 q1 r1 HF1 hs2 c0 c1 c2 c3 cf g0 g1 g2 g3 gf;obtain ⟨c0,c1,c2,c3,cf⟩:=p2.cells;obtain ⟨g0,g1,g2,g3,gf⟩:=q2.cells;have H3:=hid h3;clear h1 h2 h3;rcases k1 with ⟨k1,rfl⟩ | ⟨k1,rfl⟩ <;> rcases k2 with ⟨k2,rfl⟩ | ⟨k2,rfl⟩ <;> rcases k3 with ⟨k3,rfl⟩ | ⟨k3,rfl⟩ <;> rcases k4 with ⟨k4,rfl⟩ | ⟨k4,rfl⟩
 all_goals
  go_wp2_with fail;refine (UJ _ _ _ _ H3.o _).mono ?_;rintro e w4 ⟨rfl,hs4⟩;have p4:Bb w4 w.heap.size A B C D:=Bb.sT (by with_reducible repeat' (first | apply Bb.set3 | apply Bb.set2 | apply Bb.set1 | apply Bb.set0 | exact p2)) hs4;have r4:=Bb.sT (w':=w4) (b:=w.heap.size+1+1) (x:=0) (y:=0) (z:=0) (u:=0) (by with_reducible repeat' (first | exact r2 | refine Bb.off ?_ HN.o)) hs4;have HF4:=hid (Yc.trans (show Yc w _ by with_reducible repeat' (first | exact HF2.o | refine Fr.setCell ?_ _ _ (.inr (Nat.le_refl _)))) hs4);clear p2 q2 r2 HF2 hs4 c0 c1 c2 c3 cf g0 g1 g2 g3 gf k1 k2 k3 k4 HN;obtain ⟨c0,c1,c2,c3,cf⟩:=p4.cells;obtain ⟨d0,d1,d2,d3,df⟩:=r4.cells;go_wp2_with fail
  (try simp only [Exit.inBlock,Exit.then])
  exact bodyPost_ret ((r4.set _ _ _ _).resb rfl _ _ rfl rfl) rfl ⟨rfl,V1 HF4.o _ _ _ _ _ (.inr HB.o)⟩
theorem O0 (a b c d a' b' c' d':Int) (w:World):Ya 156 #[bx a b c d,bx a' b' c' d'] w (.tuple #[mb a b c d a' b' c' d',.bool (mt a b c d a' b' c' d')]):=by
 unfold mb mt;cases h1:okb a b c d with
 | false =>
  cases h2:okb a' b' c' d' with
  | false=>exact Ow a b c d a' b' c' d' h1 h2 w
  | true=>exact Ov a b c d a' b' c' d' h1 h2 w
 | true =>
  cases h2:okb a' b' c' d' with
  | false=>exact Ox a b c d a' b' c' d' h1 h2 w
  | true =>
   cases h3:okb (max a a') (max b b') (min c c') (min d d') with
   | false=>exact Oz a b c d a' b' c' d' _ _ _ _ h1 h2 h3 (by omega) (by omega) (by omega) (by omega) w
   | true=>exact Oy a b c d a' b' c' d' _ _ _ _ h1 h2 h3 (by omega) (by omega) (by omega) (by omega) w
theorem WN (a b c d a' b' c' d':Int) (w:World):Ya 118 #[bx a b c d,bx a' b' c' d'] w (.bool (mt a b c d a' b' c' d')):=by
 go_enter Tryz.func118,Tryz.ntmps118;go_wp2_with fail;refine (O0 a b c d a' b' c' d' _).mono ?_;rintro e w1 ⟨rfl,hs1⟩;go_wp2_with fail;go_ret;exact ⟨rfl,(((aL w _).trans (aL _ _)).trans hs1).trans (aL _ _)⟩
theorem mt_in {a b c d x y:Int}:mt a b c d x y x y=true ↔ (okb a b c d=true/\a<=x/\x<=c/\b<=y/\y<=d):=by
 unfold mt;constructor
 ·intro h;simp only [Bool.and_eq_true] at h;obtain ⟨⟨h1,h2⟩,h3⟩:=h;have k3:=UO h3;unfold okB at k3;exact ⟨h1,by omega,by omega,by omega,by omega⟩
 ·rintro ⟨h1,h2,h3,h4,h5⟩;have k1:=UO h1;unfold okB at k1;simp only [Bool.and_eq_true];exact ⟨⟨h1,Jy (by unfold okB; omega)⟩,Jy (by unfold okB; omega)⟩
theorem Jr {a b c d x y:Int} (h:¬ (okb a b c d=true/\a<=x/\x<=c/\b<=y/\y<=d)):mt a b c d x y x y=false:=by
 cases k:mt a b c d x y x y with
 | false=>rfl
 | true=>exact absurd (mt_in.1 k) h
theorem O1 (a b c d x y:Int) (h:okb a b c d=false) (w:World):Ya 121 #[bx a b c d,pt x y] w (.bool false):=by
 have r:=(Y4 w a b c d).sT (aL (Yl w a b c d) (.cells #[.int .i64 x,.int .i64 y] 54));have q:=Yp (Yl w a b c d) x y;simp only [Yf] at q;go_enter Tryz.func121,Tryz.ntmps121;go_wp2_with fail;refine (UJ a b c d h _).mono ?_;rintro e w1 ⟨rfl,hs1⟩;have r1:=r.sT hs1;have q1:=q.sT hs1;have HF:=hid (((aL w (.cells #[.int .i64 a,.int .i64 b,.int .i64 c,.int .i64 d] 194)).trans (aL (Yl w a b c d) (.cells #[.int .i64 x,.int .i64 y] 54))).trans hs1);clear r q hs1 h;obtain ⟨c0,c1,c2,c3,cf⟩:=r1.cells;obtain ⟨d0,d1,df⟩:=q1.cells;go_wp2_with fail;go_ret;exact ⟨rfl,HF.o⟩
theorem O2 (a b c d x y:Int) (h:okb a b c d=true) (h1:x<a) (w:World):Ya 121 #[bx a b c d,pt x y] w (.bool false):=by
 have r:=(Y4 w a b c d).sT (aL (Yl w a b c d) (.cells #[.int .i64 x,.int .i64 y] 54));have q:=Yp (Yl w a b c d) x y;simp only [Yf] at q;go_enter Tryz.func121,Tryz.ntmps121;go_wp2_with fail;refine (Xs a b c d h _).mono ?_;rintro e w1 ⟨rfl,hs1⟩;have r1:=r.sT hs1;have q1:=q.sT hs1;have HF:=hid (((aL w (.cells #[.int .i64 a,.int .i64 b,.int .i64 c,.int .i64 d] 194)).trans (aL (Yl w a b c d) (.cells #[.int .i64 x,.int .i64 y] 54))).trans hs1);clear r q hs1 h;obtain ⟨c0,c1,c2,c3,cf⟩:=r1.cells;obtain ⟨d0,d1,df⟩:=q1.cells;go_wp2_with fail;go_ret;exact ⟨rfl,HF.o⟩
theorem O3 (a b c d x y:Int) (h:okb a b c d=true) (h1:a<=x) (h2:c<x) (w:World):Ya 121 #[bx a b c d,pt x y] w (.bool false):=by
 have r:=(Y4 w a b c d).sT (aL (Yl w a b c d) (.cells #[.int .i64 x,.int .i64 y] 54));have q:=Yp (Yl w a b c d) x y;simp only [Yf] at q;go_enter Tryz.func121,Tryz.ntmps121;go_wp2_with fail;refine (Xs a b c d h _).mono ?_;rintro e w1 ⟨rfl,hs1⟩;have r1:=r.sT hs1;have q1:=q.sT hs1;have HF:=hid (((aL w (.cells #[.int .i64 a,.int .i64 b,.int .i64 c,.int .i64 d] 194)).trans (aL (Yl w a b c d) (.cells #[.int .i64 x,.int .i64 y] 54))).trans hs1);clear r q hs1 h;obtain ⟨c0,c1,c2,c3,cf⟩:=r1.cells;obtain ⟨d0,d1,df⟩:=q1.cells;go_wp2_with fail;go_ret;exact ⟨rfl,HF.o⟩
theorem O4 (a b c d x y:Int) (h:okb a b c d=true) (h1:a<=x) (h2:x<=c) (h3:y<b) (w:World):Ya 121 #[bx a b c d,pt x y] w (.bool false):=by
 have r:=(Y4 w a b c d).sT (aL (Yl w a b c d) (.cells #[.int .i64 x,.int .i64 y] 54));have q:=Yp (Yl w a b c d) x y;simp only [Yf] at q;go_enter Tryz.func121,Tryz.ntmps121;go_wp2_with fail;refine (Xs a b c d h _).mono ?_;rintro e w1 ⟨rfl,hs1⟩;have r1:=r.sT hs1;have q1:=q.sT hs1;have HF:=hid (((aL w (.cells #[.int .i64 a,.int .i64 b,.int .i64 c,.int .i64 d] 194)).trans (aL (Yl w a b c d) (.cells #[.int .i64 x,.int .i64 y] 54))).trans hs1);clear r q hs1 h;obtain ⟨c0,c1,c2,c3,cf⟩:=r1.cells;obtain ⟨d0,d1,df⟩:=q1.cells;go_wp2_with fail;go_ret;exact ⟨rfl,HF.o⟩
theorem O5 (a b c d x y:Int) (h:okb a b c d=true) (h1:a<=x) (h2:x<=c) (h3:b<=y) (h4:d<y) (w:World):Ya 121 #[bx a b c d,pt x y] w (.bool false):=by
 have r:=(Y4 w a b c d).sT (aL (Yl w a b c d) (.cells #[.int .i64 x,.int .i64 y] 54));have q:=Yp (Yl w a b c d) x y;simp only [Yf] at q;go_enter Tryz.func121,Tryz.ntmps121;go_wp2_with fail;refine (Xs a b c d h _).mono ?_;rintro e w1 ⟨rfl,hs1⟩;have r1:=r.sT hs1;have q1:=q.sT hs1;have HF:=hid (((aL w (.cells #[.int .i64 a,.int .i64 b,.int .i64 c,.int .i64 d] 194)).trans (aL (Yl w a b c d) (.cells #[.int .i64 x,.int .i64 y] 54))).trans hs1);clear r q hs1 h;obtain ⟨c0,c1,c2,c3,cf⟩:=r1.cells;obtain ⟨d0,d1,df⟩:=q1.cells;go_wp2_with fail;go_ret;exact ⟨show Ending.returned (.bool (decide (y<=d)))=_ by rw [decide_eq_false (show ¬ y<=d by omega)],HF.o⟩
theorem O6 (a b c d x y:Int) (h:okb a b c d=true) (h1:a<=x) (h2:x<=c) (h3:b<=y) (h4:y<=d) (w:World):Ya 121 #[bx a b c d,pt x y] w (.bool true):=by
 have r:=(Y4 w a b c d).sT (aL (Yl w a b c d) (.cells #[.int .i64 x,.int .i64 y] 54));have q:=Yp (Yl w a b c d) x y;simp only [Yf] at q;go_enter Tryz.func121,Tryz.ntmps121;go_wp2_with fail;refine (Xs a b c d h _).mono ?_;rintro e w1 ⟨rfl,hs1⟩;have r1:=r.sT hs1;have q1:=q.sT hs1;have HF:=hid (((aL w (.cells #[.int .i64 a,.int .i64 b,.int .i64 c,.int .i64 d] 194)).trans (aL (Yl w a b c d) (.cells #[.int .i64 x,.int .i64 y] 54))).trans hs1);clear r q hs1 h;obtain ⟨c0,c1,c2,c3,cf⟩:=r1.cells;obtain ⟨d0,d1,df⟩:=q1.cells;go_wp2_with fail;go_ret;exact ⟨rfl,HF.o⟩
theorem O7 (a b c d x y:Int) (w:World):Ya 121 #[bx a b c d,pt x y] w (.bool (mt a b c d x y x y)):=by
 cases h:okb a b c d with
 | false=>rw [Jr (by rw [h]; simp)]; exact O1 a b c d x y h w
 | true =>
  by_cases h1:x<a
  ·rw [Jr (by omega)]; exact O2 a b c d x y h h1 w
  ·by_cases h2:c<x
   ·rw [Jr (by omega)]; exact O3 a b c d x y h (by omega) h2 w
   ·by_cases h3:y<b
    ·rw [Jr (by omega)]; exact O4 a b c d x y h (by omega) (by omega) h3 w
    ·by_cases h4:d<y
     ·rw [Jr (by omega)]; exact O5 a b c d x y h (by omega) (by omega) (by omega) h4 w
     ·rw [mt_in.2 ⟨h,by omega,by omega,by omega,by omega⟩]; exact O6 a b c d x y h (by omega) (by omega) (by omega) (by omega) w
end Go.Proofs.YthcjckgmdokmdaaGreatDoor
set_option maxRecDepth 100000
namespace Go.Proofs.YthcjckgmdokmdaaGreatDoor
open Go.RowKit
open Pu Gp Ap
end Go.Proofs.YthcjckgmdokmdaaGreatDoor
set_option maxRecDepth 100000
namespace Go.Proofs.YthcjckgmdokmdaaGreatDoor
open Go
def Js (l:List Oper) (n:Nat) (xs:List Nat):Bool :=
  Region.noSelect l.toArray && UQ l && decide (n+1<l.length) && Xw (l.take n) &&
  (List.range l.length).all fun j=>match l.toArray[j]? with
    | some o => o.guard.isNone && (if j < n then
          o.dst.isSome && ((List.range n).all fun i=>(i == j) || (match l.toArray[i]? with | some p=>p.dst != o.dst | none=>false)) &&
          (o.op.operands.toList.all fun x=>match x with
            | .tmp t => ((List.range l.length).all fun i => decide (i < n) || (match l.toArray[i]? with | some p => p.dst != some t || p.after.any fun e => e.on == j && Region.binds .any e | none => false)) &&
                (List.range n).all fun i=>match l.toArray[i]? with | some p=>(p.dst != some t) || o.after.any fun e=>e.on == i && Region.binds .any e | none=>false
            | _=>true) &&
          (XM o.op || xs.contains j || Z3 l (n+1) 6 j)
        else
          (j == n || o.after.any fun e=>e.on == j - 1 && Region.binds .any e) &&
          (match o.dst with | some t=>(List.range n).all fun i=>(match l.toArray[i]? with | some p=>p.dst != some t | none=>false) | none=>true) &&
          (o.op.operands.toList.all fun x=>match x with
            | .tmp t=>(List.range n).all fun i=>match l.toArray[i]? with | some p=>(p.dst != some t) || o.after.any fun e=>e.on == i && Region.binds .any e | none=>false
            | _=>true))
    | none=>false
section
variable {P:Program} {W:World} {l:List Oper} {n:Nat} {xs:List Nat} {A:Act}
structure WO (P:Program) (l:List Oper) (n:Nat) (xs:List Nat) (A:Act) (W:World) (Q:Exit->Act->World->Prop) (L:Array Bool) (a:Act) (w:World) (k:Nat) (B:Act):Prop where
 size:a.tmps.size=B.tmps.size
 defers:a.defers=B.defers
 agree:∀ t,(∀ j o,j<n->l[j]?=some o->o.dst=some t->L.getD j true=true)->a.tmps[t]?=B.tmps[t]?
 keep:∀ t,(∀ i o,n<=i->i<n+k->l[i]?=some o->o.dst≠some t)->B.tmps[t]?=A.tmps[t]?
 le:n+k<=l.length
 tail:∀ i,n<=i->i<l.length->L.getD i true=decide (i<n+k)
 second:1<k->∀ j o,j<n->l[j]?=some o->XM o.op=false->xs.contains j=false->L.getD j true=true
 zero:k=0->B=A
 sT:k<=1->Yc W w
 wp1:k=1->∀ u,Yc w u->wpList P l.toArray (Nrm Q) (l.drop (n+1)) B u
 wp:1<k->wpList P l.toArray (Nrm Q) (l.drop (n+k)) B w
 bsize:B.tmps.size=A.tmps.size
 closed:∀ i j,i<l.length->j<l.length->YA l i j=true->L.getD i true=true->L.getD j true=true
theorem WP {Q:Exit->Act->World->Prop} (hB:Js l n xs=true)
  (hS:∀ o,l[n]?=some o->∀ u,Yc W u->∃ v u',(execOp A.eval o).run P u=.ok (.value v) u'/\Yc u u'/\∀ u'',Yc u' u''->wpList P l.toArray (Nrm Q) (l.drop (n+1)) (A.put o.dst v) u'')
  (hX:∀ j o t,j<n->xs.contains j=true->l[j]?=some o->o.dst=some t->∀ u,(execOp A.eval o).run P u=.ok (.value (A.tmps.getD t undef)) u)
  (hop:∀ j o,j<n->l[j]?=some o->∀ w,Yc W w->∀ t,o.dst=some t->o.quietAt P A (fun u=>Yc w u) w (A.tmps.getD t undef)/\t<A.tmps.size) :
  ∀ (f:Nat) (L:Array Bool) (a:Act) (w:World) (k:Nat) (B:Act),L.size=l.length->cnt L l.length=f->WO P l n xs A W Q L a w k B->wpAny P .any l.toArray Q f L a w
 | 0,L,a,w,k,B,hLs,hcnt,hm=>by
  have hall:=Vc hcnt;have hB':=hB;unfold Js at hB';simp only [Bool.and_eq_true,decide_eq_true_eq] at hB';obtain ⟨⟨⟨_,hnl⟩,_⟩,_⟩:=hB';refine ⟨?_, ?_⟩
  ·rw [List.eq_nil_iff_forall_not_mem];intro j hj;obtain ⟨hju,o,ho,_⟩:=mem_ready.1 hj;have hjl:j<l.length:=by have:=(Array.getElem?_eq_some_iff.1 ho).1; simpa using this
   rw [hall j hjl] at hju;cases hju
  ·have hk:l.length<=n+k:=by
    have:=hm.tail (l.length - 1) (by omega) (by omega);rw [hall _ (by omega)] at this;have:=of_decide_eq_true this.symm;omega
   have hw:=hm.wp (by omega);rw [List.drop_eq_nil_of_le hk] at hw;have e:a=B:=by
    obtain ⟨ts,df⟩:=a;obtain ⟨Ts,Df⟩:=B;have g1:df=Df:=hm.defers;have g2:ts=Ts:=by
     apply Array.ext_getElem?;intro t;exact hm.agree t fun j o hj ho _=>hall j (by omega)
    rw [g1,g2]
   rw [e];exact hw.2
 | f+1,L,a,w,k,B,hLs,hcnt,hm=>by
  have hB0:=hB;unfold Js at hB;simp only [Bool.and_eq_true,decide_eq_true_eq] at hB;obtain ⟨⟨⟨⟨hsel,hlow⟩,hnl⟩,_⟩,hall⟩:=hB;obtain ⟨i,hi,hun,hmin⟩:=VR (L:=L) (n:=l.length) (by omega);refine ⟨fun h0=>?_,fun j hj=>?_⟩
  ·exfalso;obtain ⟨o,ho⟩:∃ o,l.toArray[i]?=some o:=⟨_,Array.getElem?_eq_getElem (by simpa using hi)⟩;have:i∈Region.ready .any l.toArray L:=mem_ready.2 ⟨hun,o,ho,fun e he hb=>by
    have hlt:=VW hlow hi ho e he hb;have hin:e.on<L.size:=by omega
    have:=hmin e.on hlt;simp [hin] at this ⊢;exact this⟩
   rw [h0] at this;cases this
  ·obtain ⟨hju,o,ho,hwait⟩:=mem_ready.1 hj;have hjl:j<l.length:=by have:=(Array.getElem?_eq_some_iff.1 ho).1; simpa using this
   have ho':l[j]?=some o:=by simpa using ho
   have hJ:=List.all_eq_true.1 hall j (List.mem_range.2 hjl);simp only [ho,Bool.and_eq_true] at hJ;obtain ⟨hg0,hJ⟩:=hJ;have hg:o.guard=none:=by simpa using hg0
   have next:∀ (a':Act) (w':World) (k':Nat) (B':Act),WO P l n xs A W Q (L.setIfInBounds j true) a' w' k' B'->wpAny P .any l.toArray Q f (L.setIfInBounds j true) a' w':=fun a' w' k' B' hm' =>
    WP hB0 hS hX hop f _ a' w' k' B' (by simp [hLs]) (by have:=V0 hju hjl; omega) hm'
   have hset:∀ k,k≠j->(L.setIfInBounds j true).getD k true=L.getD k true:=fun k hk=>getD_set_ne true (Ne.symm hk);have hself:(L.setIfInBounds j true).getD j true=true:=by simp [show j<L.size by omega]
   have hcl:∀ i j',i<l.length->j' < l.length->YA l i j'=true->(L.setIfInBounds j true).getD i true=true->(L.setIfInBounds j true).getD j' true=true:=fun i j' hi hj' he hl=>by
    by_cases e2:j'=j
    ·rw [e2]; simp [show j<L.size by omega]
    ·rw [hset j' e2];by_cases e1:i=j
     ·subst e1;unfold YA at he;simp only [ho] at he;obtain ⟨e,he1,hb⟩:=Array.any_eq_true'.1 he;simp only [Bool.and_eq_true,beq_iff_eq] at hb;have:=hwait e he1 hb.2;rw [hb.1] at this;exact XK (by omega) this
     ·rw [hset i e1] at hl;exact hm.closed i j' hi hj' he hl
   have hmore:∀ k,L.getD k true=true->(L.setIfInBounds j true).getD k true=true:=fun k hk=>by
    by_cases e:k=j
    ·rw [e]; exact hself
    ·rw [hset k e]; exact hk
   -- what an operation waits for is done
   have hdone:∀ i,i<l.length->(o.after.any fun e=>e.on == i && Region.binds .any e)=true->L.getD i true=true:=fun i hi h=>by
    obtain ⟨e,he,hb⟩:=Array.any_eq_true'.1 h;simp only [Bool.and_eq_true,beq_iff_eq] at hb;have:=hwait e he hb.2;rw [hb.1] at this;exact XK (by omega) this
   have hprod:∀ s,((List.range n).all fun i=>match l.toArray[i]? with | some p=>(p.dst != some s) || o.after.any fun e=>e.on == i && Region.binds .any e | none=>false)=true->∀ i p,i<n->l[i]?=some p->p.dst=some s->L.getD i true=true:=fun s h i p hi hp hps=>by
    have h6:=List.all_eq_true.1 h i (List.mem_range.2 hi);have hp':l.toArray[i]?=some p:=by simpa using hp
    simp only [hp',Bool.or_eq_true] at h6;rcases h6 with h6 | h6
    ·rw [hps] at h6; simp at h6
    ·exact hdone i (by omega) h6
   unfold wpOp;simp only [ho];rw [if_pos (by unfold Region.wanted; rw [hg])];refine .inl ?_;by_cases hjn:j<n
   ·rw [if_pos hjn] at hJ;simp only [Bool.and_eq_true] at hJ;obtain ⟨⟨⟨h1,h2⟩,h3⟩,h4⟩:=hJ;obtain ⟨t,ht⟩:∃ t,o.dst=some t:=Option.isSome_iff_exists.1 h1;have hcong:execOp a.eval o=execOp A.eval o:=execOp_congr o (fun cs b=>Region.noSelect_spec hsel j o cs b ho) fun x hx=>by
     cases x with
     | tmp s =>
      have h5:=List.all_eq_true.1 h3 (.tmp s) (by simpa using hx);simp only [Bool.and_eq_true] at h5;refine XJ ?_;rw [hm.agree s fun i p hi hp hps=>hprod s h5.2 i p hi hp hps];refine hm.keep s fun i p hi hik hp hps=>?_;have hil:i<l.length:=(List.getElem?_eq_some_iff.1 hp).1;have h6:=List.all_eq_true.1 h5.1 i (List.mem_range.2 hil);have hp':l.toArray[i]?=some p:=by simpa using hp
      simp only [hp',show ¬ i<n by omega,decide_false,Bool.false_or] at h6;rw [hps] at h6;have h7:YA l i j=true:=by
       unfold YA;simp only [hp'];simpa using h6
      rw [hm.closed i j hil hjl h7 (by rw [hm.tail i hi hil]; simpa using hik)] at hju;cases hju
     | const v=>rfl
     | global g=>rfl
     | func f=>rfl
    have hta:=(hop j o hjn ho' W (Fr.refl _ _) t ht).2;have hAt:A.tmps[t]?=some (A.tmps.getD t undef):=by simp [hta]
    have htail:∀ i p,n<=i->l[i]?=some p->p.dst≠some t:=fun i p hi hp hps=>by
     have hil:i<l.length:=(List.getElem?_eq_some_iff.1 hp).1;have h5:=List.all_eq_true.1 hall i (List.mem_range.2 hil);have hp':l.toArray[i]?=some p:=by simpa using hp
     simp only [hp',Bool.and_eq_true] at h5;have h6:=h5.2;rw [if_neg (by omega)] at h6;simp only [Bool.and_eq_true,hps] at h6;have h7:=List.all_eq_true.1 h6.1.2 j (List.mem_range.2 hjn);simp only [ho,ht] at h7;simp at h7
    have hagree:∀ s,(∀ i p,i<n->l[i]?=some p->p.dst=some s->(L.setIfInBounds j true).getD i true=true)->(a.put o.dst (A.tmps.getD t undef)).tmps[s]?=B.tmps[s]?:=fun s hs=>by
     by_cases e:t=s
     ·subst e;simp only [Act.put,ht];rw [ZN (by rw [hm.size,hm.bsize]; exact hta),hm.keep t (fun i p hi _ hp=>htail i p hi hp),hAt]
     ·simp only [Act.put,ht,Array.getElem?_setIfInBounds_ne e];refine hm.agree s fun i p hi hp hps=>?_;have hij:i≠j:=fun e2=>by
       subst e2;rw [ho'] at hp;obtain rfl:o=p:=Option.some.inj hp;exact e (Option.some.inj (ht.symm.trans hps))
      rw [<- hset i hij];exact hs i p hi hp hps
    have htl:∀ i,n<=i->i<l.length->(L.setIfInBounds j true).getD i true=decide (i<n+k):=fun i hi hil=>by
     rw [hset i (by omega)];exact hm.tail i hi hil
    by_cases hk:k<=1
    ·have hst:=hm.sT hk;have hqa:=(hop j o hjn ho' w hst t ht).1;have hq':o.quietAt P a (fun u=>Yc w u) w (A.tmps.getD t undef):=by
      unfold Oper.quietAt at hqa ⊢;rw [hcong];exact hqa
     refine UP hq' fun w' hw'=>next _ w' k B ⟨by simp [Act.put,ht,hm.size],by simp [Act.put,ht,hm.defers],hagree,hm.keep,hm.le,htl,fun h=>by omega,hm.zero,fun _=>hst.trans hw',fun h u hu=>hm.wp1 h u (hw'.trans hu),fun h=>by omega,hm.bsize,hcl⟩
    ·have hrun:(execOp A.eval o).run P w=.ok (.value (A.tmps.getD t undef)) w:=by
      cases e:XM o.op with
      | true=>exact Gs e A.eval (hop j o hjn ho' W (Fr.refl _ _) t ht).1 w
      | false =>
       cases e2:xs.contains j with
       | true=>exact hX j o t hjn e2 ho' ht w
       | false=>rw [hm.second (by omega) j o hjn ho' e e2] at hju; cases hju
     unfold Oper.wp;rw [hcong,hrun,Oper.upon_value];exact next _ w k B ⟨by simp [Act.put,ht,hm.size],by simp [Act.put,ht,hm.defers],hagree,hm.keep,hm.le,htl,fun h i p hi hp h1 h2=>hmore i (hm.second h i p hi hp h1 h2),hm.zero,fun h=>by omega,fun h=>by omega,hm.wp,hm.bsize,hcl⟩
   ·rw [if_neg hjn] at hJ;simp only [Bool.and_eq_true] at hJ;obtain ⟨⟨h1,h2⟩,h3⟩:=hJ;have hjk:j=n+k:=by
     have h5:=hm.tail j (by omega) hjl;rw [hju] at h5;have h6:¬ j<n+k:=by simpa using h5.symm
     by_cases e:j=n
     ·omega
     ·have e':(j == n)=false:=by simpa using e
      rw [e',Bool.false_or] at h1;have h7:=hdone (j - 1) (by omega) h1;rw [hm.tail (j - 1) (by omega) (by omega)] at h7;have:=of_decide_eq_true h7;omega
    have hcong:execOp a.eval o=execOp B.eval o:=execOp_congr o (fun cs b=>Region.noSelect_spec hsel j o cs b ho) fun x hx=>by
     cases x with
     | tmp s=>exact XJ (hm.agree s fun i p hi hp hps=>hprod s (List.all_eq_true.1 h3 (.tmp s) (by simpa using hx)) i p hi hp hps)
     | const v=>rfl
     | global g=>rfl
     | func f=>rfl
    have hw2:0<k->o.upon P B (wpList P l.toArray (Nrm Q) (l.drop (n+(k+1)))) (Nrm Q) ((execOp B.eval o).run P w):=fun h0=>by
     have hw:wpList P l.toArray (Nrm Q) (o :: l.drop (n+(k+1))) B w:=by
      have e:l.drop (n+k)=o :: l.drop (n+(k+1)):=by rw [<- hjk,Gu ho',hjk]; rfl
      rw [<- e];by_cases hk:k=1
      ·have:=hm.wp1 hk w (Fr.refl _ _);rwa [hk]
      ·exact hm.wp (by omega)
     unfold wpList at hw;rw [if_pos (by unfold Region.wanted; rw [hg])] at hw;rcases hw with hw | ⟨_,a0,w0,h0,_⟩
     ·exact hw
     ·cases h0
    have hsm:∀ i j',YA l i j'=true->i<l.length/\j' < l.length:=fun i j' he=>by
     unfold YA at he;cases eo:l.toArray[i]? with
     | none=>rw [eo] at he; cases he
     | some q =>
      have hil:i<l.length:=by have:=(Array.getElem?_eq_some_iff.1 eo).1; simpa using this
      simp only [eo] at he;obtain ⟨e,he1,hb⟩:=Array.any_eq_true'.1 he;simp only [Bool.and_eq_true,beq_iff_eq] at hb;have:=VW hlow hil eo e he1 hb.2;exact ⟨hil,by omega⟩
    have hkind:∀ i p,i<n->l[i]?=some p->(XM p.op || xs.contains i || Z3 l (n+1) 6 i)=true:=fun i p hi hp=>by
     have h5:=List.all_eq_true.1 hall i (List.mem_range.2 (by omega));have hp':l.toArray[i]?=some p:=by simpa using hp
     simp only [hp',Bool.and_eq_true] at h5;have h6:=h5.2;rw [if_pos hi] at h6;simp only [Bool.and_eq_true] at h6;exact h6.2
    have hedge:∀ j',YA l j j'=true->L.getD j' true=true:=fun j' he=>by
     have hj':=(hsm j j' he).2;unfold YA at he;simp only [ho] at he;exact hdone j' hj' he
    have hreachj:∀ i,Z3 l j 6 i=true->L.getD i true=true:=fun i h7=>US (n:=j) hedge (fun i1 j1 he hl1=>hm.closed i1 j1 (hsm i1 j1 he).1 (hsm i1 j1 he).2 he hl1) 6 i h7;have hreach1:k=1->∀ i,Z3 l (n+1) 6 i=true->L.getD i true=true:=fun hk i h7=>hreachj i (by rw [hjk,hk]; exact h7);have step:∀ (a1 B1:Act) (w1:World),a1.tmps.size=B1.tmps.size->B1.tmps.size=A.tmps.size->a1.defers=B1.defers->(∀ s,(∀ i p,i<n->l[i]?=some p->p.dst=some s->L.getD i true=true)->a1.tmps[s]?=B1.tmps[s]?)->(∀ s,(∀ i p,n<=i->i<n+(k+1)->l[i]?=some p->p.dst≠some s)->B1.tmps[s]?=A.tmps[s]?)->(0<k->wpList P l.toArray (Nrm Q) (l.drop (n+(k+1))) B1 w1)->(k=0->Yc W w1/\∀ u,Yc w1 u->wpList P l.toArray (Nrm Q) (l.drop (n+1)) B1 u)->wpAny P .any l.toArray Q f (L.setIfInBounds j true) a1 w1:=fun a1 B1 w1 g1 g2 g3 g4 g5 g6 g7 =>
     next a1 w1 (k+1) B1 ⟨g1,g3,fun s hs=>g4 s fun i p hi hp hps=>by rw [<- hset i (by omega)]; exact hs i p hi hp hps,g5,by omega,fun i hi hil=>by
      by_cases e:i=j
      ·rw [e,hself]; symm; simp; omega
      ·rw [hset i e,hm.tail i hi hil];have:(i<n+k) ↔ (i<n+(k+1)):=by omega
       simp [this],
      fun hq2 i p hi hp hpp hpx=>by
       rw [hset i (by omega)];by_cases hk:k=1
       ·have h6:=hkind i p hi hp;rw [hpp,hpx] at h6;exact hreach1 hk i (by simpa using h6)
       ·exact hm.second (by omega) i p hi hp hpp hpx,
      fun h=>by omega,fun h=>(g7 (by omega)).1,fun h=>(g7 (by omega)).2,fun h=>g6 (by omega),g2,hcl⟩
    have hd:∀ t,o.dst=some t->∀ i p,i<n->l[i]?=some p->p.dst≠some t:=fun t ht i p hi hp hps=>by
     rw [ht] at h2;have h5:=List.all_eq_true.1 h2 i (List.mem_range.2 hi);have hp':l.toArray[i]?=some p:=by simpa using hp
     simp only [hp',hps] at h5;simp at h5
    have put:∀ (a1 B1:Act) (v:Value) (w1:World),a1.tmps=a.tmps->B1.tmps=B.tmps->a1.defers=B1.defers->(0<k->wpList P l.toArray (Nrm Q) (l.drop (n+(k+1))) (B1.put o.dst v) w1)->(k=0->Yc W w1/\∀ u,Yc w1 u->wpList P l.toArray (Nrm Q) (l.drop (n+1)) (B1.put o.dst v) u)->wpAny P .any l.toArray Q f (L.setIfInBounds j true) (a1.put o.dst v) w1:=fun a1 B1 v w1 e1 e2 e3 hw1 hs1=>by
     cases ht:o.dst with
     | none =>
      rw [ht] at hw1 hs1;exact step a1 B1 w1 (by rw [e1,e2]; exact hm.size) (by rw [e2]; exact hm.bsize) e3 (fun s hs=>by rw [e1,e2]; exact hm.agree s hs) (fun s hs=>by rw [e2]; exact hm.keep s (fun i p h1 h2 hp=>hs i p h1 (by omega) hp)) hw1 hs1
     | some t =>
      rw [ht] at hw1 hs1;refine step _ _ w1 (by simp [Act.put,e1,e2,hm.size]) (by simp [Act.put,e2,hm.bsize]) (by simp [Act.put,e3]) (fun s hs=>?_) (fun s hs=>?_) hw1 hs1
      ·by_cases e:t=s
       ·subst e;simp only [Act.put,e1,e2];by_cases hlt:t<a.tmps.size
        ·rw [ZN hlt,ZN (by rw [<- hm.size]; exact hlt)]
        ·rw [Array.getElem?_eq_none (show (a.tmps.setIfInBounds t v).size<=t by rw [Array.size_setIfInBounds]; exact Nat.le_of_not_lt hlt),Array.getElem?_eq_none (show (B.tmps.setIfInBounds t v).size<=t by rw [Array.size_setIfInBounds,<- hm.size]; exact Nat.le_of_not_lt hlt)]
       ·simp only [Act.put,Array.getElem?_setIfInBounds_ne e,e1,e2];exact hm.agree s hs
      ·have hne:t≠s:=fun e=>hs j o (by omega) (by omega) ho' (by rw [ht,e]);simp only [Act.put,Array.getElem?_setIfInBounds_ne hne,e2];exact hm.keep s (fun i p h1 h2 hp=>hs i p h1 (by omega) hp)
    unfold Oper.wp;rw [hcong];by_cases hk:k=0
    ·have hst:=hm.sT (by omega);have hBA:=hm.zero hk;obtain ⟨v,u',hrun,hsu,hT⟩:=hS o (by rw [<- ho']; congr 1; omega) w hst;rw [hBA,hrun,Oper.upon_value];exact put a A v u' rfl (by rw [hBA]) (by rw [hm.defers,hBA]) (fun h=>by omega) (fun _=>⟨hst.trans hsu,hT⟩)
    ·exact J2 (fun v w1 hw1=>put a B v w1 rfl rfl hm.defers (fun _=>hw1) (fun h=>absurd h hk)) (fun d w1 hw1=>put { a with defers:=d :: a.defers } { B with defers:=d :: B.defers } undef w1 rfl rfl (by simp [hm.defers]) (fun _=>hw1) (fun h=>absurd h hk)) (hw2 (by omega))
theorem O8 {id:Nat} {Q:Exit->Act->World->Prop} {a:Act} {w:World} (n:Nat) (xs:List Nat) (hm:P.follows .mixedOrders=true) (hB:Js l n xs=true) (hdB:XL (l.take n) a.tmps.size=true)
  (h:∃ A,(∀ u,Yc w u->wpQuiet P l.toArray (fun w'=>∃ z:Aft u,w'=z.u) (fun a'=>a'=A) (l.take n) a)/\(∀ j o t,j<n->xs.contains j=true->l[j]?=some o->o.dst=some t->∀ u,(execOp A.eval o).run P u=.ok (.value (A.tmps.getD t undef)) u)/\∀ o,l[n]?=some o->∀ u,Yc w u->∃ v u',(execOp A.eval o).run P u=.ok (.value v) u'/\Yc u u'/\∀ u'',Yc u' u''->wpList P l.toArray (Nrm Q) (l.drop (n+1)) (A.put o.dst v) u'') :
  (Code.region id l.toArray true).wp P Q a w:=by
 obtain ⟨A,hwalk,hX,hS⟩:=h;have hB0:=hB;unfold Js at hB;simp only [Bool.and_eq_true,decide_eq_true_eq] at hB;obtain ⟨⟨⟨⟨hsel,hlow⟩,hnl⟩,hgood⟩,hall⟩:=hB;have hin:∀ o∈l.take n,o∈l.toArray:=fun o ho=>by simpa using List.mem_of_mem_take ho
 have hsel':∀ o∈l.toArray,∀ cs b,o.op ≠ .select cs b:=fun o ho cs b=>by
  obtain ⟨i,hi,e⟩:=Array.mem_iff_getElem.1 ho;exact Region.noSelect_spec hsel i o cs b (by rw [Array.getElem?_eq_getElem hi,e])
 have hmem:∀ j o,j<n->l[j]?=some o->o∈l.take n:=fun j o hj ho=>List.mem_iff_getElem?.2 ⟨j,by rw [List.getElem?_take_of_lt hj]; exact ho⟩;obtain ⟨⟨e1,e2,e3⟩,_⟩:=Xx hsel' (l.take n) a hin hgood hdB (hwalk w (Fr.refl _ _));refine wp_region_any hm ?_;have hst0:Yc w { w with drawn:=w.drawn+1 }:=(Fr.refl _ w).drew;have key:=WP (P:=P) (W:=w) (A:=A) (Q:=Q) hB0 hS hX (fun j o hj ho u hu t ht=>(Xx hsel' (l.take n) a hin hgood hdB (hwalk u hu)).2 o (hmem j o hj ho) t ht) l.length (Array.replicate l.length false) a { w with drawn:=w.drawn+1 } 0 A (by simp) (VS (Nat.le_refl _))
  ⟨e1.symm,e2.symm,fun t ht=>(e3 t fun o ho e=>?_).symm,fun _ _=>rfl,by omega,fun i hi hil=>by simp [hil]; omega,fun h=>by omega,fun _=>rfl,fun _=>hst0,fun h=>by omega,fun h=>by omega,rfl,fun i j hi _ _ hl=>by simp [hi] at hl⟩
 ·simpa using key
 ·obtain ⟨j,hj,e4⟩:=List.mem_iff_getElem.1 ho;have hjn:j<n:=by simp at hj; omega
  have:=ht j o hjn (by rw [<- List.getElem?_take_of_lt hjn,List.getElem?_eq_getElem hj,e4]) e;simp [show j<l.length by omega] at this
end
end Go.Proofs.YthcjckgmdokmdaaGreatDoor
