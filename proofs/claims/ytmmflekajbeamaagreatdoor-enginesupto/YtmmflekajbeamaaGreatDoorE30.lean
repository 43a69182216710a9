/- Texts of ours, joined, in few bytes. -/
import Derived.Test.YtmmflekajbeamaaGreatDoorE28
import Derived.Test.YtmmflekajbeamaaGreatDoorE29
open Array renaming getElem?_modify->sO
open Go.Ending renaming returned->kS
open Go.IntKind renaming i64->Gv
open Go.Obj renaming cells->RD
open Go.Proofs.Tryz renaming prog->au
open Go.RowKit renaming Below->ak,intOf->aI
open Go.RowKit.Below renaming refl->aA
open Go.Value renaming bool->lV,int->cI,slice->mQ,string->tZ
open Go.World renaming cell?->cU,frozen?->ij,ownsRow_nil->j7,setCell->qP
open Go renaming below_drewN->dH,heap_alloc_new->bg
open List renaming length_append->dK
open Nat renaming le_refl->ax,le_trans->aT,reduceAdd->JH,zero_add->ol,zero_le->bK
namespace Go.Proofs.YtmmflekajbeamaaGreatDoor
set_option maxRecDepth 100000
set_option maxHeartbeats 8000000
open Go.RowKit Go.Maps Go.WideMaps
theorem tM.up {E R:Nat} {g:ay} {v:Nat->Value} {w:World} {t0 t1:ByteArray} {r':aN} {wr w2:World} (h:tM E R g v w t0 t1 r' wr) (hb:ak wr.heap.size wr w2):tM E R g v w t0 t1 r' w2:=
 ⟨h.k.up hb,h.f.trans (eK.bh hb),(hb.block _ h.lt).trans h.r0⟩
theorem uJ {w:World} {x a c:Nat} {b:Bool} {u:Value} {t:TypeId} (r:w.heap[x]? =some (.cells (bJ a b c u) t (0,0))):(w.cell? ⟨x,0,none⟩=some (.int .i64 (a:Int))∧w.cell? ⟨x,1,none⟩=some (.bool b)∧w.cell? ⟨x,2,none⟩=some (.int .i64 (c:Int))∧w.cell? ⟨x,3,none⟩=some u)∧∀j,w.frozen? ⟨x,j,none⟩=false:=by
 refine ⟨⟨?_,?_,?_,?_⟩,fun j=>?_⟩<;>first | simp [cU,r,bJ] | simp [ij,r]
theorem arC (E R:Nat) (g:ay) (r:aN) (v:Nat->Value) (w:World) (h:dL E R g r v w) (hok:oG g) (hp:iO g) (hr:lA r 7):
 Calls au 129 #[.pointer (some ⟨E,0,none⟩)] w (DA E R v w (gC cC g r).1 (gC cC g r).2.1 (gC cC g r).2.2):=by
 have HH:=af h;have fK:=af hok;have HP:=af hp;have gR:Hid (R<w.heap.size):=h.dv.lt;have mg:Hid (∀x,cX E v x->x<w.heap.size):=fun x q=>(h.eg.has q).2;have Ds:Hid (∀r' w',dL E R g r' v w'->w'.cell? ⟨E,0,none⟩=some (.pointer (some ⟨R,0,none⟩))):=fun r' w' k=>k.eg.sc 0 (.inl (by decide));have p7:Hid (lA (bG r 0).2 6):=hr.sync (n:=6) _;have yR:Hid (lA (bG (bG r 0).2 1).2 5):=p7.out.sync (n:=5) _;have iL:Hid (lA (fq (bG (bG r 0).2 1).2 0).2.2 4):=yR.out.read (n:=4) _;have BZ:Hid (lA (fq (fq (bG (bG r 0).2 1).2 0).2.2 1).2.2 3):=iL.out.read (n:=3) _;have Iy:=af (fun w' (h':cO R r w')=>KO R r 0 w' h' hr.use.1 hr.use.2);have E6:=af (fun w' (h':cO R (bG r 0).2 w')=>KO R _ 1 w' h' p7.out.use.1 p7.out.use.2);have xx:=af (fun w' (h':cO R (bG (bG r 0).2 1).2 w')=>Tr R _ 0 w' h' yR.out.use.1 yR.out.use.2);have BL:=af (fun w' (h':cO R (fq (bG (bG r 0).2 1).2 0).2.2 w')=>Tr R _ 1 w' h' iL.out.use.1 iL.out.use.2);have hl0:(fq (bG (bG r 0).2 1).2 0).1.length<=1500:=by
  have hg:=yR.out.1 0 (by decide);generalize (bG (bG r 0).2 1).2=q at *;unfold fq;split
  ·exact bK _
  ·split
   ·exact bK _
   ·show (q.l 0 ++ q.t 0).length<=1500
    rw [dK];exact hg
 have hl1:(fq (fq (bG (bG r 0).2 1).2 0).2.2 1).1.length<=1500:=by
  have hg:=iL.out.1 1 (by decide);generalize (fq (bG (bG r 0).2 1).2 0).2.2=q at *;unfold fq;split
  ·exact bK _
  ·split
   ·exact bK _
   ·show (q.l 1 ++ q.t 1).length<=1500
    rw [dK];exact hg
 have B6:=af hl0;have rH:=af hl1;obtain ⟨RR,mh⟩:∃RR,RR=gC cC g r:=⟨_,rfl⟩;rw [<-mh];unfold gC at mh;rw [Wj] at mh;have jA:=af mh;clear mh h hok hp hr hl0 hl1;generalize hq0:bG r 0=q0 at *;obtain ⟨a1,r1⟩:=q0;simp only at p7 yR iL BZ Iy E6 xx BL B6 rH jA;generalize uj:bG r1 1=q1 at *;obtain ⟨a2,r2⟩:=q1;simp only at yR iL BZ E6 xx BL B6 rH jA;generalize qn:fq r2 0=q2 at *;obtain ⟨x1,a3,r3⟩:=q2;simp only at iL BZ xx BL B6 rH jA;generalize hq3:fq r3 1=q3 at *;obtain ⟨x2,a4,r4⟩:=q3;simp only at BZ BL rH jA;clear hq0 uj qn hq3 p7 yR iL;obtain ⟨W0,bq⟩:∃W0,W0=w.alloc (.cells (dl ⟨#[]⟩ ⟨#[]⟩) 177):=⟨_,rfl⟩;have H8:=af (tM.new HH.out W0 bq);have fV:=af bq;clear bq;go_enter Tryz.func129,Tryz.ntmps129;go_wp2_with fail
 rw [show w.alloc (RD #[tZ ⟨#[]⟩,tZ ⟨#[]⟩] 177)=W0 from fV.out.symm];go_loopw [4] (fun i wr=>∃rq t0 t1,Hid (tM E R g v w t0 t1 rq wr)∧((i= .int .i64 0∧rq=r∧t0=⟨#[]⟩∧t1=⟨#[]⟩)∨(i= .int .i64 1∧rq=r1∧a1=0∧t0=⟨#[]⟩∧t1=⟨#[]⟩)∨(i= .int .i64 2∧rq=r2∧a1=0∧a2=0∧t0=⟨#[]⟩∧t1=⟨#[]⟩)∨(i= .int .i64 3∧rq=r3∧a1=0∧a2=0∧a3=0∧t0=ah x1∧t1=⟨#[]⟩)∨(i= .int .i64 4∧rq=r4∧a1=0∧a2=0∧a3=0∧a4=0∧t0=ah x1∧t1=ah x2))) (fun i _=>4 - (aI i).toNat)
 case atStart=>exact ⟨_,_,_,H8.out,.inl ⟨rfl,rfl,rfl,rfl⟩⟩
 case round=>
 clear H8;obtain ⟨rq,t0,t1,HI,⟨rfl,rfl,rfl,rfl⟩ | ⟨rfl,rfl,rfl,rfl,rfl⟩ | ⟨rfl,rfl,rfl,rfl,rfl,rfl⟩ | ⟨rfl,rfl,rfl,rfl,rfl,rfl,rfl⟩ | ⟨rfl,rfl,rfl,rfl,rfl,rfl,rfl,rfl⟩⟩:=hrel
 ·have c0:=Ds.out _ _ HI.out.k;go_wp2_with fail
  refine (aq Iy _ HI.out.k.dv).mono ?_;rintro e w1 ⟨rfl,hd1,hf1⟩;have iA:=af (HI.out.dev gR.out hd1 hf1);clear hd1 hf1 c0;by_cases ha:a1=0
  ·subst ha;go_wp2_with fail
   exact ⟨⟨_,_,_,iA.out,.inr (.inl ⟨rfl,rfl,trivial,rfl,rfl⟩)⟩,by simp [aI]⟩
  ·have HR:Hid (RR=(15,dg g,r1)):=by unfold Hid;rw [jA.out];simp [ha]
   have ha':(a1 == 0)=false:=by simpa using ha
   clear ha;go_wp2_with fail
   go_ret;rw [HR.out];exact ⟨rfl,v,g,iA.out.k,iA.out.f,fun e=>by cases e⟩
 ·have c0:=Ds.out _ _ HI.out.k;go_wp2_with fail
  refine (aq E6 _ HI.out.k.dv).mono ?_;rintro e w1 ⟨rfl,hd1,hf1⟩;have iA:=af (HI.out.dev gR.out hd1 hf1);clear hd1 hf1 c0;by_cases ha:a2=0
  ·subst ha;go_wp2_with fail
   exact ⟨⟨_,_,_,iA.out,.inr (.inr (.inl ⟨rfl,rfl,trivial,trivial,rfl,rfl⟩))⟩,by simp [aI]⟩
  ·have HR:Hid (RR=(15,dg g,r2)):=by unfold Hid;rw [jA.out];simp [ha]
   have ha':(a2 == 0)=false:=by simpa using ha
   clear ha;go_wp2_with fail
   go_ret;rw [HR.out];exact ⟨rfl,v,g,iA.out.k,iA.out.f,fun e=>by cases e⟩
 ·have c0:=Ds.out _ _ HI.out.k;go_wp2_with fail
  refine (aq xx _ HI.out.k.dv).mono ?_;rintro e w1 ⟨rfl,hd1,hf1⟩;have iA:=af (HI.out.dev gR.out hd1 hf1);have jB:=af (iA.out.text gR.out mg.out 0 (ah x1) (ah x1) ⟨#[]⟩ rfl);have q:=iA.out.r0;have s0:w1.cell? ⟨w.heap.size,0,none⟩=some (.string ⟨#[]⟩):=by simp [cU,q,dl]
  have g0:w1.frozen? ⟨w.heap.size,0,none⟩=false:=by simp [ij,q]
  clear hd1 hf1 c0 q;by_cases ha:a3=0
  ·subst ha;go_wp2_with fail
   exact ⟨⟨_,_,_,jB.out,.inr (.inr (.inr (.inl ⟨rfl,rfl,trivial,trivial,trivial,rfl,rfl⟩)))⟩,by simp [aI]⟩
  ·have HR:Hid (RR=(15,dg g,r3)):=by unfold Hid;rw [jA.out];simp [ha]
   have ha':(a3 == 0)=false:=by simpa using ha
   clear ha;go_wp2_with fail
   go_ret;rw [HR.out];exact ⟨rfl,v,g,jB.out.k,jB.out.f,fun e=>by cases e⟩
 ·have c0:=Ds.out _ _ HI.out.k;go_wp2_with fail
  refine (aq BL _ HI.out.k.dv).mono ?_;rintro e w1 ⟨rfl,hd1,hf1⟩;have iA:=af (HI.out.dev gR.out hd1 hf1);have jB:=af (iA.out.text gR.out mg.out 1 (ah x2) (ah x1) (ah x2) rfl);have q:=iA.out.r0;have s0:w1.cell? ⟨w.heap.size,1,none⟩=some (.string ⟨#[]⟩):=by simp [cU,q,dl]
  have g0:w1.frozen? ⟨w.heap.size,1,none⟩=false:=by simp [ij,q]
  clear hd1 hf1 c0 q;by_cases ha:a4=0
  ·subst ha;go_wp2_with fail
   exact ⟨⟨_,_,_,jB.out,.inr (.inr (.inr (.inr ⟨rfl,rfl,trivial,trivial,trivial,trivial,rfl,rfl⟩)))⟩,by simp [aI]⟩
  ·have HR:Hid (RR=(15,dg g,r4)):=by unfold Hid;rw [jA.out];simp [ha]
   have ha':(a4 == 0)=false:=by simpa using ha
   clear ha;go_wp2_with fail
   go_ret;rw [HR.out];exact ⟨rfl,v,g,jB.out.k,jB.out.f,fun e=>by cases e⟩
 ·replace jA:Hid (RR=mo cC g rq x1 x2):=by unfold Hid;rw [jA.out];simp
  have q:=HI.out.r0;have c0:wr.cell? ⟨w.heap.size,0,none⟩=some (.string (ah x1)):=by simp [cU,q,dl]
  have CN:Hid (∀w',Calls au 126 #[.string (ah x1)] w' (Dd (ah x1) w')):=fun w'=>aeU (ah x1) w' (by rw [bZ];have:=B6.out;omega);have ux:Hid (∀w',Calls au 126 #[.string (ah x2)] w' (Dd (ah x2) w')):=fun w'=>aeU (ah x2) w' (by rw [bZ];have:=rH.out;omega);have tH:=af (BM x1).1;have jW:=af (BM x2).1;have ae0:=af (BM x1).2;have ae1:=af (BM x2).2;have Bi:Hid ((scan x1).list.length<=1500):=aT (Iz x1) B6.out;have p5:Hid ((scan x2).list.length<=1500):=aT (Iz x2) rH.out;have uz:Hid ((ah x1).size=x1.length):=bZ _;have vE:Hid ((ah x2).size=x2.length):=bZ _;clear q Iy E6 xx BL;go_wp2_with fail
  refine (aq CN _).mono ?_;rintro e w1 ⟨hb1,u,rfl,hu⟩;rw [kG] at hu⊢;obtain ⟨ua,uc,rfl⟩:=bA hu;unfold bJ;go_upto_region 12 with fail
  have h01:w.heap.size<wr.heap.size:=HI.out.lt;have h12:wr.heap.size<=w1.heap.size:=hb1.size;have iA:=af (HI.out.up hb1);obtain ⟨W2,kK⟩:∃W2,W2=w1.alloc (.cells (bJ (scan x1).gen (scan x1).whole (scan x1).good (.slice ua (scan x1).list.length uc)) 175):=⟨_,rfl⟩;have hb2:ak w1.heap.size w1 W2:=by rw [kK];exact (aA _ _).alloc (ax _) _
  have hz2:W2.heap.size=w1.heap.size+1:=by rw [kK,aB]
  have jB:=af (iA.out.up hb2);have ae2:Hid (W2.heap[w1.heap.size]? =some (.cells (bJ (scan x1).gen (scan x1).whole (scan x1).good (.slice ua (scan x1).list.length uc)) 175 (0,0))):=by unfold Hid;rw [kK,bg]
  have HU2:=af (dX hu hb2);rw [show w1.alloc (RD #[cI Gv ((scan x1).gen:Int),lV (scan x1).whole,cI Gv ((scan x1).good:Int),mQ ua (scan x1).list.length uc] 175)=W2 from kK.symm];have q:=jB.out.r0;have c1:W2.cell? ⟨w.heap.size,1,none⟩=some (.string (ah x2)):=by simp [cU,q,dl]
  clear q hb1 hb2 hu kK CN c0 HI iA;go_wp2_with fail
  refine (aq ux _).mono ?_;rintro e w3 ⟨bn,y,rfl,hy⟩;rw [kG] at hy⊢;obtain ⟨ya,yc,rfl⟩:=bA hy;unfold bJ;go_upto_region 13 with fail
  have h23:W2.heap.size<=w3.heap.size:=bn.size;have Dg:=af (jB.out.up bn);obtain ⟨W4,mJ⟩:∃W4,W4=w3.alloc (.cells (bJ (scan x2).gen (scan x2).whole (scan x2).good (.slice ya (scan x2).list.length yc)) 175):=⟨_,rfl⟩;have fZ:ak w3.heap.size w3 W4:=by rw [mJ];exact (aA _ _).alloc (ax _) _
  have uh:W4.heap.size=w3.heap.size+1:=by rw [mJ,aB]
  have nZ:=af (Dg.out.up fZ);have Mx:Hid (W4.heap[w1.heap.size]? =some (.cells (bJ (scan x1).gen (scan x1).whole (scan x1).good (.slice ua (scan x1).list.length uc)) 175 (0,0))):=((fZ.block _ (by omega)).trans (bn.block _ (by omega))).trans ae2.out;have HrB:Hid (W4.heap[w3.heap.size]? =some (.cells (bJ (scan x2).gen (scan x2).whole (scan x2).good (.slice ya (scan x2).list.length yc)) 175 (0,0))):=by unfold Hid;rw [mJ,bg]
  have Qt:Hid (W4.ownsRow wr.heap.size 127 2 (.slice ua (scan x1).list.length uc) (scan x1).list.length (bR (scan x1).list)):=dX (dX HU2.out bn) fZ;have Jf:=af (dX hy fZ);rw [show w3.alloc (RD #[cI Gv ((scan x2).gen:Int),lV (scan x2).whole,cI Gv ((scan x2).good:Int),mQ ya (scan x2).list.length yc] 175)=W4 from mJ.symm];obtain ⟨⟨My,DB,Mz,MA⟩,fA⟩:=uJ Mx.out;obtain ⟨⟨MB,Ca,MC,MD⟩,fB⟩:=uJ HrB.out;have hEx:E<w.heap.size:=mg.out E (.inl rfl);have uK:¬w1.heap.size=E:=by omega
  have nEA:¬E=w1.heap.size:=by omega
  have nAB:¬w1.heap.size=w3.heap.size:=by omega
  have nBA:¬w3.heap.size=w1.heap.size:=by omega
  have nEB:¬E=w3.heap.size:=by omega
  have nBE:¬w3.heap.size=E:=by omega
  have eB:Hid (w1.heap.size≠w.heap.size∧w1.heap.size≠R∧R<w.heap.size∧w.heap.size<w1.heap.size∧w1.heap.size<wr.heap.size+(w1.heap.size - wr.heap.size)+1∧W2.heap.size=w1.heap.size+1∧W4.heap.size=w3.heap.size+1∧W2.heap.size<=w3.heap.size∧wr.heap.size<=w1.heap.size∧w.heap.size<wr.heap.size∧E<w.heap.size):=by have:=gR.out;unfold Hid;omega
  clear bn fZ hy mJ ux c1 jB Dg ae2 HU2 hz2 uh h01 h12 h23 hEx;cases rB:(scan x1).whole with
  | false=>
    cases je:(scan x2).whole with
    | false=>
      rw [rB] at DB;rw [je] at Ca;have dm:Hid (RR=cT cC {g with ar:=1,sz:=g.sz} rq 0):=by
       unfold Hid;rw [jA.out];unfold mo jY rf;simp [rB,je]
      have kx:=af (Fv E R g rq v 0 W4 nZ.out.k fK.out HP.out BZ.out);clear My Mz MA MB MC MD fA fB;go_wp2_with fail
      refine (aq kx).mono ?_;intro e w5 hp5;have HB:=af (DA.Mv (a:=1) (s:=g.sz) nZ.out.f hp5);obtain ⟨rfl,_⟩:=hp5;go_wp2_with fail
      go_ret;rw [dm.out];have hb:=HB.out;exact ⟨congrArg (fun n=>kS (cI .i64 n)) (Jd cC g rq 0 1 g.sz).1.symm,hb.2⟩
    | true=>
      rw [rB] at DB;rw [je] at Ca;have HC:Hid (jY (scan x1) (scan x2)=(1,(scan x2).gen)):=by
       have:=jW.out.wh je;unfold Hid jY rf;simp [rB,je,this]
      have hpos:0<(scan x2).gen:=jW.out.wh (by assumption);have dm:Hid (RR=if (scan x2).good<x2.length then cT cC (gB g 1 (scan x2) x2.length) rq 0 else (0,gB g 1 (scan x2) x2.length,rq)):=by
       unfold Hid;rw [jA.out];unfold mo;rw [HC.out,if_neg (show ¬(scan x2).gen=0 by omega)];rfl
      clear hpos;have Dt:=nZ.out.k.eg.sc 141 (.inr (.inl (by decide)));have z141:=nZ.out.k.eg.fz 141;generalize gF R g 141=Wl at *;have g0:=fA 0;have g1:=fA 1;have g2:=fA 2;have g3:=fA 3;clear fA fB;go_upto_region 19 with fail
      obtain ⟨W5,gE⟩:∃W5,W5=tG ((W4.setCell ⟨E,141,none⟩ (.int .i64 0)).setCell ⟨E,141,none⟩ (.int .i64 1)) w1.heap.size 0 (scan x2) (.slice ya (scan x2).list.length yc):=⟨_,rfl⟩;have Fx:=gE.symm;unfold tG at Fx;simp only [ol,JH,je] at Fx;rw [Fx];obtain ⟨k5,f5⟩:=nZ.out.k.set 141 (.inr (.inl (by decide))) {g with ar:=0} rfl rfl (Fu R g 0) (.int .i64 0) rfl;obtain ⟨yU,Fy⟩:=k5.set 141 (.inr (.inl (by decide))) {g with ar:=1} rfl rfl (Fu R {g with ar:=0} 1) (.int .i64 1) rfl;obtain ⟨vN,tO⟩:∃vN,vN=(W4.setCell ⟨E,141,none⟩ (.int .i64 0)).setCell ⟨E,141,none⟩ (.int .i64 1):=⟨_,rfl⟩;have Fz:∀x,x≠w1.heap.size->x≠E->W5.heap[x]? =W4.heap[x]?:=fun x q1 q2=>by rw [gE,Dl _ _ _ _ _ q1,bB q2,bB q2]
      have Cb:∀x,x≠w1.heap.size->W5.heap[x]? =vN.heap[x]?:=fun x q1=>by rw [gE,tO];exact Dl _ _ _ _ _ q1
      rw [<-tO] at yU Fy;have s5:W5.heap.size=W4.heap.size:=by rw [gE];unfold tG;simp only [fW]
      have ME:vN.heap.size=W4.heap.size:=by rw [tO];simp only [fW]
      have MF:dL E R {g with ar:=1} rq v W5:=⟨yU.eg.kept (fun x q=>Cb x (by have:=mg.out x q;have:=eB.out;omega)),yU.dv.up (by rw [s5,ME];exact ax _) (Cb R (by have:=eB.out;omega)),yU.lt⟩;have tP:W5.heap[w1.heap.size]? =some (.cells (bJ (scan x2).gen (scan x2).whole (scan x2).good (.slice ya (scan x2).list.length yc)) 175 (0,0)):=by
       have q:vN.heap[w1.heap.size]? =some (.cells (bJ (scan x1).gen (scan x1).whole (scan x1).good (.slice ua (scan x1).list.length uc)) 175 (0,0)):=by rw [tO,bB uK,bB uK];exact Mx.out
       rw [gE,<-tO];unfold tG;simp [qP,sO,q,bJ]
      have hch:ak w1.heap.size vN W5:=by rw [gE,tO];exact PO (aA _ _) 0 _ _
      have xw:eK E R v v w W5:=by
       have q:=(nZ.out.f.trans f5).trans Fy;refine ⟨⟨hch.os.trans q.bD.os,hch.tape.trans q.bD.tape,hch.output.trans q.bD.output,aT q.bD.size hch.size,fun x hx hn=>?_⟩,q.eo⟩;exact (Cb x (by have:=eB.out;omega)).trans (q.bD.other x hx hn)
      have rz:W5.heap[w.heap.size]? =some (.cells (dl (ah x1) (ah x2)) 177 (0,0)):=(Fz _ (by have:=eB.out;omega) (by have:=eB.out;omega)).trans nZ.out.r0;have o5:W5.ownsRow W2.heap.size 127 2 (.slice ya (scan x2).list.length yc) (scan x2).list.length (bR (scan x2).list):=dz Jf.out (fun x q=>Fz x (by have:=(aR Jf.out x q).1;have:=eB.out;omega) (by have:=(aR Jf.out x q).1;have:=eB.out;omega));clear k5 f5 yU Fy Fz Cb ME hch tO;have k5:=MF;clear MF;have Dr:=k5.eg.sc 142 (.inr (.inl (by decide)));have FA:=k5.eg.fz 142;have BO:=k5.eg.sc 143 (.inr (.inl (by decide)));have z143:=k5.eg.fz 143;generalize gF R {g with ar:=1} 142=Wm at *;generalize gF R {g with ar:=1} 143=Wn at *;obtain ⟨⟨a0,FB,FC,FD⟩,_⟩:=uJ tP;have gV:=af k5;have sJ:=af xw;have FE:=af tP;have FF:=af rz;have jf:=af o5;have FH:=af s5;clear k5 xw tP rz o5 s5 gE Dt z141 My DB Mz MA MB Ca MC MD;go_upto_region 21 with fail
      obtain ⟨W6,iU⟩:∃W6,W6=(W5.setCell ⟨E,142,none⟩ (.int .i64 ((scan x2).gen:Int))).setCell ⟨E,143,none⟩ (.int .i64 ((scan x2).good:Int)):=⟨_,rfl⟩;rw [<-iU];obtain ⟨k6,f6⟩:=gV.out.set 142 (.inr (.inl (by decide))) {g with ar:=1,gn:=(scan x2).gen} rfl rfl (Mn R {g with ar:=1} (scan x2).gen) (.int .i64 ((scan x2).gen:Int)) rfl;obtain ⟨k7,f7⟩:=k6.set 143 (.inr (.inl (by decide))) {g with ar:=1,gn:=(scan x2).gen,sz:=(scan x2).good} rfl rfl (Ja R {g with ar:=1,gn:=(scan x2).gen} (scan x2).good) (.int .i64 ((scan x2).good:Int)) rfl;rw [<-iU] at k7 f7;have og:∀x,x≠E->W6.heap[x]? =W5.heap[x]?:=fun x q=>by rw [iU,bB q,bB q]
      have tQ:=(og w1.heap.size uK).trans FE.out;have uI:=(og w.heap.size (by have:=eB.out;omega)).trans FF.out;have o6:=dz jf.out (fun x q=>og x (by have:=(aR jf.out x q).1;have:=eB.out;omega));have s6:W6.heap.size=W4.heap.size:=by rw [iU,fW,fW];exact FH.out
      obtain ⟨⟨b0,b1,b2,b3⟩,_⟩:=uJ tQ;have rj:=k7.eg.ls 0 (by decide);have DC:=k7.eg.fz 144;have pK:=af (I9 0 _ (.slice none 0 0) (.slice ya (scan x2).list.length yc) [] (scan x2).list W6 (j7 _ _ _ _) o6 (by have:=p5.out;simp;omega));rw [Qp (fun x hx=>(jW.out.sh x hx).1)] at pK;have mK:=af k7;have oI:=af ((sJ.out.trans f6).trans f7);have FI:=af tQ;have FJ:=af uI;have ni:=af s6;clear k6 f6 k7 f7 tQ uI o6 og s6 iU a0 FB FC FD Dr FA BO z143;go_wp2_with fail
      refine (aq pK).mono ?_;rintro e w7 ⟨nv,rfl,nj,jH⟩;have k8:=mK.out.up jH;have FK:w7.cell? ⟨E,144,none⟩=some (v 0):=k8.eg.ls 0 (by decide);have FL:=k8.eg.fz 144;have jt:=af (k8.put (i:=0) (l:=dN (scan x2).list) (u:=nv) (by decide) (by have q:=nj;rw [ee] at q;exact Al q (by have:=ni.out;have:=eB.out;omega)) (fun x q j hj _ e=>by have h1:=(aR nj x q).1;have h2:=mg.out x (.inr ⟨j,hj,e⟩);have:=ni.out;have:=eB.out;omega) w.heap.size (fun x q=>by have h1:=(aR nj x q).1;have:=ni.out;have:=eB.out;omega) (w7.setCell ⟨E,144,none⟩ nv) rfl);have yV:=(jH.block w1.heap.size (by have:=ni.out;have:=eB.out;omega)).trans FI.out;have yX:=(jH.block w.heap.size (by have:=ni.out;have:=eB.out;omega)).trans FJ.out;obtain ⟨ta,tc,rfl⟩:=bA nj;clear rj DC b0 b1 b2 b3 k8;go_upto_region 22 with fail
      obtain ⟨W8,qg⟩:∃W8,W8=w7.setCell ⟨E,144,none⟩ (.slice ta (aG (dN (scan x2).list)).length tc):=⟨_,rfl⟩;rw [<-qg] at jt⊢;have rF:Hid (eK E R v (aE v 0 (.slice ta (aG (dN (scan x2).list)).length tc)) w W8):=⟨((oI.out.trans (eK.bh jH)).bD).trans (fun x q=>.inl (.inl q)) jt.out.2.1,jt.out.2.2⟩;have yY:=(show W8.heap[w1.heap.size]? =w7.heap[w1.heap.size]? from by rw [qg,bB uK]).trans yV;have yZ:=(show W8.heap[w.heap.size]? =w7.heap[w.heap.size]? from by rw [qg,bB (by have:=eB.out;omega)]).trans yX;obtain ⟨⟨b0,b1,b2,b3⟩,_⟩:=uJ yY;have Wo:W8.cell? ⟨w.heap.size,1,none⟩=some (.string (ah x2)):=by simp [cU,yZ,dl]
      have lT:Hid (dL E R (gB g 1 (scan x2) (scan x2).good) rq (aE v 0 (.slice ta (aG (dN (scan x2).list)).length tc)) W8):=jt.out.1;have Wp:W8.cell? ⟨E,141,none⟩=some (.int .i64 1):=lT.out.eg.sc 141 (.inr (.inl (by decide)));have FM:=af (IA fK.out (c:=1) (by decide) jW.out p5.out (scan x2).good);have fj:=af (HP.out.cur 1 (scan x2) (scan x2).good);clear yV yX yY yZ jH nj qg jt FK FL;by_cases hgl:(scan x2).good<x2.length
      ·have dW:Hid (RR=cT cC {gB g 1 (scan x2) (scan x2).good with ar:=1,sz:=x2.length} rq 0):=by unfold Hid;rw [dm.out,if_pos hgl];rfl
       have FO:((scan x2).good:Int)<((ah x2).size:Int):=by rw [vE.out];omega
       clear hgl;generalize Wq:W8=FP at *;go_quiet (fail)
       go_wp2_with fail
       have kx:=af (Fv E R _ rq _ 0 (FP.drewN nq) (lT.out.drewN nq) FM.out fj.out BZ.out);refine (aq kx).mono ?_;intro e w9 y9;have HB:=af (DA.Mv (a:=1) (s:=x2.length) (rF.out.trans (eK.bh (dH (aA _ _) nq))) y9);obtain ⟨rfl,_⟩:=y9;go_wp2_with fail
       go_ret;rw [dW.out];exact ⟨congrArg (fun n=>kS (cI .i64 n)) (Jd cC _ rq 0 1 x2.length).1.symm,HB.out.2⟩
      ·have hge:(scan x2).good=x2.length:=by have:=ae1.out;omega
       have dW:Hid (RR=(0,gB g 1 (scan x2) x2.length,rq)):=by unfold Hid;rw [dm.out,if_neg hgl]
       have FO:¬((scan x2).good:Int)<((ah x2).size:Int):=by rw [vE.out];omega
       have FQ:=af hge;clear hgl hge;go_quiet (fail)
       go_wp2_with fail
       go_ret;rw [dW.out];exact ⟨rfl,_,_,lT.out.drewN nq,rF.out.trans (eK.bh (dH (aA _ _) nq)),fun _=>by rw [FQ.out]⟩
  | true=>
    by_cases pG:(scan x2).whole=true∧(scan x1).gen<(scan x2).gen
    ·obtain ⟨je,hgt⟩:=pG;rw [rB] at DB;rw [je] at Ca;have abj:((scan x1).gen:Int)<((scan x2).gen:Int):=by omega
     have HC:Hid (jY (scan x1) (scan x2)=(1,(scan x2).gen)):=by
      unfold Hid jY rf;simp [rB,je,hgt]
     clear hgt;have hpos:0<(scan x2).gen:=jW.out.wh (by assumption);have dm:Hid (RR=if (scan x2).good<x2.length then cT cC (gB g 1 (scan x2) x2.length) rq 0 else (0,gB g 1 (scan x2) x2.length,rq)):=by
      unfold Hid;rw [jA.out];unfold mo;rw [HC.out,if_neg (show ¬(scan x2).gen=0 by omega)];rfl
     clear hpos;have Dt:=nZ.out.k.eg.sc 141 (.inr (.inl (by decide)));have z141:=nZ.out.k.eg.fz 141;generalize gF R g 141=Wl at *;have g0:=fA 0;have g1:=fA 1;have g2:=fA 2;have g3:=fA 3;clear fA fB;go_upto_region 19 with fail
     obtain ⟨W5,gE⟩:∃W5,W5=tG ((W4.setCell ⟨E,141,none⟩ (.int .i64 0)).setCell ⟨E,141,none⟩ (.int .i64 1)) w1.heap.size 0 (scan x2) (.slice ya (scan x2).list.length yc):=⟨_,rfl⟩;have Fx:=gE.symm;unfold tG at Fx;simp only [ol,JH,je] at Fx;rw [Fx];obtain ⟨k5,f5⟩:=nZ.out.k.set 141 (.inr (.inl (by decide))) {g with ar:=0} rfl rfl (Fu R g 0) (.int .i64 0) rfl;obtain ⟨yU,Fy⟩:=k5.set 141 (.inr (.inl (by decide))) {g with ar:=1} rfl rfl (Fu R {g with ar:=0} 1) (.int .i64 1) rfl;obtain ⟨vN,tO⟩:∃vN,vN=(W4.setCell ⟨E,141,none⟩ (.int .i64 0)).setCell ⟨E,141,none⟩ (.int .i64 1):=⟨_,rfl⟩;have Fz:∀x,x≠w1.heap.size->x≠E->W5.heap[x]? =W4.heap[x]?:=fun x q1 q2=>by rw [gE,Dl _ _ _ _ _ q1,bB q2,bB q2]
     have Cb:∀x,x≠w1.heap.size->W5.heap[x]? =vN.heap[x]?:=fun x q1=>by rw [gE,tO];exact Dl _ _ _ _ _ q1
     rw [<-tO] at yU Fy;have s5:W5.heap.size=W4.heap.size:=by rw [gE];unfold tG;simp only [fW]
     have ME:vN.heap.size=W4.heap.size:=by rw [tO];simp only [fW]
     have MF:dL E R {g with ar:=1} rq v W5:=⟨yU.eg.kept (fun x q=>Cb x (by have:=mg.out x q;have:=eB.out;omega)),yU.dv.up (by rw [s5,ME];exact ax _) (Cb R (by have:=eB.out;omega)),yU.lt⟩;have tP:W5.heap[w1.heap.size]? =some (.cells (bJ (scan x2).gen (scan x2).whole (scan x2).good (.slice ya (scan x2).list.length yc)) 175 (0,0)):=by
      have q:vN.heap[w1.heap.size]? =some (.cells (bJ (scan x1).gen (scan x1).whole (scan x1).good (.slice ua (scan x1).list.length uc)) 175 (0,0)):=by rw [tO,bB uK,bB uK];exact Mx.out
      rw [gE,<-tO];unfold tG;simp [qP,sO,q,bJ]
     have hch:ak w1.heap.size vN W5:=by rw [gE,tO];exact PO (aA _ _) 0 _ _
     have xw:eK E R v v w W5:=by
      have q:=(nZ.out.f.trans f5).trans Fy;refine ⟨⟨hch.os.trans q.bD.os,hch.tape.trans q.bD.tape,hch.output.trans q.bD.output,aT q.bD.size hch.size,fun x hx hn=>?_⟩,q.eo⟩;exact (Cb x (by have:=eB.out;omega)).trans (q.bD.other x hx hn)
     have rz:W5.heap[w.heap.size]? =some (.cells (dl (ah x1) (ah x2)) 177 (0,0)):=(Fz _ (by have:=eB.out;omega) (by have:=eB.out;omega)).trans nZ.out.r0;have o5:W5.ownsRow W2.heap.size 127 2 (.slice ya (scan x2).list.length yc) (scan x2).list.length (bR (scan x2).list):=dz Jf.out (fun x q=>Fz x (by have:=(aR Jf.out x q).1;have:=eB.out;omega) (by have:=(aR Jf.out x q).1;have:=eB.out;omega));clear k5 f5 yU Fy Fz Cb ME hch tO;have k5:=MF;clear MF;have Dr:=k5.eg.sc 142 (.inr (.inl (by decide)));have FA:=k5.eg.fz 142;have BO:=k5.eg.sc 143 (.inr (.inl (by decide)));have z143:=k5.eg.fz 143;generalize gF R {g with ar:=1} 142=Wm at *;generalize gF R {g with ar:=1} 143=Wn at *;obtain ⟨⟨a0,FB,FC,FD⟩,_⟩:=uJ tP;have gV:=af k5;have sJ:=af xw;have FE:=af tP;have FF:=af rz;have jf:=af o5;have FH:=af s5;clear k5 xw tP rz o5 s5 gE Dt z141 My DB Mz MA MB Ca MC MD;go_upto_region 21 with fail
     obtain ⟨W6,iU⟩:∃W6,W6=(W5.setCell ⟨E,142,none⟩ (.int .i64 ((scan x2).gen:Int))).setCell ⟨E,143,none⟩ (.int .i64 ((scan x2).good:Int)):=⟨_,rfl⟩;rw [<-iU];obtain ⟨k6,f6⟩:=gV.out.set 142 (.inr (.inl (by decide))) {g with ar:=1,gn:=(scan x2).gen} rfl rfl (Mn R {g with ar:=1} (scan x2).gen) (.int .i64 ((scan x2).gen:Int)) rfl;obtain ⟨k7,f7⟩:=k6.set 143 (.inr (.inl (by decide))) {g with ar:=1,gn:=(scan x2).gen,sz:=(scan x2).good} rfl rfl (Ja R {g with ar:=1,gn:=(scan x2).gen} (scan x2).good) (.int .i64 ((scan x2).good:Int)) rfl;rw [<-iU] at k7 f7;have og:∀x,x≠E->W6.heap[x]? =W5.heap[x]?:=fun x q=>by rw [iU,bB q,bB q]
     have tQ:=(og w1.heap.size uK).trans FE.out;have uI:=(og w.heap.size (by have:=eB.out;omega)).trans FF.out;have o6:=dz jf.out (fun x q=>og x (by have:=(aR jf.out x q).1;have:=eB.out;omega));have s6:W6.heap.size=W4.heap.size:=by rw [iU,fW,fW];exact FH.out
     obtain ⟨⟨b0,b1,b2,b3⟩,_⟩:=uJ tQ;have rj:=k7.eg.ls 0 (by decide);have DC:=k7.eg.fz 144;have pK:=af (I9 0 _ (.slice none 0 0) (.slice ya (scan x2).list.length yc) [] (scan x2).list W6 (j7 _ _ _ _) o6 (by have:=p5.out;simp;omega));rw [Qp (fun x hx=>(jW.out.sh x hx).1)] at pK;have mK:=af k7;have oI:=af ((sJ.out.trans f6).trans f7);have FI:=af tQ;have FJ:=af uI;have ni:=af s6;clear k6 f6 k7 f7 tQ uI o6 og s6 iU a0 FB FC FD Dr FA BO z143;go_wp2_with fail
     refine (aq pK).mono ?_;rintro e w7 ⟨nv,rfl,nj,jH⟩;have k8:=mK.out.up jH;have FK:w7.cell? ⟨E,144,none⟩=some (v 0):=k8.eg.ls 0 (by decide);have FL:=k8.eg.fz 144;have jt:=af (k8.put (i:=0) (l:=dN (scan x2).list) (u:=nv) (by decide) (by have q:=nj;rw [ee] at q;exact Al q (by have:=ni.out;have:=eB.out;omega)) (fun x q j hj _ e=>by have h1:=(aR nj x q).1;have h2:=mg.out x (.inr ⟨j,hj,e⟩);have:=ni.out;have:=eB.out;omega) w.heap.size (fun x q=>by have h1:=(aR nj x q).1;have:=ni.out;have:=eB.out;omega) (w7.setCell ⟨E,144,none⟩ nv) rfl);have yV:=(jH.block w1.heap.size (by have:=ni.out;have:=eB.out;omega)).trans FI.out;have yX:=(jH.block w.heap.size (by have:=ni.out;have:=eB.out;omega)).trans FJ.out;obtain ⟨ta,tc,rfl⟩:=bA nj;clear rj DC b0 b1 b2 b3 k8;go_upto_region 22 with fail
     obtain ⟨W8,qg⟩:∃W8,W8=w7.setCell ⟨E,144,none⟩ (.slice ta (aG (dN (scan x2).list)).length tc):=⟨_,rfl⟩;rw [<-qg] at jt⊢;have rF:Hid (eK E R v (aE v 0 (.slice ta (aG (dN (scan x2).list)).length tc)) w W8):=⟨((oI.out.trans (eK.bh jH)).bD).trans (fun x q=>.inl (.inl q)) jt.out.2.1,jt.out.2.2⟩;have yY:=(show W8.heap[w1.heap.size]? =w7.heap[w1.heap.size]? from by rw [qg,bB uK]).trans yV;have yZ:=(show W8.heap[w.heap.size]? =w7.heap[w.heap.size]? from by rw [qg,bB (by have:=eB.out;omega)]).trans yX;obtain ⟨⟨b0,b1,b2,b3⟩,_⟩:=uJ yY;have Wo:W8.cell? ⟨w.heap.size,1,none⟩=some (.string (ah x2)):=by simp [cU,yZ,dl]
     have lT:Hid (dL E R (gB g 1 (scan x2) (scan x2).good) rq (aE v 0 (.slice ta (aG (dN (scan x2).list)).length tc)) W8):=jt.out.1;have Wp:W8.cell? ⟨E,141,none⟩=some (.int .i64 1):=lT.out.eg.sc 141 (.inr (.inl (by decide)));have FM:=af (IA fK.out (c:=1) (by decide) jW.out p5.out (scan x2).good);have fj:=af (HP.out.cur 1 (scan x2) (scan x2).good);clear yV yX yY yZ jH nj qg jt FK FL;by_cases hgl:(scan x2).good<x2.length
     ·have dW:Hid (RR=cT cC {gB g 1 (scan x2) (scan x2).good with ar:=1,sz:=x2.length} rq 0):=by unfold Hid;rw [dm.out,if_pos hgl];rfl
      have FO:((scan x2).good:Int)<((ah x2).size:Int):=by rw [vE.out];omega
      clear hgl;generalize Wq:W8=FP at *;go_quiet (fail)
      go_wp2_with fail
      have kx:=af (Fv E R _ rq _ 0 (FP.drewN nq) (lT.out.drewN nq) FM.out fj.out BZ.out);refine (aq kx).mono ?_;intro e w9 y9;have HB:=af (DA.Mv (a:=1) (s:=x2.length) (rF.out.trans (eK.bh (dH (aA _ _) nq))) y9);obtain ⟨rfl,_⟩:=y9;go_wp2_with fail
      go_ret;rw [dW.out];exact ⟨congrArg (fun n=>kS (cI .i64 n)) (Jd cC _ rq 0 1 x2.length).1.symm,HB.out.2⟩
     ·have hge:(scan x2).good=x2.length:=by have:=ae1.out;omega
      have dW:Hid (RR=(0,gB g 1 (scan x2) x2.length,rq)):=by unfold Hid;rw [dm.out,if_neg hgl]
      have FO:¬((scan x2).good:Int)<((ah x2).size:Int):=by rw [vE.out];omega
      have FQ:=af hge;clear hgl hge;go_quiet (fail)
      go_wp2_with fail
      go_ret;rw [dW.out];exact ⟨rfl,_,_,lT.out.drewN nq,rF.out.trans (eK.bh (dH (aA _ _) nq)),fun _=>by rw [FQ.out]⟩
    ·have HC:Hid (jY (scan x1) (scan x2)=(0,(scan x1).gen)):=by
      unfold Hid jY rf;rw [if_pos rB,if_neg pG]
     rw [rB] at DB;cases je:(scan x2).whole with
     | false=>
       rw [je] at Ca;have hpos:0<(scan x1).gen:=tH.out.wh (by assumption);have dm:Hid (RR=if (scan x1).good<x1.length then cT cC (gB g 0 (scan x1) x1.length) rq 1 else (0,gB g 0 (scan x1) x1.length,rq)):=by
        unfold Hid;rw [jA.out];unfold mo;rw [HC.out,if_neg (show ¬(scan x1).gen=0 by omega)];rfl
       clear hpos;have Dt:=nZ.out.k.eg.sc 141 (.inr (.inl (by decide)));have z141:=nZ.out.k.eg.fz 141;generalize gF R g 141=Wl at *;have g0:=fA 0;have g1:=fA 1;have g2:=fA 2;have g3:=fA 3;clear fA fB;go_upto_region 19 with fail
       obtain ⟨W5,gE⟩:∃W5,W5=W4.setCell ⟨E,141,none⟩ (.int .i64 0):=⟨_,rfl⟩;rw [<-gE];obtain ⟨k5,f5⟩:=nZ.out.k.set 141 (.inr (.inl (by decide))) {g with ar:=0} rfl rfl (Fu R g 0) (.int .i64 0) rfl;rw [<-gE] at k5 f5;have tP:W5.heap[w1.heap.size]? =some (.cells (bJ (scan x1).gen (scan x1).whole (scan x1).good (.slice ua (scan x1).list.length uc)) 175 (0,0)):=by rw [gE,bB uK];exact Mx.out
       have xw:eK E R v v w W5:=nZ.out.f.trans f5;have rz:W5.heap[w.heap.size]? =some (.cells (dl (ah x1) (ah x2)) 177 (0,0)):=by rw [gE,bB (by have:=eB.out;omega)];exact nZ.out.r0
       have o5:W5.ownsRow wr.heap.size 127 2 (.slice ua (scan x1).list.length uc) (scan x1).list.length (bR (scan x1).list):=dz Qt.out (fun x q=>by rw [gE];exact bB (by have:=(aR Qt.out x q).1;have:=eB.out;omega));have s5:W5.heap.size=W4.heap.size:=by rw [gE,fW]
       have Dr:=k5.eg.sc 142 (.inr (.inl (by decide)));have FA:=k5.eg.fz 142;have BO:=k5.eg.sc 143 (.inr (.inl (by decide)));have z143:=k5.eg.fz 143;generalize gF R {g with ar:=0} 142=Wm at *;generalize gF R {g with ar:=0} 143=Wn at *;obtain ⟨⟨a0,FB,FC,FD⟩,_⟩:=uJ tP;have gV:=af k5;have sJ:=af xw;have FE:=af tP;have FF:=af rz;have jf:=af o5;have FH:=af s5;clear k5 xw tP rz o5 s5 gE Dt z141 My DB Mz MA MB Ca MC MD;go_upto_region 21 with fail
       obtain ⟨W6,iU⟩:∃W6,W6=(W5.setCell ⟨E,142,none⟩ (.int .i64 ((scan x1).gen:Int))).setCell ⟨E,143,none⟩ (.int .i64 ((scan x1).good:Int)):=⟨_,rfl⟩;rw [<-iU];obtain ⟨k6,f6⟩:=gV.out.set 142 (.inr (.inl (by decide))) {g with ar:=0,gn:=(scan x1).gen} rfl rfl (Mn R {g with ar:=0} (scan x1).gen) (.int .i64 ((scan x1).gen:Int)) rfl;obtain ⟨k7,f7⟩:=k6.set 143 (.inr (.inl (by decide))) {g with ar:=0,gn:=(scan x1).gen,sz:=(scan x1).good} rfl rfl (Ja R {g with ar:=0,gn:=(scan x1).gen} (scan x1).good) (.int .i64 ((scan x1).good:Int)) rfl;rw [<-iU] at k7 f7;have og:∀x,x≠E->W6.heap[x]? =W5.heap[x]?:=fun x q=>by rw [iU,bB q,bB q]
       have tQ:=(og w1.heap.size uK).trans FE.out;have uI:=(og w.heap.size (by have:=eB.out;omega)).trans FF.out;have o6:=dz jf.out (fun x q=>og x (by have:=(aR jf.out x q).1;have:=eB.out;omega));have s6:W6.heap.size=W4.heap.size:=by rw [iU,fW,fW];exact FH.out
       obtain ⟨⟨b0,b1,b2,b3⟩,_⟩:=uJ tQ;have rj:=k7.eg.ls 0 (by decide);have DC:=k7.eg.fz 144;have pK:=af (I9 0 _ (.slice none 0 0) (.slice ua (scan x1).list.length uc) [] (scan x1).list W6 (j7 _ _ _ _) o6 (by have:=Bi.out;simp;omega));rw [Qp (fun x hx=>(tH.out.sh x hx).1)] at pK;have mK:=af k7;have oI:=af ((sJ.out.trans f6).trans f7);have FI:=af tQ;have FJ:=af uI;have ni:=af s6;clear k6 f6 k7 f7 tQ uI o6 og s6 iU a0 FB FC FD Dr FA BO z143;go_wp2_with fail
       refine (aq pK).mono ?_;rintro e w7 ⟨nv,rfl,nj,jH⟩;have k8:=mK.out.up jH;have FK:w7.cell? ⟨E,144,none⟩=some (v 0):=k8.eg.ls 0 (by decide);have FL:=k8.eg.fz 144;have jt:=af (k8.put (i:=0) (l:=dN (scan x1).list) (u:=nv) (by decide) (by have q:=nj;rw [ee] at q;exact Al q (by have:=ni.out;have:=eB.out;omega)) (fun x q j hj _ e=>by have h1:=(aR nj x q).1;have h2:=mg.out x (.inr ⟨j,hj,e⟩);have:=ni.out;have:=eB.out;omega) w.heap.size (fun x q=>by have h1:=(aR nj x q).1;have:=ni.out;have:=eB.out;omega) (w7.setCell ⟨E,144,none⟩ nv) rfl);have yV:=(jH.block w1.heap.size (by have:=ni.out;have:=eB.out;omega)).trans FI.out;have yX:=(jH.block w.heap.size (by have:=ni.out;have:=eB.out;omega)).trans FJ.out;obtain ⟨ta,tc,rfl⟩:=bA nj;clear rj DC b0 b1 b2 b3 k8;go_upto_region 22 with fail
       obtain ⟨W8,qg⟩:∃W8,W8=w7.setCell ⟨E,144,none⟩ (.slice ta (aG (dN (scan x1).list)).length tc):=⟨_,rfl⟩;rw [<-qg] at jt⊢;have rF:Hid (eK E R v (aE v 0 (.slice ta (aG (dN (scan x1).list)).length tc)) w W8):=⟨((oI.out.trans (eK.bh jH)).bD).trans (fun x q=>.inl (.inl q)) jt.out.2.1,jt.out.2.2⟩;have yY:=(show W8.heap[w1.heap.size]? =w7.heap[w1.heap.size]? from by rw [qg,bB uK]).trans yV;have yZ:=(show W8.heap[w.heap.size]? =w7.heap[w.heap.size]? from by rw [qg,bB (by have:=eB.out;omega)]).trans yX;obtain ⟨⟨b0,b1,b2,b3⟩,_⟩:=uJ yY;have Wo:W8.cell? ⟨w.heap.size,0,none⟩=some (.string (ah x1)):=by simp [cU,yZ,dl]
       have lT:Hid (dL E R (gB g 0 (scan x1) (scan x1).good) rq (aE v 0 (.slice ta (aG (dN (scan x1).list)).length tc)) W8):=jt.out.1;have Wp:W8.cell? ⟨E,141,none⟩=some (.int .i64 0):=lT.out.eg.sc 141 (.inr (.inl (by decide)));have FM:=af (IA fK.out (c:=0) (by decide) tH.out Bi.out (scan x1).good);have fj:=af (HP.out.cur 0 (scan x1) (scan x1).good);clear yV yX yY yZ jH nj qg jt FK FL;by_cases hgl:(scan x1).good<x1.length
       ·have dW:Hid (RR=cT cC {gB g 0 (scan x1) (scan x1).good with ar:=0,sz:=x1.length} rq 1):=by unfold Hid;rw [dm.out,if_pos hgl];rfl
        have FO:((scan x1).good:Int)<((ah x1).size:Int):=by rw [uz.out];omega
        clear hgl;generalize Wq:W8=FP at *;go_quiet (fail)
        go_wp2_with fail
        have kx:=af (Fv E R _ rq _ 1 (FP.drewN nq) (lT.out.drewN nq) FM.out fj.out BZ.out);refine (aq kx).mono ?_;intro e w9 y9;have HB:=af (DA.Mv (a:=0) (s:=x1.length) (rF.out.trans (eK.bh (dH (aA _ _) nq))) y9);obtain ⟨rfl,_⟩:=y9;go_wp2_with fail
        go_ret;rw [dW.out];exact ⟨congrArg (fun n=>kS (cI .i64 n)) (Jd cC _ rq 1 0 x1.length).1.symm,HB.out.2⟩
       ·have hge:(scan x1).good=x1.length:=by have:=ae0.out;omega
        have dW:Hid (RR=(0,gB g 0 (scan x1) x1.length,rq)):=by unfold Hid;rw [dm.out,if_neg hgl]
        have FO:¬((scan x1).good:Int)<((ah x1).size:Int):=by rw [uz.out];omega
        have FQ:=af hge;clear hgl hge;go_quiet (fail)
        go_wp2_with fail
        go_ret;rw [dW.out];exact ⟨rfl,_,_,lT.out.drewN nq,rF.out.trans (eK.bh (dH (aA _ _) nq)),fun _=>by rw [FQ.out]⟩
     | true=>
       rw [je] at Ca;have abj:¬((scan x1).gen:Int)<((scan x2).gen:Int):=fun q=>pG ⟨je,by omega⟩;have hpos:0<(scan x1).gen:=tH.out.wh (by assumption);have dm:Hid (RR=if (scan x1).good<x1.length then cT cC (gB g 0 (scan x1) x1.length) rq 1 else (0,gB g 0 (scan x1) x1.length,rq)):=by
        unfold Hid;rw [jA.out];unfold mo;rw [HC.out,if_neg (show ¬(scan x1).gen=0 by omega)];rfl
       clear hpos;have Dt:=nZ.out.k.eg.sc 141 (.inr (.inl (by decide)));have z141:=nZ.out.k.eg.fz 141;generalize gF R g 141=Wl at *;have g0:=fA 0;have g1:=fA 1;have g2:=fA 2;have g3:=fA 3;clear fA fB;go_upto_region 19 with fail
       obtain ⟨W5,gE⟩:∃W5,W5=W4.setCell ⟨E,141,none⟩ (.int .i64 0):=⟨_,rfl⟩;rw [<-gE];obtain ⟨k5,f5⟩:=nZ.out.k.set 141 (.inr (.inl (by decide))) {g with ar:=0} rfl rfl (Fu R g 0) (.int .i64 0) rfl;rw [<-gE] at k5 f5;have tP:W5.heap[w1.heap.size]? =some (.cells (bJ (scan x1).gen (scan x1).whole (scan x1).good (.slice ua (scan x1).list.length uc)) 175 (0,0)):=by rw [gE,bB uK];exact Mx.out
       have xw:eK E R v v w W5:=nZ.out.f.trans f5;have rz:W5.heap[w.heap.size]? =some (.cells (dl (ah x1) (ah x2)) 177 (0,0)):=by rw [gE,bB (by have:=eB.out;omega)];exact nZ.out.r0
       have o5:W5.ownsRow wr.heap.size 127 2 (.slice ua (scan x1).list.length uc) (scan x1).list.length (bR (scan x1).list):=dz Qt.out (fun x q=>by rw [gE];exact bB (by have:=(aR Qt.out x q).1;have:=eB.out;omega));have s5:W5.heap.size=W4.heap.size:=by rw [gE,fW]
       have Dr:=k5.eg.sc 142 (.inr (.inl (by decide)));have FA:=k5.eg.fz 142;have BO:=k5.eg.sc 143 (.inr (.inl (by decide)));have z143:=k5.eg.fz 143;generalize gF R {g with ar:=0} 142=Wm at *;generalize gF R {g with ar:=0} 143=Wn at *;obtain ⟨⟨a0,FB,FC,FD⟩,_⟩:=uJ tP;have gV:=af k5;have sJ:=af xw;have FE:=af tP;have FF:=af rz;have jf:=af o5;have FH:=af s5;clear k5 xw tP rz o5 s5 gE Dt z141 My DB Mz MA MB Ca MC MD;go_upto_region 21 with fail
       obtain ⟨W6,iU⟩:∃W6,W6=(W5.setCell ⟨E,142,none⟩ (.int .i64 ((scan x1).gen:Int))).setCell ⟨E,143,none⟩ (.int .i64 ((scan x1).good:Int)):=⟨_,rfl⟩;rw [<-iU];obtain ⟨k6,f6⟩:=gV.out.set 142 (.inr (.inl (by decide))) {g with ar:=0,gn:=(scan x1).gen} rfl rfl (Mn R {g with ar:=0} (scan x1).gen) (.int .i64 ((scan x1).gen:Int)) rfl;obtain ⟨k7,f7⟩:=k6.set 143 (.inr (.inl (by decide))) {g with ar:=0,gn:=(scan x1).gen,sz:=(scan x1).good} rfl rfl (Ja R {g with ar:=0,gn:=(scan x1).gen} (scan x1).good) (.int .i64 ((scan x1).good:Int)) rfl;rw [<-iU] at k7 f7;have og:∀x,x≠E->W6.heap[x]? =W5.heap[x]?:=fun x q=>by rw [iU,bB q,bB q]
       have tQ:=(og w1.heap.size uK).trans FE.out;have uI:=(og w.heap.size (by have:=eB.out;omega)).trans FF.out;have o6:=dz jf.out (fun x q=>og x (by have:=(aR jf.out x q).1;have:=eB.out;omega));have s6:W6.heap.size=W4.heap.size:=by rw [iU,fW,fW];exact FH.out
       obtain ⟨⟨b0,b1,b2,b3⟩,_⟩:=uJ tQ;have rj:=k7.eg.ls 0 (by decide);have DC:=k7.eg.fz 144;have pK:=af (I9 0 _ (.slice none 0 0) (.slice ua (scan x1).list.length uc) [] (scan x1).list W6 (j7 _ _ _ _) o6 (by have:=Bi.out;simp;omega));rw [Qp (fun x hx=>(tH.out.sh x hx).1)] at pK;have mK:=af k7;have oI:=af ((sJ.out.trans f6).trans f7);have FI:=af tQ;have FJ:=af uI;have ni:=af s6;clear k6 f6 k7 f7 tQ uI o6 og s6 iU a0 FB FC FD Dr FA BO z143;go_wp2_with fail
       refine (aq pK).mono ?_;rintro e w7 ⟨nv,rfl,nj,jH⟩;have k8:=mK.out.up jH;have FK:w7.cell? ⟨E,144,none⟩=some (v 0):=k8.eg.ls 0 (by decide);have FL:=k8.eg.fz 144;have jt:=af (k8.put (i:=0) (l:=dN (scan x1).list) (u:=nv) (by decide) (by have q:=nj;rw [ee] at q;exact Al q (by have:=ni.out;have:=eB.out;omega)) (fun x q j hj _ e=>by have h1:=(aR nj x q).1;have h2:=mg.out x (.inr ⟨j,hj,e⟩);have:=ni.out;have:=eB.out;omega) w.heap.size (fun x q=>by have h1:=(aR nj x q).1;have:=ni.out;have:=eB.out;omega) (w7.setCell ⟨E,144,none⟩ nv) rfl);have yV:=(jH.block w1.heap.size (by have:=ni.out;have:=eB.out;omega)).trans FI.out;have yX:=(jH.block w.heap.size (by have:=ni.out;have:=eB.out;omega)).trans FJ.out;obtain ⟨ta,tc,rfl⟩:=bA nj;clear rj DC b0 b1 b2 b3 k8;go_upto_region 22 with fail
       obtain ⟨W8,qg⟩:∃W8,W8=w7.setCell ⟨E,144,none⟩ (.slice ta (aG (dN (scan x1).list)).length tc):=⟨_,rfl⟩;rw [<-qg] at jt⊢;have rF:Hid (eK E R v (aE v 0 (.slice ta (aG (dN (scan x1).list)).length tc)) w W8):=⟨((oI.out.trans (eK.bh jH)).bD).trans (fun x q=>.inl (.inl q)) jt.out.2.1,jt.out.2.2⟩;have yY:=(show W8.heap[w1.heap.size]? =w7.heap[w1.heap.size]? from by rw [qg,bB uK]).trans yV;have yZ:=(show W8.heap[w.heap.size]? =w7.heap[w.heap.size]? from by rw [qg,bB (by have:=eB.out;omega)]).trans yX;obtain ⟨⟨b0,b1,b2,b3⟩,_⟩:=uJ yY;have Wo:W8.cell? ⟨w.heap.size,0,none⟩=some (.string (ah x1)):=by simp [cU,yZ,dl]
       have lT:Hid (dL E R (gB g 0 (scan x1) (scan x1).good) rq (aE v 0 (.slice ta (aG (dN (scan x1).list)).length tc)) W8):=jt.out.1;have Wp:W8.cell? ⟨E,141,none⟩=some (.int .i64 0):=lT.out.eg.sc 141 (.inr (.inl (by decide)));have FM:=af (IA fK.out (c:=0) (by decide) tH.out Bi.out (scan x1).good);have fj:=af (HP.out.cur 0 (scan x1) (scan x1).good);clear yV yX yY yZ jH nj qg jt FK FL;by_cases hgl:(scan x1).good<x1.length
       ·have dW:Hid (RR=cT cC {gB g 0 (scan x1) (scan x1).good with ar:=0,sz:=x1.length} rq 1):=by unfold Hid;rw [dm.out,if_pos hgl];rfl
        have FO:((scan x1).good:Int)<((ah x1).size:Int):=by rw [uz.out];omega
        clear hgl;generalize Wq:W8=FP at *;go_quiet (fail)
        go_wp2_with fail
        have kx:=af (Fv E R _ rq _ 1 (FP.drewN nq) (lT.out.drewN nq) FM.out fj.out BZ.out);refine (aq kx).mono ?_;intro e w9 y9;have HB:=af (DA.Mv (a:=0) (s:=x1.length) (rF.out.trans (eK.bh (dH (aA _ _) nq))) y9);obtain ⟨rfl,_⟩:=y9;go_wp2_with fail
        go_ret;rw [dW.out];exact ⟨congrArg (fun n=>kS (cI .i64 n)) (Jd cC _ rq 1 0 x1.length).1.symm,HB.out.2⟩
       ·have hge:(scan x1).good=x1.length:=by have:=ae0.out;omega
        have dW:Hid (RR=(0,gB g 0 (scan x1) x1.length,rq)):=by unfold Hid;rw [dm.out,if_neg hgl]
        have FO:¬((scan x1).good:Int)<((ah x1).size:Int):=by rw [uz.out];omega
        have FQ:=af hge;clear hgl hge;go_quiet (fail)
        go_wp2_with fail
        go_ret;rw [dW.out];exact ⟨rfl,_,_,lT.out.drewN nq,rF.out.trans (eK.bh (dH (aA _ _) nq)),fun _=>by rw [FQ.out]⟩
end Go.Proofs.YtmmflekajbeamaaGreatDoor
