/- Texts of ours, joined, in few bytes. -/
import Derived.Test.YtmmflekajbeamaaGreatDoorE12
open Array renaming getElem?_eq_none->Jy,getElem?_eq_some_iff->iD,getElem?_toList->JF,length_toList->Jv
open Go.Builtin renaming append_->Rn
open Go renaming Calls->av,TypeId->cE,Value->aj,heap_alloc_new->bg,setRow_heap->uO,setRow_other->Nj
open Go.Proofs.Tryz renaming func34->JJ,ntmps34->JK,prog->au
open Go.Result renaming andThen->kN
open Go.RowKit renaming Below->ak
open Go.RowKit.Below renaming heap_alloc->cM,refl->aA
open Go.World renaming cell?_of_block->aP,frozen?_of_block->fS
open List renaming getElem?_append_left->jN,getElem?_append_right->lD,getElem?_eq_getElem->bE,getElem?_take->tW,getElem?_toArray->Rv,length_append->dK,length_take->ny,size_toArray->Gq
open Nat renaming le_add_right->mN,le_of_lt->iP,le_refl->ax,le_trans->aT,lt_of_lt_of_le->dB,mod_eq_of_lt->Gd,succ_le_succ->JL
namespace Go.Proofs.YtmmflekajbeamaaGreatDoor
set_option maxRecDepth 100000
set_option maxHeartbeats 2000000
open Go.RowKit
structure Pr where
 X:Nat
 D:Nat
 R:Nat
 vs:Nat->aj
 wk:Int
 us:Int
 en:Int
def Lk (p p':Pr):Prop:=(p'.wk=p.wk∧p'.us=p.us∧p'.en=p.en)∨(p'.wk=p.wk+1∧p'.us=0∧p'.en=p.en)
def Gh (p:Pr) (d:aL) (r:aN):Prop:=d.wk=p.wk∧r.us=p.us∧r.en=p.en
def Bd (p:Pr) (m:Nat):Prop:=0<=p.wk∧p.wk<=(m:Int)∧0<=p.en∧p.en<=(m:Int)
def Calm (p:Pr) (n:Nat) (w:World):Prop:=w.cell? ⟨p.D,4,none⟩=some (.int .i64 0)∧∀i,i<2->∃a l c,p.vs i= .slice a l c∧l<=n
theorem Pm {p:Pr} {d:aL} {n:Nat} {w:World} (h:cK p.D d p.vs w):Calm p n w↔d.tr=0∧∀i,i<2->(d.b i).length<=n:=by
 constructor
 ·rintro ⟨h1,h2⟩;refine ⟨?_,fun i hi=>?_⟩
  ·have q:=h.tr.symm.trans h1;have q2:((d.tr:Int))=0:=by injection q with q;injection q
   omega
  ·obtain ⟨a,l,c,e,hl⟩:=h2 i hi;obtain ⟨a',c',e'⟩:=bA (h.own i hi);rw [e] at e';cases e';exact hl
 ·rintro ⟨h1,h2⟩;refine ⟨by rw [h.tr,h1];rfl,fun i hi=>?_⟩;obtain ⟨a',c',e'⟩:=bA (h.own i hi);exact ⟨a',_,c',e',h2 i hi⟩
theorem Calm.up {p:Pr} {n:Nat} {w w':World} (h:Calm p n w) (hb:w'.heap[p.D]? =w.heap[p.D]?):Calm p n w':=⟨(aP hb).trans h.1,h.2⟩
theorem abN {p q:Pr} {d d':aL} {w W w2:World} (hb:ak w.heap.size w W) (hl:p.D<w.heap.size) (hd:cK p.D d p.vs W) (hd':cK q.D d' q.vs w2) (L:Nat) (ht:d.tr=0->d'.tr=0) (hlen:∀i,(d'.b i).length<=(d.b i).length+L) (n:Nat) (hc:Calm p n w):Calm q (n+L) w2:=by
 obtain ⟨h1,h2⟩:=(Pm hd).1 (hc.up (hb.block _ hl));exact (Pm hd').2 ⟨ht h1,fun i hi=>aT (hlen i) (Nat.add_le_add_right (h2 i hi) L)⟩
theorem akZ (d:aL) (i:Int) (s:List UInt8) (h:d.tr=0):(jv d i s).2.tr=0:=by
 have e:d.tick.tr=0:=by show d.tr - 1=0;omega
 unfold jv
 (repeat' split)<;>first | exact h | exact e
theorem ak0 (d:aL) (i:Int) (s:List UInt8) (j:Nat):((jv d i s).2.b j).length<=(d.b j).length+s.length:=by
 unfold jv
 (repeat' split)
 ·exact mN _ _
 ·exact mN _ _
 ·exact mN _ _
 ·show (aE d.b i.toNat (d.b i.toNat ++ s) j).length<=_
  unfold aE;split
  ·rename_i e;rw [e,dK];exact ax _
  ·exact mN _ _
theorem ak1 (d:aL) (i:Int) (h:d.tr=0):(dn d i).2.2.tr=0:=by
 have e:d.tick.tr=0:=by show d.tr - 1=0;omega
 unfold dn
 (repeat' split)<;>first | exact h | exact e
theorem ak2 (d:aL) (i:Int) (j:Nat):((dn d i).2.2.b j).length<=(d.b j).length:=by
 unfold dn
 (repeat' split)<;>exact ax _
def Pr.has (p:Pr) (g:Nat):Prop:=g=p.X∨g=p.D∨g=p.R∨∃i,i<2∧(p.vs i).ownBlock=some g
structure eH (p:Pr) (m:Nat) (w:World):Prop where
 st:∃d r,cK p.D d p.vs w∧cO p.R r w∧gS d r∧r.tu<=m∧Gh p d r
 bd:Bd p m
 x:kI p.X p.D w
 xlt:p.X<w.heap.size
 dx:p.D<p.X
 dr:p.D<p.R
 xr:p.X≠p.R
 own:∀i,i<2->∀g,(p.vs i).ownBlock=some g->g≠p.X∧g≠p.R
structure yt (p p':Pr) (w w':World):Prop where
 same:p'.X=p.X∧p'.D=p.D∧p'.R=p.R
 lk:Lk p p'
 below:ak p.D w w'
 other:∀g,g<w.heap.size->¬p.has g->w'.heap[g]? =w.heap[g]?
 own:∀g,p'.has g->p.has g∨w.heap.size<=g
theorem eH.lt {p:Pr} {m:Nat} {w:World} (h:eH p m w):∀g,p.has g->g<w.heap.size:=by
 obtain ⟨d,r,hd,hr,_,_,_⟩:=h.st;intro g hg;rcases hg with rfl | rfl | rfl | ⟨i,hi,e⟩
 ·exact h.xlt
 ·exact hd.lt
 ·exact hr.lt
 ·exact (Ab hd hi e).2
theorem eH.ge {p:Pr} {m:Nat} {w:World} (h:eH p m w):∀g,p.has g->p.D<=g:=by
 obtain ⟨d,r,hd,hr,_,_,_⟩:=h.st;intro g hg;have:=h.dx;have:=h.dr;rcases hg with rfl | rfl | rfl | ⟨i,hi,e⟩
 ·omega
 ·omega
 ·omega
 ·have:=(aR (hd.own i hi) g e).1;omega
theorem eH.up {p:Pr} {m:Nat} {w w':World} (h:eH p m w) (hs:w.heap.size<=w'.heap.size) (hb:∀g,p.has g->w'.heap[g]? =w.heap[g]?):eH p m w':=by
 obtain ⟨d,r,hd,hr,kJ,ht,gm⟩:=h.st;exact ⟨⟨d,r,hd.up hs (hb _ (.inr (.inl rfl))) (fun i hi g e=>hb g (.inr (.inr (.inr ⟨i,hi,e⟩)))),hr.up hs (hb _ (.inr (.inr (.inl rfl)))),kJ,ht,gm⟩,h.bd,(aP (hb _ (.inl rfl))).trans h.x,dB h.xlt hs,h.dx,h.dr,h.xr,h.own⟩
theorem eH.more {p:Pr} {m n:Nat} {w:World} (h:eH p m w) (hn:m<=n):eH p n w:=by
 obtain ⟨d,r,hd,hr,kJ,ht,gm⟩:=h.st;have hb:=h.bd;exact ⟨⟨d,r,hd,hr,kJ,aT ht hn,gm⟩,⟨hb.1,by have:=hb.2.1;omega,hb.2.2.1,by have:=hb.2.2.2;omega⟩,h.x,h.xlt,h.dx,h.dr,h.xr,h.own⟩
theorem yt.refl (p:Pr) (w:World):yt p p w w:=⟨⟨rfl,rfl,rfl⟩,.inl ⟨rfl,rfl,rfl⟩,aA _ _,fun _ _ _=>rfl,fun _ h=>.inl h⟩
theorem ak3 {p:Pr} {d:aL} {r:aN} {x y z:Nat} {vs:Nat->aj} (h:Gh p d r) (i:Int) (s:List UInt8):Lk p ⟨x,y,z,vs,(jv d i s).2.wk,(dF r i s).2.us,(dF r i s).2.en⟩:=by
 refine .inl ⟨?_,?_,?_⟩
 ·rw [<-h.1];show (jv d i s).2.wk=d.wk;unfold jv;(repeat' split)<;>rfl
 ·rw [<-h.2.1];show (dF r i s).2.us=r.us;unfold dF;(repeat' split)<;>rfl
 ·rw [<-h.2.2];show (dF r i s).2.en=r.en;unfold dF;(repeat' split)<;>rfl
theorem ak4 {p:Pr} {d:aL} {r:aN} {x y z:Nat} {vs:Nat->aj} (h:Gh p d r) (i:Int):Lk p ⟨x,y,z,vs,(jw d i).2.wk,(iy r i).2.us,(iy r i).2.en⟩:=by
 refine .inl ⟨?_,?_,?_⟩
 ·rw [<-h.1];show (jw d i).2.wk=d.wk;unfold jw;(repeat' split)<;>rfl
 ·rw [<-h.2.1];show (iy r i).2.us=r.us;unfold iy;(repeat' split)<;>rfl
 ·rw [<-h.2.2];show (iy r i).2.en=r.en;unfold iy;(repeat' split)<;>rfl
theorem ak5 {p:Pr} {d:aL} {r:aN} {x y z:Nat} {vs:Nat->aj} (h:Gh p d r) (i:Int):Lk p ⟨x,y,z,vs,(cG d i).2.wk,(bG r i).2.us,(bG r i).2.en⟩:=by
 refine .inl ⟨?_,?_,?_⟩
 ·rw [<-h.1];show (cG d i).2.wk=d.wk;unfold cG;(repeat' split)<;>rfl
 ·rw [<-h.2.1];show (bG r i).2.us=r.us;unfold bG;(repeat' split)<;>rfl
 ·rw [<-h.2.2];show (bG r i).2.en=r.en;unfold bG;(repeat' split)<;>rfl
theorem ak6 {p:Pr} {d:aL} {r:aN} {x y z:Nat} {vs:Nat->aj} (h:Gh p d r) (i:Int):Lk p ⟨x,y,z,vs,(dn d i).2.2.wk,(fq r i).2.2.us,(fq r i).2.2.en⟩:=by
 refine .inl ⟨?_,?_,?_⟩
 ·rw [<-h.1];show (dn d i).2.2.wk=d.wk;unfold dn;(repeat' split)<;>rfl
 ·rw [<-h.2.1];show (fq r i).2.2.us=r.us;unfold fq;(repeat' split)<;>rfl
 ·rw [<-h.2.2];show (fq r i).2.2.en=r.en;unfold fq;(repeat' split)<;>rfl
theorem ak7 {p:Pr} {d:aL} {r:aN} {x y z:Nat} {vs:Nat->aj} (h:Gh p d r) (i:Int):Lk p ⟨x,y,z,vs,(wW d i).2.wk,(qF r i).2.us,(qF r i).2.en⟩:=by
 refine .inl ⟨?_,?_,?_⟩
 ·rw [<-h.1];show (wW d i).2.wk=d.wk;unfold wW;(repeat' split)<;>rfl
 ·rw [<-h.2.1];show (qF r i).2.us=r.us;unfold qF;(repeat' split)<;>rfl
 ·rw [<-h.2.2];show (qF r i).2.en=r.en;unfold qF;(repeat' split)<;>rfl
theorem abO (r:aN) (keep:Int) (j:List UInt8):∀m,(l9 r keep j m).en=r.en
 | 0=>rfl
 | m+1=>by
   have:=abO r keep j m;unfold l9;exact this
theorem ak8 {p:Pr} {d:aL} {r:aN} {x y z m:Nat} {vs:Nat->aj} (h:Gh p d r) (hb:Bd p m) (hm:m<=1152921504606846976) (i:Int) (s:List UInt8):Lk p ⟨x,y,z,vs,(O3 d i s).wk,(KP r i s).us,(KP r i s).en⟩:=by
 obtain ⟨b1,b2,_,_⟩:=hb;refine .inr ⟨?_,rfl,?_⟩
 ·show wrap64 (d.wk+1)=p.wk+1
  rw [h.1];unfold wrap64;omega
 ·rw [<-h.2.2];show (l9 r i s 2).en=r.en
  exact abO r i s 2
theorem Ic {p:Pr} {m:Nat} {w w1:World} {r:aN} {vs':Nat->aj} (h:eH p m w) (hr:cO p.R r w) (hf:jh p.D p.vs vs' w w1):cO p.R r w1:=
 hr.up hf.below.size (hf.other p.R hr.lt (by have:=h.dr;omega) (fun i hi e=>(h.own i hi p.R e).2 rfl))
theorem Ie {p:Pr} {m:Nat} {w w1 w2:World} {d':aL} {r':aN} {vs':Nat->aj} (h:eH p m w) (hd:cK p.D d' vs' w1) (hf:jh p.D p.vs vs' w w1) (hr:cO p.R r' w2) (hg:fX p.R w1 w2) (hs:gS d' r') (ht:r'.tu<=m+1) (hk:Lk p ⟨p.X,p.D,p.R,vs',d'.wk,r'.us,r'.en⟩):
 eH ⟨p.X,p.D,p.R,vs',d'.wk,r'.us,r'.en⟩ (m+1) w2∧yt p ⟨p.X,p.D,p.R,vs',d'.wk,r'.us,r'.en⟩ w w2∧cK p.D d' vs' w2:=by
 have hbd:Bd ⟨p.X,p.D,p.R,vs',d'.wk,r'.us,r'.en⟩ (m+1):=by
  obtain ⟨b1,b2,b3,b4⟩:=h.bd;rcases hk with ⟨q1,q2,q3⟩ | ⟨q1,q2,q3⟩
  ·exact ⟨by rw [q1];exact b1,by rw [q1];omega,by rw [q3];exact b3,by rw [q3];omega⟩
  ·exact ⟨by rw [q1];omega,by rw [q1];omega,by rw [q3];exact b3,by rw [q3];omega⟩
 have hlt:=h.lt;have hR:p.R<w.heap.size:=hlt _ (.inr (.inr (.inl rfl)));have qU:∀i,i<2->∀g,(vs' i).ownBlock=some g->g≠p.X∧g≠p.R:=fun i hi g e=>by
  rcases hf.own i hi g e with q | q
  ·exact h.own i hi g q
  ·have:=h.xlt;omega
 have hx1:w1.heap[p.X]? =w.heap[p.X]?:=hf.other p.X h.xlt (by have:=h.dx;omega) (fun i hi e=>(h.own i hi p.X e).1 rfl);have hdv:=hd.up (by rw [hg.size];exact ax _) (hg.other _ (by have:=h.dr;show p.D≠p.R;omega)) (fun i hi g e=>hg.other g (qU i hi g e).2);refine ⟨⟨⟨d',r',hdv,hr,hs,ht,⟨rfl,rfl,rfl⟩⟩,hbd,?_,?_,h.dx,h.dr,h.xr,qU⟩,⟨⟨rfl,rfl,rfl⟩,hk,hf.below.trans (hg.below.mono (iP h.dr)),fun g hgl hn=>?_,fun g hh=>?_⟩,hdv⟩
 ·exact (aP ((hg.other _ h.xr).trans hx1)).trans h.x
 ·show p.X<w2.heap.size
  rw [hg.size];exact dB h.xlt hf.below.size
 ·refine (hg.other g (fun e=>hn (.inr (.inr (.inl e))))).trans (hf.other g hgl (fun e=>hn (.inr (.inl e))) (fun i hi e=>hn (.inr (.inr (.inr ⟨i,hi,e⟩)))))
 ·rcases hh with e | e | e | ⟨i,hi,e⟩
  ·exact .inl (.inl e)
  ·exact .inl (.inr (.inl e))
  ·exact .inl (.inr (.inr (.inl e)))
  ·rcases hf.own i hi g e with q | q
   ·exact .inl (.inr (.inr (.inr ⟨i,hi,q⟩)))
   ·exact .inr q
theorem yt.from {p p':Pr} {m:Nat} {w w1 w2:World} (h:eH p m w) (hb:ak w.heap.size w w1) (k:yt p p' w1 w2):yt p p' w w2:=by
 have hD:p.D<=w.heap.size:=iP (h.lt _ (.inr (.inl rfl)));refine ⟨k.same,k.lk,(hb.mono hD).trans k.below,fun g hg hn=>(k.other g (dB hg hb.size) hn).trans (hb.block g hg),fun g hg=>?_⟩;rcases k.own g hg with q | q
 ·exact .inl q
 ·exact .inr (aT hb.size q)
def aV (k on a b:Int) (s t:ByteArray) (z:List Int):Array aj:=#[.int .i64 k,.int .i64 on,.int .i64 a,.int .i64 b,.string s,.string t] ++ S z
theorem KR (k on a b:Int) (s t:ByteArray) (z:List Int):(aV k on a b s t z)[0]? =some (.int .i64 k)∧(aV k on a b s t z)[1]? =some (.int .i64 on)∧(aV k on a b s t z)[2]? =some (.int .i64 a)∧(aV k on a b s t z)[4]? =some (.string s):=by
 unfold aV;refine ⟨?_,?_,?_,?_⟩<;>(rw [Array.getElem?_append_left (by simp)];rfl)
def fI (p:Pr):Array aj:=#[.pointer (some ⟨p.X,0,none⟩),.pointer (some ⟨p.R,0,none⟩)]
def C4 (k:Int) (s:ByteArray) (p:Pr) (m:Nat) (w:World) (e':Ending) (w':World):Prop:=e'= .returned (.bool true)∧∃p',eH p' (m+1) w'∧yt p p' w w'∧(k=21∨k=24->∀n,Calm p n w->Calm p' (n+s.size) w')
structure Bx (p:Pr) (k a:Int) (s:ByteArray) (m:Nat) (w W:World):Prop where
 pr:eH p m W
 cA:ak w.heap.size w W
 size:W.heap.size=w.heap.size+2
 c0:W.cell? ⟨w.heap.size,0,none⟩=some (.pointer (some ⟨p.X,0,none⟩))
 c1:W.cell? ⟨w.heap.size,1,none⟩=some (.pointer (some ⟨p.R,0,none⟩))
 o0:W.cell? ⟨w.heap.size+1,0,none⟩=some (.int .i64 k)
 o2:W.cell? ⟨w.heap.size+1,2,none⟩=some (.int .i64 a)
 o4:W.cell? ⟨w.heap.size+1,4,none⟩=some (.string s)
theorem ES {p:Pr} {m:Nat} {w:World} (h:eH p m w) (k on a b:Int) (s t:ByteArray) (z:List Int) (W:World) (e:W=(w.alloc (.cells (fI p) 83)).alloc (.cells (aV k on a b s t z) 51)):Bx p k a s m w W:=by
 obtain ⟨W1,hW1⟩:∃W1,W1=w.alloc (.cells (fI p) 83):=⟨_,rfl⟩;rw [<-hW1] at e;have hs1:W1.heap.size=w.heap.size+1:=by rw [hW1,aB]
 have r1:W1.heap[w.heap.size]? =some (.cells (fI p) 83 (0,0)):=by rw [hW1,bg]
 have r2:W.heap[w.heap.size]? =some (.cells (fI p) 83 (0,0)):=by rw [e,cM W1 _ _ (by omega)];exact r1
 have ro:W.heap[w.heap.size+1]? =some (.cells (aV k on a b s t z) 51 (0,0)):=by rw [e,<-hs1,bg]
 have oA:W.heap.size=w.heap.size+2:=by rw [e,aB,hs1]
 have hb:ak w.heap.size w W:=by rw [e,hW1];exact ((aA _ _).alloc (ax _) _).alloc (by rw [aB];omega) _
 obtain ⟨o0,_,o2,o4⟩:=KR k on a b s t z;exact ⟨h.up hb.size (fun g hg=>hb.block g (h.lt g hg)),hb,oA,cF r2 0,cF r2 1,(cF ro 0).trans o0,(cF ro 2).trans o2,(cF ro 4).trans o4⟩
theorem Bx.keep {p:Pr} {k a:Int} {s:ByteArray} {m:Nat} {w W w1:World} {vs':Nat->aj} (h:Bx p k a s m w W) (hw:eH p m w) (hf:jh p.D p.vs vs' W w1) (g j:Nat) (hg:g=w.heap.size∨g=w.heap.size+1):w1.cell? ⟨g,j,none⟩=W.cell? ⟨g,j,none⟩:=by
 have hlt:=hw.lt;have hD:=hlt _ (.inr (.inl rfl));refine aP (hf.other g (by have:=h.size;omega) (by omega) (fun i hi e=>?_));have:=hlt g (.inr (.inr (.inr ⟨i,hi,e⟩)));omega
theorem ak9 (p:Pr) (m:Nat) (on a b:Int) (s t:ByteArray) (z:List Int) (w:World) (h:eH p m w) (hm:m<=1152921504606846976) (hs:s.size<=140737488351232):
 av au 34 #[.agg (fI p),.agg (aV 21 on a b s t z)] w (C4 21 s p m w):=by
 obtain ⟨W,hW⟩:∃W,W=(w.alloc (.cells (fI p) 83)).alloc (.cells (aV 21 on a b s t z) 51):=⟨_,rfl⟩;have HW:=af hW;have hB:=ES h 21 on a b s t z W hW;obtain ⟨d,r,hd,hr,kJ,htu,gm⟩:=hB.pr.st;have yu:=af gm;have c0:=hB.c0;have c1:=hB.c1;have o0:=hB.o0;have o2:=hB.o2;have o4:=hB.o4;have HB:=af hB;have HH:=af h;have HC:=af (akw p.X p.D d p.vs a s W hB.pr.x hd hs);have mG:=af (Pg kJ a (aC s));have lO:=af hr;have tA:=af hd;have su:=af kJ;have tB:=af htu;have HM:=af hm;have jR:=af (fun n w'=>uW n w');have tC:=af (rfl:fI p=fI p);clear h hB hd hr kJ htu gm hW hm;generalize hst:fI p=SV at *;generalize hop:aV 21 on a b s t z=OC at *;clear hst hop tC;go_enter JJ,JK;go_upto_region 3 with fail
 rw [<-HW.out];go_wp2_with fail
 refine (aq HC).mono ?_;rintro e w1 ⟨rfl,v1,hd1,hf1⟩;have k1:=(HB.out.keep HH.out hf1 w.heap.size 1 (.inl rfl)).trans c1;have k2:=(HB.out.keep HH.out hf1 (w.heap.size+1) 2 (.inr rfl)).trans o2;have k4:=(HB.out.keep HH.out hf1 (w.heap.size+1) 4 (.inr rfl)).trans o4;have hr1:=Ic HB.out.pr lO.out hf1;have jX:=af (Tq p.R r a s w1 hr1 (su.out.CY tA.out) (aT tB.out HM.out) hs);have sw:=af hd1;have p5:=af hf1;clear HC hd1 hf1 hr1 c0 c1 o0 o2 o4;go_wp2_with fail
 refine (aq jX).mono ?_;rintro e w2 ⟨rfl,eS,jx⟩;have HP:=af (Ie HB.out.pr sw.out p5.out eS jx (Pg su.out a (aC s)).2 (aT (Tx r a (aC s)) (JL tB.out)) (ak3 yu.out a (aC s)));clear jX eS jx k1 k2 k4;rw [mG.out.1];go_wp2_with fail
 refine (aq jR _ _).mono ?_;rintro e w' ⟨rfl,hw⟩;obtain rfl:=hw.symm;go_wp2_with fail
 go_ret;exact ⟨rfl,_,HP.out.1,HP.out.2.1.from HH.out HB.out.cA,fun _ n hc=>abN HB.out.cA (HH.out.lt _ (.inr (.inl rfl))) tA.out HP.out.2.2 s.size (akZ d a (aC s)) (fun i=>aT (ak0 d a (aC s) i) (by rw [jr];exact ax _)) n hc⟩
theorem ala (p:Pr) (m:Nat) (on a b:Int) (s t:ByteArray) (z:List Int) (w:World) (h:eH p m w) (hm:m<=1152921504606846976):
 av au 34 #[.agg (fI p),.agg (aV 22 on a b s t z)] w (C4 22 s p m w):=by
 obtain ⟨W,hW⟩:∃W,W=(w.alloc (.cells (fI p) 83)).alloc (.cells (aV 22 on a b s t z) 51):=⟨_,rfl⟩;have HW:=af hW;have hB:=ES h 22 on a b s t z W hW;obtain ⟨d,r,hd,hr,kJ,htu,gm⟩:=hB.pr.st;have yu:=af gm;have c0:=hB.c0;have c1:=hB.c1;have o0:=hB.o0;have o2:=hB.o2;have o4:=hB.o4;have HB:=af hB;have HH:=af h;have HC:=af (akx p.X p.D d p.vs a W hB.pr.x hd);have mG:=af (Ph kJ a);have lO:=af hr;have tA:=af hd;have su:=af kJ;have tB:=af htu;have HM:=af hm;have jR:=af (fun n w'=>uW n w');have tC:=af (rfl:fI p=fI p);clear h hB hd hr kJ htu gm hW hm;generalize hst:fI p=SV at *;generalize hop:aV 22 on a b s t z=OC at *;clear hst hop tC;go_enter JJ,JK;go_upto_region 3 with fail
 rw [<-HW.out];go_wp2_with fail
 refine (aq HC).mono ?_;rintro e w1 ⟨rfl,v1,hd1,hf1⟩;have k1:=(HB.out.keep HH.out hf1 w.heap.size 1 (.inl rfl)).trans c1;have k2:=(HB.out.keep HH.out hf1 (w.heap.size+1) 2 (.inr rfl)).trans o2;have k4:=(HB.out.keep HH.out hf1 (w.heap.size+1) 4 (.inr rfl)).trans o4;have hr1:=Ic HB.out.pr lO.out hf1;have jX:=af (abG p.R r a w1 hr1 (su.out.CY tA.out) (aT tB.out HM.out));have sw:=af hd1;have p5:=af hf1;clear HC hd1 hf1 hr1 c0 c1 o0 o2 o4;go_wp2_with fail
 refine (aq jX).mono ?_;rintro e w2 ⟨rfl,eS,jx⟩;have HP:=af (Ie HB.out.pr sw.out p5.out eS jx (Ph su.out a).2 (aT (Ty r a) (JL tB.out)) (ak4 yu.out a));clear jX eS jx k1 k2 k4;rw [mG.out.1];go_wp2_with fail
 refine (aq jR _ _).mono ?_;rintro e w' ⟨rfl,hw⟩;obtain rfl:=hw.symm;go_wp2_with fail
 go_ret;exact ⟨rfl,_,HP.out.1,HP.out.2.1.from HH.out HB.out.cA,fun h=>absurd h (by decide)⟩
theorem alb (p:Pr) (m:Nat) (on a b:Int) (s t:ByteArray) (z:List Int) (w:World) (h:eH p m w) (hm:m<=1152921504606846976):
 av au 34 #[.agg (fI p),.agg (aV 23 on a b s t z)] w (C4 23 s p m w):=by
 obtain ⟨W,hW⟩:∃W,W=(w.alloc (.cells (fI p) 83)).alloc (.cells (aV 23 on a b s t z) 51):=⟨_,rfl⟩;have HW:=af hW;have hB:=ES h 23 on a b s t z W hW;obtain ⟨d,r,hd,hr,kJ,htu,gm⟩:=hB.pr.st;have yu:=af gm;have c0:=hB.c0;have c1:=hB.c1;have o0:=hB.o0;have o2:=hB.o2;have o4:=hB.o4;have HB:=af hB;have HH:=af h;have HC:=af (aky p.X p.D d p.vs a W hB.pr.x hd);have mG:=af (CZ kJ a);have lO:=af hr;have tA:=af hd;have su:=af kJ;have tB:=af htu;have HM:=af hm;have jR:=af (fun n w'=>uW n w');have tC:=af (rfl:fI p=fI p);clear h hB hd hr kJ htu gm hW hm;generalize hst:fI p=SV at *;generalize hop:aV 23 on a b s t z=OC at *;clear hst hop tC;go_enter JJ,JK;go_upto_region 3 with fail
 rw [<-HW.out];go_wp2_with fail
 refine (aq HC).mono ?_;rintro e w1 ⟨rfl,v1,hd1,hf1⟩;have k1:=(HB.out.keep HH.out hf1 w.heap.size 1 (.inl rfl)).trans c1;have k2:=(HB.out.keep HH.out hf1 (w.heap.size+1) 2 (.inr rfl)).trans o2;have k4:=(HB.out.keep HH.out hf1 (w.heap.size+1) 4 (.inr rfl)).trans o4;have hr1:=Ic HB.out.pr lO.out hf1;have jX:=af (KO p.R r a w1 hr1 (su.out.CY tA.out) (aT tB.out HM.out));have sw:=af hd1;have p5:=af hf1;clear HC hd1 hf1 hr1 c0 c1 o0 o2 o4;go_wp2_with fail
 refine (aq jX).mono ?_;rintro e w2 ⟨rfl,eS,jx⟩;have HP:=af (Ie HB.out.pr sw.out p5.out eS jx (CZ su.out a).2 (aT (Tz r a) (JL tB.out)) (ak5 yu.out a));clear jX eS jx k1 k2 k4;rw [mG.out.1];go_wp2_with fail
 refine (aq jR _ _).mono ?_;rintro e w' ⟨rfl,hw⟩;obtain rfl:=hw.symm;go_wp2_with fail
 go_ret;exact ⟨rfl,_,HP.out.1,HP.out.2.1.from HH.out HB.out.cA,fun h=>absurd h (by decide)⟩
theorem alc (p:Pr) (m:Nat) (on a b:Int) (s t:ByteArray) (z:List Int) (w:World) (h:eH p m w) (hm:m<=1152921504606846976):
 av au 34 #[.agg (fI p),.agg (aV 24 on a b s t z)] w (C4 24 s p m w):=by
 obtain ⟨W,hW⟩:∃W,W=(w.alloc (.cells (fI p) 83)).alloc (.cells (aV 24 on a b s t z) 51):=⟨_,rfl⟩;have HW:=af hW;have hB:=ES h 24 on a b s t z W hW;obtain ⟨d,r,hd,hr,kJ,htu,gm⟩:=hB.pr.st;have yu:=af gm;have c0:=hB.c0;have c1:=hB.c1;have o0:=hB.o0;have o2:=hB.o2;have o4:=hB.o4;have HB:=af hB;have HH:=af h;have HC:=af (akA p.X p.D d p.vs a W hB.pr.x hd);have mG:=af (Ib kJ a);have lO:=af hr;have tA:=af hd;have su:=af kJ;have tB:=af htu;have HM:=af hm;have jR:=af (fun n w'=>uW n w');have tC:=af (rfl:fI p=fI p);clear h hB hd hr kJ htu gm hW hm;generalize hst:fI p=SV at *;generalize hop:aV 24 on a b s t z=OC at *;clear hst hop tC;go_enter JJ,JK;go_upto_region 3 with fail
 rw [<-HW.out];go_wp2_with fail
 refine (aq HC).mono ?_;rintro e w1 ⟨rfl,v1,hd1,hf1⟩;have k1:=(HB.out.keep HH.out hf1 w.heap.size 1 (.inl rfl)).trans c1;have k2:=(HB.out.keep HH.out hf1 (w.heap.size+1) 2 (.inr rfl)).trans o2;have k4:=(HB.out.keep HH.out hf1 (w.heap.size+1) 4 (.inr rfl)).trans o4;have hr1:=Ic HB.out.pr lO.out hf1;have jX:=af (Tr p.R r a w1 hr1 (su.out.CY tA.out) (aT tB.out HM.out));have sw:=af hd1;have p5:=af hf1;clear HC hd1 hf1 hr1 c0 c1 o0 o2 o4;go_wp2_with fail
 refine (aq jX).mono ?_;rintro e w2 ⟨rfl,eS,jx⟩;have HP:=af (Ie HB.out.pr sw.out p5.out eS jx (Ib su.out a).2.2 (aT (TA r a) (JL tB.out)) (ak6 yu.out a));clear jX eS jx k1 k2 k4;rw [mG.out.1,mG.out.2.1];go_wp2_with fail
 refine (aq jR _ _).mono ?_;rintro e w' ⟨rfl,hw⟩;obtain rfl:=hw.symm;go_wp2_with fail
 go_ret;exact ⟨rfl,_,HP.out.1,HP.out.2.1.from HH.out HB.out.cA,fun _ n hc=>abN HB.out.cA (HH.out.lt _ (.inr (.inl rfl))) tA.out HP.out.2.2 s.size (ak1 d a) (fun i=>aT (ak2 d a i) (mN _ _)) n hc⟩
theorem ald (p:Pr) (m:Nat) (on a b:Int) (s t:ByteArray) (z:List Int) (w:World) (h:eH p m w) (hm:m<=1152921504606846976) (ha:a<=9223372036854775807):
 av au 34 #[.agg (fI p),.agg (aV 25 on a b s t z)] w (C4 25 s p m w):=by
 obtain ⟨W,hW⟩:∃W,W=(w.alloc (.cells (fI p) 83)).alloc (.cells (aV 25 on a b s t z) 51):=⟨_,rfl⟩;have HW:=af hW;have hB:=ES h 25 on a b s t z W hW;obtain ⟨d,r,hd,hr,kJ,htu,gm⟩:=hB.pr.st;have yu:=af gm;have c0:=hB.c0;have c1:=hB.c1;have o0:=hB.o0;have o2:=hB.o2;have o4:=hB.o4;have HB:=af hB;have HH:=af h;have HC:=af (akz p.X p.D d p.vs a W hB.pr.x hd ha);have mG:=af (abK kJ a);have lO:=af hr;have tA:=af hd;have su:=af kJ;have tB:=af htu;have HM:=af hm;have jR:=af (fun n w'=>uW n w');have tC:=af (rfl:fI p=fI p);clear h hB hd hr kJ htu gm hW hm ha;generalize hst:fI p=SV at *;generalize hop:aV 25 on a b s t z=OC at *;clear hst hop tC;go_enter JJ,JK;go_upto_region 3 with fail
 rw [<-HW.out];go_wp2_with fail
 refine (aq HC).mono ?_;rintro e w1 ⟨rfl,v1,hd1,hf1⟩;have k1:=(HB.out.keep HH.out hf1 w.heap.size 1 (.inl rfl)).trans c1;have k2:=(HB.out.keep HH.out hf1 (w.heap.size+1) 2 (.inr rfl)).trans o2;have k4:=(HB.out.keep HH.out hf1 (w.heap.size+1) 4 (.inr rfl)).trans o4;have hr1:=Ic HB.out.pr lO.out hf1;have jX:=af (akF p.R r a w1 hr1);have sw:=af hd1;have p5:=af hf1;clear HC hd1 hf1 hr1 c0 c1 o0 o2 o4;go_wp2_with fail
 refine (aq jX).mono ?_;rintro e w2 ⟨rfl,eS,jx⟩;have HP:=af (Ie HB.out.pr sw.out p5.out eS jx (abK su.out a).2 (aT (akV r a) (JL tB.out)) (ak7 yu.out a));clear jX eS jx k1 k2 k4;rw [mG.out.1];go_wp2_with fail
 refine (aq jR _ _).mono ?_;rintro e w' ⟨rfl,hw⟩;obtain rfl:=hw.symm;go_wp2_with fail
 go_ret;exact ⟨rfl,_,HP.out.1,HP.out.2.1.from HH.out HB.out.cA,fun h=>absurd h (by decide)⟩
theorem ale (p:Pr) (m:Nat) (on a b:Int) (s t:ByteArray) (z:List Int) (w:World) (h:eH p m w) (hm:m<=1152921504606846976) (hs:s.size<=140737488351232):
 av au 34 #[.agg (fI p),.agg (aV 26 on a b s t z)] w (C4 26 s p m w):=by
 obtain ⟨W,hW⟩:∃W,W=(w.alloc (.cells (fI p) 83)).alloc (.cells (aV 26 on a b s t z) 51):=⟨_,rfl⟩;have HW:=af hW;have hB:=ES h 26 on a b s t z W hW;obtain ⟨d,r,hd,hr,kJ,htu,gm⟩:=hB.pr.st;have yu:=af gm;have c0:=hB.c0;have c1:=hB.c1;have o0:=hB.o0;have o2:=hB.o2;have o4:=hB.o4;have HB:=af hB;have HH:=af h;have HC:=af (akB p.X p.D d p.vs a s W hB.pr.x hd kJ.ok);have mG:=af (abM kJ a (aC s));have lO:=af hr;have tA:=af hd;have su:=af kJ;have tB:=af htu;have HM:=af hm;have jR:=af (fun n w'=>uW n w');have tC:=af (rfl:fI p=fI p);clear h hB hd hr kJ htu gm hW hm;generalize hst:fI p=SV at *;generalize hop:aV 26 on a b s t z=OC at *;clear hst hop tC;go_enter JJ,JK;go_upto_region 3 with fail
 rw [<-HW.out];go_wp2_with fail
 refine (aq HC).mono ?_;rintro e w1 ⟨rfl,v1,hd1,hf1⟩;have k1:=(HB.out.keep HH.out hf1 w.heap.size 1 (.inl rfl)).trans c1;have k2:=(HB.out.keep HH.out hf1 (w.heap.size+1) 2 (.inr rfl)).trans o2;have k4:=(HB.out.keep HH.out hf1 (w.heap.size+1) 4 (.inr rfl)).trans o4;have hr1:=Ic HB.out.pr lO.out hf1;have jX:=af (akT p.R r a s w1 hr1 (su.out.CY tA.out) hs);have sw:=af hd1;have p5:=af hf1;clear HC hd1 hf1 hr1 c0 c1 o0 o2 o4;go_wp2_with fail
 refine (aq jX).mono ?_;rintro e w2 ⟨rfl,eS,jx⟩;have HP:=af (Ie HB.out.pr sw.out p5.out eS jx (abM su.out a (aC s)) (aT (akW r a (aC s)) (JL tB.out)) (ak8 yu.out HB.out.pr.bd HM.out a (aC s)));clear jX eS jx k1 k2 k4;go_wp2_with fail
 refine (aq jR _ _).mono ?_;rintro e w' ⟨rfl,hw⟩;obtain rfl:=hw.symm;go_wp2_with fail
 go_ret;exact ⟨rfl,_,HP.out.1,HP.out.2.1.from HH.out HB.out.cA,fun h=>absurd h (by decide)⟩
theorem alf (p:Pr) (m:Nat) (k on a b:Int) (s t:ByteArray) (z:List Int) (w:World) (h:eH p m w) (hk:k<21∨26<k):
 av au 34 #[.agg (fI p),.agg (aV k on a b s t z)] w (C4 k s p m w):=by
 obtain ⟨W,hW⟩:∃W,W=(w.alloc (.cells (fI p) 83)).alloc (.cells (aV k on a b s t z) 51):=⟨_,rfl⟩;have HW:=af hW;have hB:=ES h k on a b s t z W hW;have o0:=hB.o0;have HP:=af (And.intro (hB.pr.more (Nat.le_succ m)) (yt.from h hB.cA (yt.refl p W)));have jR:=af (fun n w'=>uW n w');have e1:(k == 21)=false:=by rw [beq_eq_false_iff_ne];omega
 have e2:(k == 22)=false:=by rw [beq_eq_false_iff_ne];omega
 have e3:(k == 23)=false:=by rw [beq_eq_false_iff_ne];omega
 have e4:(k == 24)=false:=by rw [beq_eq_false_iff_ne];omega
 have e5:(k == 25)=false:=by rw [beq_eq_false_iff_ne];omega
 have e6:(k == 26)=false:=by rw [beq_eq_false_iff_ne];omega
 have HK:Hid (¬(k=21∨k=24)):=fun h=>by omega
 clear h hB hW hk;generalize hst:fI p=SV at *;generalize hop:aV k on a b s t z=OC at *;clear hst hop;go_enter JJ,JK;go_upto_region 3 with fail
 rw [<-HW.out];go_wp2_with fail
 refine (aq jR _ _).mono ?_;rintro e w' ⟨rfl,hw⟩;obtain rfl:=hw.symm;go_wp2_with fail
 go_ret;exact ⟨rfl,_,HP.out.1,HP.out.2,fun h=>absurd h HK.out⟩
section
variable {E:cE} {k:Nat} {mc:List aj}
structure KG (E:cE) (k:Nat) (mc:List aj) (B:Nat) (w w':World):Prop where
 below:ak B w w'
 keep:∀(g:Nat) (cur:Array aj),w.heap[g]? =some (.cells cur E (0,0))->∃cur':Array aj,w'.heap[g]? =some (.cells cur' E (0,0))∧cur'.size=cur.size∧∀(j:Nat) (u:aj),mc[j % k]? =some u->cur[j]? =some u->cur'[j]? =some u
 other:∀g,g<w.heap.size->(∀cur,w.heap[g]?≠some (.cells cur E (0,0)))->w'.heap[g]? =w.heap[g]?
theorem KG.refl (B:Nat) (w:World):KG E k mc B w w:=⟨aA _ _,fun _ cur h=>⟨cur,h,rfl,fun _ _ _ h=>h⟩,fun _ _ _=>rfl⟩
theorem KG.trans {B:Nat} {a b c:World} (h:KG E k mc B a b) (q:KG E k mc B b c):KG E k mc B a c:=by
 refine ⟨h.below.trans q.below,fun g cur hg=>?_,fun g hg hn=>?_⟩
 ·obtain ⟨c1,h1,h2,h3⟩:=h.keep g cur hg;obtain ⟨c2,k1,k2,k3⟩:=q.keep g c1 h1;exact ⟨c2,k1,k2.trans h2,fun j u hu hj=>k3 j u hu (h3 j u hu hj)⟩
 ·have h1:=h.other g hg hn;exact (q.other g (dB hg h.below.size) (fun cur e=>hn cur (h1▸e))).trans h1
theorem KG.above {B:Nat} {a b:World} (hB:B<=a.heap.size) (h:ak a.heap.size a b):KG E k mc B a b:=
 ⟨h.mono hB,fun g cur hg=>⟨cur,(h.block g (iD.1 hg).1).trans hg,rfl,fun _ _ _ h=>h⟩,fun g hg _=>h.block g hg⟩
def GS (E:cE) (k:Nat) (mc:List aj) (w:World) (v:aj):Prop:=
 ∃a n c,v= .slice a n c∧n<=2000000∧(0<n->∃g cur,a=some ⟨g,0,none⟩∧w.heap[g]? =some (.cells cur E (0,0))∧∀(j:Nat) (u:aj),j<n * k->mc[j % k]? =some u->cur[j]? =some u)
theorem GS.kg {B:Nat} {w w':World} {v:aj} (h:GS E k mc w v) (q:KG E k mc B w w'):GS E k mc w' v:=by
 obtain ⟨a,n,c,hv,hle,h⟩:=h;refine ⟨a,n,c,hv,hle,fun hn=>?_⟩;obtain ⟨g,cur,ha,hg,hc⟩:=h hn;obtain ⟨cur',g1,_,g3⟩:=q.keep g cur hg;exact ⟨g,cur',ha,g1,fun j u hj hu=>g3 j u hu (hc j u hj hu)⟩
theorem GS.block {w w':World} {v:aj} (h:GS E k mc w v) (q:∀g,g<w.heap.size->(∃cur,w.heap[g]? =some (.cells cur E (0,0)))->w'.heap[g]? =w.heap[g]?):GS E k mc w' v:=by
 obtain ⟨a,n,c,hv,hle,h⟩:=h;refine ⟨a,n,c,hv,hle,fun hn=>?_⟩;obtain ⟨g,cur,ha,hg,hc⟩:=h hn;exact ⟨g,cur,ha,(q g (iD.1 hg).1 ⟨cur,hg⟩).trans hg,hc⟩
def fu (mc:List aj) (n:Nat):List aj:=(List.replicate n mc).flatten
theorem KS (hk:mc.length=k) (n:Nat):(fu mc n).length=n * k:=by
 unfold fu;rw [List.length_flatten,List.map_replicate,List.sum_replicate_nat,hk]
theorem alg (n:Nat):fu mc (n+1)=mc ++ fu mc n:=by unfold fu;rw [List.replicate_succ,List.flatten_cons]
theorem TB (n m:Nat):fu mc n ++ fu mc m=fu mc (n+m):=by unfold fu;rw [<-List.flatten_append,List.replicate_append_replicate]
theorem TC (hk:mc.length=k):∀(n j:Nat),j<n * k->(fu mc n)[j]? =mc[j % k]?:=by
 intro n
 induction n with
 | zero=>intro j hj;omega
 | succ n ih=>
   intro j hj;rw [alg];by_cases h:j<k
   ·rw [jN (by omega),Gd h]
   ·rw [lD (by omega),hk,ih (j - k) (by rw [Nat.succ_mul] at hj;omega)];congr 1;rw [Nat.mod_eq_sub_mod (by omega:k<=j)]
theorem KT (hk:mc.length=k) (k0:0<k) (cur:Array aj) (n:Nat):cur.toList.take (n * k)=fu mc n↔∀(j:Nat) (u:aj),j<n * k->mc[j % k]? =some u->cur[j]? =some u:=by
 constructor
 ·intro h j u hj hu;have:(cur.toList.take (n * k))[j]? =(fu mc n)[j]?:=by rw [h]
  rw [tW,if_pos hj,TC hk n j hj,hu] at this;rw [<-this,JF]
 ·intro h;apply List.ext_getElem?;intro j;rw [tW];by_cases hj:j<n * k
  ·rw [if_pos hj,TC hk n j hj,JF];have hm:j % k<mc.length:=by rw [hk];exact Nat.mod_lt _ k0
   rw [h j mc[j % k] hj (bE hm),bE hm]
  ·rw [if_neg hj,List.getElem?_eq_none (by rw [KS hk];omega)]
theorem Pn (hk:mc.length=k) (k0:0<k) {w:World} {B:Nat} {v:aj} {n:Nat} (h:w.ownsRow B E k v n (fu mc n)) (hn:n<=2000000):GS E k mc w v:=by
 rcases h.2 with ⟨rfl,h0⟩ | ⟨g,cap,cur,rfl,hb,hg,hnc,hcm,hcs,ht⟩
 ·exact ⟨none,0,0,rfl,by omega,fun h=>by omega⟩
 ·exact ⟨_,n,cap,rfl,hn,fun _=>⟨g,cur,rfl,hg,(KT hk k0 cur n).1 ht⟩⟩
theorem TD (hk:mc.length=k) (k0:0<k) {w w':World} {B B':Nat} {v:aj} {n:Nat} (h:w.ownsRow B E k v n (fu mc n)) (q:KG E k mc B' w w'):w'.ownsRow B E k v n (fu mc n):=by
 refine ⟨h.1,?_⟩;rcases h.2 with h0 | ⟨g,cap,cur,hv,hb,hg,hnc,hcm,hcs,ht⟩
 ·exact .inl h0
 ·obtain ⟨cur',g1,g2,g3⟩:=q.keep g cur hg;exact .inr ⟨g,cap,cur',hv,hb,g1,hnc,hcm,g2.trans hcs,(KT hk k0 cur' n).2 (fun j u hj hu=>g3 j u hu ((KT hk k0 cur n).1 ht j u hj hu))⟩
theorem KG.store {B:Nat} {w:World} {g n cap:Nat} {xs:List aj} (h:w.ownsRow B E k (.slice (some ⟨g,0,none⟩) n cap) n xs) (j:Nat) {u:aj} (hu:mc[j % k]? =some u):KG E k mc B w (w.setCell ⟨g,j,none⟩ u):=by
 obtain ⟨TF,yw⟩:=wK h g rfl;refine ⟨(aA _ _).setCell (p:=⟨g,j,none⟩) (aR h g rfl).1 _,fun q cur hq=>?_,fun q _ hn=>?_⟩
 ·by_cases hqg:q=g
  ·subst hqg;rw [yw] at hq;cases hq;refine ⟨TF.setIfInBounds j u,heap_setCell_same w q j TF _ _ yw,by simp,fun i v hv hi=>?_⟩;rw [Array.getElem?_setIfInBounds];split
   ·rename_i hij;subst hij;rw [if_pos (iD.1 hi).1,<-hu,hv]
   ·exact hi
  ·exact ⟨cur,(dU w _ hqg).trans hq,rfl,fun _ _ _ h=>h⟩
 ·exact dU w _ (fun e=>hn TF (e▸yw))
end
theorem alh {P:Program} {T E ty:cE} {k wH:Nat} {mc:List aj} {inf:TypeInfo} {z:aj} (hT:P.underlying T=some (.slice E)) (cJ:P.info? E=some inf) (hz:inf.zero=some z) (hsz:inf.size=k) (hby:inf.bytes=wH) (hzc:z.cells.size=k) (hb1:wH<=1000) (hk:mc.length=k) (k0:0<k) (h1:∀u∈mc,u.oneCell'=true)
 (w:World) (B:Nat) (v:aj) (n m c:Nat) (h:w.ownsRow B E k v n (fu mc n)) (ad:Addr) (hnews:∀j u,(fu mc m)[j]? =some u->w.cell? (ad.add j)=some u) (hn:n+m<=2000000) (hB:B<=w.heap.size):
 ∃v' w',(Rn #[T,T] ty #[v,.slice (some ad) m c]).run P w= .ok v' w'∧w'.ownsRow B E k v' (n+m) (fu mc (n+m))∧KG E k mc B w w'∧∃a cc,v'= .slice a (n+m) cc:=by
 have hl:(fu mc m).length=m * k:=KS hk m;have h1':∀u∈fu mc m,u.oneCell'=true:=fun u hu=>by
  unfold fu at hu;obtain ⟨l,hl,hu⟩:=List.mem_flatten.1 hu;rw [List.eq_of_mem_replicate hl] at hu;exact h1 u hu
 have hmb:(n+m) * wH<=2000000000:=aT (Nat.mul_le_mul hn hb1) (by decide);rcases h.2 with ⟨hv,hn0⟩ | ⟨g,cap,cur,hv,hb,hg,hnc,hcm,hcs,ht⟩
 ·obtain ⟨v',w',hr,hown,hgr,_,_⟩:=run_append_own_at (P:=P) w B T ty E inf z k wH hT cJ hz hsz hby hzc k0 v n _ h ad m c (fu mc m) hl hnews h1' (by unfold maxLen;omega) (by omega) hB;rw [TB] at hown;refine ⟨v',w',hr,hown,?_,bA hown⟩;refine KG.above hB ⟨hgr.os,hgr.tape,hgr.output,hgr.size,fun i hi=>hgr.block i hi (by rw [hv];simp [Value.ownBlock])⟩
 ·by_cases hroom:n+m<=cap
  ·have hfit:n * inf.size+(fu mc m).length<=cur.size:=by
    rw [hsz,hl,hcs,<-Nat.add_mul];exact Nat.mul_le_mul_right k hroom
   have hr:=run_append_room (P:=P) w T ty E inf hT cJ g n cap cur hg ad m c (fu mc m) (by rw [hsz];exact hl) hnews h1' hroom hfit;rw [hv];have hcell:∀j,(cur.toList.take (n * inf.size) ++ fu mc m ++ cur.toList.drop (n * inf.size+(fu mc m).length)).toArray[j]? =if n * k<=j∧j<(n+m) * k then mc[j % k]? else cur[j]?:=fun j=>by
    rw [hsz,hl,Rv,List.append_assoc];have hadd:(n+m) * k=n * k+m * k:=Nat.add_mul _ _ _;rw [hsz,hl] at hfit;have htl:(cur.toList.take (n * k)).length=n * k:=by rw [ny,Jv];omega
    by_cases hj:j<n * k
    ·rw [jN (by omega),tW,if_pos hj,if_neg (by omega),JF]
    ·rw [lD (by omega),htl];by_cases hj2:j<(n+m) * k
     ·rw [jN (by rw [hl];omega),if_pos (by omega),TC hk m (j - n * k) (by omega)];congr 1;have:j=(j - n * k)+n * k:=by omega
      conv=>rhs;rw [this,Nat.add_mul_mod_self_right]
     ·rw [lD (by rw [hl];omega),hl,List.getElem?_drop,if_neg (by omega),JF];congr 1;omega
   have hsize:(cur.toList.take (n * inf.size) ++ fu mc m ++ cur.toList.drop (n * inf.size+(fu mc m).length)).toArray.size=cur.size:=by
    rw [hsz] at hfit⊢;simp only [Gq,dK,ny,List.length_drop,Jv];omega
   generalize (cur.toList.take (n * inf.size) ++ fu mc m ++ cur.toList.drop (n * inf.size+(fu mc m).length)).toArray=cur' at *;have hg':=uO w g cur cur' E (0,0) hg;have hold:=(KT hk k0 cur n).1 ht;have hnew:∀(j:Nat) (u:aj),j<(n+m) * k->mc[j % k]? =some u->cur'[j]? =some u:=fun j u hj hu=>by
    rw [hcell];by_cases hjn:n * k<=j
    ·rw [if_pos ⟨hjn,hj⟩,hu]
    ·rw [if_neg (by omega)];exact hold j u (by omega) hu
   refine ⟨_,_,hr,⟨KS hk _,.inr ⟨g,cap,cur',rfl,hb,hg',hroom,hcm,by rw [hsize];exact hcs,(KT hk k0 cur' (n+m)).2 hnew⟩⟩,⟨⟨rfl,rfl,rfl,by simp,fun i hi=>Nj w g i _ (by omega)⟩,fun i ci hi=>?_,fun i _ hni=>Nj w g i _ (fun e=>hni cur (e▸hg))⟩,⟨_,_,rfl⟩⟩;by_cases hig:i=g
   ·subst hig;rw [hg] at hi;cases hi;refine ⟨cur',hg',hsize,fun j u hu hj=>?_⟩;rw [hcell];split
    ·exact hu
    ·exact hj
   ·exact ⟨ci,(Nj w g i _ hig).trans hi,rfl,fun _ _ _ h=>h⟩
  ·rw [hv] at h⊢;have holds:∀j u,(fu mc n)[j]? =some u->w.cell? ((⟨g,0,none⟩:Addr).add j)=some u:=h.cells (g:=g) rfl;have hr:=run_append_grow (P:=P) w T ty E inf z hT cJ hz ⟨g,0,none⟩ n cap (fu mc n) (by rw [hsz];exact h.1) holds ad m c (fu mc m) (by rw [hsz];exact hl) hnews (by omega) (by omega) (growslice_fits (by omega) (by rw [hby];omega));obtain ⟨v',w',hr',hown,hgr,_,avQ⟩:=run_append_own_at (P:=P) w B T ty E inf z k wH hT cJ hz hsz hby hzc k0 _ n _ h ad m c (fu mc m) hl hnews h1' (by unfold maxLen;omega) (by omega) hB;rw [TB] at hown;have he:w'=w.drew.alloc (.cells ((fu mc n).toArray ++ (fu mc m).toArray ++ Builtin.zeroCells z.cells (grownCap w (n+m) cap E - (n+m))) E):=by
    rw [hr] at hr';simp only [Result.ok.injEq] at hr';exact hr'.2.symm
   refine ⟨v',w',hr',hown,?_,bA hown⟩;rw [he];exact KG.above hB ⟨rfl,rfl,rfl,by simp,fun i hi=>cM w.drew _ i hi⟩
theorem TG {P:Program} {T E:cE} {k wH:Nat} {mc:List aj} {inf:TypeInfo} {z:aj} (hT:P.underlying T=some (.slice E)) (cJ:P.info? E=some inf) (hz:inf.zero=some z) (hsz:inf.size=k) (hby:inf.bytes=wH) (hzc:z.cells.size=k) (hb1:wH<=1000) (hk:mc.length=k) (k0:0<k) (h1:∀u∈mc,u.oneCell'=true)
 (w:World) {ops:Array Oper} {rest:List Oper} {o:Oper} {a:Act} {Q:Exit->Act->World->Prop} (hgd:o.guard=none) (s x:Operand)
 (ho:o.op= .call {callee:=.builtin .append,args:=#[s,x],argTypes:=#[T,T]}) (B:Nat) (v:aj) (n m c:Nat) (hs:a.eval s=v) (hown:w.ownsRow B E k v n (fu mc n))
 (ad:Addr) (hx:a.eval x= .slice (some ad) m c) (hnews:∀j u,(fu mc m)[j]? =some u->w.cell? (ad.add j)=some u) (hn:n+m<=2000000) (hB:B<=w.heap.size)
 (h:∀aa cc w',w'.ownsRow B E k (.slice aa (n+m) cc) (n+m) (fu mc (n+m))->KG E k mc B w w'->wpList P ops Q rest (a.put o.dst (.slice aa (n+m) cc)) w'):wpList P ops Q (o :: rest) a w:=by
 refine wpList_plain hgd fun K hK=>?_;obtain ⟨v',w',hr,h2,h3,aa,cc,rfl⟩:=alh (ty:=o.type) hT cJ hz hsz hby hzc hb1 hk k0 h1 w B v n m c hown ad hnews hn hB;unfold Oper.wp;simp [execOp,ho,resolve,invoke,builtin,hs,hx,hr,kN];exact hK _ _ (h aa cc w' h2 h3)
theorem TH {mc:List aj} (w:World) (t:cE) (k:Nat) (c:Array aj) (hc:c.toList=fu mc k):∀j u,(fu mc k)[j]? =some u->(w.alloc (.cells c t)).cell? ((⟨w.heap.size,0,none⟩:Addr).add j)=some u:=by
 rw [<-hc];exact World.news_of_block (bg w _)
def uq (E:cE) (mc:List aj) (w:World) (b:Nat):Prop:=w.heap[b]? =some (.cells mc.toArray E (0,0))
theorem uq.kg {E:cE} {k:Nat} {mc:List aj} {B:Nat} {w w':World} {b:Nat} (h:uq E mc w b) (hk:mc.length=k) (q:KG E k mc B w w'):uq E mc w' b:=by
 obtain ⟨cur',h1,h2,h3⟩:=q.keep b _ h;unfold uq;rw [h1];have:cur'=mc.toArray:=by
  apply Array.ext_getElem?;intro j;by_cases hj:j<k
  ·have hm:mc[j]? =some mc[j]:=bE (by omega);rw [h3 j mc[j] (by rw [Gd hj];exact hm) (by rw [Rv];exact hm),Rv,hm]
  ·rw [Jy (by rw [h2,Gq];omega),Jy (by rw [Gq];omega)]
 rw [this]
theorem uq.cell {E:cE} {mc:List aj} {w:World} {b:Nat} (h:uq E mc w b) (j:Nat):w.cell? ⟨b,j,none⟩=mc[j]?:=by
 unfold World.cell?;rw [h];simp
theorem uq.lt {E:cE} {mc:List aj} {w:World} {b:Nat} (h:uq E mc w b):b<w.heap.size:=(iD.1 h).1
theorem uq.below {E:cE} {mc:List aj} {w w':World} {b:Nat} (h:uq E mc w b) (hb:ak w.heap.size w w'):uq E mc w' b:=(hb.block b h.lt).trans h
structure Ad (fi:Nat) (T E:cE) (k:Nat) (mk:Nat->List aj) (N:Nat) (vs:List aj) (vi:aj) (w:World):Prop where
 cf:w.cell? ⟨N,fi,none⟩=some vi
 cn:∀j,j<3->j≠fi->w.cell? ⟨N,j,none⟩=some (.slice none 0 0)
 fz:∀j,w.frozen? ⟨N,j,none⟩=false
 nk:∀cur,w.heap[N]?≠some (.cells cur E (0,0))
 row:w.ownsRow (N+1) T 1 vi vs.length vs
 ms:∀(i:Nat) (v:aj),vs[i]? =some v->GS E k (mk (i / 4)) w v
section
variable {fi:Nat} {T E:cE} {k:Nat} {mk:Nat->List aj} {N:Nat} {vs:List aj} {vi:aj}
theorem Ad.mE {w:World} (h:Ad fi T E k mk N vs vi w):N<w.heap.size:=block_lt_of_cell h.cf
theorem Ad.above {w w':World} (h:Ad fi T E k mk N vs vi w) (hb:ak w.heap.size w w'):Ad fi T E k mk N vs vi w':=by
 have hN:=hb.block N h.mE
 exact ⟨(aP hN).trans h.cf,fun j h1 h2=>(aP hN).trans (h.cn j h1 h2),fun j=>(fS hN).trans (h.fz j),fun cur=>by rw [hN];exact h.nk cur,
  dX h.row hb,fun i v hi=>(h.ms i v hi).block (fun g hg _=>hb.block g hg)⟩
theorem ali (TJ:T≠E) {q:Nat} {w3 w5:World} (hbk:Ad fi T E k mk N vs vi w3) (g c:Nat) (l4:List aj) (o:Obj) (h4:l4.length=4)
 (ho:w5.ownsRow (N+1) T 1 (.slice (some ⟨g,0,none⟩) (vs.length+4) c) (vs.length+4) (vs ++ l4)) (hg:(w3.alloc o).grownBy w5 vi.ownBlock) (hms:∀v∈l4,GS E k (mk q) w3 v) (hq:vs.length=4 * q):
 Ad fi T E k mk N (vs ++ l4) (.slice (some ⟨g,0,none⟩) (vs.length+4) c) (w5.setCell ⟨N,fi,none⟩ (.slice (some ⟨g,0,none⟩) (vs.length+4) c)):=by
 have jE:=hbk.mE;have TK:some N≠vi.ownBlock:=fun e=>by have:=(aR hbk.row N e.symm).1;omega
 have p6:w5.heap[N]? =w3.heap[N]?:=(hg.block N (by rw [aB];omega) TK).trans (cM w3 _ N jE);have sZ:g≠N:=by have:=(aR ho g rfl).1;omega
 have hint:∀k,k<w3.heap.size->(∃cur,w3.heap[k]? =some (.cells cur E (0,0)))->(w5.setCell ⟨N,fi,none⟩ (.slice (some ⟨g,0,none⟩) (vs.length+4) c)).heap[k]? =w3.heap[k]?:=fun k hk ⟨cur,hc⟩=>by
  have hkN:k≠N:=fun e=>hbk.nk cur (e▸hc);have hkv:some k≠vi.ownBlock:=fun e=>by
   obtain ⟨c2,t2⟩:=wK hbk.row k e.symm;rw [hc] at t2;simp at t2;exact TJ t2.2.symm
  exact (dU w5 _ hkN).trans ((hg.block k (by rw [aB];omega) hkv).trans (cM w3 _ k hk))
 have k1:∀j,w5.cell? ⟨N,j,none⟩=w3.cell? ⟨N,j,none⟩:=fun j=>aP p6;refine ⟨ZG ((k1 fi).trans hbk.cf),fun j h1 h2=>ZF ((k1 j).trans (hbk.cn j h1 h2)) h2,fun j=>by rw [World.frozen?_setCell];exact (fS p6).trans (hbk.fz j),fun cur hc=>?_,?_,fun i v hi=>?_⟩
 ·obtain ⟨c2,t2,fr2,hc2⟩:=cells_of_cell hbk.cf;rw [<-p6] at hc2;rw [setCell_eq_setRow w5 N fi c2 t2 fr2 _ hc2,uO w5 N c2 _ t2 fr2 hc2] at hc;cases hc;exact hbk.nk c2 (p6▸hc2)
 ·rw [dK,h4];exact dz ho (fun k hk=>by cases hk;exact dU w5 _ sZ)
 ·by_cases hlt:i<vs.length
  ·rw [jN hlt] at hi;exact (hbk.ms i v hi).block hint
  ·rw [lD (by omega)] at hi;have sY:=(List.getElem?_eq_some_iff.1 hi).1;have e:i / 4=q:=by omega
   rw [e];exact (hms v (List.mem_of_getElem? hi)).block hint
end
end Go.Proofs.YtmmflekajbeamaaGreatDoor
