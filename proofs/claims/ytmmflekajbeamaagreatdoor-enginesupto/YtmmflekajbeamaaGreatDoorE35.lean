/- Texts of ours, joined, in few bytes. -/
import Derived.Test.YtmmflekajbeamaaGreatDoorE34
open False renaming elim->ND
open Go renaming Calls->av,Value->aj,heap_alloc_new->bg,wpList_load_mid->rQ
open Go.Proofs.Tryz renaming prog->au,underlying28->jO
open Go.RowKit renaming Below->ak,wrap64->aY
open Go.Value renaming int->cI
open Go.World renaming cell?_of_block->aP,frozen?->ij,frozen?_of_block->fS
open List renaming getElem?_eq_some_iff->fG,getElem?_set->rN,length_set->lU
open Nat renaming le_refl->ax,le_succ->jk,lt_of_lt_of_le->dB
open Option.some renaming inj->oN
namespace Go.Proofs.YtmmflekajbeamaaGreatDoor
set_option maxRecDepth 100000
set_option maxHeartbeats 8000000
section
theorem afO {l:List UInt8} (h:l.length<=11):scan l=kH:=by
 unfold scan;rw [nL];cases hf:mS l with
 | none=>rfl
 | some kp=>
   obtain ⟨k,p⟩:=kp;simp only;obtain ⟨_,_,_,hl,_⟩:=xU hf;have:iH kH k p=none:=by
    unfold iH;rw [if_pos (show kH.gen=0 from rfl),if_neg (fun c=>by have:=c.2.1;omega)]
   rw [this]
theorem Xj {d:aL} (h:d.tr=0) {i:Int} (hi:¬(i<0∨2<=i)):(cG d i).1=0∧(cG d i).2.tr=0∧(cG d i).2.b=d.b:=by
 unfold cG;rw [if_neg hi,if_neg (by omega)];exact ⟨rfl,by show d.tr - 1=0;omega,rfl⟩
theorem afP {d:aL} (h:d.tr=0) {i:Int} (hi:¬(i<0∨2<=i)):(dn d i).2.1=0∧(dn d i).2.2.tr=0∧(dn d i).2.2.b=d.b∧(dn d i).1=d.b i.toNat:=by
 unfold dn;rw [if_neg hi,if_neg (by omega)];exact ⟨rfl,by show d.tr - 1=0;omega,rfl,rfl⟩
theorem atE {d:aL} (h:d.tr=0) {i:Int} (hi:¬(i<0∨2<=i)):(jw d i).1=0∧(jw d i).2.tr=0∧(jw d i).2.b i.toNat=[]:=by
 unfold jw;rw [if_neg hi,if_neg (by omega)];exact ⟨rfl,by show d.tr - 1=0;omega,cq _ _ _⟩
theorem atF {d:aL} (h:d.tr=0) {i:Int} (hi:¬(i<0∨2<=i)) (s:List UInt8) (hs:(d.b i.toNat).length+s.length<=1500):(jv d i s).1=0∧(jv d i s).2.tr=0:=by
 unfold jv;rw [if_neg hi,if_neg (by omega),if_neg (by omega)];exact ⟨rfl,by show d.tr - 1=0;omega⟩
theorem atG {z:List Int} (k:Int) {d:aL} (h:d.tr=0) (h0:(d.b 0).length<=11) (h1:(d.b 1).length<=11):(gC bO (newG k z) d).1=0:=by
 have n0:¬((0:Int)<0∨(2:Int)<=0):=by omega
 have n1:¬((1:Int)<0∨(2:Int)<=1):=by omega
 obtain ⟨a1,a2,a3⟩:=Xj h n0;obtain ⟨b1,b2,b3⟩:=Xj a2 n1;obtain ⟨c1,c2,c3,c4⟩:=afP b2 n0;obtain ⟨e1,e2,e3,e4⟩:=afP c2 n1;have s0:scan (dn (cG (cG d 0).2 1).2 0).1=kH:=afO (by rw [c4,b3,a3];exact h0);have s1:scan (dn (dn (cG (cG d 0).2 1).2 0).2.2 1).1=kH:=afO (by rw [e4,c3,b3,a3];exact h1);unfold gC;rw [Iw,if_pos a1,if_pos b1,if_pos c1,if_pos e1];simp only [if_true];unfold mo;rw [s0,s1,if_pos (show (jY kH kH).2=0 by decide)];generalize (dn (dn (cG (cG d 0).2 1).2 0).2.2 1).2.2=D at *;obtain ⟨f1,f2,f3⟩:=atE (d:=D) e2 n0;have hfr:(bV {newG k z with ar:=1}).length<=1500:=by
  have q:=ang 1 [];show (Dh 1 []).length<=1500
  simp at q;omega
 obtain ⟨g1,g2⟩:=atF f2 n0 (bV {newG k z with ar:=1}) (by rw [f3];simpa using hfr);obtain ⟨i1,_,_⟩:=Xj g2 n0;have atH:(ep bO {newG k z with ar:=1} (jw D 0).2 0 (bV {newG k z with ar:=1})).1=0:=by
  rw [acK,if_pos g1,if_pos i1]
 unfold cT;rw [if_neg (by show ¬4294967295<0+1;omega),if_neg (Nat.not_lt.2 hfr)];have e0:(bO.clear D ((0:Nat):Int))=jw D 0:=rfl;rw [e0,if_pos f1];have e9:((0:Nat):Int)=0:=rfl;rw [e9,if_pos atH]
end
section
open Go.RowKit Go.Maps Go.WideMaps
def Lz (p p':Pr):Prop:=p'.wk=p.wk+1∧p'.en=p.en+1∧(p'.us=0∨p'.us=p.en+1)
theorem iB.atI {h:Hn} {p p':Pr} {k:Nat} {w:World} (a:iB h p k w) (hD:p'.D=p.D) (hR:p'.R=p.R) (hl:Lz p p'):iB h p' k w:=by
 obtain ⟨l1,l2,l3,l4⟩:=a.lk;obtain ⟨q1,q2,q3⟩:=hl;refine ⟨a.x,a.xlt,by rw [hD];exact a.eg,by rw [hR];exact a.rg,by rw [hR];exact a.rq,a.nx,a.ne,?_,a.ok⟩;rw [q1,q2];exact ⟨⟨fun e=>by omega,fun e=>by omega⟩,by omega,l3,by omega⟩
theorem afQ {d:aL} {r:aN} (h:gS d r):gS (pH d) (sK r):=⟨h.b,h.n,h.t⟩
def QI (p:Pr) (m:Nat) (w w':World) (p':Pr):Prop:=
 eH p' (m+8) w'∧p'.X=p.X∧p'.D=p.D∧p'.R=p.R∧Lz p p'∧aM p.has w w'∧∀x,p'.has x->p.has x∨w.heap.size<=x
theorem atJ (p:Pr) (m:Nat) (z:List Int) (w:World) (hp:eH p m w) (ht:bF w) (hz:z.length=138) (hs:cV z=true) (hm:m<=1000000000000000):
 av au 18 #[.pointer (some ⟨p.X,0,none⟩),.agg (S z)] w fun e w1=>
  (∃n:Int,n≠0∧¬Calm p 11 w∧e= .returned (.tuple #[.pointer none,.int .i64 n])∧aM p.has w w1∧av au 76 #[.pointer (some ⟨p.R,0,none⟩),.agg (S z)] w1 fun e' w2=>e'= .returned (.tuple #[.pointer none,.int .i64 n])∧∃p',QI p m w w2 p')∨
  (∃X,e= .returned (.tuple #[.pointer (some ⟨X,0,none⟩),.int .i64 0])∧aM p.has w w1∧av au 76 #[.pointer (some ⟨p.R,0,none⟩),.agg (S z)] w1 fun e' w2=>∃h p',e'= .returned (.tuple #[.pointer (some ⟨h.Q,0,none⟩),.int .i64 0])∧h.X=X∧QI p m w w2 p'∧iB h p' 1500 w2∧(∀x,h.has x->w.heap.size<=x)∧∀x,h.has x->¬p'.has x):=by
 obtain ⟨d,r,hd,hr,oV,htu,gm⟩:=hp.st;obtain ⟨b1,b2,b3,b4⟩:=hp.bd;obtain ⟨nR,nX⟩:=hp.rd;have hpR:p.R<w.heap.size:=hp.lt _ (.inr (.inr (.inl rfl)));have QH:=hp.xlt;have hwk:aY (d.wk+1)=p.wk+1:=by rw [gm.1];unfold aY;omega
 have hen:aY (r.en+1)=p.en+1:=by rw [gm.2.2];unfold aY;omega
 obtain ⟨g1,g2,g3⟩:=as0 (afQ oV) (newG (aY (d.wk+1)) z) (aY (r.en+1));have tn:=att (afQ oV) (newG (aY (d.wk+1)) z) (aY (r.en+1));have gok:=fP.open ⟨hz,hs⟩ (aY (d.wk+1)) (pH d) hd.len;have gwk:(gC bO (newG (aY (d.wk+1)) z) (pH d)).2.1.wk=aY (d.wk+1):=ae8 _ _ _;have Xi:fF (newG (aY (d.wk+1)) z) (aY (r.en+1))=newG (aY (r.en+1)) z:=rfl;rw [Xi] at g1 g2 g3 tn;refine (an4 p.X p.D d p.vs z w hp.x hd ht hz hs).mono ?_;rintro e w1 ⟨vs1,hd1,hc1,hv1,hres⟩;have hz1:=hc1.size;have Xk:aM p.has w w1:=hc1.weak (fun x q=>.inl (Pr.AH q));have hr1:cO p.R r w1:=hr.up hz1 (hc1.other _ hpR nR);have hS:=arW p.R r z w1 hr1 ⟨oV.CY hd,by omega⟩ hz hs;rw [g1] at hS;have qU:∀i,i<2->∀x,(vs1 i).ownBlock=some x->x≠p.X∧x≠p.R:=fun i hi x q=>by
  rcases hv1 x (.inr ⟨i,hi,q⟩) with e | e
  ·exact ⟨fun c=>nX (by rw [<-c];exact e),fun c=>nR (by rw [<-c];exact e)⟩
  ·exact ⟨by omega,by omega⟩
 have nR1:¬ig p.D vs1 p.R:=fun q=>by
  rcases q with q | ⟨i,hi,q⟩
  ·have:=hp.dr;omega
  ·exact (qU i hi _ q).2 rfl
 have tw:(gC bO (newG (aY (d.wk+1)) z) (pH d)).2.2.wk=p.wk+1:=tn.wk.trans hwk;have te:(gC cC (newG (aY (r.en+1)) z) (sK r)).2.2.en=p.en+1:=tn.en.trans hen;have tu0:(gC cC (newG (aY (r.en+1)) z) (sK r)).2.2.us=0:=tn.us;have afR:(gC cC (newG (aY (r.en+1)) z) (sK r)).2.2.tu<=m+8:=by
  have h1:=tn.tu;have h2:(sK r).tu=r.tu:=rfl;rw [h2] at h1;omega
 have atO:Calm p 11 w->(gC bO (newG (aY (d.wk+1)) z) (pH d)).1=0:=fun c=>by
  obtain ⟨c1,c2⟩:=(Pm hd).1 c;exact atG _ (d:=pH d) c1 (c2 0 (by decide)) (c2 1 (by decide))
 generalize gC bO (newG (aY (d.wk+1)) z) (pH d)=A at *;generalize gC cC (newG (aY (r.en+1)) z) (sK r)=B at *;have pair:∀(w2:World) (r2:aN),aM (fun x=>x=p.R) w1 w2->cO p.R r2 w2->gS A.2.2 r2->r2.tu<=m+8->r2.en=p.en+1->(r2.us=0∨r2.us=p.en+1)->QI p m w w2 ⟨p.X,p.D,p.R,vs1,p.wk+1,r2.us,p.en+1⟩:=fun w2 r2 hc2 eS sm xC he2 hu2=>by
  have hz2:=hc2.size;have kX:w2.heap[p.X]? =w.heap[p.X]?:=(hc2.other p.X (by omega) hp.xr).trans (hc1.other p.X QH nX);refine ⟨⟨⟨A.2.2,r2,hd1.kept hz2 (fun x q=>hc2.other x (hd1.has q).2 (fun e=>nR1 (by rw [<-e];exact q))),eS,sm,xC,⟨tw,rfl,he2⟩⟩,⟨by show 0<=p.wk+1;omega,by show p.wk+1<=((m+8:Nat):Int);omega,by show 0<=p.en+1;omega,by show p.en+1<=((m+8:Nat):Int);omega⟩,(aP kX).trans hp.x,by show p.X<_;omega,hp.dx,hp.dr,hp.xr,qU⟩,rfl,rfl,rfl,⟨rfl,rfl,hu2⟩,?_,fun x q=>?_⟩
  ·exact Xk.trans (F1:=fun x=>x=p.R) (fun x q=>.inl (by rw [q];exact .inr (.inr (.inl rfl)))) hc2
  ·rcases q with c | c | c | c
   ·exact .inl (.inl c)
   ·exact .inl (.inr (.inl c))
   ·exact .inl (.inr (.inr (.inl c)))
   ·exact (hv1 x (.inr c)).imp Pr.AH id
 rcases hres with ⟨hn,rfl⟩ | ⟨hn,X,E,m1,v1,hE,hX,rfl,hxa,QJ,hef,hdx⟩
 ·refine .inl ⟨A.1,hn,fun c=>hn (atO c),rfl,Xk,hS.mono ?_⟩;rintro e w2 ⟨hc2,⟨_,rfl,eS⟩ | ⟨h0,_⟩⟩
  ·exact ⟨rfl,_,pair w2 B.2.2 hc2 eS g3 afR te (.inl tu0)⟩
  ·exact absurd h0 hn
 ·refine .inr ⟨X,rfl,Xk,hS.mono ?_⟩;rintro e w2 ⟨hc2,⟨h0,_⟩ | ⟨_,Q,u,hQ,rfl,Xl,QK⟩⟩
  ·exact absurd hn h0
  ·have hz2:=hc2.size;have atS:gS A.2.2 {B.2.2 with us:=aY (r.en+1)}:=⟨g3.b,g3.n,g3.t⟩;have Kf:X<w1.heap.size:=block_lt_of_cell hxa;have hgB:B.2.1=fF A.2.1 (aY (r.en+1)):=g2;refine ⟨⟨X,E,m1,v1,Q,u,A.2.1,aY (r.en+1),0⟩,_,rfl,rfl,pair w2 _ hc2 Xl.dv atS afR te (.inr hen),⟨?_,by show X<_;omega,?_,?_,Xl.lt,⟨fun q=>(hef X q).2 rfl,fun q=>?_⟩,fun x q1 q2=>?_,?_,gok⟩,fun x q=>?_,fun x q1 q2=>?_⟩
   ·exact (aP (hc2.other X Kf (by omega))).trans hxa
   ·exact QJ.eg.kept (fun x q=>hc2.other x (QJ.eg.has q).2 (by have:=(hef x q).1;omega))
   ·rw [<-hgB];exact Xl.eg
   ·have:=QK X q;omega
   ·have h1:=(QJ.eg.has q1).2;have h2:=QK x q2;omega
   ·show (aY (r.en+1)=aY (r.en+1)↔A.2.1.wk=p.wk+1)∧A.2.1.wk<=p.wk+1∧1<=aY (r.en+1)∧aY (r.en+1)<=p.en+1
    rw [gwk,hwk,hen];exact ⟨⟨fun _=>rfl,fun _=>rfl⟩,by omega,by omega,by omega⟩
   ·rcases q with c | c | c
    ·rw [c];exact hX
    ·exact (hef x c).1
    ·have:=QK x c;omega
   ·have hq:w.heap.size<=x∧(x=X∨dc E m1 v1 x∨w1.heap.size<=x):=by
     rcases q1 with c | c | c
     ·exact ⟨by rw [c];exact hX,.inl c⟩
     ·exact ⟨(hef x c).1,.inr (.inl c)⟩
     ·have:=QK x c;exact ⟨by omega,.inr (.inr this)⟩
    rcases q2 with c | c | c | c
    ·have c':x=p.X:=c;omega
    ·have c':x=p.D:=c;have:=hp.dx;omega
    ·have c':x=p.R:=c;omega
    ·have Xm:ig p.D vs1 x:=.inr c;rcases hq.2 with e | e | e
     ·exact hdx x Xm e
     ·exact QJ.sep x e Xm
     ·have:=(hd1.has Xm).2;omega
theorem rJ {α:Type} {l:List α} {i:Nat} {a:α} {j:Nat} {q:α} (hq:(l.set i a)[j]? =some q):(j=i∧q=a)∨(j≠i∧l[j]? =some q):=by
 rw [rN] at hq;split at hq
 ·rename_i e;split at hq
  ·exact .inl ⟨e.symm,by simpa using hq.symm⟩
  ·cases hq
 ·rename_i e;exact .inr ⟨fun x=>e x.symm,hq⟩
theorem QL {α:Type} {l:List α} {i:Nat} {a b:α} (h:l[i]? =some b):(l.set i a)[i]? =some a:=by
 rw [List.getElem?_set_self (fG.1 h).1]
theorem ko.afS {N:Nat} {cv:Nat->aj} {ps:List Pr} {sv:aj} {m m':Nat} {w w':World} (h:ko N cv ps sv m w) {i:Nat} {p p':Pr} (hi:ps[i]? =some p) (hp:eH p' m' w') (hm:m<=m') (eX:p'.X=p.X) (eD:p'.D=p.D) (eR:p'.R=p.R) {F:Nat->Prop} (bD:aM F w w') (po:∀x,p'.has x->p.has x∨w.heap.size<=x) (fN:¬F N) (fsv:∀x,sv.ownBlock=some x->¬F x) (fp:∀(j:Nat) (q:Pr),ps[j]? =some q->j≠i->∀x,q.has x->¬F x):ko N cv (ps.set i p') sv m' w':=by
 obtain ⟨yB,KZ⟩:=h.pr i p hi;have hN:w'.heap[N]? =w.heap[N]?:=bD.other N h.lt fN;refine ⟨dB h.lt bD.size,fun j=>(fS hN).trans (h.fz j),fun j hj hj3=>(aP hN).trans (h.bk j hj hj3),(aP hN).trans h.st,?_,fun j q hq=>?_,fun j l q r hq hr hjl g h1 h2=>?_,fun j q hq g xk e=>?_,KY hN h.nt⟩
 ·rw [lU,ace ps i p p' hi (by unfold fI;rw [eX,eR])];exact dz h.own (fun g e=>bD.other g (aR h.own g e).2 (fsv g e))
 ·rcases rJ hq with ⟨_,rfl⟩ | ⟨hji,dQ⟩
  ·exact ⟨hp,by rw [eD];exact KZ⟩
  ·exact ⟨((h.pr j q dQ).1.up bD.size (fun g hg=>bD.other g ((h.pr j q dQ).1.lt g hg) (fp j q dQ hji g hg))).more hm,(h.pr j q dQ).2⟩
 ·rcases rJ hq with ⟨e1,rfl⟩ | ⟨hji,dQ⟩<;>rcases rJ hr with ⟨e2,rfl⟩ | ⟨Uf,hr'⟩
  ·omega
  ·rcases po g h1 with k | k
   ·exact h.sep l i r p hr' hi Uf g h2 k
   ·have:=(h.pr l r hr').1.lt g h2;omega
  ·rcases po g h2 with k | k
   ·exact h.sep j i q p dQ hi hji g h1 k
   ·have:=(h.pr j q dQ).1.lt g h1;omega
  ·exact h.sep j l q r dQ hr' hjl g h1 h2
 ·rcases rJ hq with ⟨_,rfl⟩ | ⟨_,dQ⟩
  ·rcases po g xk with k | k
   ·exact h.row i p hi g k e
   ·have:=(aR h.own g e).2;omega
  ·exact h.row j q dQ g xk e
def uL (hs:List Hn):List aj:=(hs.map fun h=>(jK h).toList).flatten
theorem atU (a b:List Hn):uL (a ++ b)=uL a ++ uL b:=by simp [uL]
theorem atV (hs:List Hn) (i:Nat) (a a':Hn) (hi:hs[i]? =some a) (he:jK a'=jK a):uL (hs.set i a')=uL hs:=by
 unfold uL;rw [List.map_set];congr 1;apply List.ext_getElem?;intro j;rw [rN];split
 ·rename_i h;subst h;split
  ·rw [List.getElem?_map,hi,he];rfl
  ·rename_i h1;rw [List.getElem?_eq_none (by omega)]
 ·rfl
structure kz (N:Nat) (bv:Nat->aj) (ps:List Pr) (sv:aj) (hs:List Hn) (hv:aj) (m k:Nat) (w:World):Prop where
 wa:ko N (aE bv 4 hv) ps sv m w
 ho:w.ownsRow (N+1) 87 2 hv hs.length (uL hs)
 hn:∀(j:Nat) (h:Hn),hs[j]? =some h->(∃p,ps[h.i]? =some p∧iB h p k w)∧∀x,h.has x->N<x
 sp:∀(j:Nat) (h:Hn),hs[j]? =some h->∀(i:Nat) (p:Pr),ps[i]? =some p->∀x,h.has x->¬p.has x
 sh:∀(i j:Nat) (a b:Hn),hs[i]? =some a->hs[j]? =some b->i≠j->∀x,a.has x->¬b.has x
 sr:∀(j:Nat) (h:Hn),hs[j]? =some h->∀x,h.has x->sv.ownBlock≠some x∧hv.ownBlock≠some x
 rp:∀(i:Nat) (p:Pr),ps[i]? =some p->∀x,p.has x->hv.ownBlock≠some x
 rr:∀x,sv.ownBlock=some x->hv.ownBlock≠some x
def DH (ps:List Pr) (sv:aj) (hs:List Hn) (hv:aj) (x:Nat):Prop:=sv.ownBlock=some x∨hv.ownBlock=some x∨(∃(i:Nat) (p:Pr),ps[i]? =some p∧p.has x)∨∃(j:Nat) (h:Hn),hs[j]? =some h∧h.has x
structure rK (N:Nat) (ps:List Pr) (sv:aj) (hs:List Hn) (hv:aj) (ps':List Pr) (eZ:aj) (hs':List Hn) (hv':aj) (w w':World):Prop where
 bD:aM (fun x=>x=N∨DH ps sv hs hv x) w w'
 new:∀x,DH ps' eZ hs' hv' x->DH ps sv hs hv x∨w.heap.size<=x
theorem kz.hand {N:Nat} {bv:Nat->aj} {ps:List Pr} {sv:aj} {hs:List Hn} {hv:aj} {m k m' k':Nat} {w w':World} (h:kz N bv ps sv hs hv m k w) {j:Nat} {a a':Hn} {p p':Pr} (hj:hs[j]? =some a) (hi:ps[a.i]? =some p) (hn:iB a' p' k' w') (hp:eH p' m' w') (hsp:∀x,a'.has x->¬p'.has x) (f:AG a a' p p' w w') (hm:m<=m') (hk:k<=k'):
 kz N bv (ps.set a.i p') sv (hs.set j a') hv m' k' w'∧rK N ps sv hs hv (ps.set a.i p') sv (hs.set j a') hv w w':=by
 obtain ⟨eX,eE,eQ,eI⟩:=f.hs;obtain ⟨pX,pD,pR,pL⟩:=f.ps;have VK:∀(i:Nat) (q:Pr),ps[i]? =some q->∀x,q.has x->N<x:=fun i q hq x hx=>by
  obtain ⟨a1,a2⟩:=h.wa.pr i q hq;have:=a1.ge x hx;omega
 have fN:¬(a.has N∨p.has N):=fun q=>by
  rcases q with q | q
  ·have:=(h.hn j a hj).2 N q;omega
  ·have:=VK _ p hi N q;omega
 have rB:=h.wa.afS hi hp hm pX pD pR f.bD f.po fN (fun x e q=>q.elim (fun c=>(h.sr j a hj x c).1 e) (fun c=>h.wa.row _ p hi x c e)) (fun l q hq hl x hx c=>c.elim (fun c=>h.sp j a hj l q hq x c hx) (fun c=>h.wa.sep l _ q p hq hi hl x hx c));have hlt:∀(l:Nat) (b:Hn),hs[l]? =some b->∀x,b.has x->x<w.heap.size:=fun l b hb x hx=>by
  obtain ⟨⟨q,_,hq⟩,_⟩:=h.hn l b hb;exact hq.lt hx
 have hkeep:∀(l:Nat) (b:Hn),hs[l]? =some b->l≠j->∀x,b.has x->w'.heap[x]? =w.heap[x]?:=fun l b hb hl x hx=>f.bD.other x (hlt l b hb x hx) (fun c=>c.elim (fun c=>h.sh l j b a hb hj hl x hx c) (fun c=>h.sp l b hb _ p hi x hx c));refine ⟨⟨rB,?_,fun l b hb=>?_,fun l b hb i q hq x h1 h2=>?_,fun i l b c hb hc hil x h1 h2=>?_,fun l b hb x hx=>?_,fun i q hq x hx=>?_,h.rr⟩,⟨f.bD.weak (fun x q=>.inl (.inr ?_)),fun x q=>?_⟩⟩
 ·rw [lU,atV hs j a a' hj (by unfold jK;rw [eX,eQ])];exact dz h.ho (fun x e=>f.bD.other x (aR h.ho x e).2 (fun c=>c.elim (fun c=>(h.sr j a hj x c).2 e) (fun c=>h.rp _ p hi x c e)))
 ·rcases rJ hb with ⟨e1,rfl⟩ | ⟨hl,hb'⟩
  ·refine ⟨⟨p',by rw [eI];exact QL hi,hn⟩,fun x hx=>?_⟩;rcases f.ho x hx with c | c
   ·exact (h.hn j a hj).2 x c
   ·have:=h.wa.lt;omega
  ·obtain ⟨⟨q,hq,Cu⟩,hx⟩:=h.hn l b hb';have M6:=(Cu.kept f.bD.size (hkeep l b hb' hl)).more hk;refine ⟨?_,hx⟩;by_cases e:b.i=a.i
   ·rw [e] at hq⊢;have:q=p:=by rw [hi] at hq;exact (oN hq).symm
    subst this;exact ⟨p',QL hi,M6.over pD pR pL⟩
   ·exact ⟨q,by rw [List.getElem?_set_ne (fun c=>e c.symm)];exact hq,M6⟩
 ·have key:(a'.has x∧b=a')∨∃l',hs[l']? =some b∧l'≠j:=by
   rcases rJ hb with ⟨e1,rfl⟩ | ⟨hl,hb'⟩
   ·exact .inl ⟨h1,rfl⟩
   ·exact .inr ⟨l,hb',hl⟩
  rcases rJ hq with ⟨e2,rfl⟩ | ⟨hi2,dQ⟩
  ·rcases key with ⟨c,rfl⟩ | ⟨l',hb',hl⟩
   ·exact hsp x c h2
   ·rcases f.po x h2 with c | c
    ·exact h.sp l' b hb' _ p hi x h1 c
    ·have:=hlt l' b hb' x h1;omega
  ·rcases key with ⟨c,rfl⟩ | ⟨l',hb',hl⟩
   ·rcases f.ho x c with c | c
    ·exact h.sp j a hj i q dQ x c h2
    ·have:=(h.wa.pr i q dQ).1.lt x h2;omega
   ·exact h.sp l' b hb' i q dQ x h1 h2
 ·rcases rJ hb with ⟨e1,rfl⟩ | ⟨hb1,hb'⟩<;>rcases rJ hc with ⟨e2,rfl⟩ | ⟨hc1,hc'⟩
  ·omega
  ·rcases f.ho x h1 with q | q
   ·exact h.sh j l a c hj hc' (fun e=>hc1 e.symm) x q h2
   ·have:=hlt l c hc' x h2;omega
  ·rcases f.ho x h2 with q | q
   ·exact h.sh i j b a hb' hj hb1 x h1 q
   ·have:=hlt i b hb' x h1;omega
  ·exact h.sh i l b c hb' hc' hil x h1 h2
 ·rcases rJ hb with ⟨e1,rfl⟩ | ⟨_,hb'⟩
  ·rcases f.ho x hx with q | q
   ·exact h.sr j a hj x q
   ·exact ⟨fun e=>by have:=(aR h.wa.own x e).2;omega,fun e=>by have:=(aR h.ho x e).2;omega⟩
  ·exact h.sr l b hb' x hx
 ·rcases rJ hq with ⟨e1,rfl⟩ | ⟨_,dQ⟩
  ·rcases f.po x hx with c | c
   ·exact h.rp _ p hi x c
   ·exact fun e=>by have:=(aR h.ho x e).2;omega
  ·exact h.rp i q dQ x hx
 ·rcases q with c | c
  ·exact .inr (.inr (.inr ⟨j,a,hj,c⟩))
  ·exact .inr (.inr (.inl ⟨_,p,hi,c⟩))
 ·rcases q with q | q | ⟨i,q,hq,hx⟩ | ⟨l,b,hb,hx⟩
  ·exact .inl (.inl q)
  ·exact .inl (.inr (.inl q))
  ·rcases rJ hq with ⟨_,rfl⟩ | ⟨_,dQ⟩
   ·exact (f.po x hx).imp (fun c=>.inr (.inr (.inl ⟨_,p,hi,c⟩))) id
   ·exact .inl (.inr (.inr (.inl ⟨i,q,dQ,hx⟩)))
  ·rcases rJ hb with ⟨_,rfl⟩ | ⟨_,hb'⟩
   ·exact (f.ho x hx).imp (fun c=>.inr (.inr (.inr ⟨j,a,hj,c⟩))) id
   ·exact .inl (.inr (.inr (.inr ⟨l,b,hb',hx⟩)))
theorem kz.F6 {N:Nat} {bv:Nat->aj} {ps:List Pr} {sv:aj} {hs:List Hn} {hv:aj} {m k:Nat} {w:World} (h:kz N bv ps sv hs hv m k w) {i:Nat} {p:Pr} (hi:ps[i]? =some p) {x:Nat} (hx:p.has x):N<x∧x<w.heap.size:=by
 obtain ⟨a1,a2⟩:=h.wa.pr i p hi;have:=a1.ge x hx;exact ⟨by omega,a1.lt x hx⟩
theorem kz.hlt {N:Nat} {bv:Nat->aj} {ps:List Pr} {sv:aj} {hs:List Hn} {hv:aj} {m k:Nat} {w:World} (h:kz N bv ps sv hs hv m k w) {j:Nat} {a:Hn} (hj:hs[j]? =some a) {x:Nat} (hx:a.has x):N<x∧x<w.heap.size:=by
 obtain ⟨⟨q,_,hq⟩,hN⟩:=h.hn j a hj;exact ⟨hN x hx,hq.lt hx⟩
theorem kz.dev {N:Nat} {bv:Nat->aj} {ps ps':List Pr} {sv eZ:aj} {hs:List Hn} {hv:aj} {m m' k:Nat} {w w':World} (h:kz N bv ps sv hs hv m k w) (hw:ko N (aE bv 4 hv) ps' eZ m' w') (f:Ai N ps ps' sv eZ w w') (hl:ps.length<=ps'.length):kz N bv ps' eZ hs hv m' k w'∧rK N ps sv hs hv ps' eZ hs hv w w':=by
 have hh:∀(j:Nat) (a:Hn),hs[j]? =some a->∀x,a.has x->w'.heap[x]? =w.heap[x]?:=fun j a hj x hx=>f.other x (h.hlt hj hx).2 (by have:=(h.hlt hj hx).1;omega) (h.sr j a hj x hx).1 (fun i p hi c=>h.sp j a hj i p hi x hx c);have old:∀(i:Nat) (p':Pr),ps'[i]? =some p'->∀x,p'.has x->(∃p,ps[i]? =some p∧p.has x)∨w.heap.size<=x:=fun i p' hi x hx=>by
  rcases f.Uc i p' hi with ⟨p,a1,_,_,_,_,a6⟩ | ⟨_,a2⟩
  ·exact (a6 x hx).imp (fun c=>⟨p,a1,c⟩) id
  ·exact .inr (a2 x hx)
 refine ⟨⟨hw,?_,fun j a hj=>⟨?_,(h.hn j a hj).2⟩,fun j a hj i p hi x h1 h2=>?_,h.sh,fun j a hj x hx=>⟨fun e=>?_,(h.sr j a hj x hx).2⟩,fun i p hi x hx e=>?_,fun x e e2=>?_⟩,⟨⟨f.below.os,f.below.tape,f.below.output,f.below.size,fun x hx hn=>?_⟩,fun x q=>?_⟩⟩
 ·exact dz h.ho (fun x e=>f.other x (aR h.ho x e).2 (by have:=(aR h.ho x e).1;omega) (fun c=>h.rr x c e) (fun i p hi c=>h.rp i p hi x c e))
 ·obtain ⟨⟨p,hp,hn⟩,_⟩:=h.hn j a hj;have hil:=(fG.1 hp).1;obtain ⟨p',hp'⟩:∃p',ps'[a.i]? =some p':=⟨_,List.getElem?_eq_getElem (dB hil hl)⟩;rcases f.Uc a.i p' hp' with ⟨q,a1,_,a3,a4,a5,_⟩ | ⟨a1,_⟩
  ·have:q=p:=by rw [hp] at a1;exact (oN a1).symm
   subst this;exact ⟨p',hp',(hn.kept f.below.size (hh j a hj)).over a3 a4 a5⟩
  ·rw [hp] at a1;cases a1
 ·rcases old i p hi x h2 with ⟨q,hq,c⟩ | c
  ·exact h.sp j a hj i q hq x h1 c
  ·have:=(h.hlt hj h1).2;omega
 ·rcases f.row x e with c | c
  ·exact (h.sr j a hj x hx).1 c
  ·have:=(h.hlt hj hx).2;omega
 ·rcases old i p hi x hx with ⟨q,hq,c⟩ | c
  ·exact h.rp i q hq x c e
  ·have:=(aR h.ho x e).2;omega
 ·rcases f.row x e with c | c
  ·exact h.rr x c e2
  ·have:=(aR h.ho x e2).2;omega
 ·exact f.other x hx (fun e=>hn (.inl e)) (fun e=>hn (.inr (.inl e))) (fun i p hi c=>hn (.inr (.inr (.inr (.inl ⟨i,p,hi,c⟩)))))
 ·rcases q with q | q | ⟨i,p,hi,hx⟩ | q
  ·exact (f.row x q).imp .inl id
  ·exact .inl (.inr (.inl q))
  ·exact (old i p hi x hx).imp (fun ⟨q,hq,c⟩=>.inr (.inr (.inl ⟨i,q,hq,c⟩))) id
  ·exact .inl (.inr (.inr (.inr q)))
theorem kz.afT {N:Nat} {bv:Nat->aj} {ps:List Pr} {sv:aj} {hs:List Hn} {hv:aj} {m k:Nat} {w w':World} (h:kz N bv ps sv hs hv m k w) {i:Nat} {p p':Pr} (hi:ps[i]? =some p) (s:QI p m w w' p'):
 kz N bv (ps.set i p') sv hs hv (m+8) k w'∧rK N ps sv hs hv (ps.set i p') sv hs hv w w':=by
 obtain ⟨hp,pX,pD,pR,pL,bD,po⟩:=s;have fN:¬p.has N:=fun q=>by have:=(h.F6 hi q).1;omega
 have rB:=h.wa.afS hi hp (Nat.le_add_right m 8) pX pD pR bD po fN (fun x e q=>h.wa.row _ p hi x q e) (fun l q hq hl x hx c=>h.wa.sep l _ q p hq hi hl x hx c);have hh:∀(j:Nat) (a:Hn),hs[j]? =some a->∀x,a.has x->w'.heap[x]? =w.heap[x]?:=fun j a hj x hx=>bD.other x (h.hlt hj hx).2 (fun c=>h.sp j a hj i p hi x hx c);refine ⟨⟨rB,?_,fun l b hb=>⟨?_,(h.hn l b hb).2⟩,fun l b hb j q hq x h1 h2=>?_,h.sh,h.sr,fun j q hq x hx=>?_,h.rr⟩,⟨bD.weak (fun x q=>.inl (.inr (.inr (.inr (.inl ⟨i,p,hi,q⟩))))),fun x q=>?_⟩⟩
 ·exact dz h.ho (fun x e=>bD.other x (aR h.ho x e).2 (fun c=>h.rp i p hi x c e))
 ·obtain ⟨⟨q,hq,Cu⟩,_⟩:=h.hn l b hb;have M6:=Cu.kept bD.size (hh l b hb);by_cases e:b.i=i
  ·rw [e] at hq⊢;have:q=p:=by rw [hi] at hq;exact (oN hq).symm
   subst this;exact ⟨p',QL hi,M6.atI pD pR pL⟩
  ·exact ⟨q,by rw [List.getElem?_set_ne (fun c=>e c.symm)];exact hq,M6⟩
 ·rcases rJ hq with ⟨_,rfl⟩ | ⟨_,dQ⟩
  ·rcases po x h2 with c | c
   ·exact h.sp l b hb i p hi x h1 c
   ·have:=(h.hlt hb h1).2;omega
  ·exact h.sp l b hb j q dQ x h1 h2
 ·rcases rJ hq with ⟨_,rfl⟩ | ⟨_,dQ⟩
  ·rcases po x hx with c | c
   ·exact h.rp i p hi x c
   ·exact fun e=>by have:=(aR h.ho x e).2;omega
  ·exact h.rp j q dQ x hx
 ·rcases q with q | q | ⟨j,q,hq,hx⟩ | q
  ·exact .inl (.inl q)
  ·exact .inl (.inr (.inl q))
  ·rcases rJ hq with ⟨_,rfl⟩ | ⟨_,dQ⟩
   ·exact (po x hx).imp (fun c=>.inr (.inr (.inl ⟨i,p,hi,c⟩))) id
   ·exact .inl (.inr (.inr (.inl ⟨j,q,dQ,hx⟩)))
  ·exact .inl (.inr (.inr (.inr q)))
theorem QM {α:Type} {l:List α} {a:α} {j:Nat} {q:α} (hq:(l ++ [a])[j]? =some q):(j<l.length∧l[j]? =some q)∨(j=l.length∧q=a):=by
 rcases Nat.lt_or_ge j l.length with hi | hi
 ·rw [List.getElem?_append_left hi] at hq;exact .inl ⟨hi,hq⟩
 ·rw [List.getElem?_append_right hi] at hq;cases hk:j - l.length with
  | zero=>rw [hk] at hq;exact .inr ⟨by omega,by simpa using hq.symm⟩
  | succ k=>rw [hk] at hq;simp at hq
theorem kz.push {N:Nat} {bv:Nat->aj} {ps:List Pr} {sv:aj} {hs:List Hn} {hv v:aj} {m k:Nat} {w w3:World} (h:kz N bv ps sv hs hv m k w) {a:Hn} {p:Pr} (hp:ps[a.i]? =some p) (ha:iB a p k w) (hap:∀(i:Nat) (q:Pr),ps[i]? =some q->∀x,a.has x->¬q.has x) (hah:∀(j:Nat) (b:Hn),hs[j]? =some b->∀x,a.has x->¬b.has x) (har:∀x,a.has x->sv.ownBlock≠some x∧hv.ownBlock≠some x) (haN:∀x,a.has x->N<x)
 (ho:w3.ownsRow (N+1) 87 2 v (hs.length+1) (uL hs ++ (jK a).toList)) (hg:w.grownBy w3 hv.ownBlock) (hv':hv.ownBlock=v.ownBlock∨v.ownBlock=some w.heap.size) (W:World) (hW:W=w3.setCell ⟨N,4,none⟩ v):
 kz N bv ps sv (hs ++ [a]) v m k W∧aM (fun x=>x=N∨hv.ownBlock=some x) w W∧∀x,v.ownBlock=some x->hv.ownBlock=some x∨w.heap.size<=x:=by
 have TK:hv.ownBlock≠some N:=fun e=>by have:=(aR h.ho N e).1;omega
 have hN:w3.heap[N]? =w.heap[N]?:=hg.block N h.wa.lt (fun e=>TK e.symm);have bD:aM (fun x=>x=N∨hv.ownBlock=some x) w W:=by
  rw [hW];exact aM.trans (w1:=w3) ⟨hg.os,hg.tape,hg.output,hg.size,fun x hx hn=>hg.block x hx (fun e=>hn (.inr e.symm))⟩ (fun x q=>.inl (.inl q)) (aM.set w3 N 4 v)
 have hc:∀j,j≠4->W.cell? ⟨N,j,none⟩=w.cell? ⟨N,j,none⟩:=fun j hj=>by rw [hW,cZ (fun e=>hj e.symm)];exact aP hN
 have hf:∀j,W.frozen? ⟨N,j,none⟩=w.frozen? ⟨N,j,none⟩:=fun j=>by rw [hW,World.frozen?_setCell];exact fS hN
 have c4:w.cell? ⟨N,4,none⟩=some hv:=by have:=h.wa.bk 4 (by decide) (by decide);rw [cq] at this;exact this
 have nw:∀x,v.ownBlock=some x->hv.ownBlock=some x∨w.heap.size<=x:=fun x e=>by
  rcases hv' with q | q
  ·exact .inl (q.trans e)
  ·rw [q] at e;cases e;exact .inr (ax _)
 have kp:∀x,x<w.heap.size->x≠N->hv.ownBlock≠some x->W.heap[x]? =w.heap[x]?:=fun x hx h1 h2=>bD.other x hx (fun q=>q.elim h1 h2);have Jk:∀(j:Nat) (b:Hn),(hs ++ [a])[j]? =some b->(∃q,ps[b.i]? =some q∧iB b q k w)∧(∀x,b.has x->N<x)∧(∀x,b.has x->sv.ownBlock≠some x∧hv.ownBlock≠some x)∧∀(i:Nat) (q:Pr),ps[i]? =some q->∀x,b.has x->¬q.has x:=fun j b hb=>by
  rcases QM hb with ⟨_,hb'⟩ | ⟨_,rfl⟩
  ·exact ⟨(h.hn j b hb').1,(h.hn j b hb').2,h.sr j b hb',h.sp j b hb'⟩
  ·exact ⟨⟨p,hp,ha⟩,haN,har,hap⟩
 have hlt:∀(j:Nat) (b:Hn),(hs ++ [a])[j]? =some b->∀x,b.has x->x<w.heap.size:=fun j b hb x hx=>by
  obtain ⟨⟨q,_,hq⟩,_⟩:=Jk j b hb;exact hq.lt hx
 refine ⟨⟨⟨?_,fun j=>(hf j).trans (h.wa.fz j),fun j hj hj3=>?_,?_,?_,fun i q hq=>⟨?_,(h.wa.pr i q hq).2⟩,h.wa.sep,h.wa.row,by rw [hW];exact acd (KY hN h.wa.nt)⟩,?_,fun j b hb=>⟨?_,(Jk j b hb).2.1⟩,fun j b hb=>(Jk j b hb).2.2.2,fun i j b c hb hc' hij x h1 h2=>?_,fun j b hb x hx=>⟨((Jk j b hb).2.2.1 x hx).1,fun e=>?_⟩,fun i q hq x hx e=>?_,fun x e e2=>?_⟩,bD,nw⟩
 ·exact dB h.wa.lt bD.size
 ·by_cases e:j=4
  ·subst e;rw [cq,hW];exact World.cell?_setCell_same _ _ _ ((aP hN).trans c4)
  ·rw [hc j e,bp _ _ _ _ e];have:=h.wa.bk j hj hj3;rw [bp _ _ _ _ e] at this;exact this
 ·exact (hc 3 (by decide)).trans h.wa.st
 ·exact dz h.wa.own (fun x e=>kp x (aR h.wa.own x e).2 (by have:=(aR h.wa.own x e).1;omega) (h.rr x e))
 ·exact (h.wa.pr i q hq).1.up bD.size (fun x hx=>kp x (h.F6 hq hx).2 (by have:=(h.F6 hq hx).1;omega) (h.rp i q hq x hx))
 ·rw [List.length_append,atU];have e1:uL [a]=(jK a).toList:=by simp [uL]
  rw [e1];refine dz ho (fun x e=>?_);rw [hW];exact bB (by have:=(aR ho x e).1;omega)
 ·obtain ⟨⟨q,hq,Cu⟩,hbN,hbr,_⟩:=Jk j b hb;exact ⟨q,hq,Cu.kept bD.size (fun x hx=>kp x (Cu.lt hx) (by have:=hbN x hx;omega) (hbr x hx).2)⟩
 ·rcases QM hb with ⟨l1,hb'⟩ | ⟨l1,rfl⟩<;>rcases QM hc' with ⟨l2,hc''⟩ | ⟨l2,rfl⟩
  ·exact h.sh i j b c hb' hc'' hij x h1 h2
  ·exact hah i b hb' x h2 h1
  ·exact hah j c hc'' x h1 h2
  ·omega
 ·rcases nw x e with q | q
  ·exact ((Jk j b hb).2.2.1 x hx).2 q
  ·have:=hlt j b hb x hx;omega
 ·rcases nw x e with c | c
  ·exact h.rp i q hq x hx c
  ·have:=(h.F6 hq hx).2;omega
 ·rcases nw x e2 with c | c
  ·exact h.rr x e c
  ·have:=(aR h.wa.own x e).2;omega
theorem kz.up {N:Nat} {bv:Nat->aj} {ps:List Pr} {sv:aj} {hs:List Hn} {hv:aj} {m k:Nat} {w w':World} (h:kz N bv ps sv hs hv m k w) (hb:ak w.heap.size w w'):kz N bv ps sv hs hv m k w':=by
 refine ⟨h.wa.up hb,dX h.ho hb,fun j a hj=>⟨?_,(h.hn j a hj).2⟩,h.sp,h.sh,h.sr,h.rp,h.rr⟩;obtain ⟨⟨p,hp,hn⟩,_⟩:=h.hn j a hj;exact ⟨p,hp,hn.kept hb.size (fun x hx=>hb.block x (hn.lt hx))⟩
theorem kz.more {N:Nat} {bv:Nat->aj} {ps:List Pr} {sv:aj} {hs:List Hn} {hv:aj} {m k m' k':Nat} {w:World} (h:kz N bv ps sv hs hv m k w) (hm:m<=m') (hk:k<=k'):kz N bv ps sv hs hv m' k' w:=by
 refine ⟨h.wa.more hm,h.ho,fun j a hj=>⟨?_,(h.hn j a hj).2⟩,h.sp,h.sh,h.sr,h.rp,h.rr⟩;obtain ⟨⟨p,hp,hn⟩,_⟩:=h.hn j a hj;exact ⟨p,hp,hn.more hk⟩
theorem rK.refl (N:Nat) (ps:List Pr) (sv:aj) (hs:List Hn) (hv:aj) (w:World):rK N ps sv hs hv ps sv hs hv w w:=⟨aM.refl _ _,fun _ q=>.inl q⟩
theorem rK.from {N:Nat} {ps ps':List Pr} {sv eZ:aj} {hs hs':List Hn} {hv hv':aj} {w w1 w2:World} (hb:ak w.heap.size w w1) (k:rK N ps sv hs hv ps' eZ hs' hv' w1 w2):rK N ps sv hs hv ps' eZ hs' hv' w w2:=
 ⟨(aM.bh hb).trans (fun _ q=>.inl q) k.bD,fun x q=>(k.new x q).imp id (Nat.le_trans hb.size)⟩
def F7 (C:Prop) (N:Nat) (bv:Nat->aj) (ps:List Pr) (sv:aj) (hs:List Hn) (hv:aj) (m k:Nat) (w:World) (e':Ending) (w':World):Prop:=
 e'= .returned (.bool true)∧∃ps' eZ hs' hv',kz N bv ps' eZ hs' hv' m k w'∧rK N ps sv hs hv ps' eZ hs' hv' w w'∧ps'.length<=ps.length+1∧hs.length<=hs'.length∧hs'.length<=hs.length+1∧(C->hs'.length=hs.length+1)
structure Sx (on:Int) (z:List Int) (x r:aj) (w W:World):Prop where
 cA:ak w.heap.size w W
 size:W.heap.size=w.heap.size+2
 o1:W.cell? ⟨w.heap.size,1,none⟩=some (.int .i64 on)
 os:W.rangeAt w.heap.size 6 (z.map (cI .i64))
 rw:W.heap[w.heap.size+1]? =some (.cells #[x,r] 83 (0,0))
theorem Xp (k on a b:Int) (s t:ByteArray) (z:List Int) (w W:World) (e:W=(w.alloc (.cells (aV k on a b s t z) 51)).alloc (.cells #[.pointer none,.pointer none] 83)):Sx on z (.pointer none) (.pointer none) w W:=by
 obtain ⟨W1,hW1⟩:∃W1,W1=w.alloc (.cells (aV k on a b s t z) 51):=⟨_,rfl⟩;rw [<-hW1] at e;have hs1:W1.heap.size=w.heap.size+1:=by rw [hW1,aB]
 have r1:W1.heap[w.heap.size]? =some (.cells (aV k on a b s t z) 51 (0,0)):=by rw [hW1,bg]
 have ro:W.heap[w.heap.size]? =some (.cells (aV k on a b s t z) 51 (0,0)):=by rw [e,Below.heap_alloc W1 _ _ (by omega)];exact r1
 have oA:W.heap.size=w.heap.size+2:=by rw [e,aB,hs1]
 have hb:ak w.heap.size w W:=by rw [e,hW1];exact ((Below.refl _ _).alloc (ax _) _).alloc (by rw [aB];omega) _
 obtain ⟨_,o1,_,_⟩:=KR k on a b s t z;refine ⟨hb,oA,(cF ro 1).trans o1,fun j v hv=>?_,by rw [e,<-hs1,bg]⟩;rw [cF ro (6+j)];unfold aV;rw [Array.getElem?_append_right (by simp)];show (S z)[6+j - 6]? =some v
 rw [Nat.add_sub_cancel_left,<-hv];unfold S;simp
theorem Sx.kept {on:Int} {z:List Int} {x r:aj} {w W w':World} {F:Nat->Prop} (h:Sx on z x r w W) (c:aM F W w') (f0:¬F w.heap.size) (f1:¬F (w.heap.size+1)):w'.rangeAt w.heap.size 6 (z.map (cI .i64))∧w'.heap[w.heap.size+1]? =some (.cells #[x,r] 83 (0,0)):=by
 have hs:=h.size;have h0:=c.other w.heap.size (by omega) f0;exact ⟨fun j v q=>(aP h0).trans (h.os j v q),(c.other _ (by omega) f1).trans h.rw⟩
theorem atY (N:Nat) (bv:Nat->aj) (ps:List Pr) (sv:aj) (hs:List Hn) (hv:aj) (m k:Nat) (on a b:Int) (s t:ByteArray) (z:List Int) (w:World) (h:kz N bv ps sv hs hv m k w) (hz:z.length=138) (hl:ps.length<=1000000000000) (ho: -9223372036854775808<=on∧on<=9223372036854775807) (hi:oT on ((ps.length:Int)+1)=(ps.length:Int)):
 av au 36 #[.pointer (some ⟨N,0,none⟩),.agg (aV 30 on a b s t z)] w (F7 False N bv ps sv hs hv (m+8) k w):=by
 obtain ⟨W,hW⟩:∃W,W=(w.alloc (.cells (aV 30 on a b s t z) 51)).alloc (.cells #[.pointer none,.pointer none] 83):=⟨_,rfl⟩;have HW:=af hW;have hB:=Xp 30 on a b s t z w W hW;have hw1:=h.up hB.cA;have o1:=hB.o1;have hr:=hB.os;have y0:W.cell? ⟨w.heap.size+1,0,none⟩=some (.pointer none):=cF hB.rw 0;have y1:W.cell? ⟨w.heap.size+1,1,none⟩=some (.pointer none):=cF hB.rw 1;have c3:=hw1.wa.st;obtain ⟨sa,sc,gN⟩:=bA hw1.wa.own;rw [gN] at c3;have fj:=af (fun w'=>K0 on ((ps.length:Int)+1) w' ho.1 ho.2 (by omega) (by omega));rw [hi] at fj;have hzl:=BR z hz;have HC:=af (fun w'=>an2 z w' hz);have HD:=af (fun w'=>arQ z w');have jR:=af (fun n w'=>uW n w');have BB:aY ((ps.length:Int)+1)=(ps.length:Int)+1:=by unfold aY;omega
 have hlt':¬(ps.length:Int)<(ps.length:Int):=by omega
 have HB:=af hB;have gL:Hid (∀w',ak w.heap.size w w'->F7 False N bv ps sv hs hv (m+8) k w (.returned (.bool true)) w'):=fun w' hb=>⟨rfl,ps,sv,hs,hv,(h.up hb).more (by omega) (ax _),(rK.refl N ps sv hs hv w').from hb,by omega,by omega,by omega,ND⟩;have M5:=hB.size;clear h hw1 hB hW hi ho gN;generalize hop:aV 30 on a b s t z=OC at *;clear hop;generalize F8:ps.length=L at *;clear F8;go_enter Tryz.func36,Tryz.ntmps36;go_upto_region 2 with fail
 rw [<-HW.out];go_wp2_with fail
 refine (aq fj _).mono ?_;rintro e w' ⟨rfl,hw⟩;obtain rfl:=hw.symm;clear o1 c3;go_wp2_with (refine rQ rfl 28 _ rfl w.heap.size 6 rfl (z.map (cI .i64)) _ hr jO rfl hzl ?_)
 refine (aq HC _).mono ?_;rintro e w1 ⟨rfl,hb1⟩;obtain ⟨hr1,zh⟩:=HB.out.kept (aM.bh (F:=fun _=>False) hb1) (fun q=>q) (fun q=>q);have F9:w1.cell? ⟨w.heap.size+1,1,none⟩=some (.pointer none):=cF zh 1;have aJ:=af hb1;clear hb1 hr y0 y1 HC zh;go_wp2_with (refine rQ rfl 28 _ rfl w.heap.size 6 rfl (z.map (cI .i64)) _ hr1 jO rfl hzl ?_)
 refine (aq HD _).mono ?_;rintro e w2 ⟨rfl,hb2⟩;have aZ:Hid (ak w.heap.size w w2):=HB.out.cA.trans ((aJ.out.trans (hb2.mono aJ.out.size)).mono (by omega));clear hb2 hr1 F9 HD;go_wp2_with fail
 refine (aq jR _ _).mono ?_;rintro e w' ⟨rfl,hw⟩;obtain rfl:=hw.symm;go_wp2_with fail
 go_ret;exact gL.out _ aZ.out
theorem Sx.fill {on:Int} {z:List Int} {x r x' r':aj} {w W W':World} (h:Sx on z x r w W) (e:W'=(W.setCell ⟨w.heap.size+1,0,none⟩ x').setCell ⟨w.heap.size+1,1,none⟩ r'):Sx on z x' r' w W':=by
 have ho:∀g,g≠w.heap.size+1->W'.heap[g]? =W.heap[g]?:=fun g hg=>by rw [e,bB hg,bB hg]
 have h0:=ho w.heap.size (by omega);refine ⟨?_,by rw [e,fW,fW];exact h.size,(aP h0).trans h.o1,fun j v q=>(aP h0).trans (h.os j v q),?_⟩
 ·rw [e];exact (h.cA.setCell (p:=⟨w.heap.size+1,0,none⟩) (jk _) _).setCell (p:=⟨w.heap.size+1,1,none⟩) (jk _) _
 ·rw [e];simp [World.setCell,Array.getElem?_modify,h.rw]
theorem atZ:∃i,Tryz.prog.info? 87=some i∧i.zero=some (.agg #[.pointer none,.pointer none])∧i.size=2∧i.bytes=16:=by
 have h:(Tryz.prog.info? 87).map (fun i=>(i.zero,i.size,i.bytes))=some (some (.agg #[.pointer none,.pointer none]),2,16):=by kernel_rfl
 cases hq:Tryz.prog.info? 87 with
 | none=>rw [hq] at h;cases h
 | some i=>
   rw [hq] at h;simp at h;exact ⟨i,rfl,h.1,h.2.1,h.2.2⟩
theorem at0 (N:Nat) (bv:Nat->aj) (ps:List Pr) (sv:aj) (hs:List Hn) (hv:aj) (m k:Nat) (on a b:Int) (s t:ByteArray) (z:List Int) (w:World) (h:kz N bv ps sv hs hv m k w) (hz:z.length=138) (hl:ps.length<=1000000000000) (ho: -9223372036854775808<=on∧on<=9223372036854775807) (i:Nat) (p:Pr) (hi:oT on ((ps.length:Int)+1)=(i:Int)) (hp:ps[i]? =some p) (hs0:cV z=false):
 av au 36 #[.pointer (some ⟨N,0,none⟩),.agg (aV 30 on a b s t z)] w (F7 False N bv ps sv hs hv (m+8) k w):=by
 obtain ⟨W,hW⟩:∃W,W=(w.alloc (.cells (aV 30 on a b s t z) 51)).alloc (.cells #[.pointer none,.pointer none] 83):=⟨_,rfl⟩;have HW:=af hW;have hB:=Xp 30 on a b s t z w W hW;have hw1:=h.up hB.cA;have o1:=hB.o1;have y0:W.cell? ⟨w.heap.size+1,0,none⟩=some (.pointer none):=cF hB.rw 0;have y1:W.cell? ⟨w.heap.size+1,1,none⟩=some (.pointer none):=cF hB.rw 1;have z0:W.frozen? ⟨w.heap.size+1,0,none⟩=false:=by unfold ij;rw [hB.rw];simp
 have z1:W.frozen? ⟨w.heap.size+1,1,none⟩=false:=by unfold ij;rw [hB.rw];simp
 have hil:=(fG.1 hp).1;have c3:=hw1.wa.st;obtain ⟨sg,sc,gN,_,hgl⟩:=hw1.wa.own.form (by omega);have hown:=hw1.wa.own;rw [gN] at c3 hown;obtain ⟨d0,d1⟩:=Uh hown i p hp;have fj:=af (fun w'=>K0 on ((ps.length:Int)+1) w' ho.1 ho.2 (by omega) (by omega));rw [hi] at fj;have hzl:=BR z hz;have jR:=af (fun n w'=>uW n w');have BB:aY ((ps.length:Int)+1)=(ps.length:Int)+1:=by unfold aY;omega
 have hlt':(i:Int)<(ps.length:Int):=by omega
 have hi0:¬(i:Int)<0:=by omega
 obtain ⟨V,hV⟩:∃V,V=(W.setCell ⟨w.heap.size+1,0,none⟩ (.pointer (some ⟨p.X,0,none⟩))).setCell ⟨w.heap.size+1,1,none⟩ (.pointer (some ⟨p.R,0,none⟩)):=⟨_,rfl⟩;have hX:=hB.fill hV;have Ga:=h.up hX.cA;have hr:=hX.os;have v0:V.cell? ⟨w.heap.size+1,0,none⟩=some (.pointer (some ⟨p.X,0,none⟩)):=cF hX.rw 0;have v1:V.cell? ⟨w.heap.size+1,1,none⟩=some (.pointer (some ⟨p.R,0,none⟩)):=cF hX.rw 1;have HC:=af (fun w' (hx:kI p.X p.D w')=>an3 p.X p.D z w' hx hz hs0);have HD:=af (fun w'=>arR p.R z w' hz hs0);have HXa:Hid (kI p.X p.D V):=(Ga.wa.pr i p hp).1.x;have gL:Hid (∀w',ak w.heap.size w w'->F7 False N bv ps sv hs hv (m+8) k w (.returned (.bool true)) w'):=fun w' hb=>⟨rfl,ps,sv,hs,hv,(h.up hb).more (by omega) (ax _),(rK.refl N ps sv hs hv w').from hb,by omega,by omega,by omega,ND⟩;have HX:=af hX;have HV:=af hV;have Gb:=af Ga;have HH:=af h;have HP:=af hp;have M5:=hX.size;clear h hw1 hB hW hi ho gN hX hV Ga hown hp hil hgl;generalize hop:aV 30 on a b s t z=OC at *;clear hop;generalize F8:ps.length=L at *;have OI:=af F8;clear F8;generalize EX:p.X=PX at *;generalize p8:p.R=PR at *;have HPX:=af EX;have vH:=af p8;clear EX p8;go_enter Tryz.func36,Tryz.ntmps36;go_upto_region 2 with fail
 rw [<-HW.out];go_wp2_with fail
 refine (aq fj _).mono ?_;rintro e w' ⟨rfl,hw⟩;obtain rfl:=hw.symm;clear o1;go_upto_region 6 with fail
 rw [<-HV.out];clear c3 d0 d1 y0 y1 z0 z1;go_wp2_with (refine rQ rfl 28 _ rfl w.heap.size 6 rfl (z.map (cI .i64)) _ hr jO rfl hzl ?_)
 refine (aq HC _ HXa.out).mono ?_;rintro e w1 ⟨rfl,hb1⟩;obtain ⟨hr1,zh⟩:=HX.out.kept (aM.bh (F:=fun _=>False) hb1) (fun q=>q) (fun q=>q);have F9:w1.cell? ⟨w.heap.size+1,1,none⟩=some (.pointer (some ⟨PR,0,none⟩)):=cF zh 1;have aJ:=af hb1;clear hb1 hr v0 v1 HC zh;go_wp2_with (refine rQ rfl 28 _ rfl w.heap.size 6 rfl (z.map (cI .i64)) _ hr1 jO rfl hzl ?_)
 refine (aq HD _).mono ?_;rintro e w2 ⟨rfl,hb2⟩;have aZ:Hid (ak w.heap.size w w2):=HX.out.cA.trans ((aJ.out.trans (hb2.mono aJ.out.size)).mono (by omega));clear hb2 hr1 F9 HD;go_wp2_with fail
 refine (aq jR _ _).mono ?_;rintro e w' ⟨rfl,hw⟩;obtain rfl:=hw.symm;go_wp2_with fail
 go_ret;exact gL.out _ aZ.out
end
end Go.Proofs.YtmmflekajbeamaaGreatDoor
