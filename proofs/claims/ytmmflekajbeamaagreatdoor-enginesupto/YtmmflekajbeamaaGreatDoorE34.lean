/- Texts of ours, joined, in few bytes. -/
import Derived.Test.YtmmflekajbeamaaGreatDoorE33
open Array renaming getElem?_eq_some_iff->iD
open Go renaming Calls->av,Value->aj,heap_alloc_new->bg,part->nF
open Go.Proofs.Tryz renaming func37->NB,ntmps37->NC,prog->au
open Go.Result renaming andThen->kN
open Go.RowKit renaming Below->ak
open Go.RowKit.Below renaming refl->aA
open Go.World renaming cell?_of_block->aP
open Nat renaming le_add_right->mN,le_refl->ax,le_trans->aT,lt_of_lt_of_le->dB
namespace Go.Proofs.YtmmflekajbeamaaGreatDoor
set_option maxRecDepth 100000
set_option maxHeartbeats 2000000
open Go.RowKit Go.Maps Go.WideMaps
structure Hn where
 X:Nat
 E:Nat
 m:Nat->aj
 v:Nat->aj
 Q:Nat
 u:Nat->aj
 g:ay
 n:Int
 i:Nat
def Hn.has (h:Hn) (x:Nat):Prop:=x=h.X∨dc h.E h.m h.v x∨cX h.Q h.u x
structure iB (h:Hn) (p:Pr) (k:Nat) (w:World):Prop where
 x:kI h.X h.E w
 xlt:h.X<w.heap.size
 eg:bH h.E p.D h.g h.m h.v w
 rg:dA h.Q p.R (fF h.g h.n) h.u w
 rq:p.R<h.Q
 nx:¬dc h.E h.m h.v h.X∧¬cX h.Q h.u h.X
 ne:∀x,dc h.E h.m h.v x->¬cX h.Q h.u x
 lk:(h.n=p.us↔h.g.wk=p.wk)∧h.g.wk<=p.wk∧1<=h.n∧h.n<=p.en
 ok:fP h.g k
theorem iB.lt {h:Hn} {p:Pr} {k:Nat} {w:World} (a:iB h p k w) {x:Nat} (hx:h.has x):x<w.heap.size:=by
 rcases hx with rfl | q | q
 ·exact a.xlt
 ·exact (a.eg.has q).2
 ·exact (a.rg.has q).2
theorem iB.kept {h:Hn} {p:Pr} {k:Nat} {w w':World} (a:iB h p k w) (hs:w.heap.size<=w'.heap.size) (hk:∀x,h.has x->w'.heap[x]? =w.heap[x]?):iB h p k w':=
 ⟨(aP (hk _ (.inl rfl))).trans a.x,dB a.xlt hs,a.eg.kept (fun x q=>hk x (.inr (.inl q))),a.rg.kept (fun x q=>hk x (.inr (.inr q))),a.rq,a.nx,a.ne,a.lk,a.ok⟩
theorem iB.more {h:Hn} {p:Pr} {k n:Nat} {w:World} (a:iB h p k w) (hn:k<=n):iB h p n w:=⟨a.x,a.xlt,a.eg,a.rg,a.rq,a.nx,a.ne,a.lk,a.ok.more hn⟩
theorem iB.over {h:Hn} {p p':Pr} {k:Nat} {w:World} (a:iB h p k w) (hD:p'.D=p.D) (hR:p'.R=p.R) (hl:Lk p p'):iB h p' k w:=by
 obtain ⟨l1,l2,l3,l4⟩:=a.lk;refine ⟨a.x,a.xlt,by rw [hD];exact a.eg,by rw [hR];exact a.rg,by rw [hR];exact a.rq,a.nx,a.ne,?_,a.ok⟩;rcases hl with ⟨q1,q2,q3⟩ | ⟨q1,q2,q3⟩
 ·rw [q1,q2,q3];exact ⟨l1,l2,l3,l4⟩
 ·rw [q1,q2,q3];exact ⟨⟨fun e=>by omega,fun e=>by omega⟩,by omega,l3,l4⟩
structure AG (h h':Hn) (p p':Pr) (w w':World):Prop where
 hs:h'.X=h.X∧h'.E=h.E∧h'.Q=h.Q∧h'.i=h.i
 ps:p'.X=p.X∧p'.D=p.D∧p'.R=p.R∧Lk p p'
 bD:aM (fun x=>h.has x∨p.has x) w w'
 ho:∀x,h'.has x->h.has x∨w.heap.size<=x
 po:∀x,p'.has x->p.has x∨w.heap.size<=x
def ze (h:Hn) (p:Pr) (m k:Nat) (w:World) (e':Ending) (w':World):Prop:=
 e'= .returned (.bool true)∧∃h' p',iB h' p' k w'∧eH p' m w'∧(∀x,h'.has x->¬p'.has x)∧AG h h' p p' w w'
theorem Pr.AH {p:Pr} {x:Nat} (h:ig p.D p.vs x):p.has x:=by
 rcases h with rfl | h
 ·exact .inr (.inl rfl)
 ·exact .inr (.inr (.inr h))
theorem eH.rd {p:Pr} {m:Nat} {w:World} (h:eH p m w):¬ig p.D p.vs p.R∧¬ig p.D p.vs p.X:=by
 refine ⟨fun q=>?_,fun q=>?_⟩
 ·rcases q with q | ⟨i,hi,q⟩
  ·have:=h.dr;omega
  ·exact (h.own i hi _ q).2 rfl
 ·rcases q with q | ⟨i,hi,q⟩
  ·have:=h.dx;omega
  ·exact (h.own i hi _ q).1 rfl
theorem FZ {h:Hn} {p:Pr} {m k k':Nat} {w w1 w2:World} {g1:ay} {d1:aL} {r1:aN} {m1 v1 vs1 u1:Nat->aj} (hh:iB h p k w) (hp:eH p m w) (hs:∀x,h.has x->¬p.has x)
 (a:dG h.E p.D g1 d1 m1 v1 vs1 w1) (f:cN h.E p.D h.m h.v p.vs m1 v1 vs1 w w1) (b:dL h.Q p.R (fF g1 h.n) r1 u1 w2) (f2:eK h.Q p.R h.u u1 w1 w2) (oV:gS d1 r1) (ht:r1.tu<=m+8) (gm:Gh p d1 r1) (hg:fP g1 k') (hw:g1.wk=h.g.wk):
 ∃h' p',iB h' p' k' w2∧eH p' (m+8) w2∧(∀x,h'.has x->¬p'.has x)∧AG h h' p p' w w2:=by
 have hz1:=f.bD.size;have hz2:=f2.bD.size;obtain ⟨nR,nX⟩:=hp.rd;have hpR:p.R<w.heap.size:=hp.lt _ (.inr (.inr (.inl rfl)));have QH:p.X<w.heap.size:=hp.xlt;have kE:∀x,dc h.E m1 v1 x->w2.heap[x]? =w1.heap[x]?:=fun x q=>by
  refine f2.bD.other x (a.eg.has q).2 (fun c=>?_);rcases f.eo x q with e | e
  ·rcases c with c | c
   ·exact hh.ne x e c
   ·exact hs x (.inr (.inl e)) (by rw [c];exact .inr (.inr (.inl rfl)))
  ·rcases c with c | c
   ·have:=(hh.rg.has c).2;omega
   ·omega
 have kD:∀x,ig p.D vs1 x->w2.heap[x]? =w1.heap[x]?:=fun x q=>by
  refine f2.bD.other x (a.dv.has q).2 (fun c=>?_);rcases f.vo x q with e | e
  ·rcases c with c | c
   ·exact hs x (.inr (.inr c)) (Pr.AH e)
   ·rw [c] at e;exact nR e
  ·rcases c with c | c
   ·have:=(hh.rg.has c).2;omega
   ·omega
 have kO:∀x,x<w.heap.size->¬dc h.E h.m h.v x->¬ig p.D p.vs x->¬cX h.Q h.u x->x≠p.R->w2.heap[x]? =w.heap[x]?:=fun x hx c1 c2 c3 c4=>(f2.bD.other x (dB hx hz1) (fun q=>q.elim c3 c4)).trans (f.bD.other x hx (fun q=>q.elim c1 c2));have hhX:¬h.has p.X:=fun q=>hs _ q (.inl rfl);have kpX:=kO p.X QH (fun q=>hhX (.inr (.inl q))) nX (fun q=>hhX (.inr (.inr q))) hp.xr;have khX:=kO h.X hh.xlt hh.nx.1 (fun q=>hs h.X (.inl rfl) (Pr.AH q)) hh.nx.2 (fun e=>hs h.X (.inl rfl) (by rw [e];exact .inr (.inr (.inl rfl))));have qU:∀i,i<2->∀x,(vs1 i).ownBlock=some x->x≠p.X∧x≠p.R:=fun i hi x q=>by
  rcases f.vo x (.inr ⟨i,hi,q⟩) with e | e
  ·exact ⟨fun c=>nX (by rw [<-c];exact e),fun c=>nR (by rw [<-c];exact e)⟩
  ·exact ⟨by omega,by omega⟩
 have ro:∀x,cX h.Q u1 x->cX h.Q h.u x∨w1.heap.size<=x:=f2.eo;refine ⟨{h with m:=m1,v:=v1,u:=u1,g:=g1},{p with vs:=vs1},⟨?_,dB hh.xlt (aT hz1 hz2),a.eg.kept kE,b.eg,hh.rq,⟨fun q=>?_,fun q=>?_⟩,fun x q1 q2=>?_,?_,hg⟩,⟨⟨d1,r1,a.dv.kept hz2 kD,b.dv,oV,ht,gm⟩,?_,?_,dB QH (aT hz1 hz2),hp.dx,hp.dr,hp.xr,qU⟩,fun x q1 q2=>?_,⟨⟨rfl,rfl,rfl,rfl⟩,⟨rfl,rfl,rfl,.inl ⟨rfl,rfl,rfl⟩⟩,?_,fun x q=>?_,fun x q=>?_⟩⟩
 ·exact (aP khX).trans hh.x
 ·rcases f.eo _ q with e | e
  ·exact hh.nx.1 e
  ·have:=hh.xlt;have e':w.heap.size<=h.X:=e;omega
 ·rcases ro _ q with e | e
  ·exact hh.nx.2 e
  ·have:=hh.xlt;have e':w1.heap.size<=h.X:=e;omega
 ·rcases f.eo x q1 with e | e
  ·rcases ro x q2 with c | c
   ·exact hh.ne x e c
   ·have:=(hh.eg.has e).2;omega
  ·rcases ro x q2 with c | c
   ·have:=(hh.rg.has c).2;omega
   ·have:=(a.eg.has q1).2;omega
 ·have:=hh.lk;show (h.n=p.us↔g1.wk=p.wk)∧g1.wk<=p.wk∧1<=h.n∧h.n<=p.en
  rw [hw];exact this
 ·obtain ⟨b1,b2,b3,b4⟩:=hp.bd;exact ⟨b1,by show p.wk<=((m+8:Nat):Int);omega,b3,by show p.en<=((m+8:Nat):Int);omega⟩
 ·exact (aP kpX).trans hp.x
 ·
  have hx0:∀y,p.X=y∨ig p.D vs1 y∨p.R=y->¬(h.X=y∨dc h.E m1 v1 y∨cX h.Q u1 y):=fun y c d=>by
   have cl:p.has y∨w.heap.size<=y∧y<w1.heap.size∧ig p.D vs1 y:=by
    rcases c with c | c | c
    ·exact .inl (.inl c.symm)
    ·rcases f.vo y c with e | e
     ·exact .inl (Pr.AH e)
     ·exact .inr ⟨e,(a.dv.has c).2,c⟩
    ·exact .inl (.inr (.inr (.inl c.symm)))
   rcases cl with cl | ⟨cl1,cl2,cl3⟩
   ·have hy:=hp.lt y cl;rcases d with d | d | d
    ·exact hs y (.inl d.symm) cl
    ·rcases f.eo y d with e | e
     ·exact hs y (.inr (.inl e)) cl
     ·omega
    ·rcases ro y d with e | e
     ·exact hs y (.inr (.inr e)) cl
     ·omega
   ·rcases d with d | d | d
    ·have:=hh.xlt;omega
    ·exact a.sep y d cl3
    ·rcases ro y d with e | e
     ·have:=(hh.rg.has e).2;omega
     ·omega
  refine hx0 x ?_ ?_
  ·rcases q2 with c | c | c | c
   ·exact .inl c.symm
   ·exact .inr (.inl (.inl c))
   ·exact .inr (.inr c.symm)
   ·exact .inr (.inl (.inr c))
  ·rcases q1 with c | c | c
   ·exact .inl c.symm
   ·exact .inr (.inl c)
   ·exact .inr (.inr c)
 ·refine (f.bD.weak (fun x q=>.inl ?_)).trans (F1:=fun x=>h.has x∨p.has x) (fun x q=>.inl q) (f2.bD.weak (fun x q=>.inl ?_))
  ·exact q.elim (fun e=>.inl (.inr (.inl e))) (fun e=>.inr (Pr.AH e))
  ·rcases q with e | e
   ·exact .inl (.inr (.inr e))
   ·exact .inr (by rw [e];exact .inr (.inr (.inl rfl)))
 ·rcases q with c | c | c
  ·exact .inl (.inl c)
  ·exact (f.eo x c).imp (fun e=>.inr (.inl e)) id
  ·exact (ro x c).imp (fun e=>.inr (.inr e)) (fun e=>aT hz1 e)
 ·rcases q with c | c | c | c
  ·exact .inl (.inl c)
  ·exact .inl (.inr (.inl c))
  ·exact .inl (.inr (.inr (.inl c)))
  ·exact (f.vo x (.inr c)).imp Pr.AH id
theorem AG.from {h h':Hn} {p p':Pr} {w w1 w2:World} (hb:ak w.heap.size w w1) (k:AG h h' p p' w1 w2):AG h h' p p' w w2:=
 ⟨k.hs,k.ps,(aM.bh hb).trans (fun _ q=>.inl q) k.bD,fun x q=>(k.ho x q).imp id (aT hb.size),fun x q=>(k.po x q).imp id (aT hb.size)⟩
theorem AG.refl (h:Hn) (p:Pr) (w:World):AG h h p p w w:=⟨⟨rfl,rfl,rfl,rfl⟩,⟨rfl,rfl,rfl,Lk.refl p⟩,aM.refl _ _,fun _ q=>.inl q,fun _ q=>.inl q⟩
def AI (h:Hn) (p:Pr) (m k:Nat) (w w':World):Prop:=∃h' p',iB h' p' k w'∧eH p' m w'∧(∀x,h'.has x->¬p'.has x)∧AG h h' p p' w w'
def Xb (fd:FuncId) (args:Array aj) (h:Hn) (p:Pr) (m k:Nat) (w:World) (e:Ending) (w1:World):Prop:=
 ∃u,e= .returned u∧aM (fun x=>h.has x∨p.has x) w w1∧av au fd args w1 fun e' w2=>e'= .returned u∧AI h p m k w w2
theorem iB.ed {h:Hn} {p:Pr} {k:Nat} {w:World} {d:aL} (hh:iB h p k w) (hs:∀x,h.has x->¬p.has x) (hd:cK p.D d p.vs w):dG h.E p.D h.g d h.m h.v p.vs w:=⟨hh.eg,hd,fun x q1 q2=>hs x (.inr (.inl q1)) (Pr.AH q2)⟩
theorem F4 {h:Hn} {p:Pr} {w w1:World} {m1 v1 vs1:Nat->aj} (f:cN h.E p.D h.m h.v p.vs m1 v1 vs1 w w1):aM (fun x=>h.has x∨p.has x) w w1:=f.bD.weak (fun _ q=>.inl (q.elim (fun e=>.inl (.inr (.inl e))) (fun e=>.inr (Pr.AH e))))
theorem F5 {h:Hn} {p:Pr} {m k:Nat} {w w1:World} {r:aN} {m1 v1 vs1:Nat->aj} (hh:iB h p k w) (hp:eH p m w) (hs:∀x,h.has x->¬p.has x) (hr:cO p.R r w) (f:cN h.E p.D h.m h.v p.vs m1 v1 vs1 w w1):dL h.Q p.R (fF h.g h.n) r h.u w1:=by
 refine ⟨hh.rg.kept (fun x q=>f.bD.other x (hh.rg.has q).2 (fun c=>?_)),hr.up f.bD.size (f.bD.other _ hr.lt (fun c=>?_)),hh.rq⟩
 ·rcases c with c | c
  ·exact hh.ne x c q
  ·exact hs x (.inr (.inr q)) (Pr.AH c)
 ·rcases c with c | c
  ·exact hs _ (.inr (.inl c)) (.inr (.inr (.inl rfl)))
  ·exact hp.rd.1 c
theorem Xc {h:Hn} {p:Pr} {k:Nat} {w:World} {d:aL} {r:aN} (hh:iB h p k w) (hg:Gh p d r):iN (fF h.g h.n) r.us=iN h.g d.wk:=as6 _ _ _ _ (by rw [hg.2.1,hg.1];exact hh.lk.1)
theorem AI.same {h:Hn} {p:Pr} {m k:Nat} {w w':World} (hh:iB h p k w) (hp:eH p m w) (hs:∀x,h.has x->¬p.has x) (hb:ak w.heap.size w w'):AI h p m k w w':=
 ⟨h,p,hh.kept hb.size (fun x q=>hb.block x (hh.lt q)),hp.up hb.size (fun x q=>hb.block x (hp.lt x q)),hs,(AG.refl h p w').from hb⟩
theorem ato (E D:Nat) (g:ay) (d:aL) (m v vs:Nat->aj) (w:World) (h:dG E D g d m v vs w) (ho:iN g d.wk=true):
 av au 43 #[.pointer (some ⟨E,0,none⟩)] w (EPost E D m v vs w 17 g d):=by
 have HO:=af (IC E D g d m v vs w h);rw [ho] at HO;have HH:=af h;clear h ho;go_enter Tryz.func43,Tryz.ntmps43;go_wp2_with fail
 refine (aq HO).mono ?_;rintro e w1 ⟨rfl,nq,rfl⟩;clear HO;go_wp2_with fail
 go_ret;exact ⟨rfl,m,v,vs,HH.out.drewN nq,cN.bh (below_drewN (aA _ _) _)⟩
theorem Xd (d:aL) (r:aN) (i:Int):(jw d i).2.wk=d.wk∧(iy r i).2.us=r.us∧(iy r i).2.en=r.en:=by
 refine ⟨?_,?_,?_⟩
 ·unfold jw;(repeat' split)<;>rfl
 ·unfold iy;(repeat' split)<;>rfl
 ·unfold iy;(repeat' split)<;>rfl
theorem Xe (d:aL) (r:aN) (i:Int) (s:List UInt8):(jv d i s).2.wk=d.wk∧(dF r i s).2.us=r.us∧(dF r i s).2.en=r.en:=by
 refine ⟨?_,?_,?_⟩
 ·unfold jv;(repeat' split)<;>rfl
 ·unfold dF;(repeat' split)<;>rfl
 ·unfold dF;(repeat' split)<;>rfl
theorem Xf (d:aL) (r:aN) (i:Int):(cG d i).2.wk=d.wk∧(bG r i).2.us=r.us∧(bG r i).2.en=r.en:=by
 refine ⟨?_,?_,?_⟩
 ·unfold cG;(repeat' split)<;>rfl
 ·unfold bG;(repeat' split)<;>rfl
 ·unfold bG;(repeat' split)<;>rfl
theorem Xg (d:aL) (r:aN) (i:Int):(dn d i).2.2.wk=d.wk∧(fq r i).2.2.us=r.us∧(fq r i).2.2.en=r.en:=by
 refine ⟨?_,?_,?_⟩
 ·unfold dn;(repeat' split)<;>rfl
 ·unfold fq;(repeat' split)<;>rfl
 ·unfold fq;(repeat' split)<;>rfl
structure Tn (n:Nat) (d d':aL) (r r':aN):Prop where
 tu:r'.tu<=r.tu+n
 wk:d'.wk=d.wk
 us:r'.us=r.us
 en:r'.en=r.en
theorem Tn.refl (d:aL) (r:aN):Tn 0 d d r r:=⟨ax _,rfl,rfl,rfl⟩
theorem Tn.trans {a b:Nat} {d d1 d2:aL} {r r1 r2:aN} (h:Tn a d d1 r r1) (k:Tn b d1 d2 r1 r2):Tn (a+b) d d2 r r2:=⟨by have:=h.tu;have:=k.tu;omega,k.wk.trans h.wk,k.us.trans h.us,k.en.trans h.en⟩
theorem Tn.more {a b:Nat} {d d1:aL} {r r1:aN} (h:Tn a d d1 r r1) (hb:a<=b):Tn b d d1 r r1:=⟨by have:=h.tu;omega,h.wk,h.us,h.en⟩
theorem atp (d:aL) (r:aN) (i:Int) (s:List UInt8):Tn 1 d (jv d i s).2 r (dF r i s).2:=⟨Tx r i s,(Xe d r i s).1,(Xe d r i s).2.1,(Xe d r i s).2.2⟩
theorem atq (d:aL) (r:aN) (i:Int):Tn 1 d (jw d i).2 r (iy r i).2:=⟨Ty r i,(Xd d r i).1,(Xd d r i).2.1,(Xd d r i).2.2⟩
theorem Xh (d:aL) (r:aN) (i:Int):Tn 1 d (cG d i).2 r (bG r i).2:=⟨Tz r i,(Xf d r i).1,(Xf d r i).2.1,(Xf d r i).2.2⟩
theorem afK (d:aL) (r:aN) (i:Int):Tn 1 d (dn d i).2.2 r (fq r i).2.2:=⟨TA r i,(Xg d r i).1,(Xg d r i).2.1,(Xg d r i).2.2⟩
theorem afL {d:aL} {r:aN} (h:gS d r) (g g':ay) (i:Int) (s:List UInt8):Tn 2 d (ep bO g d i s).2.2 r (ep cC g' r i s).2.2:=by
 obtain ⟨a1,a2⟩:=Pg h i s;obtain ⟨b1,b2⟩:=CZ a2 i;have t1:=atp d r i s;have t2:=t1.trans (Xh (jv d i s).2 (dF r i s).2 i);unfold ep bO cC;simp only;rw [<-a1,<-b1];by_cases q1:(jv d i s).1=0
 ·by_cases q2:(cG (jv d i s).2 i).1=0
  ·simp only [q1,q2,if_true];exact t2
  ·simp only [q1,q2,if_true,if_false];exact t2
 ·simp only [q1,if_false];exact t1.more (by decide)
theorem M4 {d:aL} {r:aN} (h:gS d r) (g:ay) (k:Int) (i:Nat):Tn 3 d (cT bO g d i).2.2 r (cT cC (fF g k) r i).2.2:=by
 obtain ⟨a1,a2⟩:=Ph h (i:Int);have t1:=atq d r (i:Int);have t2:=t1.trans (afL a2 g (fF g k) (i:Int) (bV g));obtain ⟨b1,_,_⟩:=QG a2 g k (i:Int) (bV g);unfold cT;rw [afz,afA];show Tn 3 d (if 4294967295<g.gn+1 then _ else _:Int×ay×aL).2.2 r (if 4294967295<g.gn+1 then _ else _:Int×ay×aN).2.2
 have e1:(cC.clear r (i:Int))=iy r (i:Int):=rfl;have e2:(bO.clear d (i:Int))=jw d (i:Int):=rfl;rw [e1,e2,<-a1,b1];by_cases q1:4294967295<g.gn+1
 ·rw [if_pos q1,if_pos q1];exact (Tn.refl d r).more (by decide)
 ·rw [if_neg q1,if_neg q1];by_cases q2:1500<(bV g).length
  ·rw [if_pos q2,if_pos q2];exact (Tn.refl d r).more (by decide)
  ·rw [if_neg q2,if_neg q2];by_cases q3:(jw d (i:Int)).1=0
   ·rw [if_pos q3,if_pos q3];by_cases q4:(ep bO g (jw d (i:Int)).2 (i:Int) (bV g)).1=0
    ·rw [if_pos q4,if_pos q4];exact t2
    ·rw [if_neg q4,if_neg q4];exact t2
   ·rw [if_neg q3,if_neg q3];exact t1.more (by decide)
theorem atr {d:aL} {r:aN} (h:gS d r) (g:ay) (k:Int) (t0 t1:List UInt8):Tn 3 d (mo bO g d t0 t1).2.2 r (mo cC (fF g k) r t0 t1).2.2:=by
 unfold mo;by_cases q0:(jY (scan t0) (scan t1)).2=0
 ·rw [if_pos q0,if_pos q0];exact M4 h {g with ar:=1} k 0
 ·rw [if_neg q0,if_neg q0];by_cases q1:(jY (scan t0) (scan t1)).1=0
  ·rw [if_pos q1,if_pos q1];by_cases q2:(scan t0).good<t0.length
   ·rw [if_pos q2,if_pos q2];exact M4 h (gB g 0 (scan t0) t0.length) k 1
   ·rw [if_neg q2,if_neg q2];exact (Tn.refl d r).more (by decide)
  ·rw [if_neg q1,if_neg q1];by_cases q2:(scan t1).good<t1.length
   ·rw [if_pos q2,if_pos q2];exact M4 h (gB g 1 (scan t1) t1.length) k 0
   ·rw [if_neg q2,if_neg q2];exact (Tn.refl d r).more (by decide)
theorem att {d:aL} {r:aN} (h:gS d r) (g:ay) (k:Int):Tn 7 d (gC bO g d).2.2 r (gC cC (fF g k) r).2.2:=by
 obtain ⟨a1,a2⟩:=CZ h 0;obtain ⟨b1,b2⟩:=CZ a2 1;obtain ⟨c1,c2,c3⟩:=Ib b2 0;obtain ⟨e1,e2,e3⟩:=Ib c3 1;have t1:=Xh d r 0;have t2:=t1.trans (Xh (cG d 0).2 (bG r 0).2 1);have t3:=t2.trans (afK (cG (cG d 0).2 1).2 (bG (bG r 0).2 1).2 0);have t4:=t3.trans (afK (dn (cG (cG d 0).2 1).2 0).2.2 (fq (bG (bG r 0).2 1).2 0).2.2 1);unfold gC;rw [Wj,Iw];rw [<-a1,<-b1,<-c1,<-c2,<-e1,<-e2];by_cases q1:(cG d 0).1=0
 ·by_cases q2:(cG (cG d 0).2 1).1=0
  ·by_cases q3:(dn (cG (cG d 0).2 1).2 0).2.1=0
   ·by_cases q4:(dn (dn (cG (cG d 0).2 1).2 0).2.2 1).2.1=0
    ·simp only [q1,q2,q3,q4,if_true];exact t4.trans (atr e3 g k _ _)
    ·simp only [q1,q2,q3,q4,if_true,if_false];exact t4.more (by decide)
   ·simp only [q1,q2,q3,if_true,if_false];exact t3.more (by decide)
  ·simp only [q1,q2,if_true,if_false];exact t2.more (by decide)
 ·simp only [q1,if_false];exact t1.more (by decide)
theorem atu {d:aL} {r:aN} (h:gS d r) (g:ay) (k:Int):Tn 3 d (lz bO g d).2.2 r (lz cC (fF g k) r).2.2:=by
 obtain ⟨b1,_,_⟩:=QG h g k (g.ar:Int) (aW (aG (g.b 1)));have t:=afL h g (fF g k) (g.ar:Int) (aW (aG (g.b 1)));unfold lz;show Tn 3 d (if (g.b 1).length=0 then _ else _:Int×ay×aL).2.2 r (if (g.b 1).length=0 then _ else _:Int×ay×aN).2.2
 by_cases q0:(g.b 1).length=0
 ·rw [if_pos q0,if_pos q0];exact (Tn.refl d r).more (by decide)
 ·rw [if_neg q0,if_neg q0];show Tn 3 d (if 1500<g.sz+(aW (aG (g.b 1))).length then _ else _:Int×ay×aL).2.2 r (if 1500<g.sz+(aW (aG (g.b 1))).length then _ else _:Int×ay×aN).2.2
  by_cases q1:1500<g.sz+(aW (aG (g.b 1))).length
  ·rw [if_pos q1,if_pos q1];exact M4 h g k _
  ·rw [if_neg q1,if_neg q1];show Tn 3 d _ r (if (ep cC (fF g k) r (g.ar:Int) (aW (aG (g.b 1)))).1=0 then _ else _:Int×ay×aN).2.2
   rw [b1];by_cases q2:(ep bO g d (g.ar:Int) (aW (aG (g.b 1)))).1=0
   ·rw [if_pos q2,if_pos q2];exact t.more (by decide)
   ·rw [if_neg q2,if_neg q2];exact t.more (by decide)
theorem afM {g:ay} (h:oG g) (n:Int):oG (fF g n):=⟨h.ar,h.gn,h.few,h.sh⟩
theorem atv (h:Hn) (p:Pr) (m k:Nat) (w:World) (hh:iB h p k w) (hp:eH p m w) (hs:∀x,h.has x->¬p.has x) (ht:bF w) (hm:m<=1000000000000000) (hk:k<=99999900000):
 av au 16 #[.pointer (some ⟨h.X,0,none⟩)] w (fun e w1=>(∃n:Int,e= .returned (.int .i64 n))∧Xb 83 #[.pointer (some ⟨h.Q,0,none⟩)] h p (m+8) k w e w1):=by
 obtain ⟨d,r,hd,hr,oV,htu,gm⟩:=hp.st;have he:=hh.ed hs hd;have qU:=Xc hh gm;refine aqU h.X h.E w hh.x _ (fun e w' q=>⟨_,q.1.choose_spec⟩) ?_;by_cases ho:iN h.g d.wk=true
 ·refine (ato h.E p.D h.g d h.m h.v p.vs w he ho).mono ?_;rintro e w1 ⟨rfl,m1,v1,vs1,a,f⟩;refine ⟨⟨_,rfl⟩,_,rfl,F4 f,?_⟩;refine (asR h.Q p.R (fF h.g h.n) r h.u w1 (F5 hh hp hs hr f) (by rw [qU];exact ho)).mono ?_;rintro e w2 ⟨rfl,u1,b,f2⟩;exact ⟨rfl,FZ hh hp hs a f b f2 oV (by omega) gm hh.ok rfl⟩
 ·have ho':iN h.g d.wk=false:=by simpa using ho
  obtain ⟨g1,g2,g3⟩:=as1 oV h.g h.n;have tn:=atu oV h.g h.n;refine (aqQ h.E p.D h.g d h.m h.v p.vs w he ht (hh.ok.eg (by omega)) hh.ok.sz ho').mono ?_;rintro e w1 ⟨rfl,m1,v1,vs1,a,f⟩;refine ⟨⟨_,rfl⟩,_,rfl,F4 f,?_⟩;refine (asT h.Q p.R (fF h.g h.n) r h.u w1 (F5 hh hp hs hr f) (by rw [qU];exact ho') (afM (hh.ok.eg (by omega)) _) (hh.ok.pu.of rfl) ⟨oV.CY hd,by omega⟩ hh.ok.sz).mono ?_;rintro e w2 ⟨rfl,u1,b,f2⟩;rw [g2] at b;exact ⟨by rw [g1],FZ hh hp hs a f b f2 g3 (by have:=tn.tu;omega) ⟨tn.wk.trans gm.1,tn.us.trans gm.2.1,tn.en.trans gm.2.2⟩ (hh.ok.aeN d) (atk _ _ _)⟩
theorem atw (h:Hn) (p:Pr) (m k:Nat) (w:World) (hh:iB h p k w) (hp:eH p m w) (hs:∀x,h.has x->¬p.has x) (ht:bF w) (hm:m<=1000000000000000) (hk:k<=99999900000):
 av au 50 #[.pointer (some ⟨h.X,0,none⟩)] w (fun e w1=>(∃n:Int,e= .returned (.int .i64 n))∧Xb 84 #[.pointer (some ⟨h.Q,0,none⟩)] h p (m+8) k w e w1):=by
 obtain ⟨d,r,hd,hr,oV,htu,gm⟩:=hp.st;have he:=hh.ed hs hd;have qU:=Xc hh gm;refine aqV h.X h.E w hh.x _ (fun e w' q=>⟨_,q.1.choose_spec⟩) ?_;have hC:=aqO h.E p.D h.g d h.m h.v p.vs w he ht (hh.ok.eg (by omega));by_cases ho:iN h.g d.wk=true
 ·rw [if_pos ho] at hC;refine hC.mono ?_;rintro e w1 ⟨rfl,m1,v1,vs1,a,f⟩;refine ⟨⟨_,rfl⟩,_,rfl,F4 f,?_⟩;refine (asP h.Q p.R (fF h.g h.n) r h.u w1 (F5 hh hp hs hr f) (by rw [qU];exact ho)).mono ?_;rintro e w2 ⟨rfl,u1,b,f2⟩;exact ⟨rfl,FZ hh hp hs a f b f2 oV (by omega) gm hh.ok rfl⟩
 ·rw [if_neg ho] at hC;have ho':iN h.g d.wk=false:=by simpa using ho
  obtain ⟨g1,g2,g3⟩:=MZ oV h.g h.n (1 - h.g.ar);have tn:=M4 oV h.g h.n (1 - h.g.ar);refine hC.mono ?_;rintro e w1 ⟨rfl,m1,v1,vs1,a,f⟩;refine ⟨⟨_,rfl⟩,_,rfl,F4 f,?_⟩;refine (asQ h.Q p.R (fF h.g h.n) r h.u w1 (F5 hh hp hs hr f) (by rw [qU];exact ho') (afM (hh.ok.eg (by omega)) _) (hh.ok.pu.of rfl) ⟨oV.CY hd,by omega⟩).mono ?_;rintro e w2 ⟨rfl,u1,b,f2⟩;have e1:(fF h.g h.n).ar=h.g.ar:=rfl;rw [e1] at b⊢;rw [g2] at b;exact ⟨by rw [g1],FZ hh hp hs a f b f2 g3 (by have:=tn.tu;omega) ⟨tn.wk.trans gm.1,tn.us.trans gm.2.1,tn.en.trans gm.2.2⟩ (hh.ok.anew d (by omega)) (Wt _ _ _ _)⟩
theorem atx (h:Hn) (p:Pr) (m k:Nat) (fuel:Int) (w:World) (hh:iB h p k w) (hp:eH p m w) (hs:∀x,h.has x->¬p.has x) (ht:bF w) (hk:k<=99999900000):
 av au 15 #[.pointer (some ⟨h.X,0,none⟩),.int .i64 fuel] w (fun e w1=>∃a b:Int,e= .returned (.tuple #[.int .i64 a,.int .i64 b])∧Xb 77 #[.pointer (some ⟨h.Q,0,none⟩),.int .i64 fuel] h p (m+8) (k+8004) w e w1):=by
 obtain ⟨d,r,hd,hr,oV,htu,gm⟩:=hp.st;have he:=hh.ed hs hd;have qU:=Xc hh gm;have afN:=hh.ok.more (mN k 8004);refine aqX h.X h.E fuel w hh.x _ (fun e w' q=>by obtain ⟨a,b,q,_⟩:=q;exact ⟨_,_,q⟩) ?_;by_cases ho:iN h.g d.wk=true
 ·refine (aqK h.E p.D h.g d h.m h.v p.vs fuel w he ho).mono ?_;rintro e w1 ⟨rfl,hb⟩;have f:cN h.E p.D h.m h.v p.vs h.m h.v p.vs w w1:=cN.bh hb;refine ⟨_,_,rfl,_,rfl,F4 f,?_⟩;have b1:=F5 hh hp hs hr f;refine (asz h.Q p.R (fF h.g h.n) r h.u fuel w1 b1 (by rw [qU];exact ho)).mono ?_;rintro e w2 ⟨rfl,hb2⟩;exact ⟨rfl,FZ hh hp hs (he.up hb) f (b1.up hb2) (eK.bh hb2) oV (by omega) gm afN rfl⟩
 ·have ho':iN h.g d.wk=false:=by simpa using ho
  by_cases hf:fuel<0∨2000<fuel
  ·refine (aqL h.E p.D h.g d h.m h.v p.vs fuel w he ho' hf).mono ?_;rintro e w1 ⟨rfl,hb⟩;have f:cN h.E p.D h.m h.v p.vs h.m h.v p.vs w w1:=cN.bh hb;refine ⟨_,_,rfl,_,rfl,F4 f,?_⟩;have b1:=F5 hh hp hs hr f;refine (asA h.Q p.R (fF h.g h.n) r h.u fuel w1 b1 (by rw [qU];exact ho') hf).mono ?_;rintro e w2 ⟨rfl,hb2⟩;exact ⟨rfl,FZ hh hp hs (he.up hb) f (b1.up hb2) (eK.bh hb2) oV (by omega) gm afN rfl⟩
  ·obtain ⟨n,rfl⟩:∃n:Nat,fuel=(n:Int):=⟨fuel.toNat,by omega⟩;have hn:n<=2000:=by omega
   obtain ⟨r1,r2⟩:=hh.ok.vM n;have Xi:=as5 h.g h.n n;refine (aqM h.E p.D h.g d h.m h.v p.vs n w k he ht ho' hn hh.ok.run hk).mono ?_;rintro e w1 ⟨rfl,m1,v1,a,c,o⟩;obtain ⟨a1,f⟩:=he.Di a c o;refine ⟨_,_,rfl,_,rfl,F4 f,?_⟩;have b1:=F5 hh hp hs hr f;have hrg:xE (fF h.g h.n) k:=⟨hh.ok.run.z,hh.ok.run.rd,hh.ok.run.rn,hh.ok.run.pl⟩;refine (asF h.Q p.R (fF h.g h.n) r h.u n w1 k b1 (by rw [qU];exact ho') hn hrg (hh.ok.pu.of rfl) hk).mono ?_;rw [Xi];rintro e w2 ⟨rfl,u1,b,c2,o2⟩;obtain ⟨b2,f2⟩:=b1.Di b c2 o2;exact ⟨rfl,FZ hh hp hs a1 f b2 f2 oV (by omega) gm (r1.more (by omega)) r2⟩
def jK (h:Hn):Array aj:=#[.pointer (some ⟨h.X,0,none⟩),.pointer (some ⟨h.Q,0,none⟩)]
structure Hx (h:Hn) (k a:Int) (w W:World):Prop where
 cA:ak w.heap.size w W
 size:W.heap.size=w.heap.size+2
 c0:W.cell? ⟨w.heap.size,0,none⟩=some (.pointer (some ⟨h.X,0,none⟩))
 c1:W.cell? ⟨w.heap.size,1,none⟩=some (.pointer (some ⟨h.Q,0,none⟩))
 o0:W.cell? ⟨w.heap.size+1,0,none⟩=some (.int .i64 k)
 o2:W.cell? ⟨w.heap.size+1,2,none⟩=some (.int .i64 a)
theorem Jj (h:Hn) (k on a b:Int) (s t:ByteArray) (z:List Int) (w W:World) (e:W=(w.alloc (.cells (jK h) 87)).alloc (.cells (aV k on a b s t z) 51)):Hx h k a w W:=by
 obtain ⟨W1,hW1⟩:∃W1,W1=w.alloc (.cells (jK h) 87):=⟨_,rfl⟩;rw [<-hW1] at e;have hs1:W1.heap.size=w.heap.size+1:=by rw [hW1,aB]
 have r1:W1.heap[w.heap.size]? =some (.cells (jK h) 87 (0,0)):=by rw [hW1,bg]
 have r2:W.heap[w.heap.size]? =some (.cells (jK h) 87 (0,0)):=by rw [e,Below.heap_alloc W1 _ _ (by omega)];exact r1
 have ro:W.heap[w.heap.size+1]? =some (.cells (aV k on a b s t z) 51 (0,0)):=by rw [e,<-hs1,bg]
 have oA:W.heap.size=w.heap.size+2:=by rw [e,aB,hs1]
 have hb:ak w.heap.size w W:=by rw [e,hW1];exact ((aA _ _).alloc (ax _) _).alloc (by rw [aB];omega) _
 obtain ⟨o0,_,o2,_⟩:=KR k on a b s t z;exact ⟨hb,oA,cF r2 0,cF r2 1,(cF ro 0).trans o0,(cF ro 2).trans o2⟩
theorem AI.post {h:Hn} {p:Pr} {m k m' k':Nat} {w W w':World} (h0:AI h p m k W w') (hb:ak w.heap.size w W) (hm:m<=m') (hk:k<=k'):ze h p m' k' w (.returned (.bool true)) w':=by
 obtain ⟨a,b,c,d,e,f⟩:=h0;exact ⟨rfl,a,b,c.more hk,d.more hm,e,f.from hb⟩
theorem aty (N:Nat) (h:Hn) (p:Pr) (m k:Nat) (on a b:Int) (s t:ByteArray) (z:List Int) (w:World) (hh:iB h p k w) (hp:eH p m w) (hs:∀x,h.has x->¬p.has x) (ht:bF w) (hm:m<=1000000000000000) (hk:k<=99999900000):
 av au 37 #[.pointer (some ⟨N,0,none⟩),.agg (jK h),.agg (aV 35 on a b s t z)] w (ze h p (m+8) (k+8004) w):=by
 obtain ⟨W,hW⟩:∃W,W=(w.alloc (.cells (jK h) 87)).alloc (.cells (aV 35 on a b s t z) 51):=⟨_,rfl⟩;have HW:=af hW;have hB:=Jj h 35 on a b s t z w W hW;have c0:=hB.c0;have c1:=hB.c1;have o0:=hB.o0;have o2:=hB.o2;have iK:=hh.kept hB.cA.size (fun x q=>hB.cA.block x (hh.lt q));have hp1:=hp.up hB.cA.size (fun x q=>hB.cA.block x (hp.lt x q));have HC:=af (atv h p m k W iK hp1 hs (ht.below ht.pos hB.cA) hm hk);have HB:=af hB;have jR:=af (fun n w'=>uW n w');have pM:Hid (∀x,x=w.heap.size∨x=w.heap.size+1->¬(h.has x∨p.has x)):=fun x hx q=>by
  rcases q with q | q
  ·have:=hh.lt q;omega
  ·have:=hp.lt x q;omega
 clear hh hp hs ht iK hp1 hB hW;generalize hst:jK h=HV at *;generalize hop:aV 35 on a b s t z=OC at *;clear hst hop;go_enter NB,NC;go_upto_region 1 with fail
 rw [<-HW.out];go_wp2_with fail
 refine (aq HC).mono ?_;rintro e w1 ⟨⟨n,rfl⟩,u,hu,hc,hd⟩;cases hu;have k1:w1.cell? ⟨w.heap.size,1,none⟩=some (.pointer (some ⟨h.Q,0,none⟩)):=(aP (hc.other w.heap.size (by have:=HB.out.size;omega) (pM.out _ (.inl rfl)))).trans c1;have HD:=af hd;clear hc hd HC c0 c1 o0 o2;go_wp2_with fail
 refine (aq HD).mono ?_;rintro e w2 ⟨rfl,hend⟩;have HE:=af hend;clear hend HD k1;go_wp2_with fail
 refine (aq jR _ _).mono ?_;rintro e w' ⟨rfl,hw⟩;obtain rfl:=hw.symm;go_wp2_with fail
 go_ret;exact HE.out.post HB.out.cA (ax _) (mN _ _)
theorem atz (N:Nat) (h:Hn) (p:Pr) (m k:Nat) (on a b:Int) (s t:ByteArray) (z:List Int) (w:World) (hh:iB h p k w) (hp:eH p m w) (hs:∀x,h.has x->¬p.has x) (ht:bF w) (hm:m<=1000000000000000) (hk:k<=99999900000):
 av au 37 #[.pointer (some ⟨N,0,none⟩),.agg (jK h),.agg (aV 36 on a b s t z)] w (ze h p (m+8) (k+8004) w):=by
 obtain ⟨W,hW⟩:∃W,W=(w.alloc (.cells (jK h) 87)).alloc (.cells (aV 36 on a b s t z) 51):=⟨_,rfl⟩;have HW:=af hW;have hB:=Jj h 36 on a b s t z w W hW;have c0:=hB.c0;have c1:=hB.c1;have o0:=hB.o0;have o2:=hB.o2;have iK:=hh.kept hB.cA.size (fun x q=>hB.cA.block x (hh.lt q));have hp1:=hp.up hB.cA.size (fun x q=>hB.cA.block x (hp.lt x q));have HC:=af (atw h p m k W iK hp1 hs (ht.below ht.pos hB.cA) hm hk);have HB:=af hB;have jR:=af (fun n w'=>uW n w');have pM:Hid (∀x,x=w.heap.size∨x=w.heap.size+1->¬(h.has x∨p.has x)):=fun x hx q=>by
  rcases q with q | q
  ·have:=hh.lt q;omega
  ·have:=hp.lt x q;omega
 clear hh hp hs ht iK hp1 hB hW;generalize hst:jK h=HV at *;generalize hop:aV 36 on a b s t z=OC at *;clear hst hop;go_enter NB,NC;go_upto_region 1 with fail
 rw [<-HW.out];go_wp2_with fail
 refine (aq HC).mono ?_;rintro e w1 ⟨⟨n,rfl⟩,u,hu,hc,hd⟩;cases hu;have k1:w1.cell? ⟨w.heap.size,1,none⟩=some (.pointer (some ⟨h.Q,0,none⟩)):=(aP (hc.other w.heap.size (by have:=HB.out.size;omega) (pM.out _ (.inl rfl)))).trans c1;have HD:=af hd;clear hc hd HC c0 c1 o0 o2;go_wp2_with fail
 refine (aq HD).mono ?_;rintro e w2 ⟨rfl,hend⟩;have HE:=af hend;clear hend HD k1;go_wp2_with fail
 refine (aq jR _ _).mono ?_;rintro e w' ⟨rfl,hw⟩;obtain rfl:=hw.symm;go_wp2_with fail
 go_ret;exact HE.out.post HB.out.cA (ax _) (mN _ _)
theorem atA (N:Nat) (h:Hn) (p:Pr) (m k:Nat) (on a b:Int) (s t:ByteArray) (z:List Int) (w:World) (hh:iB h p k w) (hp:eH p m w) (hs:∀x,h.has x->¬p.has x) (ht:bF w) (hk:k<=99999900000):
 av au 37 #[.pointer (some ⟨N,0,none⟩),.agg (jK h),.agg (aV 31 on a b s t z)] w (ze h p (m+8) (k+8004) w):=by
 obtain ⟨W,hW⟩:∃W,W=(w.alloc (.cells (jK h) 87)).alloc (.cells (aV 31 on a b s t z) 51):=⟨_,rfl⟩;have HW:=af hW;have hB:=Jj h 31 on a b s t z w W hW;have c0:=hB.c0;have c1:=hB.c1;have o0:=hB.o0;have o2:=hB.o2;have iK:=hh.kept hB.cA.size (fun x q=>hB.cA.block x (hh.lt q));have hp1:=hp.up hB.cA.size (fun x q=>hB.cA.block x (hp.lt x q));have HC:=af (atx h p m k a W iK hp1 hs (ht.below ht.pos hB.cA) hk);have HB:=af hB;have jR:=af (fun n w'=>uW n w');have pM:Hid (∀x,x=w.heap.size∨x=w.heap.size+1->¬(h.has x∨p.has x)):=fun x hx q=>by
  rcases q with q | q
  ·have:=hh.lt q;omega
  ·have:=hp.lt x q;omega
 clear hh hp hs ht iK hp1 hB hW;generalize hst:jK h=HV at *;generalize hop:aV 31 on a b s t z=OC at *;clear hst hop;go_enter NB,NC;go_upto_region 1 with fail
 rw [<-HW.out];go_wp2_with fail
 refine (aq HC).mono ?_;rintro e w1 ⟨n1,n2,rfl,u,hu,hc,hd⟩;cases hu;have k1:w1.cell? ⟨w.heap.size,1,none⟩=some (.pointer (some ⟨h.Q,0,none⟩)):=(aP (hc.other w.heap.size (by have:=HB.out.size;omega) (pM.out _ (.inl rfl)))).trans c1;have k2:w1.cell? ⟨w.heap.size+1,2,none⟩=some (.int .i64 a):=(aP (hc.other (w.heap.size+1) (by have:=HB.out.size;omega) (pM.out _ (.inr rfl)))).trans o2;have HD:=af hd;clear hc hd HC c0 c1 o0 o2;go_wp2_with fail
 refine (aq HD).mono ?_;rintro e w2 ⟨rfl,hend⟩;have HE:=af hend;clear hend HD k1 k2;go_wp2_with fail
 refine (aq jR _ _).mono ?_;rintro e w' ⟨rfl,hw⟩;obtain rfl:=hw.symm;go_wp2_with fail
 go_ret;exact HE.out.post HB.out.cA (ax _) (ax _)
theorem atB (N:Nat) (h:Hn) (p:Pr) (m k:Nat) (on a b:Int) (s t:ByteArray) (z:List Int) (w:World) (hh:iB h p k w) (hp:eH p m w) (hs:∀x,h.has x->¬p.has x):
 av au 37 #[.pointer (some ⟨N,0,none⟩),.agg (jK h),.agg (aV 32 on a b s t z)] w (ze h p m k w):=by
 obtain ⟨W,hW⟩:∃W,W=(w.alloc (.cells (jK h) 87)).alloc (.cells (aV 32 on a b s t z) 51):=⟨_,rfl⟩;have HW:=af hW;have hB:=Jj h 32 on a b s t z w W hW;have c0:=hB.c0;have c1:=hB.c1;have o0:=hB.o0;have iK:=hh.kept hB.cA.size (fun x q=>hB.cA.block x (hh.lt q));have HC:=af (aqY h.X h.E p.D h.g h.m h.v W iK.x iK.eg);have HD:Hid (∀w',ak W.heap.size W w'->av au 78 #[.pointer (some ⟨h.Q,0,none⟩)] w' fun e' w''=>e'= .returned (.agg (S h.g.z))∧ak w'.heap.size w' w''):=fun w' hb=>asM h.Q p.R (fF h.g h.n) h.u w' (iK.rg.kept (fun x q=>hb.block x (iK.rg.has q).2));have gL:Hid (∀w',ak w.heap.size w w'->ze h p m k w (.returned (.bool true)) w'):=fun w' hb=>(AI.same hh hp hs hb).post (aA _ _) (ax _) (ax _);have hr:h.g.z.length=138:=hh.eg.zl;have zz:=iZ;have eqs:=eqS h.g.z hr;have HB:=af hB;have M5:=hB.size;clear hh hp hs iK hB hW;generalize hst:jK h=HV at *;generalize hop:aV 32 on a b s t z=OC at *;clear hst hop;generalize h.g.z=r at *;go_enter NB,NC;go_upto_region 1 with fail
 rw [<-HW.out];go_wp2_with fail
 refine (aq HC).mono ?_;rintro e w1 ⟨rfl,hb⟩;have hz:W.heap.size<=w1.heap.size:=hb.size;have aJ:Hid (ak W.heap.size W (w1.alloc (.cells (S r) 28))):=hb.alloc hb.size _;have R1:bf (w1.alloc (.cells (S bT) 28)) w1.heap.size 138=true:=by rw [kV _ _ _ _ _ rfl];simp [bQ,bT]
 have k1:(w1.alloc (.cells (S r) 28)).cell? ⟨w.heap.size,1,none⟩=some (.pointer (some ⟨h.Q,0,none⟩)):=(aP (aJ.out.block w.heap.size (by omega))).trans c1;clear hb c0 c1 o0 HC;go_wp2_with (refine ja rfl _ _ rfl _ rfl _ rfl hr R1 _ (sQ _ _ _ _ _ rfl) ?_)
 refine (aq HD _ aJ.out).mono ?_;rintro e2 w2 ⟨rfl,hb⟩;rw [aB] at hb;have hz2:w1.heap.size<w2.heap.size:=by have:=hb.size;simp at this;omega
 have aZ:Hid (ak w.heap.size w (w2.alloc (.cells (S r) 28))):=(HB.out.cA.trans ((aJ.out.trans (hb.mono (by omega))).mono (by omega))).alloc (by omega) _;have R2:bf (w2.alloc (.cells (S bT) 28)) w2.heap.size 138=true:=by rw [kV _ _ _ _ _ rfl];simp [bQ,bT]
 have q2:bf (w2.alloc (.cells (S r) 28)) w1.heap.size 138=true:=by rw [xQ _ _ _ _ hz2,gZ hb (by omega),kV _ _ _ _ _ rfl];simp [bQ,hr]
 have d2:bW (w2.alloc (.cells (S r) 28)) w1.heap.size=S r:=by rw [A5 _ _ _ hz2,qQ hb (by omega)];exact zF _ _ _ _ rfl
 have q3:bf (w2.alloc (.cells (S r) 28)) w2.heap.size 138=true:=by rw [kV _ _ _ _ _ rfl];simp [bQ,hr]
 have d3:bW (w2.alloc (.cells (S r) 28)) w2.heap.size=S r:=zF _ _ _ _ rfl;clear hb k1 R1 HD;go_wp2_with (first | (refine ja rfl _ _ rfl _ rfl _ rfl hr R2 _ (sQ _ _ _ _ _ rfl) ?_) | (refine fH rfl _ rfl _ rfl q2 _ d2 ?_) | (refine fH rfl _ rfl _ rfl q3 _ d3 ?_))
 go_ret;exact gL.out _ aZ.out
theorem atC (a b c d e:Int) (w:World):(binOp .eql 66 (.agg #[.int .i64 a,.int .i64 b,.int .i64 c,.int .i64 d,.int .i64 e]) (.agg #[.int .i64 a,.int .i64 b,.int .i64 c,.int .i64 d,.int .i64 e])).run au w= .ok (.bool true) w:=by
 have hs:Tryz.prog.underlying 66=some (.struct (Tryz.prog.fieldsOf 66)):=by kernel_rfl
 have hp:Tryz.prog.stoodInHeld 66=false:=by kernel_rfl
 rw [run_eql_struct,run_equalIn_struct w 9999 66 _ _ hs hp];have a3:(isAgg 3).run au w= .ok false w:=by kernel_rfl
 have ei:∀x:Int,(Op.equalIn 9999 3 (.int .i64 x) (.int .i64 x)).run au w= .ok true w:=fun x=>by rw [run_equalIn_int w 9998 3 .i64 .i64 _ _ Tryz.underlying3];simp
 have p0:(nF 3 #[.int .i64 a,.int .i64 b,.int .i64 c,.int .i64 d,.int .i64 e] 0).run au w= .ok (.int .i64 a) w:=by simp [nF,a3]
 have p1:(nF 3 #[.int .i64 a,.int .i64 b,.int .i64 c,.int .i64 d,.int .i64 e] 1).run au w= .ok (.int .i64 b) w:=by simp [nF,a3]
 have p2:(nF 3 #[.int .i64 a,.int .i64 b,.int .i64 c,.int .i64 d,.int .i64 e] 2).run au w= .ok (.int .i64 c) w:=by simp [nF,a3]
 have p3:(nF 3 #[.int .i64 a,.int .i64 b,.int .i64 c,.int .i64 d,.int .i64 e] 3).run au w= .ok (.int .i64 d) w:=by simp [nF,a3]
 have p4:(nF 3 #[.int .i64 a,.int .i64 b,.int .i64 c,.int .i64 d,.int .i64 e] 4).run au w= .ok (.int .i64 e) w:=by simp [nF,a3]
 simp [Program.fieldsOf,Tryz.underlying66,Op.eqFields,Sem.run_bind,p0,p1,p2,p3,p4,ei,kN]
theorem atD (N:Nat) (h:Hn) (p:Pr) (m k:Nat) (on a b:Int) (s t:ByteArray) (z:List Int) (w:World) (hh:iB h p k w) (hp:eH p m w) (hs:∀x,h.has x->¬p.has x):
 av au 37 #[.pointer (some ⟨N,0,none⟩),.agg (jK h),.agg (aV 33 on a b s t z)] w (ze h p m k w):=by
 obtain ⟨W,hW⟩:∃W,W=(w.alloc (.cells (jK h) 87)).alloc (.cells (aV 33 on a b s t z) 51):=⟨_,rfl⟩;have HW:=af hW;have hB:=Jj h 33 on a b s t z w W hW;have c0:=hB.c0;have c1:=hB.c1;have o0:=hB.o0;have iK:=hh.kept hB.cA.size (fun x q=>hB.cA.block x (hh.lt q));have HC:=af (aqZ h.X h.E p.D h.g h.m h.v W iK.x iK.eg);have HD:Hid (∀w',ak W.heap.size W w'->av au 79 #[.pointer (some ⟨h.Q,0,none⟩)] w' fun e' w''=>e'= .returned (.agg #[.int .i64 (h.g.c 0:Int),.int .i64 (h.g.c 1:Int),.int .i64 (h.g.c 2:Int),.int .i64 (h.g.c 3:Int),.int .i64 ((h.g.b 1).length:Int)])∧ak w'.heap.size w' w''):=fun w' hb=>asN h.Q p.R (fF h.g h.n) h.u w' (iK.rg.kept (fun x q=>hb.block x (iK.rg.has q).2));have gL:Hid (∀w',ak w.heap.size w w'->ze h p m k w (.returned (.bool true)) w'):=fun w' hb=>(AI.same hh hp hs hb).post (aA _ _) (ax _) (ax _);generalize (h.g.c 0:Int)=n0 at *;generalize (h.g.c 1:Int)=n1 at *;generalize (h.g.c 2:Int)=n2 at *;generalize (h.g.c 3:Int)=n3 at *;generalize ((h.g.b 1).length:Int)=n4 at *;have eqs:=atC n0 n1 n2 n3 n4;have HB:=af hB;have M5:=hB.size;clear hh hp hs iK hB hW;generalize hst:jK h=HV at *;generalize hop:aV 33 on a b s t z=OC at *;clear hst hop;go_enter NB,NC;go_upto_region 1 with fail
 rw [<-HW.out];go_wp2_with fail
 refine (aq HC).mono ?_;rintro e w1 ⟨rfl,hb⟩;have hz:W.heap.size<=w1.heap.size:=hb.size;have aJ:Hid (ak W.heap.size W (w1.alloc (.cells #[.int .i64 n0,.int .i64 n1,.int .i64 n2,.int .i64 n3,.int .i64 n4] 66))):=hb.alloc hb.size _;have k1:(w1.alloc (.cells #[.int .i64 n0,.int .i64 n1,.int .i64 n2,.int .i64 n3,.int .i64 n4] 66)).cell? ⟨w.heap.size,1,none⟩=some (.pointer (some ⟨h.Q,0,none⟩)):=(aP (aJ.out.block w.heap.size (by omega))).trans c1;clear hb c0 c1 o0 HC;go_upto_region 12 with fail
 obtain ⟨W1,hW1⟩:∃W1,W1=w1.alloc (.cells #[.int .i64 n0,.int .i64 n1,.int .i64 n2,.int .i64 n3,.int .i64 n4] 66):=⟨_,rfl⟩;have hr1:W1.heap[w1.heap.size]? =some (.cells #[.int .i64 n0,.int .i64 n1,.int .i64 n2,.int .i64 n3,.int .i64 n4] 66 (0,0)):=by rw [hW1,bg]
 rw [<-hW1] at aJ k1⊢;clear hW1;go_wp2_with fail
 refine (aq HD _ aJ.out).mono ?_;rintro e2 w2 ⟨rfl,hb⟩;have eS:w2.heap[w1.heap.size]? =some (.cells #[.int .i64 n0,.int .i64 n1,.int .i64 n2,.int .i64 n3,.int .i64 n4] 66 (0,0)):=(hb.block _ (iD.1 hr1).1).trans hr1;have sY:w1.heap.size<w2.heap.size:=(iD.1 eS).1;have hne:¬w1.heap.size=w2.heap.size:=by omega
 have aZ:Hid (ak w.heap.size w (w2.alloc (.cells #[.int .i64 n0,.int .i64 n1,.int .i64 n2,.int .i64 n3,.int .i64 n4] 66))):=(HB.out.cA.trans ((aJ.out.trans (hb.mono aJ.out.size)).mono (by omega))).alloc (by have:=hb.size;have:=aJ.out.size;omega) _;have x0:=cF eS 0;have x1:=cF eS 1;have x2:=cF eS 2;have x3:=cF eS 3;have x4:=cF eS 4;simp only [List.getElem?_toArray,List.getElem?_cons_zero,List.getElem?_cons_succ] at x0 x1 x2 x3 x4;clear hb k1 HD hr1 eS;go_wp2_with fail
 go_ret;exact gL.out _ aZ.out
end Go.Proofs.YtmmflekajbeamaaGreatDoor
