/- Texts of ours, joined, in few bytes. -/
import Derived.Test.YtmmflekajbeamaaGreatDoorE36
import Derived.Test.YtmmflekajbeamaaGreatDoorCards
import Derived.Test.YtmmflekajbeamaaGreatDoorTie
import Derived.ProofKit
import Derived.LaidMore
import Derived.OpenShut
import Derived.Deep.Strs
open False renaming elim->ND
open Go renaming Calls->av,DataW->nC,Ending->eL,MemPlace->DU,TypeId->cE,Value->aj,heap_alloc_new->bg,reachBytes->JT,wpList_buildTo->Gz,wpList_load_mid->rQ
open Go.DataW renaming trod->JS,weights->NE,weightsAll->YZ
open Go.Proofs.Tryz renaming prog->au,underlying28->jO,underlying3->pO,underlying51->D8,underlying9->Cj
open Go.RowKit renaming Below->ak
open Go.RowKit.Below renaming refl->aA
open Go.Value renaming cells->Rf,int->cI
open Go.World renaming ownsRow_nil->j7
open List.cons renaming injEq->XB
open List renaming getElem?_drop->Ch,getElem?_eq_getElem->bE,getElem?_eq_some_iff->fG,getElem?_take->tW,length_map->jV,length_set->lU,mem_append_left->YT,range->jL
open Nat renaming le_add_right->mN,le_of_lt->iP,le_refl->ax,le_succ->jk,zero_le->bK
open Option.some renaming inj->oN,injEq->Ci
open Prod.mk renaming injEq->vU
namespace Go.Proofs.YtmmflekajbeamaaGreatDoor
set_option maxRecDepth 100000
set_option maxHeartbeats 8000000
section
open Go.RowKit Go.Maps Go.WideMaps
def tT (c:Nat) (C:Prop) (N q:Nat) (ps:List Pr) (hs:List Hn) (m k:Nat) (w:World) (e':eL) (w':World):Prop:=
 e'= .returned (.bool true)∧∃q' vs' nr ps' eZ hs' hv',kA N q' vs' nr ps' eZ hs' hv' (m+8) (k+8004) w'∧ak N w w'∧q'<=q+1∧ps'.length<=ps.length+1∧hs.length<=hs'.length∧hs'.length<=hs.length+c∧(C->hs'.length=hs.length+1)
theorem tT.imp {c:Nat} {C D:Prop} {N q:Nat} {ps:List Pr} {hs:List Hn} {m k:Nat} {w:World} {e':eL} {w':World} (h:tT c C N q ps hs m k w e' w') (f:D->C):tT c D N q ps hs m k w e' w':=by
 obtain ⟨a,q',vs',nr,ps',eZ,hs',hv',b,d,e,g,i,j,l⟩:=h;exact ⟨a,q',vs',nr,ps',eZ,hs',hv',b,d,e,g,i,j,fun x=>l (f x)⟩
theorem kA.more {N q:Nat} {vs:List aj} {vi:aj} {ps:List Pr} {sv:aj} {hs:List Hn} {hv:aj} {m k m' k':Nat} {w:World} (h:kA N q vs vi ps sv hs hv m k w) (hm:m<=m') (hk:k<=k'):kA N q vs vi ps sv hs hv m' k' w:=⟨h.wg.more hm hk,h.bk,h.len,h.bd,h.tab,h.pos⟩
theorem kA.up {N q:Nat} {vs:List aj} {vi:aj} {ps:List Pr} {sv:aj} {hs:List Hn} {hv:aj} {m k:Nat} {w w':World} (h:kA N q vs vi ps sv hs hv m k w) (hb:ak w.heap.size w w'):kA N q vs vi ps sv hs hv m k w':=by
 refine ⟨h.wg.up hb,h.bk.above hb,h.len,fun x c=>?_,h.tab.below h.tab.pos hb,h.pos⟩;obtain ⟨b1,b2,b3⟩:=h.bd x c;exact ⟨b1,Nat.lt_of_lt_of_le b2 hb.size,b3⟩
theorem kA.c4 {N q:Nat} {vs:List aj} {vi:aj} {ps:List Pr} {sv:aj} {hs:List Hn} {hv:aj} {m k:Nat} {w:World} (h:kA N q vs vi ps sv hs hv m k w):w.cell? ⟨N,4,none⟩=some hv:=by
 have:=h.wg.wa.bk 4 (by decide) (by decide);rw [cq] at this;exact this
theorem kA.same {N q:Nat} {vs:List aj} {vi:aj} {ps:List Pr} {sv:aj} {hs:List Hn} {hv:aj} {m k:Nat} {w w':World} (h:kA N q vs vi ps sv hs hv m k w) (hb:ak w.heap.size w w'):tT 0 False N q ps hs m k w (.returned (.bool true)) w':=
 ⟨rfl,q,vs,vi,ps,sv,hs,hv,(h.up hb).more (mN _ _) (mN _ _),hb.mono (iP h.wg.wa.lt),jk _,jk _,ax _,ax _,ND⟩
theorem kA.aut {N q:Nat} {vs:List aj} {vi:aj} {ps:List Pr} {sv:aj} {hs:List Hn} {hv:aj} {m k m' k':Nat} {w w1:World} (h:kA N q vs vi ps sv hs hv m k w) (hb:ak w.heap.size w w1) {C:Prop} {e':eL} {w':World} (hp:F7 C N (zj vi) ps sv hs hv m' k' w1 e' w') (hm:m'<=m+8) (hk:k'<=k+8004):tT 1 C N q ps hs m k w e' w':=by
 obtain ⟨he,ps',eZ,hs',hv',a,f,l1,l2,l3,l4⟩:=hp;obtain ⟨c,d⟩:=(h.up hb).turn a f;exact ⟨he,q,vs,vi,ps',eZ,hs',hv',c.more hm hk,(hb.mono (iP h.wg.wa.lt)).trans d,jk _,l1,l2,l3,l4⟩
theorem kA.agc {N q:Nat} {vs:List aj} {vi:aj} {ps:List Pr} {sv:aj} {hs:List Hn} {hv:aj} {m k m' k':Nat} {w w1:World} (h:kA N q vs vi ps sv hs hv m k w) (hb:ak w.heap.size w w1) {j:Nat} {a:Hn} {p:Pr} (hj:hs[j]? =some a) (hi:ps[a.i]? =some p) {e':eL} {w':World} (hp:ze a p m' k' w1 e' w') (h1:m<=m') (h2:k<=k') (hm:m'<=m+8) (hk:k'<=k+8004):tT 0 False N q ps hs m k w e' w':=by
 obtain ⟨he,a',p',c1,c2,c3,f⟩:=hp;obtain ⟨x,y⟩:=(h.up hb).wg.hand hj hi c1 c2 c3 f h1 h2;obtain ⟨c,d⟩:=(h.up hb).turn x y;exact ⟨he,q,vs,vi,_,sv,_,hv,c.more hm hk,(hb.mono (iP h.wg.wa.lt)).trans d,jk _,by rw [lU];exact jk _,by rw [lU];exact ax _,by rw [lU];exact ax _,ND⟩
structure Nb (k on a:Int) (s:ByteArray) (z:List Int):Prop where
 z:z.length=138
 s:s.size<=140737488351232
 on: -9223372036854775808<=on∧on<=9223372036854775807
 a:a<=9223372036854775807
theorem agd {N q:Nat} {vs:List aj} {vi:aj} {ps:List Pr} {sv:aj} {hs:List Hn} {hv:aj} {m k:Nat} {w:World} (h:kA N q vs vi ps sv hs hv m k w) (kd on a b:Int) (s t:ByteArray) (z:List Int) (ok:Nb kd on a s z) (hkd:20<=kd∧kd<=29) (hm:m<=1000000000000000) (hl:ps.length<=1000000000000):
 av au 13 #[.pointer (some ⟨N,0,none⟩),.agg (aV kd on a b s t z)] w fun e' w'=>e'= .returned (.bool true)∧∃ps' eZ,kA N q vs vi ps' eZ hs hv (m+8) (k+8004) w'∧rK N ps sv hs hv ps' eZ hs hv w w'∧ak N w w'∧(ps'.length=if kd=20 then ps.length+1 else ps.length)∧(kd=20->ps=[]->sx ps' 0 w')∧(kd=21∨kd=24->∀n,sx ps n w->sx ps' (n+s.size) w'):=by
 refine (amn N (aE (zj vi) 4 hv) ps sv m kd on a b s t z w h.wg.wa hl ⟨hkd.1,by omega⟩ ok.z (by omega) ok.s ok.on ok.a).mono ?_;rintro e w' ⟨he,ps',eZ,hw,hf,hlen,hc1,hc2⟩;obtain ⟨x,y⟩:=h.wg.dev hw hf (by rw [hlen];split<;>omega);obtain ⟨c,d⟩:=h.turn x y;exact ⟨he,ps',eZ,c.more (by omega) (mN _ _),y,d,hlen,hc1,hc2⟩
theorem auu {N q:Nat} {vs:List aj} {vi:aj} {ps:List Pr} {sv:aj} {hs:List Hn} {hv:aj} {m k:Nat} {w:World} (h:kA N q vs vi ps sv hs hv m k w) (kd on a b:Int) (s t:ByteArray) (z:List Int) (ok:Nb kd on a s z) (hkd:20<=kd∧kd<=29) (hm:m<=1000000000000000) (hl:ps.length<=1000000000000):
 av au 13 #[.pointer (some ⟨N,0,none⟩),.agg (aV kd on a b s t z)] w (tT 0 False N q ps hs m k w):=by
 refine (agd h kd on a b s t z ok hkd hm hl).mono ?_;rintro e w' ⟨he,ps',eZ,c,_,d,hlen,_⟩;exact ⟨he,q,vs,vi,ps',eZ,hs,hv,c,d,jk _,by rw [hlen];split<;>omega,ax _,ax _,ND⟩
theorem age {N q:Nat} {vs:List aj} {vi:aj} {ps:List Pr} {sv:aj} {hs:List Hn} {hv:aj} {m k:Nat} {w:World} (h:kA N q vs vi ps sv hs hv m k w) (on a b:Int) (s t:ByteArray) (z:List Int) (ok:Nb 30 on a s z) (hm:m<=1000000000000000) (hk:1500<=k) (hl:ps.length<=1000000000000) (Jl:hs.length<=1000000000000):
 av au 13 #[.pointer (some ⟨N,0,none⟩),.agg (aV 30 on a b s t z)] w (tT 1 (∃(i:Nat) (p:Pr),oT on ((ps.length:Int)+1)=(i:Int)∧ps[i]? =some p∧Calm p 11 w∧cV z=true) N q ps hs m k w):=by
 refine (auc N on a b s t z w ok.z (fun w'=>tT 1 (∃(i:Nat) (p:Pr),oT on ((ps.length:Int)+1)=(i:Int)∧ps[i]? =some p∧Calm p 11 w∧cV z=true) N q ps hs m k w (.returned (.bool true)) w') (fun w1 hb=>?_)).mono ?_
 ·have h1:=h.up hb;have fin:∀C:Prop,((∃(i:Nat) (p:Pr),oT on ((ps.length:Int)+1)=(i:Int)∧ps[i]? =some p∧Calm p 11 w∧cV z=true)->C)->∀e' w',F7 C N (zj vi) ps sv hs hv (m+8) k w1 e' w'->e'= .returned (.bool true)∧tT 1 (∃(i:Nat) (p:Pr),oT on ((ps.length:Int)+1)=(i:Int)∧ps[i]? =some p∧Calm p 11 w∧cV z=true) N q ps hs m k w (.returned (.bool true)) w':=fun C hC e' w' hp=>by
   have he:=hp.1;subst he;exact ⟨rfl,(h.aut hb hp (ax _) (mN _ _)).imp hC⟩
  obtain ⟨i,hi,hil⟩:=Ug on (ps.length+1) (Nat.succ_pos _);have hi':oT on ((ps.length:Int)+1)=(i:Int):=hi;rcases Nat.lt_or_ge i ps.length with hlt | hge
  ·have hp:ps[i]? =some ps[i]:=bE hlt;by_cases hs0:cV z=true
   ·exact (at3 N (zj vi) ps sv hs hv m k on a b s t z w1 h1.wg ok.z hl ok.on i _ hi' hp hs0 h1.tab hm hk Jl).mono (fin _ (fun ⟨j,p,cj,cp,cc,_⟩=>by
     have e:j=i:=by rw [hi'] at cj;omega
     subst e;rw [hp] at cp;cases cp
     exact cc.up (hb.block _ ((h.wg.wa.pr _ _ hp).1.lt _ (.inr (.inl rfl))))))
   ·exact (at0 N (zj vi) ps sv hs hv m k on a b s t z w1 h1.wg ok.z hl ok.on i _ hi' hp (by simpa using hs0)).mono (fin False (fun ⟨_,_,_,_,_,c⟩=>hs0 c))
  ·have e:i=ps.length:=by omega
   subst e
   exact (atY N (zj vi) ps sv hs hv m k on a b s t z w1 h1.wg ok.z hl ok.on hi').mono (fin False (fun ⟨j,p,cj,cp,_,_⟩=>by
    have e:j=ps.length:=by rw [hi'] at cj;omega
    have:=(fG.1 cp).1
    omega))
 ·rintro e w' ⟨rfl,hp⟩;exact hp
theorem agf {N q:Nat} {vs:List aj} {vi:aj} {ps:List Pr} {sv:aj} {hs:List Hn} {hv:aj} {m k:Nat} {w:World} (h:kA N q vs vi ps sv hs hv m k w) (kd on a b:Int) (s t:ByteArray) (z:List Int) (ok:Nb kd on a s z) (hkd:31<=kd∧kd<=36) (hm:m<=1000000000000000) (hk:k<=99999900000) (hq:q<=900000000) (Jl:hs.length<=1000000000000):
 av au 13 #[.pointer (some ⟨N,0,none⟩),.agg (aV kd on a b s t z)] w (tT 0 False N q ps hs m k w):=by
 rcases Nat.eq_zero_or_pos hs.length with h0 | h0
 ·obtain ⟨sa,sc,gN⟩:=bA h.wg.ho;have c4:=h.c4;rw [gN,h0] at c4;refine (aue N kd on a b s t z w (by omega) sa sc h.wg.wa.lt c4).mono ?_;rintro e w' ⟨rfl,hb⟩;exact h.same hb
 ·obtain ⟨j,hj,hjl⟩:=Ug on hs.length h0;have hx:hs[j]? =some hs[j]:=bE hjl;obtain ⟨⟨p,hp,hn⟩,_⟩:=h.wg.hn j _ hx;have hsp:=h.wg.sp j _ hx _ p hp;refine (auf N hs hv kd on a b s t z w (by omega) ok.z h.wg.wa.lt h.c4 h.wg.ho Jl ok.on j _ hx hj (fun w'=>tT 0 False N q ps hs m k w (.returned (.bool true)) w') (fun w1 hb=>?_)).mono ?_
  ·have hn1:=hn.kept hb.size (fun x c=>hb.block x (hn.lt c));have hp1:=(h.wg.wa.pr _ p hp).1.up hb.size (fun x c=>hb.block x ((h.wg.wa.pr _ p hp).1.lt x c));have vK:=h.tab.below h.tab.pos hb;have big:∀e' w',ze hs[j] p (m+8) (k+8004) w1 e' w'->e'= .returned (.bool true)∧tT 0 False N q ps hs m k w (.returned (.bool true)) w':=fun e' w' c=>by
    have he:=c.1;subst he;exact ⟨rfl,h.agc hb hx hp c (mN _ _) (mN _ _) (ax _) (ax _)⟩
   have small:∀e' w',ze hs[j] p m k w1 e' w'->e'= .returned (.bool true)∧tT 0 False N q ps hs m k w (.returned (.bool true)) w':=fun e' w' c=>by
    have he:=c.1;subst he;exact ⟨rfl,h.agc hb hx hp c (ax _) (ax _) (mN _ _) (mN _ _)⟩
   have cs:kd=31∨kd=32∨kd=33∨kd=34∨kd=35∨kd=36:=by omega
   rcases cs with rfl | rfl | rfl | rfl | rfl | rfl
   ·exact (atA N _ p m k on a b s t z w1 hn1 hp1 hsp vK hk).mono big
   ·exact (atB N _ p m k on a b s t z w1 hn1 hp1 hsp).mono small
   ·exact (atD N _ p m k on a b s t z w1 hn1 hp1 hsp).mono small
   ·refine (auq N q vs vi _ p k on a b s t z w1 hn1 (h.up hb).bk h.len hq).mono ?_;rintro e w' ⟨rfl,c⟩;obtain ⟨vs',nr,c1,c2⟩:=(h.up hb).known c;exact ⟨rfl,rfl,q+1,vs',nr,ps,sv,hs,hv,c1.more (mN _ _) (mN _ _),(hb.mono (iP h.wg.wa.lt)).trans c2,ax _,jk _,ax _,ax _,ND⟩
   ·exact (aty N _ p m k on a b s t z w1 hn1 hp1 hsp vK hm hk).mono big
   ·exact (atz N _ p m k on a b s t z w1 hn1 hp1 hsp vK hm hk).mono big
  ·rintro e w' ⟨rfl,c⟩;exact c
theorem auv:aE (zj (.slice none 0 0)) 4 (.slice none 0 0)=um:=by
 funext j;unfold aE zj um;split
 ·rfl
 ·split<;>rfl
theorem agh (N:Nat) (w:World) (r:w.heap[N]? =some (.cells Im 49 (0,0))) (ht:bF w) (h0:0<N):kA N 0 [] (.slice none 0 0) [] (.slice none 0 0) [] (.slice none 0 0) 0 1500 w:=by
 have hw:=amq N w r;refine ⟨⟨by rw [auv];exact hw,j7 _ _ _ _,(fun j a hj=>by cases hj),(fun j a hj=>by cases hj),(fun i j a b hj=>by cases hj),(fun j a hj=>by cases hj),(fun i p hi=>by cases hi),(fun x e=>by cases e)⟩,⟨cF r 2,fun j h1 h2=>hw.bk j (by omega) (by omega),hw.fz,fun cur e=>by rw [r] at e;simp at e,j7 _ _ _ _,(fun i v hv=>by cases hv)⟩,rfl,fun x c=>?_,ht,h0⟩;rcases c with c | ⟨v,hv,_⟩
 ·cases c
 ·cases hv
def qL (N:Nat) (w1:World) (j:Nat) (w:World):Prop:=∃q vs vi ps sv hs hv,kA N q vs vi ps sv hs hv (8 * j) (1500+8004 * j) w∧ak N w1 w∧q<=j∧ps.length<=j∧hs.length<=j
theorem qL.cA {N j:Nat} {w1 w:World} (h:qL N w1 j w):ak N w1 w:=by
 obtain ⟨q,vs,vi,ps,sv,hs,hv,_,hb,_⟩:=h;exact hb
theorem qL.up {N j:Nat} {w1 w w':World} (h:qL N w1 j w) (hb:ak w.heap.size w w'):qL N w1 j w':=by
 obtain ⟨q,vs,vi,ps,sv,hs,hv,a,b,c,d,e⟩:=h;exact ⟨q,vs,vi,ps,sv,hs,hv,a.up hb,b.trans (hb.mono (iP a.wg.wa.lt)),c,d,e⟩
theorem qL.next {N j:Nat} {w1 w:World} (h:qL N w1 j w):qL N w1 (j+1) w:=by
 obtain ⟨q,vs,vi,ps,sv,hs,hv,a,b,c,d,e⟩:=h;exact ⟨q,vs,vi,ps,sv,hs,hv,a.more (by omega) (by omega),b,by omega,by omega,by omega⟩
theorem qL.looks {N j:Nat} {w1 w:World} (h:qL N w1 j w) (hj:j<=10000001):av au 14 #[.pointer (some ⟨N,0,none⟩)] w fun e' w'=>e'= .returned (.bool true)∧qL N w1 j w':=by
 have h0:=h;obtain ⟨q,vs,vi,ps,sv,hs,hv,a,b,c,d,e⟩:=h0;refine (aup N vs vi w a.bk (by rw [a.len];omega)).mono ?_;rintro e w' ⟨he,hb⟩;exact ⟨he,h.up hb⟩
theorem auw {N j:Nat} {w1 w:World} (h:qL N w1 j w) (kd on a b:Int) (s t:ByteArray) (z:List Int) (ok:Nb kd on a s z) (hkd:20<=kd∧kd<=36) (hj:j<=10000000):
 av au 13 #[.pointer (some ⟨N,0,none⟩),.agg (aV kd on a b s t z)] w fun e' w'=>e'= .returned (.bool true)∧qL N w1 (j+1) w':=by
 obtain ⟨q,vs,vi,ps,sv,hs,hv,x,hb,hq,hp,hh⟩:=h;have fin:∀(d:Nat) (C:Prop),d<=1->∀e' w',tT d C N q ps hs (8 * j) (1500+8004 * j) w e' w'->e'= .returned (.bool true)∧qL N w1 (j+1) w':=fun d C hd e' w' c=>by
  obtain ⟨he,q',vs',nr,ps',eZ,hs',hv',y,hb',l1,l2,_,l3,_⟩:=c;exact ⟨he,q',vs',nr,ps',eZ,hs',hv',y.more (by omega) (by omega),hb.trans hb',by omega,by omega,by omega⟩
 by_cases c1:kd<=29
 ·exact (auu x kd on a b s t z ok ⟨hkd.1,c1⟩ (by omega) (by omega)).mono (fin _ _ (by decide))
 ·by_cases c2:kd=30
  ·subst c2;exact (age x on a b s t z ok (by omega) (by omega) (by omega) (by omega)).mono (fin _ _ (by decide))
  ·exact (agf x kd on a b s t z ok (by omega) (by omega) (by omega) (by omega) (by omega)).mono (fin _ _ (by decide))
theorem auy (v:aj) (n:Nat) (w:World) (h:EY v n w) (ht:bF w) (hn:n<=10000000) (hbg:av au 12 #[.int .i64 20,.int .i64 36] w fun e' w'=>e'= .returned (.bool true)∧ak w.heap.size w w'):
 av au 6 #[v,.int .i64 20,.int .i64 36] w fun e' w'=>e'= .returned (.bool true)∧ak w.heap.size w w':=by
 obtain ⟨ad,cc,rfl⟩:=h.form;have HH:=af h;have xh:=af hbg;have mq:=af ht;have HN7:=af hn;clear hbg ht hn;have agj:=af h.few;clear h;go_enter Tryz.func6,Tryz.ntmps6;go_wp2_with fail
 refine (aq xh).mono ?_;rintro e w1 ⟨rfl,hb1⟩;obtain ⟨W,hW⟩:∃W,W=w1.alloc (.cells Im 49):=⟨_,rfl⟩;have hBW:ak w1.heap.size w1 W:=by rw [hW];exact (aA _ _).alloc (ax _) _
 have hA:qL w1.heap.size w1 0 W:=by
  have hp:=mq.out.pos;have h1:=hb1.size;exact ⟨0,[],_,[],_,[],_,agh _ _ (by rw [hW,bg]) (mq.out.below hp (hb1.trans (hBW.mono h1))) (by omega),hBW,ax _,ax _,ax _⟩
 have HW:=af hW;have HA:=af hA;have aJ:=af hb1;have pJ:=af hBW;have hz1:=hb1.size;clear hW hA hb1 hBW xh;go_wp2_with fail
 rw [<-HW.out];go_loopw [9] (fun i wr=>∃j:Nat,j<=n∧i= .int .i64 j∧Hid (qL w1.heap.size w1 j wr)) (fun i _=>n - (intOf i).toNat)
 case atStart=>exact ⟨0,bK _,rfl,HA.out⟩
 case round=>
  obtain ⟨j,hj,rfl,HI⟩:=hrel;by_cases hlt:j<n
  ·have hlt':(j:Int)<(n:Int):=by omega
   have Xz:(j:Int)<1152921504606846976:=by have:=agj.out;omega
   have hI:=HI.out;have nJ:ak w.heap.size w wr:=aJ.out.trans (hI.cA.mono hz1);obtain ⟨G,o,c,hv,hG,cs,hcs,hrg⟩:=(HH.out.up nJ).at' j hlt;obtain ⟨k,on,a,b,s,t,z,rfl,hz,hs,hon,ha⟩:=hcs.it;cases hv;have hj0:¬(j:Int)<0:=by omega
   have MG:=af hrg;have qY:=af (K3 k on a b s t z hz);obtain ⟨W1,hW1⟩:∃W1,W1=wr.alloc (.cells (aV k on a b s t z) 51):=⟨_,rfl⟩;have hO:=QO k on a b s t z wr W1 hW1;have sc:=run_storeCells_new (P:=au) wr 51 Tryz.zeroCells51 (aV k on a b s t z) (by rw [Da,ach _ _ _ _ _ _ _ hz]) (by rw [ach _ _ _ _ _ _ _ hz];exact amv) (amw k on a b s t z);rw [<-hW1] at sc;have c0:=hO.c0;have HO:=af hO;have jB:=af (hI.up hO.cA);have vA:=af hO.all;have cH:Hid (20<=k∧k<=36->av au 13 #[.pointer (some ⟨w1.heap.size,0,none⟩),.agg (aV k on a b s t z)] W1 (fun e' w'=>e'= .returned (.bool true)∧qL w1.heap.size w1 (j+1) w')):=fun hk=>auw jB.out k on a b s t z ⟨hz,hs,hon,ha⟩ hk (by have:=HN7.out;omega);have yj:=af hW1;clear hrg hcs hs hon ha hO hI nJ HI hW1;have Jo:=af (Tt (m:=j) (amu hlt agj.out));by_cases hk:20<=k∧k<=36
   ·have k1:¬k<20:=by omega
    have k2:¬36<k:=by omega
    have agk:=af (cH.out hk);clear hk cH;generalize aV k on a b s t z=OC at *;go_upto_region 8 with fail
    clear Xz
    go_wp2_with (first
     | (refine rQ rfl 51 _ rfl G (o+j * 144) rfl OC.toList _ MG.out D8 rfl (by rw [Da,qY.out]) ?_)
     | (refine rQ rfl 51 _ rfl wr.heap.size 0 rfl OC.toList _ vA.out D8 rfl (by rw [Da,qY.out]) ?_))
    refine (aq agk).mono ?_;rintro e w2 ⟨rfl,h2⟩;have HLk:=af (h2.looks (by have:=HN7.out;omega));clear h2 agk;go_wp2_with fail
    refine (aq HLk).mono ?_;rintro e w3 ⟨rfl,jE⟩;have HN:=af jE;clear jE HLk;go_wp2_with fail
    exact ⟨⟨j+1,hlt,congrArg (cI .i64) Jo.out,HN⟩,EP Jo.out hlt⟩
   ·have HN:Hid (qL w1.heap.size w1 (j+1) W1):=jB.out.next;clear cH;by_cases k1:k<20
    ·clear hk;generalize aV k on a b s t z=OC at *;go_upto_region 8 with fail
     clear Xz;go_wp2_with (refine rQ rfl 51 _ rfl G (o+j * 144) rfl OC.toList _ MG.out D8 rfl (by rw [Da,qY.out]) ?_)
     exact ⟨⟨j+1,hlt,congrArg (cI .i64) Jo.out,HN⟩,EP Jo.out hlt⟩
    ·have k2:36<k:=by omega
     clear hk;generalize aV k on a b s t z=OC at *;go_upto_region 8 with fail
     clear Xz;go_wp2_with (refine rQ rfl 51 _ rfl G (o+j * 144) rfl OC.toList _ MG.out D8 rfl (by rw [Da,qY.out]) ?_)
     exact ⟨⟨j+1,hlt,congrArg (cI .i64) Jo.out,HN⟩,EP Jo.out hlt⟩
  ·have hlt':¬(j:Int)<(n:Int):=by omega
   have hI:=HI.out;have Vu:Hid (ak w.heap.size w wr):=aJ.out.trans (hI.cA.mono hz1);clear hI HI;go_wp2_with fail
   go_ret;exact ⟨rfl,Vu.out⟩
def Cc:List Int:=bT.set 8 17825799
theorem auz:Tryz.prog.built 51 [(0,.int .i64 30),(6,.agg (S Cc))]=some (aV 30 0 0 0 ⟨#[]⟩ ⟨#[]⟩ Cc):=by kernel_rfl
theorem auA:Tryz.prog.built 51 [(0,.int .i64 31),(2,.int .i64 9)]=some (aV 31 0 9 0 ⟨#[]⟩ ⟨#[]⟩ bT):=by kernel_rfl
theorem auB:Tryz.prog.built 51 [(0,.int .i64 32)]=some (aV 32 0 0 0 ⟨#[]⟩ ⟨#[]⟩ bT):=by kernel_rfl
theorem auC:Tryz.prog.built 51 [(0,.int .i64 35)]=some (aV 35 0 0 0 ⟨#[]⟩ ⟨#[]⟩ bT):=by kernel_rfl
theorem auD:Tryz.prog.built 51 [(0,.int .i64 34)]=some (aV 34 0 0 0 ⟨#[]⟩ ⟨#[]⟩ bT):=by kernel_rfl
theorem auE:cV Cc=true:=by decide +kernel
structure Nc (N G:Nat) (c:Obj) (w0:World) (ps:List Pr) (sv:aj) (n m k:Nat) (w:World):Prop where
 wf:kA N 0 [] (.slice none 0 0) ps sv [] (.slice none 0 0) m k w
 cA:ak N w0 w
 g:w.heap[G]? =some c
 gn:G≠N
 fr:¬DH ps sv [] (.slice none 0 0) G
 calm:sx ps n w
theorem Nc.step {N G:Nat} {c:Obj} {w0:World} {ps:List Pr} {sv:aj} {n m k:Nat} {w:World} (h:Nc N G c w0 ps sv n m k w) (kd:Int) (s:ByteArray) (hk:kd=20∧ps=[]∧n=0∧s.size=0∨kd=21∨kd=24) (hs:s.size<=140737488351232) (hm:m<=1000000) (hl:ps.length<=1000000):
 av au 13 #[.pointer (some ⟨N,0,none⟩),.agg (aV kd 0 0 0 s ⟨#[]⟩ bT)] w fun e' w'=>e'= .returned (.bool true)∧∃ps' eZ,Nc N G c w0 ps' eZ (n+s.size) (m+8) (k+8004) w'∧(ps'.length=if kd=20 then ps.length+1 else ps.length):=by
 refine (agd h.wf kd 0 0 0 s ⟨#[]⟩ bT ⟨rfl,hs,by decide,by decide⟩ (by omega) (by omega) (by omega)).mono ?_;rintro e w' ⟨he,ps',eZ,hw,hf,hb,hlen,c1,c2⟩;have hG:G<w.heap.size:=(Array.getElem?_eq_some_iff.1 h.g).1;refine ⟨he,ps',eZ,⟨hw,h.cA.trans hb,?_,h.gn,fun q=>?_,?_⟩,hlen⟩
 ·exact (hf.bD.other G hG (fun q=>q.elim h.gn h.fr)).trans h.g
 ·rcases hf.new G q with q | q
  ·exact h.fr q
  ·omega
 ·rcases hk with ⟨a,b,d,f⟩ | a | a
  ·have:=c1 a b;rw [d,f];exact this
  ·exact c2 (.inl a) n h.calm
  ·exact c2 (.inr a) n h.calm
def XA (N:Nat) (w0:World) (j:Nat) (w:World):Prop:=∃q vs vi ps sv hs hv,kA N q vs vi ps sv hs hv (24+8 * j) (25512+8004 * j) w∧ak N w0 w∧q<=j∧ps.length<=1+j∧hs.length=1
theorem auF {N G:Nat} {c:Obj} {w0:World} {ps:List Pr} {sv:aj} {n:Nat} {w:World} (h:Nc N G c w0 ps sv n 24 25512 w) (hn:n<=11) (hl:ps.length=1):
 av au 13 #[.pointer (some ⟨N,0,none⟩),.agg (aV 30 0 0 0 ⟨#[]⟩ ⟨#[]⟩ Cc)] w fun e' w'=>e'= .returned (.bool true)∧XA N w0 1 w':=by
 refine (age h.wf 0 0 0 ⟨#[]⟩ ⟨#[]⟩ Cc ⟨rfl,by decide,by decide,by decide⟩ (by omega) (by omega) (by omega) (by decide)).mono ?_;rintro e w' ⟨he,q',vs',nr,ps',eZ,hs',hv',hw,hb,l1,l2,_,_,l4⟩;refine ⟨he,q',vs',nr,ps',eZ,hs',hv',hw,h.cA.trans hb,l1,by omega,l4 ⟨0,ps[0],?_,bE (by omega),?_,auE⟩⟩
 ·rw [hl];decide
 ·obtain ⟨c1,c2⟩:=h.calm 0 ps[0] (bE (by omega));refine ⟨c1,fun i hi=>?_⟩;obtain ⟨a,l,d,e,hl⟩:=c2 i hi;exact ⟨a,l,d,e,by omega⟩
theorem QV {N:Nat} {w0 w:World} {j:Nat} (h:XA N w0 j w) (hj:j<=100) (kd a:Int) (hk:31<=kd∧kd<=36) (ha:a<=9):
 av au 13 #[.pointer (some ⟨N,0,none⟩),.agg (aV kd 0 a 0 ⟨#[]⟩ ⟨#[]⟩ bT)] w fun e' w'=>e'= .returned (.bool true)∧XA N w0 (j+1) w':=by
 obtain ⟨q,vs,vi,ps,sv,hs,hv,x,hb,hq,hp,hh⟩:=h;refine (agf x kd 0 a 0 ⟨#[]⟩ ⟨#[]⟩ bT ⟨rfl,by decide,by decide,by omega⟩ hk (by omega) (by omega) (by omega) (by omega)).mono ?_;rintro e w' ⟨he,q',vs',nr,ps',eZ,hs',hv',hw,hb',l1,l2,l3,l4,_⟩;exact ⟨he,q',vs',nr,ps',eZ,hs',hv',hw.more (by omega) (by omega),hb.trans hb',by omega,by omega,by omega⟩
theorem auG {w:World} {G:Nat} {z:List Int} {t:cE} (h:w.heap[G]? =some (.cells (S z) t (0,0))):w.rangeAt G 0 (z.map (cI .i64)):=fun j v hv=>by
 rw [Nat.zero_add,cF h j,<-hv];unfold S;simp
theorem auH (w:World) (ht:bF w):av au 12 #[.int .i64 20,.int .i64 36] w fun e' w'=>e'= .returned (.bool true)∧ak w.heap.size w w':=by
 have zz:=iZ;obtain ⟨W,hW⟩:∃W,W=((w.alloc (.cells Im 49)).alloc (.cells (S bT) 28)).setCell ⟨w.heap.size+1,8,none⟩ (.int .i64 17825799):=⟨_,rfl⟩;have hBW:ak w.heap.size w W:=by
  rw [hW];exact (((aA _ _).alloc (ax _) _).alloc (by rw [aB];omega) _).setCell (p:=⟨w.heap.size+1,8,none⟩) (by show w.heap.size<=w.heap.size+1;omega) _
 obtain ⟨V,hV⟩:∃V,V=(w.alloc (.cells Im 49)).alloc (.cells (S bT) 28):=⟨_,rfl⟩;have rV:V.heap[w.heap.size+1]? =some (.cells (S bT) 28 (0,0)):=by rw [hV,<-aB w (.cells Im 49),bg]
 have hA:Nc w.heap.size (w.heap.size+1) (.cells (S Cc) 28 (0,0)) w [] (.slice none 0 0) 0 0 1500 W:=by
  refine ⟨agh _ _ ?_ (ht.below ht.pos hBW) ht.pos,hBW,?_,by omega,fun q=>?_,fun i p hp=>by cases hp⟩
  ·rw [hW,bB (by omega),Below.heap_alloc _ _ _ (by rw [aB];omega),bg]
  ·rw [hW,<-hV];exact (show aK V (w.heap.size+1) 28 bT from rV).set 8 17825799
  ·rcases q with q | q | ⟨i,p,q,_⟩ | ⟨j,a,q,_⟩<;>cases q
 have HA:=af hA;have cs:V.cell? ⟨w.heap.size+1,8,none⟩=some (.int .i64 0):=cF rV 8;have cf:V.frozen? ⟨w.heap.size+1,8,none⟩=false:=by unfold World.frozen?;rw [rV];simp
 have HV:=af hV;rw [<-hV] at hW;have HWV:=af hW;have b20:=af amr;have b21:=af ams;have b24:=af amt;have b30:=af auz;have b31:=af auA;have b32:=af auB;have b34:=af auD;have b35:=af auC;have hzl:=BR Cc rfl;clear hA hBW hW hV rV;go_enter Tryz.func12,Tryz.ntmps12;go_upto_region 3 with fail
 rw [<-HV.out];go_upto_region 6 with fail
 rw [<-HWV.out];clear cs cf;go_wp2_with (refine Gz rfl 51 _ rfl _ rfl (aV 20 0 0 0 ⟨#[]⟩ ⟨#[]⟩ bT) b20.out ?_)
 refine (HA.out.step 20 ⟨#[]⟩ (.inl ⟨rfl,rfl,rfl,rfl⟩) (by decide) (by decide) (by decide)).mono ?_;rintro e w1 ⟨rfl,ps1,Xn,h1,hl1⟩;have jW:=af h1;have rH:Hid (ps1.length=1):=hl1;clear h1 hl1;go_wp2_with (refine Gz rfl 51 _ rfl _ rfl (aV 21 0 0 0 Pz ⟨#[]⟩ bT) b21.out ?_)
 refine (jW.out.step 21 Pz (.inr (.inl rfl)) (by decide) (by decide) (by rw [rH.out];decide)).mono ?_;rintro e w2 ⟨rfl,ps2,Xo,h2,hl2⟩;have qy:=af h2;have rE:Hid (ps2.length=1):=hl2.trans rH.out;clear h2 hl2;go_wp2_with (refine Gz rfl 51 _ rfl _ rfl (aV 24 0 0 0 ⟨#[]⟩ ⟨#[]⟩ bT) b24.out ?_)
 refine (qy.out.step 24 ⟨#[]⟩ (.inr (.inr rfl)) (by decide) (by decide) (by rw [rE.out];decide)).mono ?_;rintro e w3 ⟨rfl,ps3,sv3,h3,hl3⟩;have M8:Hid (ps3.length=1):=hl3.trans rE.out;have c3:=h3.wf.wg.wa.st;obtain ⟨sa,sc,gN⟩:=bA h3.wf.wg.wa.own;rw [gN,M8.out] at c3;have vB:=af h3;have hr:=auG h3.g;clear h3 hl3 gN
 go_wp2_with (first
  | (refine rQ rfl 28 _ rfl (w.heap.size+1) 0 rfl (Cc.map (cI .i64)) _ hr jO rfl hzl ?_)
  | (refine Gz rfl 51 _ rfl _ rfl (aV 30 0 0 0 ⟨#[]⟩ ⟨#[]⟩ Cc) b30.out ?_))
 refine (auF vB.out (by decide) M8.out).mono ?_;rintro e w4 ⟨rfl,h4⟩;have CR:=af h4;clear h4 hr c3;go_wp2_with (refine Gz rfl 51 _ rfl _ rfl (aV 31 0 9 0 ⟨#[]⟩ ⟨#[]⟩ bT) b31.out ?_)
 refine (QV CR.out (by decide) 31 9 (by decide) (by decide)).mono ?_;rintro e w5 ⟨rfl,h5⟩;have EW:=af h5;clear h5;go_wp2_with (refine Gz rfl 51 _ rfl _ rfl (aV 32 0 0 0 ⟨#[]⟩ ⟨#[]⟩ bT) b32.out ?_)
 refine (QV EW.out (by decide) 32 0 (by decide) (by decide)).mono ?_;rintro e w6 ⟨rfl,h6⟩;have T9:=af h6;clear h6;go_wp2_with (refine Gz rfl 51 _ rfl _ rfl (aV 35 0 0 0 ⟨#[]⟩ ⟨#[]⟩ bT) b35.out ?_)
 refine (QV T9.out (by decide) 35 0 (by decide) (by decide)).mono ?_;rintro e w7 ⟨rfl,h7⟩;have HA7:=af h7;clear h7;go_wp2_with (refine Gz rfl 51 _ rfl _ rfl (aV 34 0 0 0 ⟨#[]⟩ ⟨#[]⟩ bT) b34.out ?_)
 refine (QV HA7.out (by decide) 34 0 (by decide) (by decide)).mono ?_;rintro e w8 ⟨rfl,q,vs,vi,ps,sv,hs,hv,x,hb,_,_,hh⟩;have c4:=x.c4;obtain ⟨ha,hc,Jn⟩:=bA x.wg.ho;rw [Jn,hh] at c4;have HB:=af hb;clear x hb Jn hh;go_wp2_with fail
 go_ret;exact ⟨rfl,HB.out⟩
end
section
open Go.RowKit
theorem auS (v:aj) (n:Nat) (w:World) (h:EY v n w) (ht:bF w) (hn:n<=10000000):av au 4 #[v] w fun e' w'=>e'= .returned (.bool true)∧ak w.heap.size w w':=by
 have HP:=af (auy v n w h ht hn (auH w ht));obtain ⟨ad,c,rfl⟩:=h.form;clear h ht hn;go_enter Tryz.func4,Tryz.ntmps4;go_wp2_with fail
 refine (aq HP).mono ?_;rintro e w1 ⟨rfl,hb⟩;have HB:=af hb;clear hb;go_wp2_with fail
 go_ret;exact ⟨rfl,HB.out⟩
end
section
open Go.ChangeShapes Go.WideShapes Go.ChangeAt Go.WideMaps Go.WideElems Go.RowKit
theorem own:ownKnob Tryz.prog.godebug=none:=by kernel_rfl
theorem laidOut:laidOutB au=true:=by kernel_rfl
theorem agm:Tryz.prog.globalNamed "crib/code.rows" =some 0:=by kernel_rfl
theorem auT:(Tryz.prog.globals[0]?).map (·.type)=some 288:=by kernel_rfl
theorem agn:Tryz.prog.cellsOf 245=3:=by kernel_rfl
theorem auU:Tryz.prog.cellsOf 288=36:=by kernel_rfl
theorem c9:Tryz.prog.cellsOf 9=1:=by kernel_rfl
theorem auV:Tryz.prog.cellsOf 3=1:=by kernel_rfl
theorem xI {H:Type} {enc:cE×aj->H} {W:World} {base:Nat} {spare:Nat->Bool} {held:Bool} {m:Nat} {cs:List aj} {x:nC H×List DU} {a b:List UInt8} {n:Int}
 (h:JS enc au W base spare held m 245 cs=some x) (hx:x.1= .agg [.lit (.string a),.lit (.int .i64 n),.lit (.string b)]):cs=[.string ⟨a.toArray⟩,.int .i64 n,.string ⟨b.toArray⟩]:=by
 obtain ⟨y0,y1,y2,k,rfl,hl,h0,h1,h2⟩:=Go.Deep.trod_struct3 Tryz.underlying245 h;rw [agn] at hl
 match cs,hl with
 | [v0,v1,v2],_=>
   obtain ⟨s0,e0,f0,_⟩:=DataW.trod_string Cj h0;obtain ⟨k1,e1,f1,_⟩:=DataW.trod_int pO h1;obtain ⟨s2,e2,f2,_⟩:=DataW.trod_string Cj h2;subst f0 f1 f2;simp [c9,auV] at e0 e1 e2;simp at hx;obtain ⟨rfl,rfl,rfl⟩:=hx;subst e0 e1 e2;rfl
theorem chunk {cs:List aj} {rest:List aj} {i:Nat} (a b c:aj) (h:(cs.drop i).take 3=[a,b,c]) (hr:cs.drop (i+3)=rest):cs.drop i=a :: b :: c :: rest:=by
 have:=List.take_append_drop 3 (cs.drop i);rw [h,List.drop_drop,hr] at this;exact this.symm
theorem auW {W:World} (h:laidMetH au [("crib/code.rows",Rows.laid_crib_code_rows)] W):bF W:=by
 rw [MakeChecks.laidMetH_plain _ _ _ (by kernel_rfl)] at h;obtain ⟨ps,⟨g0,t0,cs0,f0,p0,q0,yw,Vf,nW,Ve,_⟩,_,_⟩:=h;obtain rfl:=oN (agm.symm.trans yw);obtain rfl:=oN (auT.symm.trans Vf);obtain ⟨xs,m1,rfl,hx1,hlen,hn,hel⟩:=DataW.trod_array Tryz.underlying288 Ve;rw [agn] at hel;rw [auU] at hlen;simp only [vU] at hx1;have hx:=hx1.1;simp only [Rows.laid_crib_code_rows,DataW.agg.injEq] at hx
 match xs,hn,hx,hel with
 | [x0,x1,x2,x3,x4,x5,x6,x7,x8,x9,x10,x11],_,hx,hel=>
   simp only [List.map_cons,List.map_nil,XB,and_true] at hx;obtain ⟨d0,d1,d2,d3,d4,d5,d6,d7,d8,d9,d10,d11⟩:=hx;have r0:=xI (hel 0 (by decide)) d0.symm;have r1:=xI (hel 1 (by decide)) d1.symm;have r2:=xI (hel 2 (by decide)) d2.symm;have r3:=xI (hel 3 (by decide)) d3.symm;have r4:=xI (hel 4 (by decide)) d4.symm;have r5:=xI (hel 5 (by decide)) d5.symm;have r6:=xI (hel 6 (by decide)) d6.symm;have r7:=xI (hel 7 (by decide)) d7.symm;have r8:=xI (hel 8 (by decide)) d8.symm;have r9:=xI (hel 9 (by decide)) d9.symm;have N6:=xI (hel 10 (by decide)) d10.symm;have r11:=xI (hel 11 (by decide)) d11.symm;have e12:cs0.toList.drop 36=[]:=List.drop_of_length_le (by omega);have e11:=chunk _ _ _ r11 e12;have e10:=chunk _ _ _ N6 e11;have e9:=chunk _ _ _ r9 e10;have e8:=chunk _ _ _ r8 e9;have e7:=chunk _ _ _ r7 e8;have e6:=chunk _ _ _ r6 e7;have e5:=chunk _ _ _ r5 e6;have e4:=chunk _ _ _ r4 e5;have e3:=chunk _ _ _ r3 e4;have e2:=chunk _ _ _ r2 e3;have e1:=chunk _ _ _ r1 e2;have e0:=chunk _ _ _ r0 e1;have ec:cs0=qo:=by
    apply Array.toList_inj.1;have:cs0.toList.drop (0 * 3)=cs0.toList:=rfl;rw [<-this,e0];rfl
   subst ec;unfold World.var? at nW;rw [agm] at nW;simp only [Option.bind_some] at nW;unfold bF;split at nW
   ·rename_i c t fr hc;cases nW;exact ⟨t,fr,hc⟩
   ·cases nW
theorem au0 (os:Os) (args:Array aj):laidMetH au [("crib/code.rows",Rows.laid_crib_code_rows)] ((World.doorLaid au 26 os).forCall (fun _ _=>0) ⟨#[],args,[]⟩).memory:=
 laidMetH_of_parts3 (fuel:=8) (laidMet_of_run' 8 (by kernel_rfl) (by kernel_rfl)) (by kernel_rfl) (by kernel_rfl)
section
variable {H:Type} {enc:cE×aj->H} {w:World} {base:Nat} {sp:Nat->Bool} {held:Bool}
theorem agp:Tryz.prog.cellsOf 3=1:=by kernel_rfl
theorem au1:Tryz.prog.cellsOf 9=1:=by kernel_rfl
theorem agq:Tryz.prog.cellsOf 51=144:=by kernel_rfl
theorem agr:Tryz.prog.cellsOf 28=138:=by kernel_rfl
theorem ags {cs:List aj} {i:Nat} {v:aj} (h:(cs.drop i).take 1=[v]):cs[i]? =some v:=by
 have:((cs.drop i).take 1)[0]? =some v:=by rw [h];rfl
 rw [tW,if_pos (by decide),Ch] at this;simpa using this
theorem Gc {fuel:Nat} {cs:List aj} {i:Nat} {x:nC H×List DU} (h:JS enc au w base sp held fuel 3 ((cs.drop i).take (Tryz.prog.cellsOf 3))=some x):∃n,cs[i]? =some (.int .i64 n)∧-9223372036854775808<=n∧n<=9223372036854775807:=by
 rw [agp] at h;obtain ⟨n,h1,_,hw⟩:=DataW.trod_int pO h;exact ⟨n,ags h1,Go.bounds_i64 hw⟩
theorem agt {t:cE} {k fuel:Nat} {cs:List aj} {x:nC H×List DU} (ht:Tryz.prog.underlying t=some (.array k 3)) (h:JS enc au w base sp held fuel t cs=some x):∀i,i<k->∃n,cs[i]? =some (.int .i64 n):=by
 obtain ⟨xs,m,_,_,_,hxl,hx⟩:=DataW.trod_array ht h;intro i hi;have h1:=hx i hi;rw [bE (by omega)] at h1;obtain ⟨n,hn,_⟩:=Gc h1;rw [agp,Nat.mul_one] at hn;exact ⟨n,hn⟩
theorem au2 {cs:List aj} (h:∀i,i<cs.length->∃n,cs[i]? =some (.int .i64 n)):∃z:List Int,cs=z.map (cI .i64):=by
 induction cs with
 | nil=>exact ⟨[],rfl⟩
 | cons x l ih=>
   obtain ⟨n,hn⟩:=h 0 (by simp);obtain ⟨z,hz⟩:=ih (fun i hi=>by have:=h (i+1) (by simp;omega);simpa using this);have:x= .int .i64 n:=by simpa using hn
   exact ⟨n :: z,by rw [this,hz];rfl⟩
theorem au3 {fuel:Nat} {cs:List aj} {x:nC H×List DU} (h:JS enc au w base sp held fuel 28 cs=some x):∃z:List Int,cs=z.map (cI .i64)∧z.length=138:=by
 obtain ⟨xs,m,_,_,hl,hxl,hf⟩:=DataW.trod_struct jO h;rw [agr] at hl;have g0:=hf 0 _ rfl;have g1:=hf 1 _ rfl;have g2:=hf 2 _ rfl;have g3:=hf 3 _ rfl;have agu:xs.length=4:=hxl;rw [bE (by omega)] at g0 g1 g2 g3;have i0:=agt Tryz.underlying25 g0;have i1:=agt Tryz.underlying26 g1;obtain ⟨n2,e2,_⟩:=Gc g2;obtain ⟨n3,e3,_⟩:=Gc g3;have key:∀i,i<cs.length->∃n,cs[i]? =some (.int .i64 n):=fun i hi=>by
  rw [hl] at hi;by_cases h8:i<8
  ·obtain ⟨n,hn⟩:=i0 i h8;rw [tW] at hn;split at hn
   ·exact ⟨n,by simpa using hn⟩
   ·cases hn
  by_cases rU:i<136
  ·obtain ⟨n,hn⟩:=i1 (i - 8) (by omega);rw [tW] at hn;split at hn
   ·rw [Ch] at hn;exact ⟨n,by rw [show i=8+(i - 8) by omega];exact hn⟩
   ·cases hn
  by_cases h2:i=136
  ·subst h2;exact ⟨n2,e2⟩
  ·obtain rfl:i=137:=by omega
   exact ⟨n3,e3⟩
 obtain ⟨z,hz⟩:=au2 key;exact ⟨z,hz,by have:=congrArg List.length hz;rw [hl,jV] at this;exact this.symm⟩
theorem agv {fuel:Nat} {cs:List aj} {i:Nat} {x:nC H×List DU} (h:JS enc au w base sp held fuel 9 ((cs.drop i).take (Tryz.prog.cellsOf 9))=some x):∃s:ByteArray,cs[i]? =some (.string s)∧x.1= .lit (.string s.data.toList):=by
 rw [au1] at h;obtain ⟨s,h1,h2,_⟩:=DataW.trod_string Cj h;exact ⟨s,ags h1,by rw [h2]⟩
theorem au4 {cs:List aj} {k on a b:Int} {s t:ByteArray} {z:List Int} (hl:cs.length=144) (e0:cs[0]? =some (.int .i64 k)) (e1:cs[1]? =some (.int .i64 on)) (e2:cs[2]? =some (.int .i64 a)) (e3:cs[3]? =some (.int .i64 b)) (e4:cs[4]? =some (.string s)) (e5:cs[5]? =some (.string t)) (h6:cs.drop 6=z.map (cI .i64)):cs=(aV k on a b s t z).toList:=by
 match cs,hl with
 | v0 :: v1 :: v2 :: v3 :: v4 :: v5 :: r,_=>
   simp only [List.getElem?_cons_zero,List.getElem?_cons_succ,Ci] at e0 e1 e2 e3 e4 e5;subst e0 e1 e2 e3 e4 e5;have h7:r=z.map (cI .i64):=h6;rw [h7];unfold aV S;simp
theorem au5 {fuel:Nat} {cs:List aj} {x:nC H×List DU} (h:JS enc au w base sp held fuel 51 cs=some x) (hw:∀n∈NE au 51 x.1,n<=JT):acg cs:=by
 obtain ⟨xs,m,_,hx,hl,hxl,hf⟩:=DataW.trod_struct D8 h;rw [agq] at hl;have agu:xs.length=7:=hxl;have g0:=hf 0 _ rfl;have g1:=hf 1 _ rfl;have g2:=hf 2 _ rfl;have g3:=hf 3 _ rfl;have g4:=hf 4 _ rfl;have g5:=hf 5 _ rfl;have g6:=hf 6 _ rfl
 match xs,agu with
 | [y0,y1,y2,y3,y4,y5,y6],_=>
   obtain ⟨k,e0,_⟩:=Gc g0;obtain ⟨on,e1,b1⟩:=Gc g1;obtain ⟨a,e2,b2⟩:=Gc g2;obtain ⟨b,e3,_⟩:=Gc g3;obtain ⟨s,e4,y4e⟩:=agv g4;obtain ⟨t,e5,_⟩:=agv g5;obtain ⟨z,e6,hz⟩:=au3 g6;refine ⟨k,on,a,b,s,t,z,?_,hz,?_,b1,b2.2⟩
   ·have h6:cs.drop 6=z.map (cI .i64):=by
     have q:(cs.drop 6).take (Tryz.prog.cellsOf 28)=cs.drop 6:=List.take_of_length_le (by rw [agr,List.length_drop];omega);rw [<-q];exact e6
    exact au4 hl e0 e1 e2 e3 e4 e5 h6
   ·have h1:=hw s.data.toList.length (by
     rw [hx]
     simp [NE,D8,DataW.weightsEach,y4e])
    rw [Array.length_toList] at h1;unfold JT at h1;exact h1
theorem agw {P:Program} {e:cE} (d:nC H):∀l:List (nC H),d∈l->∀k∈NE P e d,k∈YZ P e l
 | [],h,_,_=>by cases h
 | x :: l,h,k,hk=>by
   rw [YZ];rcases List.mem_cons.1 h with rfl | h
   ·exact YT _ hk
   ·exact List.mem_append_right _ (agw d l h k hk)
theorem au7 (d:nC H):1<=Rows.uptoBulk d:=by
 cases d with
 | lit l=>cases l<;>simp [Rows.uptoBulk]
 | _=>simp [Rows.uptoBulk]
theorem agx:∀l:List (nC H),l.length<=Rows.uptoBulkAll l
 | []=>bK _
 | x :: l=>by
   have h1:=au7 x;have h2:=agx l;simp only [Rows.uptoBulkAll,List.length_cons];omega
theorem au8 {fuel:Nat} {v:aj} {d:nC H} {p:List DU} (h:JS enc au w base sp held fuel 22 v.cells.toList=some (d,p)) (hv:∃a len cap,v= .slice a len cap) (hlt:∀x∈p,x.block<w.heap.size) (hw:∀n∈NE au 22 d,n<=JT):∃n,EY v n w∧n<=Rows.uptoBulk d:=by
 obtain ⟨a0,Cd,axA,rfl⟩:=hv;rcases Go.Deep.open_slice Tryz.underlying22 h with ⟨hcs,_⟩ | ⟨a,len,cap,m,n,D,Pl,hcs,hb,hl,hm,hmm,hx,hel⟩
 ·simp [Rf] at hcs;obtain ⟨rfl,rfl,rfl⟩:=hcs;exact ⟨0,⟨⟨none,0,rfl⟩,fun i hi=>absurd hi (Nat.not_lt_zero _),bK _⟩,bK _⟩
 ·simp [Rf] at hcs;obtain ⟨rfl,rfl,rfl⟩:=hcs;simp only [vU] at hx;obtain ⟨hd,hp⟩:=hx;rw [hp] at hlt;rw [hd] at hw;have hbk:Cd<=Rows.uptoBulk d:=by
   have h1:=agx ((jL Cd).map D);rw [jV,List.length_range] at h1;rw [hd];simp only [Rows.uptoBulk];omega
  clear hd hp h;rw [agq] at hel hlt;have hlm:Cd<=m:=by rw [hmm];split<;>omega
  have lQ:∀k∈((Cd+(m - Cd)) * Tryz.prog.bytesOf 51) :: (YZ au 51 ((jL Cd).map D) ++ YZ au 51 ((jL (m - Cd)).map fun j=>D (Cd+j))),k<=JT:=fun k hk=>hw k (by
   simp only [NE,Tryz.underlying22,jV,List.length_range]
   exact hk)
  have hby:Tryz.prog.bytesOf 51=1168:=by kernel_rfl
  refine ⟨Cd,⟨⟨_,_,rfl⟩,fun i hi=>?_,?_⟩,hbk⟩
  ·obtain ⟨cs',h1,h2⟩:=hel i (by omega);obtain ⟨_,hcl,hcell⟩:=World.cells?_some h1
   have hok:=au5 h2 (fun k hk=>lQ k (by
    refine List.mem_cons_of_mem _ (YT _ ?_)
    exact agw (D i) _ (List.mem_map.2 ⟨i,List.mem_range.2 hi,rfl⟩) k hk))
   obtain ⟨cz,z1,z2⟩:=hel 0 (by omega);obtain ⟨_,hzl,hzc⟩:=World.cells?_some z1;have hc0:=hzc 0 (by omega);rw [bE (by omega)] at hc0;obtain ⟨blk,off,spot⟩:=a;have hspot:spot=none:=by simpa [Addr.add] using World.cell?_spot hc0
   subst hspot;refine ⟨blk,off,_,rfl,?_,cs',hok,fun j x hj=>?_⟩
   ·have hm0:0<m:=by omega
    exact hlt (.cell blk (off+0)) (YT _ (MemPlace.mem_row.2 ⟨0,by omega,rfl⟩))
   ·have au9:j<144:=by rw [<-hcl];exact (fG.1 hj).1
    have:=hcell j au9;rw [hj,Go.Deep.add_add,Go.WideShapes.add_plain] at this;rw [Nat.add_assoc];exact this
  ·have:=lQ _ (List.mem_cons_self);rw [hby] at this;unfold JT at this;omega
end
end
end Go.Proofs.YtmmflekajbeamaaGreatDoor
