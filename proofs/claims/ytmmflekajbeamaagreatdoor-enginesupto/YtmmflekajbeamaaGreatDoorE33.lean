/- Texts of ours, joined, in few bytes. -/
import Derived.Test.YtmmflekajbeamaaGreatDoorE32
open Go renaming Calls->av,Value->aj,below_drewN->dH,bodyPost_ret->cL,results_cell_row->jl
open Go.Proofs.Tryz renaming prog->au,underlying28->jO
open Go.RowKit renaming Below->ak,wrap64->aY
open Go.RowKit.Below renaming refl->aA
open List renaming length_append->dK,mem_append->rO,mem_cons_of_mem->xK,mem_cons_self->vO,mem_map->qN
open Nat renaming le_refl->ax,le_succ->jk,le_trans->aT,zero_le->bK
namespace Go.Proofs.YtmmflekajbeamaaGreatDoor
set_option maxRecDepth 100000
set_option maxHeartbeats 8000000
section
open Go.RowKit Go.Maps Go.WideMaps
theorem asM (E R:Nat) (g:ay) (v:Nat->aj) (w:World) (h:dA E R g v w):
 av au 78 #[.pointer (some ⟨E,0,none⟩)] w fun e' w'=>e'= .returned (.agg (S g.z))∧ak w.heap.size w w':=by
 have zz:=iZ;have hzl:=BR g.z h.zl;have hz:=h.zl;obtain ⟨W0,bq⟩:∃W0,W0=w.alloc (.cells (S bT) 28):=⟨_,rfl⟩;have hb0:ak w.heap.size w W0:=by rw [bq];exact (aA _ _).alloc (ax _) _
 have k0:dA E R g v W0:=h.kept (fun x q=>hb0.block x (h.has q).2);have hr:=k0.st;have R1:bf W0 w.heap.size 138=true:=by rw [bq,kV _ _ _ _ _ rfl];rfl
 obtain ⟨t,hg⟩:=pS R1 (S g.z);have HG:=af hg;have HB:Hid (ak w.heap.size w (W0.setRow w.heap.size (S g.z))):=iI hb0 (ax _) _;have fV:=af bq;clear h k0 hb0 bq hg;go_enter Tryz.func78,Tryz.ntmps78
 go_wp2_with (first
  | refine wpList_load_mid rfl 28 _ rfl E 3 rfl (g.z.map (Value.int .i64)) _ (by rw [<-fV.out];exact hr) jO rfl hzl ?_
  | refine ja rfl _ _ rfl _ rfl g.z rfl hz (by rw [<-fV.out];exact R1) (W0.setRow w.heap.size (S g.z)) (by rw [<-fV.out]) ?_)
 exact cL (v:=.agg (S g.z)) (jl Tryz.results78 _ _ w.heap.size _ _ _ _ rfl HG.out jO rfl (by rw [mD,bQ,hz])) rfl ⟨rfl,HB.out⟩
theorem asN (E R:Nat) (g:ay) (v:Nat->aj) (w:World) (h:dA E R g v w):
 av au 79 #[.pointer (some ⟨E,0,none⟩)] w fun e' w'=>e'= .returned (.agg #[.int .i64 (g.c 0:Int),.int .i64 (g.c 1:Int),.int .i64 (g.c 2:Int),.int .i64 (g.c 3:Int),.int .i64 ((g.b 1).length:Int)])∧ak w.heap.size w w':=by
 have c0:w.cell? ⟨E,147,none⟩=some (.int .i64 (g.c 0:Int)):=h.cnt 0 (by decide);have c1:w.cell? ⟨E,148,none⟩=some (.int .i64 (g.c 1:Int)):=h.cnt 1 (by decide);have c2:w.cell? ⟨E,149,none⟩=some (.int .i64 (g.c 2:Int)):=h.cnt 2 (by decide);have c3:w.cell? ⟨E,150,none⟩=some (.int .i64 (g.c 3:Int)):=h.cnt 3 (by decide);have c4:w.cell? ⟨E,151,none⟩=some (.int .i64 0):=h.sc 151 (.inr (.inr (by decide)));have c5:w.cell? ⟨E,146,none⟩=some (v 1):=h.ls 1 (by decide);obtain ⟨va,vc,hv⟩:=bA (h.ow 1 (by decide));rw [hv] at c5;have hE:=h.lt;have hne:¬E=w.heap.size:=by omega
 have HB:Hid (∀o1 o2,ak w.heap.size w ((w.alloc o1).alloc o2)):=fun o1 o2=>((aA _ _).alloc (ax _) _).alloc (by rw [aB];omega) _;clear h hv;generalize (g.b 1).length=L1 at *;go_enter Tryz.func79,Tryz.ntmps79;go_wp2_with fail
 exact cL (v:=.agg #[.int .i64 (g.c 0:Int),.int .i64 (g.c 1:Int),.int .i64 (g.c 2:Int),.int .i64 (g.c 3:Int),.int .i64 (L1:Int)]) (jl Tryz.results79 _ _ w.heap.size 66 _ (0,0) _ rfl (aeD w _ _) Tryz.underlying66 rfl VW) rfl ⟨rfl,HB.out _ _⟩
theorem asO (E R:Nat) (g:ay) (v:Nat->aj) (w:World) (h:dA E R g v w):
 av au 80 #[.pointer (some ⟨E,0,none⟩)] w fun e' w'=>e'= .returned (v 0)∧w'=w:=by
 have c5:w.cell? ⟨E,144,none⟩=some (v 0):=h.ls 0 (by decide);obtain ⟨va,vc,hv⟩:=bA (h.ow 0 (by decide));rw [hv] at c5⊢;clear h hv;go_enter Tryz.func80,Tryz.ntmps80;go_wp2_with fail
 go_ret;exact ⟨rfl,rfl⟩
theorem asP (E R:Nat) (g:ay) (r:aN) (v:Nat->aj) (w:World) (h:dL E R g r v w) (ho:iN g r.us=true):
 av au 84 #[.pointer (some ⟨E,0,none⟩)] w (Dy E R v w 17 g r):=by
 have HO:=af (Ft E R g r v w h);rw [ho] at HO;have HH:=af h;clear h ho;go_enter Tryz.func84,Tryz.ntmps84;go_wp2_with fail
 refine (aq HO).mono ?_;rintro e w1 ⟨rfl,nq,rfl⟩;clear HO;go_wp2_with fail
 go_ret;exact ⟨rfl,v,HH.out.drewN nq,eK.bh (dH (aA _ _) _)⟩
theorem asQ (E R:Nat) (g:ay) (r:aN) (v:Nat->aj) (w:World) (h:dL E R g r v w) (ho:iN g r.us=false) (hok:oG g) (hp:iO g) (hr:lA r 3):
 av au 84 #[.pointer (some ⟨E,0,none⟩)] w (Dy E R v w (cT cC g r (1 - g.ar)).1 (cT cC g r (1 - g.ar)).2.1 (cT cC g r (1 - g.ar)).2.2):=by
 have HO:=af (Ft E R g r v w h);rw [ho] at HO;have HH:=af h;have ca:w.cell? ⟨E,141,none⟩=some (.int .i64 (g.ar:Int)):=h.eg.sc 141 (.inr (.inl (by decide)));have wa:aY (1 - (g.ar:Int))=((1 - g.ar:Nat):Int):=by have:=hok.ar;unfold aY;omega
 have kx:=af (fun w' (k:dL E R g r v w')=>Fv E R g r v (1 - g.ar) w' k hok hp hr);clear h ho hok hp hr;generalize cT cC g r (1 - g.ar)=AN at *;generalize 1 - g.ar=ai at *;go_enter Tryz.func84,Tryz.ntmps84;go_wp2_with fail
 refine (aq HO).mono ?_;rintro e w1 ⟨rfl,nq,rfl⟩;clear HO;go_wp2_with fail
 refine (aq kx _ (HH.out.drewN nq)).mono ?_;rintro e w2 ⟨rfl,v2,k2,f2⟩;have fC:=af k2;have pF:Hid (eK E R v v2 w w2):=(eK.bh (dH (aA _ w) nq)).trans f2;clear k2 f2 kx;go_wp2_with fail
 go_ret;exact ⟨rfl,v2,fC.out,pF.out⟩
theorem asR (E R:Nat) (g:ay) (r:aN) (v:Nat->aj) (w:World) (h:dL E R g r v w) (ho:iN g r.us=true):
 av au 83 #[.pointer (some ⟨E,0,none⟩)] w (Dy E R v w 17 g r):=by
 have HO:=af (Ft E R g r v w h);rw [ho] at HO;have HH:=af h;clear h ho;go_enter Tryz.func83,Tryz.ntmps83;go_wp2_with fail
 refine (aq HO).mono ?_;rintro e w1 ⟨rfl,nq,rfl⟩;clear HO;go_wp2_with fail
 go_ret;exact ⟨rfl,v,HH.out.drewN nq,eK.bh (dH (aA _ _) _)⟩
theorem asS (g:ay) (r:aN):lz cC g r=if (g.b 1).length=0 then (0,g,r)
 else if 1500<g.sz+(aW (aG (g.b 1))).length then cT cC g r (1 - g.ar)
 else if (dF r (g.ar:Int) (aW (aG (g.b 1)))).1=0 then (if (bG (dF r (g.ar:Int) (aW (aG (g.b 1)))).2 (g.ar:Int)).1=0 then (0,qI {g with sz:=g.sz+(aW (aG (g.b 1))).length},(bG (dF r (g.ar:Int) (aW (aG (g.b 1)))).2 (g.ar:Int)).2) else (15,dg g,(bG (dF r (g.ar:Int) (aW (aG (g.b 1)))).2 (g.ar:Int)).2)) else (15,dg g,(dF r (g.ar:Int) (aW (aG (g.b 1)))).2):=by
 unfold lz;by_cases q0:(g.b 1).length=0
 ·simp [q0]
 ·by_cases q1:1500<g.sz+(aW (aG (g.b 1))).length
  ·simp [q0,q1]
  ·by_cases q2:(dF r (g.ar:Int) (aW (aG (g.b 1)))).1=0
   ·by_cases q3:(bG (dF r (g.ar:Int) (aW (aG (g.b 1)))).2 (g.ar:Int)).1=0
    ·simp [ep,cC,q0,q1,q2,q3]
    ·simp [ep,cC,q0,q1,q2,q3]
   ·simp [ep,cC,q0,q1,q2]
theorem asT (E R:Nat) (g:ay) (r:aN) (v:Nat->aj) (w:World) (h:dL E R g r v w) (ho:iN g r.us=false) (hok:oG g) (hp:iO g) (hr:lA r 3) (hsz:g.sz<=1500):
 av au 83 #[.pointer (some ⟨E,0,none⟩)] w (Dy E R v w (lz cC g r).1 (lz cC g r).2.1 (lz cC g r).2.2):=by
 have HO:=af (Ft E R g r v w h);rw [ho] at HO;have HH:=af h;have fK:=af hok;have HP:=af hp;have ca:w.cell? ⟨E,141,none⟩=some (.int .i64 (g.ar:Int)):=h.eg.sc 141 (.inr (.inl (by decide)));have cs:w.cell? ⟨E,143,none⟩=some (.int .i64 (g.sz:Int)):=h.eg.sc 143 (.inr (.inl (by decide)));have wa:aY (1 - (g.ar:Int))=((1 - g.ar:Nat):Int):=by have:=hok.ar;unfold aY;omega
 have kx:=af (fun w' (k:dL E R g r v w')=>Fv E R g r v (1 - g.ar) w' k hok hp hr);have c1:w.cell? ⟨E,146,none⟩=some (v 1):=h.eg.ls 1 (by decide);have c0:w.cell? ⟨E,144,none⟩=some (v 0):=h.eg.ls 0 (by decide);have hl0:=hok.few 0 (by decide);have hl1:=hok.few 1 (by decide);have Fw:Hid (∀w',dL E R g r v w'->av au 133 #[v 1] w' fun e' w''=>e'= .returned (.string (ah (aW (aG (g.b 1)))))∧ak w'.heap.size w' w''):=fun w' k=>aeG (E+1) (v 1) (aG (g.b 1)) w' (by rw [ee];exact k.eg.ow 1 (by decide)) (fun x hx=>⟨PL (hp.bk 1 (by decide)).ok x hx,by obtain ⟨q,hq,rfl⟩:=qN.1 hx;exact hok.sh 1 (by decide) q hq⟩) (by rw [ee];omega);have pK:Hid (∀w',w'.ownsRow (E+1) 127 2 (v 0) (g.b 0).length (jj (g.b 0))->w'.ownsRow (E+1) 127 2 (v 1) (g.b 1).length (jj (g.b 1))->av au 136 #[v 0,v 1] w' (VY (aG (eJ g)) w')):=fun w' k0 k1=>by
  have:=I9 (E+1) (E+1) (v 0) (v 1) (aG (g.b 0)) (aG (g.b 1)) w' (by rw [ee];exact k0) (by rw [ee];exact k1) (by rw [ee,ee];omega);rw [aeL (hp.bk 0 (by decide)) (hp.bk 1 (by decide))] at this;exact this
 have hel:=Df (aG (g.b 1));rw [ee] at hel;have uD:=af (fun w'=>aeI E w');obtain ⟨Mq,Mr,nW⟩:=bA (h.eg.ow 0 (by decide));obtain ⟨Ms,Mt,hv1⟩:=bA (h.eg.ow 1 (by decide));have Dz:=af nW;have rY:=af hv1;rw [nW] at c0 pK;rw [hv1] at c1 pK Fw;obtain ⟨AN,Jb⟩:∃AN,AN=lz cC g r:=⟨_,rfl⟩;have HA:Hid (AN=lz cC g r):=Jb;rw [asS] at HA;rw [<-Jb];clear h ho hp nW hv1 Jb;by_cases hz:(g.b 1).length=0
 ·have HE:Hid (AN=(0,g,r)):=by unfold Hid;rw [HA.out,if_pos hz]
  rw [hz] at c1;clear hok hr hz Fw pK HA hel hl0 hl1;go_enter Tryz.func83,Tryz.ntmps83;go_wp2_with fail
  refine (aq HO).mono ?_;rintro e w1 ⟨rfl,nq,rfl⟩;clear HO;go_wp2_with fail
  go_ret;rw [HE.out];exact ⟨rfl,v,HH.out.drewN nq,eK.bh (dH (aA _ _) _)⟩
 have hzb:(((g.b 1).length:Int) == 0)=false:=by rw [beq_eq_false_iff_ne];omega
 have rH:Hid ((g.b 1).length<=200000000000):=hl1;have dR:Hid ((ah (aW (aG (g.b 1)))).size=(aW (aG (g.b 1))).length):=bZ _;have HEl:Hid ((aW (aG (g.b 1))).length<=41600000000000):=by unfold Hid;omega
 have V9:Hid (aC (ah (aW (aG (g.b 1))))=aW (aG (g.b 1))):=kG _;have ws:aY ((g.sz:Int)+((ah (aW (aG (g.b 1)))).size:Int))=(g.sz:Int)+((ah (aW (aG (g.b 1)))).size:Int):=by rw [bZ];unfold aY;omega
 have afr:Hid (∀w',cO R r w'->∀D,aC D=aW (aG (g.b 1))->D.size<=140737488351232->av au 69 #[.pointer (some ⟨R,0,none⟩),.int .i64 (g.ar:Int),.string D] w' (uo R w' (dF r (g.ar:Int) (aW (aG (g.b 1)))).1 (dF r (g.ar:Int) (aW (aG (g.b 1)))).2)):=fun w' h' D hD hs=>by
  have:=Tq R r (g.ar:Int) D w' h' hr.use.1 hr.use.2 hs;rw [hD] at this;exact this
 have Jc:Hid (lA (dF r (g.ar:Int) (aW (aG (g.b 1)))).2 2):=hr.add (n:=2) _ _
 replace HA:Hid (AN=if 1500<g.sz+(aW (aG (g.b 1))).length then cT cC g r (1 - g.ar)
  else if (dF r (g.ar:Int) (aW (aG (g.b 1)))).1=0 then (if (bG (dF r (g.ar:Int) (aW (aG (g.b 1)))).2 (g.ar:Int)).1=0 then (0,qI {g with sz:=g.sz+(aW (aG (g.b 1))).length},(bG (dF r (g.ar:Int) (aW (aG (g.b 1)))).2 (g.ar:Int)).2) else (15,dg g,(bG (dF r (g.ar:Int) (aW (aG (g.b 1)))).2 (g.ar:Int)).2)) else (15,dg g,(dF r (g.ar:Int) (aW (aG (g.b 1)))).2)):=by
  unfold Hid;rw [HA.out,if_neg hz]
 clear hz hok hr hel hl0 hl1;generalize E4:1 - g.ar=ai at *;clear E4;generalize hT:ah (aW (aG (g.b 1)))=T at *;clear hT;have Fb:Hid (∀w',dL E R g r v w'->w'.cell? ⟨E,141,none⟩=some (.int .i64 (g.ar:Int))∧w'.cell? ⟨E,143,none⟩=some (.int .i64 (g.sz:Int))∧w'.cell? ⟨E,0,none⟩=some (.pointer (some ⟨R,0,none⟩))):=fun w' k=>⟨k.eg.sc 141 (.inr (.inl (by decide))),k.eg.sc 143 (.inr (.inl (by decide))),k.eg.sc 0 (.inl (by decide))⟩;go_enter Tryz.func83,Tryz.ntmps83;go_wp2_with fail
 refine (aq HO).mono ?_;rintro e w1 ⟨rfl,nq,rfl⟩;clear HO;go_wp2_with fail
 refine (aq Fw _ (HH.out.drewN nq)).mono ?_;rintro e w2 ⟨rfl,hb2⟩;have mH:ak w.heap.size w w2:=(dH (aA _ w) nq).trans hb2;have aZ:=af mH;have fC:=af (HH.out.up mH);have pF:Hid (eK E R v v w w2):=eK.bh mH;obtain ⟨ca2,cs2,cd2⟩:=Fb.out _ fC.out;clear hb2 mH Fw ca cs c0 c1;by_cases hlo:1500<g.sz+(aW (aG (g.b 1))).length
 ·have HE:Hid (AN=cT cC g r ai):=by unfold Hid;rw [HA.out,if_pos hlo]
  have Lj:(1500:Int)<(g.sz:Int)+(T.size:Int):=by have:=dR.out;omega
  clear hlo HA;go_wp2_with fail
  refine (aq kx _ fC.out).mono ?_;rintro e w3 ⟨rfl,v3,k3,f3⟩;have fM:=af k3;have pq:=af (pF.out.trans f3);clear k3 f3;go_wp2_with fail
  go_ret;rw [HE.out];exact ⟨rfl,v3,fM.out,pq.out⟩
 have Lj:¬(1500:Int)<(g.sz:Int)+(T.size:Int):=by have:=dR.out;omega
 replace HA:Hid (AN=if (dF r (g.ar:Int) (aW (aG (g.b 1)))).1=0 then (if (bG (dF r (g.ar:Int) (aW (aG (g.b 1)))).2 (g.ar:Int)).1=0 then (0,qI {g with sz:=g.sz+(aW (aG (g.b 1))).length},(bG (dF r (g.ar:Int) (aW (aG (g.b 1)))).2 (g.ar:Int)).2) else (15,dg g,(bG (dF r (g.ar:Int) (aW (aG (g.b 1)))).2 (g.ar:Int)).2)) else (15,dg g,(dF r (g.ar:Int) (aW (aG (g.b 1)))).2)):=by
  unfold Hid;rw [HA.out,if_neg hlo]
 have Ay:=af (fun w' h'=>afr.out w' h' T V9.out (by rw [dR.out];have:=HEl.out;omega));have HSn:Hid (g.sz+(aW (aG (g.b 1))).length=g.sz+T.size):=by unfold Hid;rw [dR.out]
 clear hlo afr kx;generalize dF r (g.ar:Int) (aW (aG (g.b 1)))=rA at *;obtain ⟨a1,r1⟩:=rA;simp only at HA Ay Jc;go_upto_region 9 with fail
 refine yQ 8 [0,1,2,3,5,6,7,9] [(some true,4),(some true,8),(some false,10),(some false,11),(some false,12)] 10 (fun w'=>w'.cell? ⟨E,0,none⟩=some (.pointer (some ⟨R,0,none⟩))∧w'.cell? ⟨E,141,none⟩=some (.int .i64 (g.ar:Int))) (by kernel_rfl) (by kernel_rfl) (fun d _ _ _ _ h=>by cases d<;>exact h) ⟨cd2,ca2⟩ ?_
 iterate 8
  refine yP ?_ rfl rfl ?_ ?_
  rotate_left
  ·intro w';go_simp;rfl
  go_simp
 refine yO ?_
 iterate 2
  refine qK ?_ rfl rfl ?_ ?_
  rotate_left
  ·rintro w' ⟨d0,d1⟩;go_simp;rfl
  go_simp
 refine jI rfl rfl (fun K hK=>?_);go_simp;have QE:ak w2.heap.size w2 w2.drew:=(aA _ _).drew;refine (aq Ay _ (fC.out.up QE).dv).mono ?_;rintro e w3 ⟨rfl,hd3,yE⟩;obtain ⟨k3,f3⟩:=(fC.out.up QE).dev hd3 yE;have fM:=af k3;have pq:=af ((pF.out.trans (eK.bh QE)).trans f3);clear k3 f3 hd3 yE QE Ay ca2 cs2 cd2;go_simp;refine hK _ _ (fun h=>absurd h (by decide)) ?_;clear hK K;refine jI rfl rfl (fun K hK=>?_);by_cases ha:a1=0
 rotate_left
 ·have HE:Hid (AN=(15,dg g,r1)):=by unfold Hid;rw [HA.out,if_neg ha]
  have fo:=af (Mm E R g r1 v a1 w3 fM.out ha);clear ha HA;go_simp;refine (aq fo).mono ?_;rintro e w4 ⟨rfl,v4,k4,f4⟩;have iz:=af k4;have Fq:=af (pq.out.trans f4);clear k4 f4 fo;go_simp;refine hK _ _ (fun h=>absurd h (by decide)) ?_;clear hK K;refine jI rfl rfl (fun K hK=>?_);go_simp;refine hK _ _ (fun h=>absurd h (by decide)) ?_;clear hK K;refine uH ?_;go_wp2_with fail
  go_ret;rw [HE.out];exact ⟨rfl,v4,iz.out,Fq.out⟩
 replace HA:Hid (AN=if (bG r1 (g.ar:Int)).1=0 then (0,qI {g with sz:=g.sz+(aW (aG (g.b 1))).length},(bG r1 (g.ar:Int)).2) else (15,dg g,(bG r1 (g.ar:Int)).2)):=by
  unfold Hid;rw [HA.out,if_pos ha]
 subst ha;go_simp;refine (aq uD _).mono ?_;rintro e w' ⟨rfl,hw'⟩;obtain rfl:=hw'.symm;go_simp;refine hK _ _ (fun h=>absurd h (by decide)) ?_;clear hK K;refine jI rfl rfl (fun K hK=>?_);go_simp;refine hK _ _ (fun h=>absurd h (by decide)) ?_;clear hK K;refine uH ?_;have xq:=af (fun w' (h':cO R r1 w')=>KO R r1 (g.ar:Int) w' h' Jc.out.use.1 Jc.out.use.2);generalize bG r1 (g.ar:Int)=rS at *;obtain ⟨a2,r2⟩:=rS;simp only at HA xq;obtain ⟨ca3,cs3,cd3⟩:w3.cell? ⟨E,141,none⟩=some (.int .i64 (g.ar:Int))∧w3.cell? ⟨E,143,none⟩=some (.int .i64 (g.sz:Int))∧w3.cell? ⟨E,0,none⟩=some (.pointer (some ⟨R,0,none⟩)):=⟨fM.out.eg.sc 141 (.inr (.inl (by decide))),fM.out.eg.sc 143 (.inr (.inl (by decide))),fM.out.eg.sc 0 (.inl (by decide))⟩;go_upto_region 11 with fail
 refine yQ 8 [0,1,2,3,5,6,7] [(some true,4),(some true,8),(some false,9),(some false,10),(some false,11)] 9 (fun w'=>w'.cell? ⟨E,0,none⟩=some (.pointer (some ⟨R,0,none⟩))∧w'.cell? ⟨E,141,none⟩=some (.int .i64 (g.ar:Int))) (by kernel_rfl) (by kernel_rfl) (fun d _ _ _ _ h=>by cases d<;>exact h) ⟨cd3,ca3⟩ ?_
 iterate 7
  refine yP ?_ rfl rfl ?_ ?_
  rotate_left
  ·intro w';go_simp;rfl
  go_simp
 refine yO ?_
 iterate 2
  refine qK ?_ rfl rfl ?_ ?_
  rotate_left
  ·rintro w' ⟨d0,d1⟩;go_simp;rfl
  go_simp
 refine jI rfl rfl (fun K hK=>?_);go_simp;have QF:ak w3.heap.size w3 w3.drew:=(aA _ _).drew;refine (aq xq _ (fM.out.up QF).dv).mono ?_;rintro e w4 ⟨rfl,hd4,hf4⟩;obtain ⟨k4,f4⟩:=(fM.out.up QF).dev hd4 hf4;have iz:=af k4;have Fq:=af ((pq.out.trans (eK.bh QF)).trans f4);clear k4 f4 hd4 hf4 QF xq ca3 cs3 cd3;go_simp;refine hK _ _ (fun h=>absurd h (by decide)) ?_;clear hK K;refine jI rfl rfl (fun K hK=>?_);by_cases ha:a2=0
 rotate_left
 ·have HE:Hid (AN=(15,dg g,r2)):=by unfold Hid;rw [HA.out,if_neg ha]
  have fo:=af (Mm E R g r2 v a2 w4 iz.out ha);clear ha HA;go_simp;refine (aq fo).mono ?_;rintro e w5 ⟨rfl,v5,k5,f5⟩;have gV:=af k5;have sJ:=af (Fq.out.trans f5);clear k5 f5 fo;go_simp;refine hK _ _ (fun h=>absurd h (by decide)) ?_;clear hK K;refine jI rfl rfl (fun K hK=>?_);go_simp;refine hK _ _ (fun h=>absurd h (by decide)) ?_;clear hK K;refine uH ?_;go_wp2_with fail
  go_ret;rw [HE.out];exact ⟨rfl,v5,gV.out,sJ.out⟩
 have HE:Hid (AN=(0,qI {g with sz:=g.sz+T.size},r2)):=by unfold Hid;rw [HA.out,if_pos ha,HSn.out]
 subst ha;go_simp;refine (aq uD _).mono ?_;rintro e w' ⟨rfl,hw'⟩;obtain rfl:=hw'.symm;go_simp;refine hK _ _ (fun h=>absurd h (by decide)) ?_;clear hK K;refine jI rfl rfl (fun K hK=>?_);go_simp;refine hK _ _ (fun h=>absurd h (by decide)) ?_;clear hK K;refine uH ?_;have cs4:w4.cell? ⟨E,143,none⟩=some (.int .i64 (g.sz:Int)):=iz.out.eg.sc 143 (.inr (.inl (by decide)));have z4:=iz.out.eg.fz 143;clear HA;go_upto_region 15 with fail
 obtain ⟨W5,gE⟩:∃W5,W5=w4.setCell ⟨E,143,none⟩ (.int .i64 ((g.sz:Int)+(T.size:Int))):=⟨_,rfl⟩;rw [<-gE];obtain ⟨k5,f5⟩:=iz.out.set 143 (.inr (.inl (by decide))) {g with sz:=g.sz+T.size} rfl rfl (Ja R g (g.sz+T.size)) (.int .i64 ((g.sz:Int)+(T.size:Int))) rfl;rw [<-gE] at k5 f5;have afy:W5.cell? ⟨E,144,none⟩=some (.slice Mq (g.b 0).length Mr):=by have:=k5.eg.ls 0 (by decide);rw [Dz.out] at this;exact this
 have QB:W5.cell? ⟨E,146,none⟩=some (.slice Ms (g.b 1).length Mt):=by have:=k5.eg.ls 1 (by decide);rw [rY.out] at this;exact this
 have gV:=af k5;have sJ:=af (Fq.out.trans f5);clear k5 f5 gE cs4 z4;refine yQ 8 [0,1,2,3,5,6,7] [(some true,4),(some true,8),(some false,9),(none,10),(none,11),(some false,12)] 9 (fun w'=>w'.cell? ⟨E,144,none⟩=some (.slice Mq (g.b 0).length Mr)∧w'.cell? ⟨E,146,none⟩=some (.slice Ms (g.b 1).length Mt)) (by kernel_rfl) (by kernel_rfl) (fun d _ _ _ _ h=>by cases d<;>exact h) ⟨afy,QB⟩ ?_
 iterate 7
  refine yP ?_ rfl rfl ?_ ?_
  rotate_left
  ·intro w';go_simp;rfl
  go_simp
 refine yO ?_
 iterate 2
  refine qK ?_ rfl rfl ?_ ?_
  rotate_left
  ·rintro w' ⟨d0,d1⟩;go_simp;rfl
  go_simp
 refine jI rfl rfl (fun K hK=>?_);go_simp;have WY:ak W5.heap.size W5 W5.drew:=(aA _ _).drew;have WZ:=gV.out.up WY;refine (aq pK _ (by have q:=WZ.eg.ow 0 (by decide);rw [Dz.out] at q;exact q) (by have q:=WZ.eg.ow 1 (by decide);rw [rY.out] at q;exact q)).mono ?_;rintro e w6 ⟨u,rfl,og,pI⟩;have Je:ak W5.heap.size W5 w6:=WY.trans pI;have Vv:=af Je;have ng:=af (gV.out.up Je);have Ah:Hid (w6.ownsRow W5.heap.size 127 2 u (eJ g).length (jj (eJ g))):=by have q:=og;rw [ee] at q;exact q
 obtain ⟨ua,uc,rfl⟩:=bA Ah.out;have axl:w6.cell? ⟨E,144,none⟩=some (.slice Mq (g.b 0).length Mr):=by have:=ng.out.eg.ls 0 (by decide);rw [Dz.out] at this;exact this
 have axm:w6.cell? ⟨E,146,none⟩=some (.slice Ms (g.b 1).length Mt):=by have:=ng.out.eg.ls 1 (by decide);rw [rY.out] at this;exact this
 have DC:=ng.out.eg.fz 144;have z146:=ng.out.eg.fz 146;clear pI Je og WY WZ afy QB pK;go_simp;refine hK _ _ (fun h=>absurd h (by decide)) ?_;clear hK K
 iterate 2
  refine Qe ?_ rfl rfl ?_ ?_
  rotate_left
  ·intro w';go_simp;rfl
  go_simp
 refine jI rfl rfl (fun K hK=>?_);go_simp;refine hK _ _ (fun h=>absurd h (by decide)) ?_;clear hK K;refine uH ?_;go_wp2_with fail
 go_ret;rw [HE.out];have xj:w.heap.size<=W5.heap.size:=sJ.out.bD.size;obtain ⟨v',k7,c7,o7⟩:=ng.out.BV (u:=.slice ua (eJ g).length uc) (Al Ah.out (by have:=gV.out.eg.lt;omega)) W5.heap.size (fun x q=>(aR Ah.out x q).1) (fun x q=>(gV.out.eg.has q).2) _ rfl;refine ⟨rfl,v',k7,⟨(sJ.out.bD.trans (fun x q=>.inl q) (aM.bh Vv.out)).trans (fun x q=>.inl (.inl q)) c7,fun x q=>?_⟩⟩;rcases o7 x q with a | a
 ·exact .inl a
 ·exact .inr (aT xj a)
end
section
def fF (g:ay) (k:Int):ay:={g with wk:=k}
theorem afz (g:ay) (k:Int):bV (fF g k)=bV g:=rfl
theorem afA (g:ay) (k:Int) (i n:Nat):newE (fF g k) i n=fF (newE g i n) k:=rfl
def AE (k:Int) (a:Int×ay×aL) (b:Int×ay×aN):Prop:=b.1=a.1∧b.2.1=fF a.2.1 k∧gS a.2.2 b.2.2
theorem QG {d:aL} {r:aN} (h:gS d r) (g:ay) (k:Int) (i:Int) (s:List UInt8):AE k (ep bO g d i s) (ep cC (fF g k) r i s):=by
 obtain ⟨a1,a2⟩:=Pg h i s;obtain ⟨b1,b2⟩:=CZ a2 i;unfold ep bO cC AE;simp only;rw [<-a1,<-b1];by_cases q1:(jv d i s).1=0
 ·by_cases q2:(cG (jv d i s).2 i).1=0
  ·simp only [q1,q2,if_true];exact ⟨trivial,trivial,b2⟩
  ·simp only [q1,q2,if_true,if_false];exact ⟨trivial,rfl,b2⟩
 ·simp only [q1,if_false];exact ⟨trivial,rfl,a2⟩
theorem MZ {d:aL} {r:aN} (h:gS d r) (g:ay) (k:Int) (i:Nat):AE k (cT bO g d i) (cT cC (fF g k) r i):=by
 obtain ⟨a1,a2⟩:=Ph h (i:Int);obtain ⟨b1,b2,b3⟩:=QG a2 g k (i:Int) (bV g);unfold cT;rw [afz,afA];show AE k (if 4294967295<g.gn+1 then _ else _) (if 4294967295<g.gn+1 then _ else _)
 have e1:(cC.clear r (i:Int))=iy r (i:Int):=rfl;have e2:(bO.clear d (i:Int))=jw d (i:Int):=rfl;rw [e1,e2,<-a1,b1];by_cases q1:4294967295<g.gn+1
 ·rw [if_pos q1,if_pos q1];exact ⟨rfl,rfl,h⟩
 ·rw [if_neg q1,if_neg q1];by_cases q2:1500<(bV g).length
  ·rw [if_pos q2,if_pos q2];exact ⟨rfl,rfl,h⟩
  ·rw [if_neg q2,if_neg q2];by_cases q3:(jw d (i:Int)).1=0
   ·rw [if_pos q3,if_pos q3];by_cases q4:(ep bO g (jw d (i:Int)).2 (i:Int) (bV g)).1=0
    ·rw [if_pos q4,if_pos q4];exact ⟨rfl,rfl,b3⟩
    ·rw [if_neg q4,if_neg q4];exact ⟨rfl,rfl,b3⟩
   ·rw [if_neg q3,if_neg q3];exact ⟨rfl,rfl,a2⟩
theorem asZ {d:aL} {r:aN} (h:gS d r) (g:ay) (k:Int) (t0 t1:List UInt8):AE k (mo bO g d t0 t1) (mo cC (fF g k) r t0 t1):=by
 unfold mo;by_cases q0:(jY (scan t0) (scan t1)).2=0
 ·rw [if_pos q0,if_pos q0];exact MZ h {g with ar:=1} k 0
 ·rw [if_neg q0,if_neg q0];by_cases q1:(jY (scan t0) (scan t1)).1=0
  ·rw [if_pos q1,if_pos q1];by_cases q2:(scan t0).good<t0.length
   ·rw [if_pos q2,if_pos q2];exact MZ h (gB g 0 (scan t0) t0.length) k 1
   ·rw [if_neg q2,if_neg q2];exact ⟨rfl,rfl,h⟩
  ·rw [if_neg q1,if_neg q1];by_cases q2:(scan t1).good<t1.length
   ·rw [if_pos q2,if_pos q2];exact MZ h (gB g 1 (scan t1) t1.length) k 0
   ·rw [if_neg q2,if_neg q2];exact ⟨rfl,rfl,h⟩
theorem as0 {d:aL} {r:aN} (h:gS d r) (g:ay) (k:Int):AE k (gC bO g d) (gC cC (fF g k) r):=by
 obtain ⟨a1,a2⟩:=CZ h 0;obtain ⟨b1,b2⟩:=CZ a2 1;obtain ⟨c1,c2,c3⟩:=Ib b2 0;obtain ⟨e1,e2,e3⟩:=Ib c3 1;unfold gC;rw [Wj,Iw];rw [<-a1,<-b1,<-c1,<-c2,<-e1,<-e2];by_cases q1:(cG d 0).1=0
 ·by_cases q2:(cG (cG d 0).2 1).1=0
  ·by_cases q3:(dn (cG (cG d 0).2 1).2 0).2.1=0
   ·by_cases q4:(dn (dn (cG (cG d 0).2 1).2 0).2.2 1).2.1=0
    ·simp only [q1,q2,q3,q4,if_true];exact asZ e3 g k _ _
    ·simp only [q1,q2,q3,q4,if_true,if_false];exact ⟨rfl,rfl,e3⟩
   ·simp only [q1,q2,q3,if_true,if_false];exact ⟨rfl,rfl,c3⟩
  ·simp only [q1,q2,if_true,if_false];exact ⟨rfl,rfl,b2⟩
 ·simp only [q1,if_false];exact ⟨rfl,rfl,a2⟩
theorem as1 {d:aL} {r:aN} (h:gS d r) (g:ay) (k:Int):AE k (lz bO g d) (lz cC (fF g k) r):=by
 have ha:=QG h g k (g.ar:Int) (aW (aG (g.b 1)));obtain ⟨b1,b2,b3⟩:=ha;unfold lz;show AE k (if (g.b 1).length=0 then _ else _) (if (g.b 1).length=0 then _ else _)
 by_cases q0:(g.b 1).length=0
 ·rw [if_pos q0,if_pos q0];exact ⟨rfl,rfl,h⟩
 ·rw [if_neg q0,if_neg q0];show AE k (if 1500<g.sz+(aW (aG (g.b 1))).length then _ else _) (if 1500<g.sz+(aW (aG (g.b 1))).length then _ else _)
  by_cases q1:1500<g.sz+(aW (aG (g.b 1))).length
  ·rw [if_pos q1,if_pos q1];exact MZ h g k _
  ·rw [if_neg q1,if_neg q1];show AE k _ (if (ep cC (fF g k) r (g.ar:Int) (aW (aG (g.b 1)))).1=0 then _ else _)
   rw [b1];by_cases q2:(ep bO g d (g.ar:Int) (aW (aG (g.b 1)))).1=0
   ·rw [if_pos q2,if_pos q2];exact ⟨rfl,rfl,b3⟩
   ·rw [if_neg q2,if_neg q2];exact ⟨rfl,rfl,b3⟩
theorem as2 (g:ay) (k:Int) (ws:List Nat):cB (fF g k) ws=(fF (cB g ws).1 k,(cB g ws).2):=by
 unfold cB;show (match fB (g.b 0) ws with | some p=>_ | none=>_)=_
 cases fB (g.b 0) ws with
 | some p=>
   simp only;split<;>rfl
 | none=>rfl
theorem as3 (g:ay) (k:Int) (ws:List Nat):dS (fF g k) ws=(fF (dS g ws).1 k,(dS g ws).2):=by
 unfold dS;show (match fB (g.b 2) ws with | some p=>_ | none=>_)=_
 cases fB (g.b 2) ws with
 | some p=>rfl
 | none=>
   simp only;rw [as2];rfl
theorem as4 (g:ay) (k:Int) (f:Nat):eT (fF g k) f=(fF (eT g f).1 k,(eT g f).2):=by
 unfold eT;show (if f<(aO g.z).length then _ else _)=_
 by_cases q:f<(aO g.z).length
 ·rw [if_pos q,if_pos q];rfl
 ·rw [if_neg q,if_neg q];unfold xD;show ({(dS (fF g k) (aO g.z)).1 with z:=fO (aO g.z).length g.z},(aO g.z).length)=_
  rw [as3];rfl
theorem afB (k:Int) (fuel:Nat):∀(f:Nat) (g:ay) (n:Nat),kM f (fF g k) fuel n=(fF (kM f g fuel n).1 k,(kM f g fuel n).2)
 | 0,g,n=>rfl
 | f+1,g,n=>by
   rw [kM,kM];show (if gz g.z 137=0∧n<fuel then _ else _)=_
   by_cases q:gz g.z 137=0∧n<fuel
   ·rw [if_pos q,if_pos q,as4];exact afB k fuel f _ _
   ·rw [if_neg q,if_neg q]
theorem as5 (g:ay) (k:Int) (fuel:Nat):vM (fF g k) fuel=(fF (vM g fuel).1 k,(vM g fuel).2):=afB k fuel _ g 0
theorem as6 (g:ay) (k u wk:Int) (h:(k=u)↔(g.wk=wk)):iN (fF g k) u=iN g wk:=by
 unfold iN;show (g.fl || !(k == u))=_
 have:(k == u)=(g.wk == wk):=by rw [Bool.eq_iff_iff,beq_iff_eq,beq_iff_eq];exact h
 rw [this]
def AF (x:cD):Prop:=(aQ x.1).length+x.2.length<=199
theorem afC {P:cD->Prop}:∀(l:List jJ) (b:List cD),(∀k∈b,P k)->(∀x∈l,ox (ah x.1)=true->P (mZ x.1,x.2))->∀k∈l.foldl kL b,P k
 | [],b,hb,_=>hb
 | x :: l,b,hb,hl=>by
   refine afC l (kL b x) (fun k hk=>?_) (fun y hy=>hl y (xK _ hy));unfold kL at hk;split at hk
   ·rename_i hB;rcases Fo hk with q | q
    ·exact hb k q
    ·rw [q];exact hl x (vO ..) hB
   ·exact hb k hk
theorem as7 {a a':cS} {k:Nat} {p:List UInt8} (h:∀x∈a.list,x.1.length+x.2.length<=199) (hp:p.length<=200) (e:iH a k p=some a'):∀x∈a'.list,x.1.length+x.2.length<=199:=by
 unfold iH at e;split at e
 ·split at e
  ·cases e;exact h
  ·cases e
 ·split at e
  ·split at e
   ·rename_i hc;cases e;intro x hx;rcases rO.1 hx with q | q
    ·exact h x q
    ·rw [List.mem_singleton] at q;rw [q];simp only [List.length_take,List.length_drop];omega
   ·cases e
  ·split at e
   ·split at e
    ·cases e;exact h
    ·cases e
   ·cases e
theorem afD:∀(f:Nat) (a:cS) (l:List UInt8),(∀x∈a.list,x.1.length+x.2.length<=199)->∀x∈(nL f a l).list,x.1.length+x.2.length<=199
 | 0,a,l,h=>h
 | f+1,a,l,h=>by
   rw [nL];cases hf:mS l with
   | none=>exact h
   | some kp=>
     obtain ⟨k,p⟩:=kp;simp only;cases ht:iH a k p with
     | none=>exact h
     | some a'=>
       simp only;obtain ⟨_,_,hp,_,_⟩:=xU hf;exact afD f a' _ (as7 h hp ht)
theorem as8 (l:List UInt8):∀x∈(scan l).list,x.1.length+x.2.length<=199:=afD _ _ _ (fun _ h=>by cases h)
theorem afE:∀l:List jJ,(∀x∈l,x.1.length+x.2.length<=199)->l.length<=(aW l).length
 | [],_=>bK _
 | x :: l,h=>by
   have h1:=afE l (fun y hy=>h y (xK _ hy));have hx:=h x (vO ..);have hp:(Ld x).length<=200:=by unfold Ld;rw [dK,dK,iF];omega
   have h2:8<=(tF x).length:=by unfold tF jT;rw [if_pos hp,JZ];omega
   have h3:aW (x :: l)=tF x ++ aW l:=rfl;rw [h3,dK,List.length_cons];omega
theorem W9 {l:List cD} (h:∀x∈l,AF x):∀x∈aG l,x.1.length+x.2.length<=199:=fun x hx=>by
 obtain ⟨k,hk,rfl⟩:=qN.1 hx;exact h k hk
theorem afF {l:List cD} (h:∀x∈l,AF x):l.length<=(aW (aG l)).length:=by
 have:=afE (aG l) (W9 h);rw [ee] at this;exact this
theorem afG {m:List jJ} (h:∀x∈m,x.1.length+x.2.length<=199):∀k∈dN m,AF k:=afC m [] (fun _ h=>by cases h) (fun x hx hb=>by show (aQ (mZ x.1)).length+x.2.length<=199;rw [V3 hb];exact h x hx)
theorem afH {g:ay} (h:∀i,i<2->∀x∈g.b i,AF x):∀x∈eJ g,AF x:=afG (fun x hx=>by
 rcases rO.1 hx with q | q
 ·exact W9 (h 0 (by decide)) x q
 ·exact W9 (h 1 (by decide)) x q)
theorem as9 {g:ay} (h:∀i,i<2->∀x∈g.b i,AF x):(eJ g).length<=(bV g).length:=by
 have h1:=afF (afH h);unfold bV Dh;rw [dK,dK];omega
structure fP (g:ay) (k:Nat):Prop where
 run:xE g k
 pu:iO g
 ar:g.ar<=1
 gn:g.gn<=4294967295
 sz:g.sz<=1500
 sm:(g.b 0).length+(g.b 1).length<=k
 kn:(g.b 0).length<=g.sz
 DG:∀i,i<2->∀x∈g.b i,AF x
theorem fP.eg {g:ay} {k:Nat} (h:fP g k) (hk:k<=200000000000):oG g:=⟨h.ar,h.gn,fun i hi=>aT (h.run.rn.1 i hi) hk,fun i hi x hx=>h.run.pl i hi x hx⟩
theorem fP.more {g:ay} {k n:Nat} (h:fP g k) (hn:k<=n):fP g n:=⟨⟨h.run.z,h.run.rd,h.run.rn.more hn,h.run.pl⟩,h.pu,h.ar,h.gn,h.sz,aT h.sm hn,h.kn,h.DG⟩
theorem fP.fail {g:ay} {k:Nat} (h:fP g k):fP (dg g) k:=⟨⟨h.run.z,h.run.rd,h.run.rn,h.run.pl⟩,h.pu.of rfl,h.ar,h.gn,h.sz,h.sm,h.kn,h.DG⟩
theorem fP.ata {g:ay} {k:Nat} (h:fP g k) {a n s:Nat} (ha:a<=1) (hn:n<=4294967295) (hs:s<=1500) (hb:(g.b 0).length<=s):fP {g with ar:=a,gn:=n,sz:=s} k:=⟨⟨h.run.z,h.run.rd,h.run.rn,h.run.pl⟩,h.pu.of rfl,ha,hn,hs,h.sm,hb,h.DG⟩
theorem Xa (g:ay):(eJ g).length<=(g.b 0).length+(g.b 1).length:=by
 have:=Ip (aG (g.b 0) ++ aG (g.b 1));rw [dK,ee,ee] at this;exact this
theorem atb {g:ay} (h:∀i,i<3->∀x∈g.b i,x.2.length<=1000000):∀x∈eJ g,x.2.length<=1000000:=by
 refine Lh (P:=fun p=>p.length<=1000000) _ [] (fun _ h=>by cases h) (fun y hy=>?_);rcases rO.1 hy with q | q
 ·obtain ⟨k',hk',rfl⟩:=qN.1 q;exact h 0 (by decide) k' hk'
 ·obtain ⟨k',hk',rfl⟩:=qN.1 q;exact h 1 (by decide) k' hk'
theorem atc (g:ay):(qI g).b 0=eJ g∧(qI g).b 1=[]∧(qI g).b 2=g.b 2:=⟨by show aE (aE g.b 0 (eJ g)) 1 [] 0=_;rw [bp _ _ _ _ (by decide),cq],by show aE (aE g.b 0 (eJ g)) 1 [] 1=_;rw [cq],by show aE (aE g.b 0 (eJ g)) 1 [] 2=_;rw [bp _ _ _ _ (by decide),bp _ _ _ _ (by decide)]⟩
theorem fP.BV {g:ay} {k:Nat} (h:fP g k) {a n s:Nat} (ha:a<=1) (hn:n<=4294967295) (hs:s<=1500) (hb:(eJ g).length<=s):fP (qI {g with ar:=a,gn:=n,sz:=s}) k:=by
 obtain ⟨e0,e1,e2⟩:=atc {g with ar:=a,gn:=n,sz:=s};have et:eJ {g with ar:=a,gn:=n,sz:=s}=eJ g:=rfl;have e2':({g with ar:=a,gn:=n,sz:=s}:ay).b=g.b:=rfl;rw [et] at e0;rw [e2'] at e2;have hl:∀i,i<3->((qI {g with ar:=a,gn:=n,sz:=s}).b i).length<=k:=fun i hi=>by
  have:i=0∨i=1∨i=2:=by omega
  rcases this with rfl | rfl | rfl
  ·rw [e0];exact aT (Xa g) h.sm
  ·rw [e1];exact bK _
  ·rw [e2];exact h.run.rn.1 2 (by decide)
 refine ⟨⟨h.run.z,fun x hx=>?_,⟨hl,h.run.rn.2⟩,fun i hi x hx=>?_⟩,(h.pu.of (g':={g with ar:=a,gn:=n,sz:=s}) rfl).BV,ha,hn,hs,?_,?_,fun i hi x hx=>?_⟩
 ·rw [e2] at hx;exact h.run.rd x hx
 ·have:i=0∨i=1∨i=2:=by omega
  rcases this with rfl | rfl | rfl
  ·rw [e0] at hx;exact atb h.run.pl x hx
  ·rw [e1] at hx;cases hx
  ·rw [e2] at hx;exact h.run.pl 2 (by decide) x hx
 ·rw [e0,e1];have:=Xa g;have:=h.sm;show (eJ g).length+0<=k
  omega
 ·rw [e0];exact hb
 ·have:i=0∨i=1:=by omega
  rcases this with rfl | rfl
  ·rw [e0] at hx;exact afH h.DG x hx
  ·rw [e1] at hx;cases hx
theorem fP.anew {α:Type} {o:qc α} {g:ay} {k:Nat} (h:fP g k) (d:α) {i:Nat} (hi:i<=1):fP (cT o g d i).2.1 k:=by
 unfold cT;by_cases q1:4294967295<g.gn+1
 ·rw [if_pos q1];exact h
 ·rw [if_neg q1];by_cases q2:1500<(bV g).length
  ·rw [if_pos q2];exact h
  ·rw [if_neg q2];split
   ·split
    ·exact h.BV hi (by omega) (by omega) (as9 h.DG)
    ·exact h.fail
   ·exact h.fail
theorem fP.aeN {α:Type} {o:qc α} {g:ay} {k:Nat} (h:fP g k) (d:α):fP (lz o g d).2.1 k:=by
 unfold lz;split
 ·exact h
 ·split
  ·exact h.anew d (by omega)
  ·rename_i q;split
   ·exact h.BV (s:=g.sz+(aW (aG (g.b 1))).length) h.ar h.gn (by omega) (by have h1:=Xa g;have h2:=afF (h.DG 1 (by decide));have h3:=h.kn;omega)
   ·exact h.fail
theorem ate (g:ay) (ws:List Nat):((cB g ws).1.b 0).length+((cB g ws).1.b 1).length<=(g.b 0).length+(g.b 1).length+1:=by
 obtain ⟨e0,_,e1⟩:=Ml g ws;rw [e0];rcases e1 with e1 | e1
 ·rw [e1];omega
 ·rw [e1];have:=UI (g.b 1) ws (dw ws);omega
theorem atf (g:ay) (ws:List Nat):((dS g ws).1.b 0).length+((dS g ws).1.b 1).length<=(g.b 0).length+(g.b 1).length+1:=by
 unfold dS;cases fB (g.b 2) ws with
 | some p=>exact jk _
 | none=>
   have:=ate g ws;show (aE (cB g ws).1.b 2 (jG ((cB g ws).1.b 2) ws (cB g ws).2) 0).length+(aE (cB g ws).1.b 2 (jG ((cB g ws).1.b 2) ws (cB g ws).2) 1).length<=_
   rw [bp _ _ _ _ (by decide),bp _ _ _ _ (by decide)];exact this
theorem atg (g:ay) (ws:List Nat):(dS g ws).1.ar=g.ar∧(dS g ws).1.gn=g.gn∧(dS g ws).1.sz=g.sz∧(dS g ws).1.wk=g.wk∧(dS g ws).1.fl=g.fl:=by
 have hp:(cB g ws).1.ar=g.ar∧(cB g ws).1.gn=g.gn∧(cB g ws).1.sz=g.sz∧(cB g ws).1.wk=g.wk∧(cB g ws).1.fl=g.fl:=by
  unfold cB;cases fB (g.b 0) ws with
  | some p=>simp only;split<;>exact ⟨rfl,rfl,rfl,rfl,rfl⟩
  | none=>exact ⟨rfl,rfl,rfl,rfl,rfl⟩
 unfold dS;cases fB (g.b 2) ws with
 | some p=>exact ⟨rfl,rfl,rfl,rfl,rfl⟩
 | none=>exact hp
theorem ath {g:ay} {ws:List Nat} (hw:gO ws) (hb:gi (ah (aQ ws))) (h:∀i,i<2->∀x∈g.b i,AF x):(dS g ws).1.b 0=g.b 0∧∀i,i<2->∀x∈(dS g ws).1.b i,AF x:=by
 unfold dS;cases fB (g.b 2) ws with
 | some p=>exact ⟨rfl,h⟩
 | none=>
   obtain ⟨e0,_,e1⟩:=Ml g ws;have f0:(qJ (cB g ws).1 2 ws (cB g ws).2).b 0=g.b 0:=(show aE (cB g ws).1.b 2 (jG ((cB g ws).1.b 2) ws (cB g ws).2) 0=g.b 0 from (bp _ _ _ _ (by decide)).trans e0);have f1:(qJ (cB g ws).1 2 ws (cB g ws).2).b 1=(cB g ws).1.b 1:=(show aE (cB g ws).1.b 2 (jG ((cB g ws).1.b 2) ws (cB g ws).2) 1=(cB g ws).1.b 1 from bp _ _ _ _ (by decide));refine ⟨f0,fun i hi x hx=>?_⟩;have:i=0∨i=1:=by omega
   rcases this with rfl | rfl
   ·simp only [f0] at hx;exact h 0 (by decide) x hx
   ·simp only [f1] at hx;rcases e1 with e1 | e1
    ·rw [e1] at hx;exact h 1 (by decide) x hx
    ·rw [e1] at hx;rcases Fo hx with q | q
     ·exact h 1 (by decide) x q
     ·rw [q];have h1:=Lf hw;have h2:=VE ws hb;show (aQ ws).length+(dw ws).length<=199
      omega
theorem fP.QC {g:ay} {k:Nat} (h:fP g k) (hs:gz g.z 137=0) (f:Nat):fP (eT g f).1 (k+4)∧(eT g f).1.wk=g.wk:=by
 obtain ⟨q1,_,_⟩:=Ql h.run hs f;have hp:=h.pu.QC h.run f;have ati:(eT g f).1.b 0=g.b 0∧∀i,i<2->∀x∈(eT g f).1.b i,AF x:=by
  unfold eT;split
  ·exact ⟨rfl,h.DG⟩
  ·exact ath h.run.z.Fk h.run.z.blk h.DG
 obtain ⟨a5b,a6⟩:=ati;have key:(eT g f).1.ar=g.ar∧(eT g f).1.gn=g.gn∧(eT g f).1.sz=g.sz∧(eT g f).1.wk=g.wk∧((eT g f).1.b 0).length+((eT g f).1.b 1).length<=(g.b 0).length+(g.b 1).length+1:=by
  unfold eT;split
  ·exact ⟨rfl,rfl,rfl,rfl,jk _⟩
  ·obtain ⟨a1,a2,a3,a4,_⟩:=atg g (aO g.z);exact ⟨a1,a2,a3,a4,atf g (aO g.z)⟩
 obtain ⟨a1,a2,a3,a4,a5⟩:=key;exact ⟨⟨q1,hp,by rw [a1];exact h.ar,by rw [a2];exact h.gn,by rw [a3];exact h.sz,by have:=h.sm;omega,by rw [a5b,a3];exact h.kn,a6⟩,a4⟩
theorem fP.kM (fuel:Nat):∀(f:Nat) (g:ay) (k n:Nat),fP g k->fP (kM f g fuel n).1 (k+4 * f)∧(kM f g fuel n).1.wk=g.wk
 | 0,g,k,n,h=>⟨h,rfl⟩
 | f+1,g,k,n,h=>by
   rw [Go.Proofs.YtmmflekajbeamaaGreatDoor.kM];split
   ·rename_i q;obtain ⟨a1,a2⟩:=h.QC q.1 (fuel - n);obtain ⟨b1,b2⟩:=fP.kM fuel f _ (k+4) (n+(eT g (fuel - n)).2) a1;exact ⟨b1.more (by omega),b2.trans a2⟩
   ·exact ⟨h.more (by omega),rfl⟩
theorem fP.vM {g:ay} {k:Nat} (h:fP g k) (fuel:Nat):fP (vM g fuel).1 (k+4 * (fuel+1))∧(Go.Proofs.YtmmflekajbeamaaGreatDoor.vM g fuel).1.wk=g.wk:=fP.kM fuel (fuel+1) g k 0 h
theorem atk {α:Type} (o:qc α) (g:ay) (d:α):(lz o g d).2.1.wk=g.wk:=by
 unfold lz;split
 ·rfl
 ·split
  ·exact Wt _ _ _ _
  ·split<;>rfl
theorem fP.new {z:List Int} (hz:lu z) (k:Int):fP (newG k z) 1500:=⟨⟨hz,fun _ h=>(by cases h),⟨fun _ _=>bK _,fun _ _=>bK _⟩,fun _ _ _ h=>(by cases h)⟩,iO.new k z,bK _,bK _,bK _,bK _,bK _,fun _ _ _ h=>(by cases h)⟩
theorem fP.cur {z:List Int} (hz:lu z) (k:Int) {c:Nat} (hc:c<=1) (t:List UInt8) (ht:t.length<=1500):fP (gB (newG k z) c (scan t) t.length) 1500:=by
 obtain ⟨hA,hG⟩:=BM t;have hf:(scan t).list.length<=1500:=aT (Iz t) ht;have hb:(dN (scan t).list).length<=1500:=aT (Ip _) hf;have h0:(gB (newG k z) c (scan t) t.length).b 0=dN (scan t).list:=(show aE (newG k z).b 0 (dN (scan t).list) 0=_ from cq _ _ _);have h1:∀i,i≠0->(gB (newG k z) c (scan t) t.length).b i=[]:=fun i hi=>(show aE (newG k z).b 0 (dN (scan t).list) i=_ from bp _ _ _ _ hi);refine ⟨⟨hz,fun x hx=>?_,⟨fun i hi=>?_,fun _ _=>bK _⟩,fun i hi x hx=>?_⟩,(iO.new k z).cur _ _ _,hc,hA.gen,ht,?_,?_,fun i hi x hx=>?_⟩
 ·rw [h1 2 (by decide)] at hx;cases hx
 ·by_cases e:i=0
  ·rw [e,h0];exact hb
  ·rw [h1 i e];exact bK _
 ·by_cases e:i=0
  ·rw [e,h0] at hx;exact Lh (P:=fun p=>p.length<=1000000) _ [] (fun _ h=>by cases h) (fun y hy=>by have:=(hA.sh y hy).2;omega) x hx
  ·rw [h1 i e] at hx;cases hx
 ·rw [h0,h1 1 (by decide)];exact hb
 ·rw [h0];exact aT (Ip _) (Iz t)
 ·by_cases e:i=0
  ·rw [e,h0] at hx;exact afG (as8 t) x hx
  ·rw [h1 i e] at hx;cases hx
theorem fP.open {z:List Int} (hz:lu z) (k:Int) (d:aL) (hd:∀i,i<2->(d.b i).length<=1500):fP (gC bO (newG k z) d).2.1 1500:=by
 obtain ⟨l0,l1⟩:=ac4 (g:=newG k z) (d:=d) hd;have hn:=fP.new hz k;unfold gC;split
 ·rename_i q;rw [ac5 q];generalize (mI bO (newG k z) d).2.2.2.1=t0 at *;generalize (mI bO (newG k z) d).2.2.2.2=t1 at *;unfold mo;split
  ·exact (fP.ata hn (a:=1) (n:=0) (s:=0) (by decide) (by decide) (by decide) (bK _)).anew _ (by decide)
  ·split
   ·split
    ·exact (fP.cur hz k (by decide) t0 l0).anew _ (by decide)
    ·exact fP.cur hz k (by decide) t0 l0
   ·split
    ·exact (fP.cur hz k (by decide) t1 l1).anew _ (by decide)
    ·exact fP.cur hz k (by decide) t1 l1
 ·have:∀d,(mI bO (newG k z) d).2.1=newG k z∨(mI bO (newG k z) d).2.1=dg (newG k z):=fun d=>by
   unfold mI
   (repeat' split)<;>first | exact .inl rfl | exact .inr rfl
  show fP (mI bO (newG k z) d).2.1 1500
  rcases this d with e | e
  ·rw [e];exact hn
  ·rw [e];exact hn.fail
end
end Go.Proofs.YtmmflekajbeamaaGreatDoor
