/- Texts of ours, joined, in few bytes. -/
import Derived.Test.YtmmflekajbeamaaGreatDoorE26
open And renaming intro->JM
open Go renaming Calls->av,Ending->eL,Value->aj,below_drewN->dH,block_lt_of_cell->mA,bodyPost_ret->cL,heap_alloc_new->bg,results_cell_row->jl
open Go.IntKind renaming wrap_i64->AJ
open Go.Proofs.Tryz renaming func42->YQ,func43->RI,ntmps42->YR,ntmps43->RJ,prog->au,underlying28->jO,underlying66->YS
open Go.RowKit renaming Below->ak,intOf->aI,wrap64->aY
open Go.RowKit.Below renaming refl->aA
open Go.Value renaming slice->mQ
open Go.Value.slice renaming injEq->Gu
open Go.World renaming cell?->cU,cell?_of_block->aP,frozen?->ij
open List renaming findIdx?_eq_some_iff_getElem->Rz,getElem?_eq_getElem->bE,getElem?_eq_some_iff->fG,length_append->dK,length_set->lU,mem_map->qN,take_length->xJ
open Nat renaming le_refl->ax,le_succ_of_le->JR,zero_le->bK
open Option.some renaming inj->oN
namespace Go.Proofs.YtmmflekajbeamaaGreatDoor
set_option maxRecDepth 100000
set_option maxHeartbeats 8000000
open Go.RowKit Go.Maps Go.WideMaps
theorem aqK (E D:Nat) (g:ay) (d:aL) (m v vs:Nat->aj) (fuel:Int) (w:World) (h:dG E D g d m v vs w) (ho:iN g d.wk=true):
 av au 42 #[.pointer (some ⟨E,0,none⟩),.int .i64 fuel] w fun e' w'=>e'= .returned (.tuple #[.int .i64 0,.int .i64 17])∧ak w.heap.size w w':=by
 have HO:=af (IC E D g d m v vs w h);rw [ho] at HO;clear h;go_enter YQ,YR;go_wp2_with fail
 refine (aq HO).mono ?_;rintro e w1 ⟨rfl,n,rfl⟩;go_wp2_with fail
 go_ret2
 exact ⟨rfl,dH (aA _ _) _⟩
theorem aqL (E D:Nat) (g:ay) (d:aL) (m v vs:Nat->aj) (fuel:Int) (w:World) (h:dG E D g d m v vs w) (ho:iN g d.wk=false) (hf:fuel<0∨2000<fuel):
 av au 42 #[.pointer (some ⟨E,0,none⟩),.int .i64 fuel] w fun e' w'=>e'= .returned (.tuple #[.int .i64 0,.int .i64 1])∧ak w.heap.size w w':=by
 have HO:=af (IC E D g d m v vs w h);rw [ho] at HO;clear h;rcases hf with hf | hf
 ·go_enter YQ,YR;go_wp2_with fail
  refine (aq HO).mono ?_;rintro e w1 ⟨rfl,n,rfl⟩;go_wp2_with fail
  go_ret2
  exact ⟨rfl,dH (aA _ _) _⟩
 ·have IB:¬fuel<0:=by omega
  go_enter YQ,YR;go_wp2_with fail
  refine (aq HO).mono ?_;rintro e w1 ⟨rfl,n,rfl⟩;go_wp2_with fail
  go_ret2
  exact ⟨rfl,dH (aA _ _) _⟩
theorem VT {fuel n k:Nat} (h:n<fuel) (hk:1<=k):fuel - (aI (.int .i64 ((n+k:Nat):Int))).toNat<fuel - (aI (.int .i64 (n:Int))).toNat:=by
 have h1:(aI (.int .i64 ((n+k:Nat):Int))).toNat=n+k:=by simp [aI];omega
 have h2:(aI (.int .i64 (n:Int))).toNat=n:=by simp [aI]
 rw [h1,h2];omega
theorem aqM (E D:Nat) (g:ay) (d:aL) (m v vs:Nat->aj) (fuel:Nat) (w:World) (k:Nat) (h:dG E D g d m v vs w) (ht:bF w) (ho:iN g d.wk=false) (hf:fuel<=2000) (hg:xE g k) (hk:k<=99999900000):
 av au 42 #[.pointer (some ⟨E,0,none⟩),.int .i64 (fuel:Int)] w fun e' w'=>e'= .returned (.tuple #[.int .i64 ((vM g fuel).2:Int),.int .i64 0])∧gD E D m v w (vM g fuel).1 w':=by
 have HO:=af (IC E D g d m v vs w h);rw [ho] at HO;have hE:0<E:=(h.pos ht).1;have E9:=af h.eg;have mq:=af ht;have HG:=af hg;have HE:=af hE;have HK:=af hk;have HF:=af hf;have IB:¬(fuel:Int)<0:=by omega
 have hf1:¬(2000:Int)<(fuel:Int):=by omega
 obtain ⟨RR,mh⟩:∃RR,RR=vM g fuel:=⟨_,rfl⟩;rw [<-mh];have jA:=af mh;clear h ht ho hg hE mh hk;go_enter YQ,YR;go_wp2_with fail
 refine (aq HO).mono ?_;rintro e w1 ⟨rfl,nq,rfl⟩;have H0:Hid (gD E D m v w g (w.drewN nq)):=gD.bh E9.out (dH (aA _ _) _);clear HO;go_wp2_with fail
 go_loopw [6] (fun i wr=>∃(n:Nat) (g':ay),i= .int .i64 (n:Int)∧n<=fuel∧Hid (gD E D m v w g' wr∧xE g' (k+4 * n)∧RR=kM (fuel+1 - n) g' fuel n)) (fun i _=>fuel - (aI i).toNat)
 case atStart=>exact ⟨0,g,rfl,bK _,H0.out,HG.out,jA.out⟩
 case round=>
  obtain ⟨n,g',rfl,hn,HI⟩:=hrel;obtain ⟨⟨m1,v1,e1,c1,o1⟩,eG,hr1⟩:=HI.out;have y:=e1.stop;have BU:bF wr:=mq.out.bD E9.out HE.out c1;have K4:=af c1;have jy:=af o1;have p7:=af eG;have dm:=af hr1;by_cases hst:gz g'.z 137=0
  ·by_cases hlt:n<fuel
   ·have hlt':(n:Int)<(fuel:Int):=by omega
    rw [hst] at y;have Ay:=af (aqC E D g' m1 v1 (fuel - n) wr (k+4 * n) e1 BU HE.out eG.z hst eG.rd eG.rn (by have:=HK.out;have:=HF.out;omega) (eG.pl 0 (by decide)));obtain ⟨q1,q2,q3⟩:=Ql eG hst (fuel - n);have Du:RR=kM (fuel - n) (eT g' (fuel - n)).1 fuel (n+(eT g' (fuel - n)).2):=by
     rw [hr1,show fuel+1 - n=(fuel - n)+1 by omega,kM,if_pos ⟨hst,hlt⟩]
    have q4:=q3 (by omega);have Fp:RR=kM (fuel+1 - (n+(eT g' (fuel - n)).2)) (eT g' (fuel - n)).1 fuel (n+(eT g' (fuel - n)).2):=by
     rw [Du];exact VS _ _ _ _ _ _ q1 (by omega) (by omega) (by omega)
    have hk3:xE (eT g' (fuel - n)).1 (k+4 * (n+(eT g' (fuel - n)).2)):=⟨q1.z,q1.rd,q1.rn.more (by omega),q1.pl⟩;have hsub:((fuel - n:Nat):Int)=(fuel:Int) - (n:Int):=by omega
    rw [hsub] at Ay;have hle:n+(eT g' (fuel - n)).2<=fuel:=by omega
    have HQ:=af (JM Fp (JM hk3 (JM hle q2)));have hadd:((eT g' (fuel - n)).2:Int)<=2000:=by have:=HF.out;omega
    clear e1 c1 o1 eG hr1 BU q1 q2 q3 q4 Du Fp hk3 hle hsub;generalize eT g' (fuel - n)=AD at *;generalize fuel - n=FN at *;go_wp2_with fail
    refine (aq Ay).mono ?_;rintro e w2 ⟨rfl,jx⟩;have yR:Hid (gD E D m v w AD.1 w2):=gD.seq K4.out jy.out jx;clear jx Ay;go_wp2_with fail
    exact ⟨⟨n+AD.2,AD.1,rfl,HQ.out.2.2.1,yR.out,HQ.out.2.1,HQ.out.1⟩,VT hlt HQ.out.2.2.2⟩
   ·have hlt':¬(n:Int)<(fuel:Int):=by omega
    rw [hst] at y;have HP:Hid (RR=(g',n)):=by
     unfold Hid;rw [hr1,show fuel+1 - n=(fuel - n)+1 by omega,kM,if_neg (fun q=>hlt q.2)]
    clear e1 c1 o1 eG hr1 BU;go_wp2_with fail
    go_ret2
    rw [HP.out];exact ⟨rfl,HI.out.1⟩
  ·have aqN:(gz g'.z 137 == 0)=false:=by simpa using hst
   have HP:Hid (RR=(g',n)):=by
    unfold Hid;rw [hr1,show fuel+1 - n=(fuel - n)+1 by omega,kM,if_neg (fun q=>hst q.1)]
   generalize gz g'.z 137=ST at *;clear e1 c1 o1 eG hr1 BU hst;go_wp2_with fail
   go_ret2
   rw [HP.out];exact ⟨rfl,HI.out.1⟩
theorem aqO (E D:Nat) (g:ay) (d:aL) (m v vs:Nat->aj) (w:World) (h:dG E D g d m v vs w) (ht:bF w) (hok:oG g):
 av au 98 #[.pointer (some ⟨E,0,none⟩)] w (EPost E D m v vs w (if iN g d.wk=true then (17,g,d) else cT bO g d (1 - g.ar)).1 (if iN g d.wk=true then (17,g,d) else cT bO g d (1 - g.ar)).2.1 (if iN g d.wk=true then (17,g,d) else cT bO g d (1 - g.ar)).2.2):=by
 have HO:=af (IC E D g d m v vs w h);have HH:=af h;have mq:=af ht;have sy:=af (fun n=>Li E D g d m v vs (w.drewN n) (h.drewN n) (ht.below ht.pos (dH (aA _ _) n)) hok);cases ho:iN g d.wk
 ·rw [ho] at HO;rw [if_neg (by decide)];generalize cT bO g d (1 - g.ar)=R at *;clear h ht hok ho;go_enter Tryz.func98,Tryz.ntmps98;go_wp2_with fail
  refine (aq HO).mono ?_;rintro e w1 ⟨rfl,n,rfl⟩;go_wp2_with fail
  refine (aq sy n).mono ?_;rintro e w2 ⟨rfl,m2,v2,gy,k2,f2⟩;have HK:=af k2;have HF:=af ((cN.bh (dH (aA w.heap.size w) n)).trans f2);clear k2 f2;go_wp2_with fail
  go_ret;exact ⟨rfl,m2,v2,gy,HK.out,HF.out⟩
 ·rw [ho] at HO;rw [if_pos rfl];clear h ht hok ho sy;go_enter Tryz.func98,Tryz.ntmps98;go_wp2_with fail
  refine (aq HO).mono ?_;rintro e w1 ⟨rfl,n,rfl⟩;go_wp2_with fail
  go_ret;exact ⟨rfl,m,v,vs,HH.out.drewN n,cN.bh (dH (aA _ _) n)⟩
theorem aqP (E D:Nat) (g:ay) (m v:Nat->aj) (w:World) (h:bH E D g m v w) (hl:(g.b 0).length<=1000000000000):
 av au 44 #[.pointer (some ⟨E,0,none⟩)] w fun e' w'=>∃u,e'= .returned u∧w'.ownsRow w.heap.size 127 2 u (aG (g.b 0)).length (bR (aG (g.b 0)))∧ak w.heap.size w w':=by
 have b0:=h.bk 0 (by decide);have c1:=b0.c1;have HC:=af (am7 E (v 0) (aG (g.b 0)) w (by rw [ee];exact b0.ls) (by rw [ee];exact hl));obtain ⟨a,c,e⟩:=bA b0.ls;rw [e] at c1 HC;clear h b0 e;go_enter Tryz.func44,Tryz.ntmps44;go_wp2_with fail
 refine (aq HC).mono ?_;rintro e w1 ⟨u,rfl,ho,hb⟩;have HO:=af ho;have HB:=af hb;clear ho hb HC;go_wp2_with fail
 go_ret;exact ⟨u,rfl,HO.out,HB.out⟩
def lz {α:Type} (o:qc α) (g:ay) (d:α):Int×ay×α:=
 if (g.b 1).length=0 then (0,g,d)
 else if 1500<g.sz+(aW (aG (g.b 1))).length then cT o g d (1 - g.ar)
 else if (ep o g d (g.ar:Int) (aW (aG (g.b 1)))).1=0 then (0,qI {g with sz:=g.sz+(aW (aG (g.b 1))).length},(ep o g d (g.ar:Int) (aW (aG (g.b 1)))).2.2)
 else (15,dg g,(ep o g d (g.ar:Int) (aW (aG (g.b 1)))).2.2)
theorem aqQ (E D:Nat) (g:ay) (d:aL) (m v vs:Nat->aj) (w:World) (h:dG E D g d m v vs w) (ht:bF w) (hok:oG g) (hsz:g.sz<=1500) (ho:iN g d.wk=false):
 av au 43 #[.pointer (some ⟨E,0,none⟩)] w (EPost E D m v vs w (lz bO g d).1 (lz bO g d).2.1 (lz bO g d).2.2):=by
 have HO:=af (IC E D g d m v vs w h);rw [ho] at HO;have HH:=af h;have mq:=af ht;have fK:=af hok;have pW:Hid (∀m' v' vs' w',cN E D m v vs m' v' vs' w w'->bF w'):=fun m' v' vs' w' hf=>h.tab ht hf;have b1:=h.eg.bk 1 (by decide);have c1:w.cell? ⟨E,152,none⟩=some (v 1):=b1.c1;have yd:=af b1.ls;obtain ⟨va,vc,hv⟩:=bA b1.ls;rw [hv] at c1 yd
 have gL:Hid (∀w',ak w.heap.size w w'->av au 90 #[.slice va (g.b 1).length vc] w' fun e' w''=>e'= .returned (.string (ah (aW (aG (g.b 1)))))∧ak w'.heap.size w' w''):=fun w' hb=>acJ E _ (aG (g.b 1)) w' (by rw [ee];exact dX yd.out hb) (fun x hx=>⟨PL b1.ok x hx,by
  obtain ⟨k,hk,rfl⟩:=qN.1 hx
  exact hok.sh 1 (by decide) k hk⟩) (by rw [ee];have:=hok.few 1 (by decide);omega)
 have Lw:w.cell? ⟨E,148,none⟩=some (.int .i64 (g.sz:Int)):=h.eg.sc 148 (.inr (by decide));have PT:w.cell? ⟨E,146,none⟩=some (.int .i64 (g.ar:Int)):=h.eg.sc 146 (.inr (by decide));have hel:(aW (aG (g.b 1))).length<=208 * 200000000000:=by
  have h1:=Df (aG (g.b 1));rw [ee] at h1;have:=hok.few 1 (by decide);omega
 by_cases h0:(g.b 1).length=0
 ·have e:lz bO g d=(0,g,d):=if_pos h0;rw [e];have h0':((g.b 1).length:Int)=0:=by omega
  rw [h0] at c1;clear h ht hok ho hsz b1 hv e hel gL h0 h0';go_enter RI,RJ;go_wp2_with fail
  refine (aq HO).mono ?_;rintro e w1 ⟨rfl,n,rfl⟩;go_wp2_with fail
  go_ret;exact ⟨rfl,m,v,vs,HH.out.drewN n,cN.bh (dH (aA _ _) n)⟩
 have h0':(((g.b 1).length:Int) == 0)=false:=beq_eq_false_iff_ne.2 (by omega);have dR:Hid ((ah (aW (aG (g.b 1)))).size=(aW (aG (g.b 1))).length):=bZ _;have hwr:aY ((g.sz:Int)+((ah (aW (aG (g.b 1)))).size:Int))=(g.sz:Int)+((ah (aW (aG (g.b 1)))).size:Int):=by rw [dR.out];unfold aY;omega
 by_cases hl:1500<g.sz+(aW (aG (g.b 1))).length
 ·have e:lz bO g d=cT bO g d (1 - g.ar):=by unfold lz;rw [if_neg h0,if_pos hl]
  rw [e];have hl':(1500:Int)<(g.sz:Int)+((ah (aW (aG (g.b 1)))).size:Int):=by rw [dR.out];omega
  have sy:=af (fun w' (h':dG E D g d m v vs w') (t':bF w')=>Li E D g d m v vs w' h' t' hok);generalize cT bO g d (1 - g.ar)=R at *;generalize ah (aW (aG (g.b 1)))=FR at *;generalize (g.b 1).length=L1 at *;clear h ht hok ho hsz b1 hv e hel h0 hl;go_enter RI,RJ;go_wp2_with fail
  refine (aq HO).mono ?_;rintro e w1 ⟨rfl,n,rfl⟩;go_wp2_with fail
  refine (aq gL _ (dH (aA _ _) n)).mono ?_;rintro e w2 ⟨rfl,fY⟩;have hb2:ak w.heap.size w w2:=(dH (aA _ _) n).trans fY;have k2:=HH.out.up hb2;have Qm:w2.cell? ⟨E,148,none⟩=some (.int .i64 (g.sz:Int)):=k2.eg.sc 148 (.inr (by decide));have pF:Hid (cN E D m v vs m v vs w w2):=cN.bh hb2;have l6:=af (sy.out w2 k2 (pW.out _ _ _ _ pF.out));clear hb2 fY k2 gL c1 PT Lw;go_wp2_with fail
  refine (aq l6).mono ?_;rintro e w3 ⟨rfl,m3,v3,vs3,k3,f3⟩;have HK:=af k3;have HF:=af (pF.out.trans f3);clear k3 f3;go_wp2_with fail
  go_ret;exact ⟨rfl,m3,v3,vs3,HK.out,HF.out⟩
 have hl':¬(1500:Int)<(g.sz:Int)+((ah (aW (aG (g.b 1)))).size:Int):=by rw [dR.out];omega
 have eP:lz bO g d=if (ep bO g d (g.ar:Int) (aW (aG (g.b 1)))).1=0 then (0,qI {g with sz:=g.sz+(aW (aG (g.b 1))).length},(ep bO g d (g.ar:Int) (aW (aG (g.b 1)))).2.2) else (15,dg g,(ep bO g d (g.ar:Int) (aW (aG (g.b 1)))).2.2):=by unfold lz;rw [if_neg h0,if_neg hl]
 rw [eP];have m8:=af (fun w' (h':dG E D g d m v vs w')=>acL E D g d m v vs g.ar (ah (aW (aG (g.b 1)))) w' h' (by rw [bZ];omega));rw [kG] at m8;have hcs:=acR bO g d (g.ar:Int) (aW (aG (g.b 1)));generalize ep bO g d (g.ar:Int) (aW (aG (g.b 1)))=rL at *;obtain ⟨a2,g2,d2⟩:=rL;simp only at hcs m8⊢;rcases hcs with ⟨rfl,rfl⟩ | ⟨rfl,rfl⟩
 ·rw [if_pos rfl];simp only;rw [<-dR.out];have qY:=af (fun m' v' w' (h':bH E D {g2 with sz:=g2.sz+(ah (aW (aG (g2.b 1)))).size} m' v' w') (ht':bF w')=>acQ E D _ m' v' w' h' ht' ⟨hok.ar,hok.gn,hok.few,hok.sh⟩);have HSs:=af (fun (d':aL) (m' v' vs':Nat->aj) w' (h':dG E D g2 d' m' v' vs' w')=>h'.set 148 (.inr (by decide)) {g2 with sz:=g2.sz+(ah (aW (aG (g2.b 1)))).size} rfl rfl (acV D g2 _) (.int .i64 ((g2.sz:Int)+((ah (aW (aG (g2.b 1)))).size:Int))) rfl);generalize ah (aW (aG (g2.b 1)))=FR at *;generalize (g2.b 1).length=L1 at *;clear h ht hok ho hsz b1 hv eP hel h0 hl;go_enter RI,RJ;go_wp2_with fail
  refine (aq HO).mono ?_;rintro e w1 ⟨rfl,n,rfl⟩;go_wp2_with fail
  refine (aq gL _ (dH (aA _ _) n)).mono ?_;rintro e w2 ⟨rfl,fY⟩;have hb2:ak w.heap.size w w2:=(dH (aA _ _) n).trans fY;have k2:=HH.out.up hb2;have Qm:w2.cell? ⟨E,148,none⟩=some (.int .i64 (g2.sz:Int)):=k2.eg.sc 148 (.inr (by decide));have VU:w2.cell? ⟨E,146,none⟩=some (.int .i64 (g2.ar:Int)):=k2.eg.sc 146 (.inr (by decide));have pF:Hid (cN E D m v vs m v vs w w2):=cN.bh hb2;have rE:=af (m8.out w2 k2);clear hb2 fY k2 gL c1 PT Lw;go_wp2_with fail
  refine (aq rE).mono ?_;rintro e w3 ⟨rfl,m3,v3,vs3,k3,f3⟩;have awM:w3.cell? ⟨E,148,none⟩=some (.int .i64 (g2.sz:Int)):=k3.eg.sc 148 (.inr (by decide));have z148:=k3.eg.fz 148;have fM:=af k3;have pq:=af (pF.out.trans f3);clear k3 f3 rE Qm VU;go_wp2_with fail
  obtain ⟨k4,f4⟩:=HSs.out _ _ _ _ _ fM.out;have Fq:=af (pq.out.trans f4);have iz:=af k4;refine (aq qY _ _ _ k4.eg (pW.out _ _ _ _ Fq.out)).mono ?_;rintro e w5 ⟨rfl,m5,v5,he5,I5,eo5⟩;have EM:=af (iz.out.Di he5 I5 eo5);clear k4 f4 he5 I5 eo5 qY;go_wp2_with fail
  go_ret;exact ⟨rfl,m5,v5,vs3,EM.out.1,Fq.out.trans EM.out.2⟩
 ·rw [if_neg (by decide)];simp only;generalize ah (aW (aG (g.b 1)))=FR at *;generalize (g.b 1).length=L1 at *;clear h ht hok ho hsz b1 hv eP hel h0 hl;go_enter RI,RJ;go_wp2_with fail
  refine (aq HO).mono ?_;rintro e w1 ⟨rfl,n,rfl⟩;go_wp2_with fail
  refine (aq gL _ (dH (aA _ _) n)).mono ?_;rintro e w2 ⟨rfl,fY⟩;have hb2:ak w.heap.size w w2:=(dH (aA _ _) n).trans fY;have k2:=HH.out.up hb2;have Qm:w2.cell? ⟨E,148,none⟩=some (.int .i64 (g.sz:Int)):=k2.eg.sc 148 (.inr (by decide));have VU:w2.cell? ⟨E,146,none⟩=some (.int .i64 (g.ar:Int)):=k2.eg.sc 146 (.inr (by decide));have pF:Hid (cN E D m v vs m v vs w w2):=cN.bh hb2;have rE:=af (m8.out w2 k2);clear hb2 fY k2 gL c1 PT Lw;go_wp2_with fail
  refine (aq rE).mono ?_;rintro e w3 ⟨rfl,m3,v3,vs3,k3,f3⟩;have fM:=af k3;have pq:=af (pF.out.trans f3);clear k3 f3 rE Qm VU;go_wp2_with fail
  go_ret;exact ⟨rfl,m3,v3,vs3,fM.out,pq.out⟩
theorem VW:(Tryz.prog.info? 66).map (·.size)=some 5:=by kernel_rfl
theorem aeD (w:World) (o1 o2:Obj):((w.alloc o1).alloc o2).heap[w.heap.size]? =some o1:=by rw [Below.heap_alloc _ _ _ (by rw [aB];omega),bg]
theorem aqS (E D:Nat) (g:ay) (m v:Nat->aj) (w:World) (h:bH E D g m v w):
 av au 48 #[.pointer (some ⟨E,0,none⟩)] w fun e' w'=>e'= .returned (.agg (S g.z))∧ak w.heap.size w w':=by
 have zz:=iZ;have hzl:=BR g.z h.zl;have hz:=h.zl;obtain ⟨W0,bq⟩:∃W0,W0=w.alloc (.cells (S bT) 28):=⟨_,rfl⟩;have hb0:ak w.heap.size w W0:=by rw [bq];exact (aA _ _).alloc (ax _) _
 have k0:bH E D g m v W0:=h.kept (fun x q=>hb0.block x (h.has q).2);have hr:=k0.st;have R1:bf W0 w.heap.size 138=true:=by rw [bq,kV _ _ _ _ _ rfl];rfl
 obtain ⟨t,hg⟩:=pS R1 (S g.z);have HG:=af hg;have HB:Hid (ak w.heap.size w (W0.setRow w.heap.size (S g.z))):=iI hb0 (ax _) _;have fV:=af bq;clear h k0 hb0 bq hg;go_enter Tryz.func48,Tryz.ntmps48
 go_wp2_with (first
  | refine wpList_load_mid rfl 28 _ rfl E 3 rfl (g.z.map (Value.int .i64)) _ (by rw [<-fV.out];exact hr) jO rfl hzl ?_
  | refine ja rfl _ _ rfl _ rfl g.z rfl hz (by rw [<-fV.out];exact R1) (W0.setRow w.heap.size (S g.z)) (by rw [<-fV.out]) ?_)
 exact cL (v:=.agg (S g.z)) (jl Tryz.results48 _ _ w.heap.size _ _ _ _ rfl HG.out jO rfl (by rw [mD,bQ,hz])) rfl ⟨rfl,HB.out⟩
theorem aqT (E D:Nat) (g:ay) (m v:Nat->aj) (w:World) (h:bH E D g m v w):
 av au 47 #[.pointer (some ⟨E,0,none⟩)] w fun e' w'=>e'= .returned (.agg #[.int .i64 (g.c 0:Int),.int .i64 (g.c 1:Int),.int .i64 (g.c 2:Int),.int .i64 (g.c 3:Int),.int .i64 ((g.b 1).length:Int)])∧ak w.heap.size w w':=by
 have c0:w.cell? ⟨E,141,none⟩=some (.int .i64 (g.c 0:Int)):=h.sc 141 (.inr (by decide));have c1:w.cell? ⟨E,142,none⟩=some (.int .i64 (g.c 1:Int)):=h.sc 142 (.inr (by decide));have c2:w.cell? ⟨E,143,none⟩=some (.int .i64 (g.c 2:Int)):=h.sc 143 (.inr (by decide));have c3:w.cell? ⟨E,144,none⟩=some (.int .i64 (g.c 3:Int)):=h.sc 144 (.inr (by decide));have c4:w.cell? ⟨E,145,none⟩=some (.int .i64 0):=h.sc 145 (.inr (by decide));have b1:=h.bk 1 (by decide);have c5:w.cell? ⟨E,152,none⟩=some (v 1):=b1.c1;obtain ⟨va,vc,hv⟩:=bA b1.ls;rw [hv] at c5;have hE:=h.lt;have hne:¬E=w.heap.size:=by omega
 have HB:Hid (∀o1 o2,ak w.heap.size w ((w.alloc o1).alloc o2)):=fun o1 o2=>((aA _ _).alloc (ax _) _).alloc (by rw [aB];omega) _;clear h b1 hv;generalize (g.b 1).length=L1 at *;go_enter Tryz.func47,Tryz.ntmps47;go_wp2_with fail
 exact cL (v:=.agg #[.int .i64 (g.c 0:Int),.int .i64 (g.c 1:Int),.int .i64 (g.c 2:Int),.int .i64 (g.c 3:Int),.int .i64 (L1:Int)]) (jl Tryz.results47 _ _ w.heap.size 66 _ (0,0) _ rfl (aeD w _ _) YS rfl VW) rfl ⟨rfl,HB.out _ _⟩
theorem I6 (X E:Nat) (w:World) (hx:kI X E w):av au 41 #[.pointer (some ⟨X,0,none⟩)] w fun e' w'=>e'= .returned (.pointer (some ⟨E,0,none⟩))∧w'=w:=by
 go_enter Tryz.func41,Tryz.ntmps41;go_wp2_with fail
 go_ret;exact ⟨rfl,rfl⟩
theorem aqU (X E:Nat) (w:World) (hx:kI X E w) (Q:eL->World->Prop) (hQ:∀e w',Q e w'->∃u,e= .returned u) (h:av au 43 #[.pointer (some ⟨E,0,none⟩)] w Q):av au 16 #[.pointer (some ⟨X,0,none⟩)] w Q:=by
 have HW:=af (I6 X E w hx);have HC:=af h;have HQ:=af hQ;clear h hx hQ;go_enter Tryz.func16,Tryz.ntmps16;go_wp2_with fail
 refine (aq HW).mono ?_;rintro e w' ⟨rfl,hw'⟩;obtain rfl:=hw'.symm;go_wp2_with fail
 refine (aq HC).mono ?_;intro e w1 hq;obtain ⟨u,rfl⟩:=HQ.out e w1 hq;have Fs:=af hq;clear hq HC;go_wp2_with fail
 exact Fs.out
theorem aqV (X E:Nat) (w:World) (hx:kI X E w) (Q:eL->World->Prop) (hQ:∀e w',Q e w'->∃u,e= .returned u) (h:av au 98 #[.pointer (some ⟨E,0,none⟩)] w Q):av au 50 #[.pointer (some ⟨X,0,none⟩)] w Q:=by
 have HW:=af (I6 X E w hx);have HC:=af h;have HQ:=af hQ;clear h hx hQ;go_enter Tryz.func50,Tryz.ntmps50;go_wp2_with fail
 refine (aq HW).mono ?_;rintro e w' ⟨rfl,hw'⟩;obtain rfl:=hw'.symm;go_wp2_with fail
 refine (aq HC).mono ?_;intro e w1 hq;obtain ⟨u,rfl⟩:=HQ.out e w1 hq;have Fs:=af hq;clear hq HC;go_wp2_with fail
 exact Fs.out
theorem aqW (X E:Nat) (w:World) (hx:kI X E w) (Q:eL->World->Prop) (hQ:∀e w',Q e w'->∃u,e= .returned u) (h:av au 44 #[.pointer (some ⟨E,0,none⟩)] w Q):av au 17 #[.pointer (some ⟨X,0,none⟩)] w Q:=by
 have HW:=af (I6 X E w hx);have HC:=af h;have HQ:=af hQ;clear h hx hQ;go_enter Tryz.func17,Tryz.ntmps17;go_wp2_with fail
 refine (aq HW).mono ?_;rintro e w' ⟨rfl,hw'⟩;obtain rfl:=hw'.symm;go_wp2_with fail
 refine (aq HC).mono ?_;intro e w1 hq;obtain ⟨u,rfl⟩:=HQ.out e w1 hq;have Fs:=af hq;clear hq HC;go_wp2_with fail
 exact Fs.out
theorem aqX (X E:Nat) (n:Int) (w:World) (hx:kI X E w) (Q:eL->World->Prop) (hQ:∀e w',Q e w'->∃u v,e= .returned (.tuple #[u,v])) (h:av au 42 #[.pointer (some ⟨E,0,none⟩),.int .i64 n] w Q):av au 15 #[.pointer (some ⟨X,0,none⟩),.int .i64 n] w Q:=by
 have HW:=af (I6 X E w hx);have HC:=af h;have HQ:=af hQ;clear h hx hQ;go_enter Tryz.func15,Tryz.ntmps15;go_wp2_with fail
 refine (aq HW).mono ?_;rintro e w' ⟨rfl,hw'⟩;obtain rfl:=hw'.symm;go_wp2_with fail
 refine (aq HC).mono ?_;intro e w1 hq;obtain ⟨u,v,rfl⟩:=HQ.out e w1 hq;have Fs:=af hq;clear hq HC;go_wp2_with fail
 exact Fs.out
theorem aqY (X E D:Nat) (g:ay) (m v:Nat->aj) (w:World) (hx:kI X E w) (h:bH E D g m v w):
 av au 20 #[.pointer (some ⟨X,0,none⟩)] w fun e' w'=>e'= .returned (.agg (S g.z))∧ak w.heap.size w w':=by
 have zz:=iZ;have hz:=h.zl;obtain ⟨W0,bq⟩:∃W0,W0=w.alloc (.cells (S bT) 28):=⟨_,rfl⟩;have hb0:ak w.heap.size w W0:=by rw [bq];exact (aA _ _).alloc (ax _) _
 have k0:bH E D g m v W0:=h.kept (fun x q=>hb0.block x (h.has q).2);have hx0:kI X E W0:=(aP (hb0.block X (mA hx))).trans hx;have HW:=af (I6 X E W0 hx0);have HS:=af (aqS E D g m v W0 k0);have HR:Hid (bf W0 w.heap.size 138=true):=by unfold Hid;rw [bq,kV _ _ _ _ _ rfl];rfl
 have hlt:w.heap.size<W0.heap.size:=by rw [bq,aB];omega
 have bM:=af hb0;have fV:=af bq;clear h k0 hb0 bq hx hx0;go_enter Tryz.func20,Tryz.ntmps20;go_wp2_with fail
 rw [<-fV.out];refine (aq HW).mono ?_;rintro e w' ⟨rfl,hw'⟩;obtain rfl:=hw'.symm;go_wp2_with fail
 refine (aq HS).mono ?_;rintro e w1 ⟨rfl,hb1⟩;have R1:bf w1 w.heap.size 138=true:=by rw [gZ hb1 hlt];exact HR.out
 obtain ⟨t,hg⟩:=pS R1 (S g.z);have HG:=af hg;have HB:Hid (ak w.heap.size w (w1.setRow w.heap.size (S g.z))):=iI (bM.out.trans (hb1.mono bM.out.size)) (ax _) _;clear hb1 hg HS HW;go_wp2_with (refine ja rfl _ _ rfl _ rfl g.z rfl hz R1 _ rfl ?_)
 exact cL (v:=.agg (S g.z)) (jl Tryz.results20 _ _ w.heap.size _ _ _ _ rfl HG.out jO rfl (by rw [mD,bQ,hz])) rfl ⟨rfl,HB.out⟩
theorem aqZ (X E D:Nat) (g:ay) (m v:Nat->aj) (w:World) (hx:kI X E w) (h:bH E D g m v w):
 av au 19 #[.pointer (some ⟨X,0,none⟩)] w fun e' w'=>e'= .returned (.agg #[.int .i64 (g.c 0:Int),.int .i64 (g.c 1:Int),.int .i64 (g.c 2:Int),.int .i64 (g.c 3:Int),.int .i64 ((g.b 1).length:Int)])∧ak w.heap.size w w':=by
 obtain ⟨W0,bq⟩:∃W0,W0=w.alloc (.cells #[.int .i64 0,.int .i64 0,.int .i64 0,.int .i64 0,.int .i64 0] 66):=⟨_,rfl⟩;have hb0:ak w.heap.size w W0:=by rw [bq];exact (aA _ _).alloc (ax _) _
 have k0:bH E D g m v W0:=h.kept (fun x q=>hb0.block x (h.has q).2);have hx0:kI X E W0:=(aP (hb0.block X (mA hx))).trans hx;have r0:W0.heap[w.heap.size]? =some (.cells #[.int .i64 0,.int .i64 0,.int .i64 0,.int .i64 0,.int .i64 0] 66 (0,0)):=by rw [bq,bg]
 have HW:=af (I6 X E W0 hx0);have HS:=af (aqT E D g m v W0 k0);have hlt:w.heap.size<W0.heap.size:=by rw [bq,aB];omega
 have bM:=af hb0;have fV:=af bq;have gR:=af r0;clear h k0 hb0 bq hx hx0 r0;generalize (g.b 1).length=L1 at *;generalize g.c 0=C0 at *;generalize g.c 1=C1 at *;generalize g.c 2=C2 at *;generalize g.c 3=C3 at *;go_enter Tryz.func19,Tryz.ntmps19;go_wp2_with fail
 rw [<-fV.out];refine (aq HW).mono ?_;rintro e w' ⟨rfl,hw'⟩;obtain rfl:=hw'.symm;go_wp2_with fail
 refine (aq HS).mono ?_;rintro e w1 ⟨rfl,hb1⟩;have r1:w1.heap[w.heap.size]? =some (.cells #[.int .i64 0,.int .i64 0,.int .i64 0,.int .i64 0,.int .i64 0] 66 (0,0)):=(hb1.block _ hlt).trans gR.out;have dJ:ak w.heap.size w w1:=bM.out.trans (hb1.mono bM.out.size);have cR:Hid (∀Wf,Wf=((((w1.setCell ⟨w.heap.size,0,none⟩ (.int .i64 (C0:Int))).setCell ⟨w.heap.size,1,none⟩ (.int .i64 (C1:Int))).setCell ⟨w.heap.size,2,none⟩ (.int .i64 (C2:Int))).setCell ⟨w.heap.size,3,none⟩ (.int .i64 (C3:Int))).setCell ⟨w.heap.size,4,none⟩ (.int .i64 (L1:Int))->Wf.heap[w.heap.size]? =some (.cells #[.int .i64 (C0:Int),.int .i64 (C1:Int),.int .i64 (C2:Int),.int .i64 (C3:Int),.int .i64 (L1:Int)] 66 (0,0))∧ak w.heap.size w Wf):=fun Wf e=>by
  refine ⟨by rw [e];simp [World.setCell,Array.getElem?_modify,r1],?_⟩;rw [e];exact ((((dJ.setCell (p:=⟨w.heap.size,0,none⟩) (ax _) _).setCell (p:=⟨w.heap.size,1,none⟩) (ax _) _).setCell (p:=⟨w.heap.size,2,none⟩) (ax _) _).setCell (p:=⟨w.heap.size,3,none⟩) (ax _) _).setCell (p:=⟨w.heap.size,4,none⟩) (ax _) _
 have q0:w1.cell? ⟨w.heap.size,0,none⟩=some (.int .i64 0):=by simp [cU,r1]
 have q1:w1.cell? ⟨w.heap.size,1,none⟩=some (.int .i64 0):=by simp [cU,r1]
 have q2:w1.cell? ⟨w.heap.size,2,none⟩=some (.int .i64 0):=by simp [cU,r1]
 have q3:w1.cell? ⟨w.heap.size,3,none⟩=some (.int .i64 0):=by simp [cU,r1]
 have q4:w1.cell? ⟨w.heap.size,4,none⟩=some (.int .i64 0):=by simp [cU,r1]
 have z0:w1.frozen? ⟨w.heap.size,0,none⟩=false:=by simp [ij,r1]
 have z1:w1.frozen? ⟨w.heap.size,1,none⟩=false:=by simp [ij,r1]
 have z2:w1.frozen? ⟨w.heap.size,2,none⟩=false:=by simp [ij,r1]
 have z3:w1.frozen? ⟨w.heap.size,3,none⟩=false:=by simp [ij,r1]
 have z4:w1.frozen? ⟨w.heap.size,4,none⟩=false:=by simp [ij,r1]
 clear hb1 r1 dJ HS HW;go_wp2_with fail
 exact cL (v:=.agg #[.int .i64 (C0:Int),.int .i64 (C1:Int),.int .i64 (C2:Int),.int .i64 (C3:Int),.int .i64 (L1:Int)]) (jl Tryz.results19 _ _ w.heap.size 66 _ _ _ rfl (cR.out _ rfl).1 YS rfl VW) rfl ⟨rfl,(cR.out _ rfl).2⟩
abbrev jJ:=List UInt8×List UInt8
def sH (l:List jJ) (t:List UInt8):Option Nat:=(l.map (·.1)).findIdx? (·== t)
def I7 (o:Option Nat):Int:=match o with | some n=>(n:Int) | none=>-1
theorem aq0 {a b:List UInt8} (h:a≠b):ah a≠ah b:=fun e=>h (by have:=congrArg aC e;rwa [kG,kG] at this)
theorem aq1 {l:List jJ} {t:List UInt8} {k:Nat} {x:jJ} (hk:l[k]? =some x) (hb:∀j:Nat,j<k->∀y:jJ,l[j]? =some y->y.1≠t) (hx:x.1=t):sH l t=some k:=by
 unfold sH;rw [Rz];have hl:=(fG.1 hk).1;refine ⟨by simpa using hl,?_,fun j hj=>?_⟩
 ·have:l[k]=x:=by have:=bE hl;rw [hk] at this;exact (oN this).symm
  simp [this,hx]
 ·have hjl:j<l.length:=by omega
  have:=hb j hj l[j] (bE hjl);simpa using this
theorem aq2 {l:List jJ} {t:List UInt8} (hb:∀j:Nat,j<l.length->∀y:jJ,l[j]? =some y->y.1≠t):sH l t=none:=by
 unfold sH;rw [List.findIdx?_eq_none_iff];intro x hx;obtain ⟨y,hy,rfl⟩:=qN.1 hx;obtain ⟨j,hj⟩:=List.getElem?_of_mem hy;have:=hb j (fG.1 hj).1 y hj;simpa using this
theorem VX (B0:Nat) (v0:aj) (l:List jJ) (t:List UInt8) (w:World) (h:w.ownsRow B0 127 2 v0 l.length (bR l)) (hl:l.length<=1000000000000):
 av au 179 #[v0,.string (ah t)] w fun e' w'=>e'= .returned (.int .i64 (I7 (sH l t)))∧w'=w:=by
 obtain ⟨va,vc,hv⟩:=bA h;subst hv;have HO:=af h;have HL:=af hl;obtain ⟨RR,mh⟩:∃RR,RR=I7 (sH l t):=⟨_,rfl⟩;rw [<-mh];have jA:=af mh;clear h mh hl;go_enter Tryz.func179,Tryz.ntmps179;go_wp2_with fail
 go_loopw [5] (fun i wr=>∃k:Nat,k<=l.length∧i= .int .i64 k∧wr=w∧Hid (∀j:Nat,j<k->∀y:jJ,l[j]? =some y->y.1≠t)) (fun i _=>l.length - (aI i).toNat)
 case atStart=>exact ⟨0,bK _,rfl,rfl,fun j hj=>absurd hj (Nat.not_lt_zero _)⟩
 case round=>
  obtain ⟨k,hk,rfl,rfl,HI⟩:=hrel;have Dw:aY ((k:Int)+1)=(k:Int)+1:=by have:=HL.out;unfold aY;omega
  by_cases hlt:k<l.length
  ·have hlt':(k:Int)<(l.length:Int):=by omega
   obtain ⟨g,c,hv,_,hgl⟩:=HO.out.form (by omega);simp only [Gu] at hv;obtain ⟨rfl,_,rfl⟩:=hv;obtain ⟨d0,_⟩:=Bt HO.out k l[k] (bE hlt);have HX:=af (bE hlt);generalize l[k]=x at *;by_cases hx:x.1=t
   ·have HP:Hid (RR=(k:Int)):=by unfold Hid;rw [jA.out,aq1 HX.out HI.out hx];rfl
    rw [hx] at d0;clear hx;go_wp2_with fail
    go_ret;rw [HP.out];exact ⟨rfl,rfl⟩
   ·have hne:=aq0 hx;have awN:((ah x.1).toList == (ah t).toList)=false:=abc hne;have HN:Hid (∀j:Nat,j<k+1->∀y:jJ,l[j]? =some y->y.1≠t):=fun j hj y hy=>by
     by_cases e:j=k
     ·subst e;have:x=y:=by have:=HX.out;rw [hy] at this;exact (oN this).symm
      rw [<-this];exact hx
     ·exact HI.out j (by omega) y hy
    clear hx hne;go_wp2_with fail
    rw [Dw];exact ⟨⟨k+1,hlt,E1 k,trivial,HN.out⟩,E2 hlt⟩
  ·have hlt':¬(k:Int)<(l.length:Int):=by omega
   have HP:Hid (RR= -1):=by
    unfold Hid;rw [jA.out,aq2 (fun j hj=>HI.out j (by omega))];rfl
   clear Dw;go_wp2_with fail
   go_ret;rw [HP.out];exact ⟨rfl,rfl⟩
def Dx (l:List jJ) (x:jJ):List jJ:=match sH l x.1 with | some n=>l.set n x | none=>l ++ [x]
def yS (l m:List jJ):List jJ:=m.foldl Dx l
theorem aeE:∀(l:List jJ) (n:Nat) (x:jJ),n<l.length->((bR l).set (n * 2) (.string (ah x.1))).set (n * 2+1) (.string (ah x.2))=bR (l.set n x)
 | [],n,x,h=>by simp at h
 | y :: l,0,x,_=>by simp [bR]
 | y :: l,n+1,x,h=>by
   have e:∀(y:jJ) (l:List jJ),bR (y :: l)= .string (ah y.1) :: .string (ah y.2) :: bR l:=fun y l=>by simp [bR]
   have hh:=aeE l n x (by simpa using h);rw [List.set_cons_succ,e,e,<-hh,show (n+1) * 2=n * 2+1+1 by omega];rfl
theorem aq3 {l:List jJ} {t:List UInt8} {n:Nat} (h:sH l t=some n):n<l.length:=by
 unfold sH at h;rw [Rz] at h;obtain ⟨h,_⟩:=h;simpa using h
theorem I8 (w:World) (a b:aj):(w.alloc (.cells #[a,b] 127)).ownsRow w.heap.size 127 2 (.slice (some ⟨w.heap.size,0,none⟩) 1 1) 1 [a,b]:=
 ⟨by simp,.inr ⟨w.heap.size,1,#[a,b],rfl,ax _,bg w _,ax _,by unfold maxLen;omega,rfl,by simp⟩⟩
theorem aeF {w:World} {B k g n cap:Nat} {e:TypeId} {xs:List aj} (h:w.ownsRow B e k (.slice (some ⟨g,0,none⟩) n cap) n xs) (j:Nat):w.frozen? ⟨g,j,none⟩=false:=by
 rcases h.2 with ⟨q,_⟩ | ⟨g',cap',cur,q,h1,h2,_⟩
 ·cases q
 ·cases q;simp [ij,h2]
def VY (l:List jJ) (w:World) (e':eL) (w':World):Prop:=∃v,e'= .returned v∧w'.ownsRow w.heap.size 127 2 v l.length (bR l)∧ak w.heap.size w w'
theorem I9 (B0 B1:Nat) (v0 v1:aj) (l m:List jJ) (w:World) (h0:w.ownsRow B0 127 2 v0 l.length (bR l)) (h1:w.ownsRow B1 127 2 v1 m.length (bR m)) (hl:l.length+m.length<=1000000000000):
 av au 136 #[v0,v1] w (VY (yS l m) w):=by
 obtain ⟨va,vc,hv⟩:=bA h1;subst hv;have H0:=af h0;have H1:=af h1;have HL:=af hl;clear h0 h1 hl;go_enter Tryz.func136,Tryz.ntmps136;go_wp2_with (at_builtin;refine BH rfl _ _ rfl (B:=w.heap.size) (B0:=B0) (l:=[]) (m:=l) rfl rfl (World.ownsRow_nil _ _ _ _) H0.out (ax _) (by have:=HL.out;simp;omega) ?_;intro v' w1 a1 a2 a3;have A1:=af a1;have A2:=af a2;clear a1 a2 a3)
 go_loopw [5,6] (fun v i wr=>∃(k:Nat) (st:List jJ),k<=m.length∧i= .int .i64 k∧Hid (st=yS l (m.take k)∧st.length<=l.length+k)∧Hid (wr.ownsRow w.heap.size 127 2 v st.length (bR st))∧Hid (ak w.heap.size w wr)) (fun _ i _=>m.length - (aI i).toNat)
 case atStart=>
  exact ⟨0,l,bK _,rfl,⟨rfl,ax _⟩,A1.out,(aA _ w).grown A2.out (ax _) (fun k hk=>by cases hk)⟩
 case round=>
  obtain ⟨k,st,hk,rfl,cH,HO,HB⟩:=hrel;have Dw:aY ((k:Int)+1)=(k:Int)+1:=by have:=HL.out;unfold aY;omega
  obtain ⟨sa,sc,hv⟩:=bA HO.out;subst hv;have pZ:Hid (st.length<=1000000000000):=by have:=cH.out.2;have:=HL.out;unfold Hid;omega
  by_cases hlt:k<m.length
  ·have hlt':(k:Int)<(m.length:Int):=by omega
   have hm:=dX H1.out HB.out;obtain ⟨g,c,hv,_,hgl⟩:=hm.form (by omega);simp only [Gu] at hv;obtain ⟨rfl,_,rfl⟩:=hv;have HX:=af (bE hlt);obtain ⟨d0,d1⟩:=Bt hm k m[k] (bE hlt);generalize m[k]=x at *;have HN:Hid (Dx st x=yS l (m.take (k+1))):=by
    unfold Hid yS;rw [wC _ _ _ _ _ HX.out,cH.out.1];rfl
   have HC:=af (VX _ _ st x.1 wr HO.out pZ.out);clear hm;cases hp:sH st x.1 with
   | some n=>
     have hn:=aq3 hp;have VZ:Hid (st.set n x=yS l (m.take (k+1))):=by unfold Hid;rw [<-HN.out];unfold Dx;rw [hp]
     rw [hp] at HC;have HC:Hid (av au 179 #[mQ sa st.length sc,.string (ah x.1)] wr fun e' w'=>e'= .returned (.int .i64 (n:Int))∧w'=wr):=HC;obtain ⟨g2,c2,hv,jx,awO⟩:=HO.out.form (by omega);simp only [Gu] at hv;obtain ⟨rfl,_,rfl⟩:=hv;have hn':(n:Int)<(st.length:Int):=by omega
     have hn0:(0:Int)<=(n:Int):=by omega
     obtain ⟨y0,y1⟩:=Bt HO.out n st[n] (bE hn);have f0:=aeF HO.out (n * 2);have f1:=aeF HO.out (n * 2+1);generalize st[n]=y at *;clear hp;go_wp2_with (go_at_call 179;refine (aq HC).mono ?_;rintro e' w' ⟨rfl,hw⟩;obtain rfl:=hw.symm)
     rw [Dw];refine ⟨⟨k+1,st.set n x,hlt,E1 k,⟨VZ.out,by rw [lU];exact JR cH.out.2⟩,?_,?_⟩,E2 hlt⟩
     ·unfold Hid;rw [<-aeE st n x hn,lU];exact Uo (Uo HO.out _ _) _ _
     ·exact (HB.out.setCell (p:=⟨g2,n * 2,none⟩) jx _).setCell (p:=⟨g2,n * 2+1,none⟩) jx _
   | none=>
     have VZ:Hid (st ++ [x]=yS l (m.take (k+1))):=by unfold Hid;rw [<-HN.out];unfold Dx;rw [hp]
     rw [hp] at HC;have HC:Hid (av au 179 #[mQ sa st.length sc,.string (ah x.1)] wr fun e' w'=>e'= .returned (.int .i64 (-1))∧w'=wr):=HC;clear hp;go_wp2_with first | (go_at_call 179;refine (aq HC).mono ?_;rintro e' w' ⟨rfl,hw⟩;obtain rfl:=hw.symm) | (at_builtin;refine BH rfl _ _ rfl (B:=w.heap.size) (B0:=wr.heap.size) (l:=st) (m:=[x]) rfl rfl (HO.out.alloc _) (I8 wr _ _) (by rw [aB];exact JR HB.out.size) (by have:=pZ.out;simp;omega) ?_;intro v2 w2 a1 a2 a3;have A3:=af a1;have A4:=af a2;clear a1 a2 a3)
     rw [Dw];refine ⟨⟨k+1,st ++ [x],hlt,E1 k,⟨VZ.out,by rw [dK];exact Nat.succ_le_succ cH.out.2⟩,A3.out,?_⟩,E2 hlt⟩;exact (HB.out.alloc HB.out.size _).grown A4.out (by rw [aB];exact JR HB.out.size) (fun j hj=>(HO.out.lt j hj).1)
  ·have hlt':¬(k:Int)<(m.length:Int):=by omega
   have e:k=m.length:=by omega
   have HE:Hid (st=yS l m):=by unfold Hid;rw [cH.out.1,e,xJ]
   clear e Dw;go_wp2_with fail
   go_ret;rw [<-HE.out];exact ⟨_,rfl,HO.out,HB.out⟩
theorem V2 (k:Nat) (p:List UInt8) (w:World) (h1:1<=k) (h3:k<=3):
 av au 124 #[.int .i64 (k:Int),.string (ah p)] w fun e' w'=>ak w.heap.size w w'∧∃n,e'= .returned (.tuple #[.string (ah (jT k p)),.int .i64 n]):=by
 refine (aax (k:Int) (ah p) w).mono ?_;intro e w1 hp;have:=hp.txt h1 h3;rw [kG] at this;exact this
theorem aq4 {l:List jJ} {k:Nat} (hl:l.length<=500000000000) (x:jJ):(aW (l.take k)).length+(tF x).length<=140737488355328:=by
 have h1:=Df (l.take k);have h2:(tF x).length<=208:=BI _ _;rw [List.length_take] at h1;omega
theorem aeG (B0:Nat) (v0:aj) (l:List jJ) (w:World) (h:w.ownsRow B0 127 2 v0 l.length (bR l)) (hx:∀x∈l,x.1.length<=1000000∧x.2.length<=1000000) (hl:l.length<=500000000000):
 av au 133 #[v0] w fun e' w'=>e'= .returned (.string (ah (aW l)))∧ak w.heap.size w w':=by
 obtain ⟨va,vc,hv⟩:=bA h;subst hv;have HO:=af h;have HL:=af hl;have HX:=af hx;clear h hl hx;go_enter Tryz.func133,Tryz.ntmps133;go_wp2_with fail
 go_loopw [3,4] (fun s i wr=>∃k:Nat,k<=l.length∧i= .int .i64 k∧s= .string (ah (aW (l.take k)))∧Hid (ak w.heap.size w wr)) (fun _ i _=>l.length - (aI i).toNat)
 case atStart=>exact ⟨0,bK _,rfl,rfl,aA _ _⟩
 case round=>
  obtain ⟨k,hk,rfl,rfl,HB⟩:=hrel;have Dw:aY ((k:Int)+1)=(k:Int)+1:=by have:=HL.out;unfold aY;omega
  by_cases hlt:k<l.length
  ·have hlt':(k:Int)<(l.length:Int):=by omega
   have hm:=dX HO.out HB.out;obtain ⟨g,c,hv,_,hgl⟩:=HO.out.form (by omega);simp only [Gu] at hv;obtain ⟨rfl,_,rfl⟩:=hv;obtain ⟨d0,d1⟩:=Bt HO.out k l[k] (bE hlt);have hcell:∀w',ak w.heap.size w w'->w'.cell? ⟨g,k * 2,none⟩=some (.string (ah l[k].1))∧w'.cell? ⟨g,k * 2+1,none⟩=some (.string (ah l[k].2)):=fun w' q=>⟨(aP (q.block g hgl)).trans d0,(aP (q.block g hgl)).trans d1⟩;have Qn:=af hcell;have HK:=af (acI (bE hlt));have hxl:=HX.out l[k] (List.getElem_mem hlt);have hadd:=yq (aW (l.take k)) (tF l[k]) (aq4 HL.out _);have HAdd:Hid (∀w',(Op.stringOp .add (ah (aW (l.take k))) (ah (tF l[k]))).run au w'= .ok (.string (ah (aW (l.take (k+1))))) w'):=fun w'=>by rw [HK.out];exact hadd w'
   generalize l[k]=x at *;have e1:(ah x.1).size=x.1.length:=bZ _;have hq:((ah x.1).size:Int).tdiv 4=((x.1.length / 4:Nat):Int):=by rw [e1,Int.tdiv_eq_ediv_of_nonneg (by omega)];omega
   have Le:IntKind.i64.wrap ((x.1.length / 4:Nat):Int)=((x.1.length / 4:Nat):Int):=by rw [AJ];omega
   have HN:Hid (∀w',av au 137 #[.int .i64 ((x.1.length / 4:Nat):Int),.int .i64 1] w' fun e' w''=>e'= .returned (.string (ah (aS 1 (x.1.length / 4))))∧ak w'.heap.size w' w''):=fun w'=>qu (x.1.length / 4) 1 w' (by decide) (by omega);have hs1:=yq (aS 1 (x.1.length / 4)) x.1 (by rw [iF];omega);have oA:=yq (aS 1 (x.1.length / 4) ++ x.1) x.2 (by rw [dK,iF];omega);have pZ:Hid (∀w',av au 124 #[.int .i64 2,.string (ah (aS 1 (x.1.length / 4) ++ x.1 ++ x.2))] w' fun e' w''=>ak w'.heap.size w' w''∧∃n,e'= .returned (.tuple #[.string (ah (tF x)),.int .i64 n])):=fun w'=>V2 2 (Ld x) w' (by decide) (by decide);generalize hS3:aS 1 (x.1.length / 4) ++ x.1 ++ x.2=S3 at *;generalize hS2:aS 1 (x.1.length / 4) ++ x.1=S2 at *;generalize Vq:aS 1 (x.1.length / 4)=S1 at *;generalize hQ4:x.1.length / 4=Q4 at *;generalize ah (aW (l.take k))=T0 at *;generalize BU:ah (aW (l.take (k+1)))=T1 at *;have HT1:=af BU;clear BU;generalize ah (tF x)=T2 at *;have ux:=af hs1;have qE:=af oA;clear hs1 oA hadd hcell d0 d1 hS3 hS2 Vq hxl HK hm e1;generalize BT:ah x.1=X1 at *;generalize Pc:ah x.2=X2 at *;clear BT Pc hQ4;go_upto_region 5 with fail
   refine yQ 8 [0,1,2,3,8,9,10,11,14,15,16,17] [(some true,4),(some true,5),(some true,6),(some true,12),(some true,18),(some false,7),(some false,13),(some false,19),(some false,20),(some false,21),(none,22),(none,23),(none,24),(none,25)] 20 (fun w'=>w'.cell? ⟨g,k * 2,none⟩=some (.string X1)∧w'.cell? ⟨g,k * 2+1,none⟩=some (.string X2)) (by kernel_rfl) (by kernel_rfl) (fun d _ _ _ _ h=>by cases d<;>exact h) (Qn.out _ HB.out.drew) ?_
   iterate 12
    refine yP ?_ rfl rfl ?_ ?_
    rotate_left
    ·intro w';go_simp;rfl
    go_simp
   refine yO ?_
   iterate 5
    refine qK ?_ rfl rfl ?_ ?_
    rotate_left
    ·rintro w' ⟨d0,d1⟩;go_simp;rfl
    go_simp
   refine jI rfl rfl (fun K hK=>?_);go_simp;refine (aq HN _).mono ?_;rintro e w1 ⟨rfl,hb1⟩;have aJ:Hid (ak w.heap.size w w1):=HB.out.drew.trans (hb1.mono HB.out.size);clear hb1;go_simp;refine hK _ _ (fun _=>Qn.out _ aJ.out) ?_;clear hK K HN hq Le;have hs1:=ux.out;refine jI rfl rfl (fun K hK=>?_);go_simp;refine hK _ _ (fun _=>Qn.out _ aJ.out) ?_;clear hK K hs1 ux;have oA:=qE.out;refine jI rfl rfl (fun K hK=>?_);go_simp;refine hK _ _ (fun _=>Qn.out _ aJ.out) ?_;clear hK K oA qE;refine jI rfl rfl (fun K hK=>?_);go_simp;refine (aq pZ _).mono ?_;rintro e w2 ⟨hb2,n,rfl⟩;have aZ:Hid (ak w.heap.size w w2):=aJ.out.trans (hb2.mono aJ.out.size);clear hb2 pZ aJ;go_simp;refine hK _ _ (fun h=>absurd h (by decide)) ?_;clear hK K;refine jI rfl rfl (fun K hK=>?_);go_simp;refine hK _ _ (fun h=>absurd h (by decide)) ?_;clear hK K
   iterate 4
    refine Qe ?_ rfl rfl ?_ ?_
    rotate_left
    ·intro w';go_simp;rfl
    go_simp
   refine uH ?_;have hadd:=HAdd.out;go_wp2_with fail
   rw [Dw];exact ⟨⟨k+1,hlt,E1 k,by rw [HT1.out],aZ.out⟩,E2 hlt⟩
  ·have hlt':¬(k:Int)<(l.length:Int):=by omega
   have e:k=l.length:=by omega
   subst e;rw [xJ];go_wp2_with fail
   go_ret;exact ⟨rfl,HB.out⟩
end Go.Proofs.YtmmflekajbeamaaGreatDoor
