/- Texts of ours, joined, in few bytes. -/
import Derived.Test.YtmmflekajbeamaaGreatDoorE35
open Go renaming Calls->av,TypeId->cE,Value->aj,heap_alloc_new->bg,wpList_append_lies->vV,wpList_load_mid->rQ
open Go.Proofs.Tryz renaming func13->Nx,ntmps13->Ny,prog->au,underlying28->jO,underlying51->D8,underlying57->AV
open Go.RowKit renaming Below->ak,intOf->aI
open Go.RowKit.Below renaming heap_alloc->cM,refl->aA
open Go.Value renaming int->cI,slice->mQ,string->tZ
open Go.World renaming cell?_of_block->aP,frozen?->ij,frozen?_of_block->fS,news_of_block->mP,setCell->qP
open List renaming getElem?_eq_some_iff->fG,length_append->dK,length_set->lU
open Nat renaming le_of_lt->iP,le_refl->ax,le_trans->aT,lt_of_lt_of_le->dB,zero_le->bK
namespace Go.Proofs.YtmmflekajbeamaaGreatDoor
set_option maxRecDepth 100000
set_option maxHeartbeats 8000000
section
open Go.RowKit Go.Maps Go.WideMaps
theorem at3 (N:Nat) (bv:Nat->aj) (ps:List Pr) (sv:aj) (hs:List Hn) (hv:aj) (m k:Nat) (on a b:Int) (s t:ByteArray) (z:List Int) (w:World) (h:kz N bv ps sv hs hv m k w) (hz:z.length=138) (hl:ps.length<=1000000000000) (ho: -9223372036854775808<=on∧on<=9223372036854775807) (i:Nat) (p:Pr) (hi:oT on ((ps.length:Int)+1)=(i:Int)) (hp:ps[i]? =some p) (hs0:cV z=true) (ht:bF w) (hm:m<=1000000000000000) (hk:1500<=k) (Jl:hs.length<=1000000000000):
 av au 36 #[.pointer (some ⟨N,0,none⟩),.agg (aV 30 on a b s t z)] w (F7 (Calm p 11 w) N bv ps sv hs hv (m+8) k w):=by
 have at4:=af hk;have HHL:=af Jl;have HM:=af hm;clear hk Jl hm;obtain ⟨W,hW⟩:∃W,W=(w.alloc (.cells (aV 30 on a b s t z) 51)).alloc (.cells #[.pointer none,.pointer none] 83):=⟨_,rfl⟩;have HW:=af hW;have hB:=Xp 30 on a b s t z w W hW;have hw1:=h.up hB.cA;have o1:=hB.o1;have y0:W.cell? ⟨w.heap.size+1,0,none⟩=some (.pointer none):=cF hB.rw 0;have y1:W.cell? ⟨w.heap.size+1,1,none⟩=some (.pointer none):=cF hB.rw 1;have z0:W.frozen? ⟨w.heap.size+1,0,none⟩=false:=by unfold ij;rw [hB.rw];simp
 have z1:W.frozen? ⟨w.heap.size+1,1,none⟩=false:=by unfold ij;rw [hB.rw];simp
 have hil:=(fG.1 hp).1;have c3:=hw1.wa.st;obtain ⟨sg,sc,gN,_,hgl⟩:=hw1.wa.own.form (by omega);have hown:=hw1.wa.own;rw [gN] at c3 hown;obtain ⟨d0,d1⟩:=Uh hown i p hp;have fj:=af (fun w'=>K0 on ((ps.length:Int)+1) w' ho.1 ho.2 (by omega) (by omega));rw [hi] at fj;have hzl:=BR z hz;have jR:=af (fun n w'=>uW n w');have BB:wrap64 ((ps.length:Int)+1)=(ps.length:Int)+1:=by unfold wrap64;omega
 have hlt':(i:Int)<(ps.length:Int):=by omega
 have hi0:¬(i:Int)<0:=by omega
 obtain ⟨V,hV⟩:∃V,V=(W.setCell ⟨w.heap.size+1,0,none⟩ (.pointer (some ⟨p.X,0,none⟩))).setCell ⟨w.heap.size+1,1,none⟩ (.pointer (some ⟨p.R,0,none⟩)):=⟨_,rfl⟩;have hX:=hB.fill hV;have Ga:=h.up hX.cA;have hr:=hX.os;have v0:V.cell? ⟨w.heap.size+1,0,none⟩=some (.pointer (some ⟨p.X,0,none⟩)):=cF hX.rw 0;have v1:V.cell? ⟨w.heap.size+1,1,none⟩=some (.pointer (some ⟨p.R,0,none⟩)):=cF hX.rw 1;have HC:=af (atJ p m z V (Ga.wa.pr i p hp).1 (ht.below ht.pos hX.cA) hz hs0 HM.out);have QN:Hid (∀x,x=w.heap.size∨x=w.heap.size+1->¬p.has x):=fun x hx q=>by
  have:=(h.F6 hp q).2;omega
 have HX:=af hX;have HV:=af hV;have Gb:=af Ga;have HH:=af h;have HP:=af hp;have M5:=hX.size;clear h hw1 hB hW hi ho gN hX hV Ga hown hp hil hgl;generalize hop:aV 30 on a b s t z=OC at *;clear hop;generalize F8:ps.length=L at *;have OI:=af F8;clear F8;generalize EX:p.X=PX at *;generalize p8:p.R=PR at *;have HPX:=af EX;have vH:=af p8;clear EX p8;go_enter Tryz.func36,Tryz.ntmps36;go_upto_region 2 with fail
 rw [<-HW.out];go_wp2_with fail
 refine (aq fj _).mono ?_;rintro e w' ⟨rfl,hw⟩;obtain rfl:=hw.symm;clear o1;go_upto_region 6 with fail
 rw [<-HV.out];clear c3 d0 d1 y0 y1 z0 z1;go_wp2_with (refine rQ rfl 28 _ rfl w.heap.size 6 rfl (z.map (cI .i64)) _ hr jO rfl hzl ?_)
 refine (aq HC).mono ?_;rintro e w1 (⟨n,hn,hnc,rfl,hc1,hd⟩ | ⟨X,rfl,hc1,hd⟩)
 ·obtain ⟨hr1,zh⟩:=HX.out.kept hc1 (QN.out _ (.inl rfl)) (QN.out _ (.inr rfl));have F9:w1.cell? ⟨w.heap.size+1,1,none⟩=some (.pointer (some ⟨PR,0,none⟩)):=cF zh 1;have HD:=af hd;have hnb:(n == n)=true:=by simp
  have HNc:Hid (¬Calm p 11 w):=fun c=>hnc (c.up (HX.out.cA.block _ ((HH.out.wa.pr i p HP.out).1.lt _ (.inr (.inl rfl)))));clear hr v0 v1 HC zh hc1 hd hn hnc;go_wp2_with (refine rQ rfl 28 _ rfl w.heap.size 6 rfl (z.map (cI .i64)) _ hr1 jO rfl hzl ?_)
  refine (aq HD).mono ?_;rintro e w2 ⟨rfl,p',Jm⟩;have HE:=af (Gb.out.afT HP.out Jm);clear Jm hr1 F9 HD;go_wp2_with fail
  refine (aq jR _ _).mono ?_;rintro e w' ⟨rfl,hw⟩;obtain rfl:=hw.symm;go_wp2_with fail
  go_ret;exact ⟨rfl,_,_,_,_,HE.out.1,HE.out.2.from HX.out.cA,by rw [lU];omega,by omega,by omega,fun c=>absurd c HNc.out⟩
 ·obtain ⟨hr1,zh⟩:=HX.out.kept hc1 (QN.out _ (.inl rfl)) (QN.out _ (.inr rfl));have F9:w1.cell? ⟨w.heap.size+1,1,none⟩=some (.pointer (some ⟨PR,0,none⟩)):=cF zh 1;have HD:=af hd;clear hr v0 v1 HC zh hc1 hd;go_wp2_with (refine rQ rfl 28 _ rfl w.heap.size 6 rfl (z.map (cI .i64)) _ hr1 jO rfl hzl ?_)
  refine (aq HD).mono ?_;rintro e w2 ⟨a0,p',rfl,rfl,Jm,hha,hfr,hsp⟩;obtain ⟨wV,Hr⟩:=Gb.out.afT HP.out Jm;have hset:(ps.set i p')[i]? =some p':=QL HP.out;obtain ⟨A,hA⟩:∃A:Hn,A= {a0 with i:=i}:=⟨_,rfl⟩;have hAX:A.X=a0.X:=by rw [hA]
  have hAQ:A.Q=a0.Q:=by rw [hA]
  have hAi:A.i=i:=by rw [hA]
  have Xq:∀x,A.has x->a0.has x:=fun x q=>by rw [hA] at q;exact q
  have kx:Hid (iB A p' k w2):=by
   unfold Hid;rw [hA];have q:=hha.more at4.out;exact ⟨q.x,q.xlt,q.eg,q.rg,q.rq,q.nx,q.ne,q.lk,q.ok⟩
  have M7:Hid (∀x,A.has x->V.heap.size<=x):=fun x q=>hfr x (Xq x q);have wU:Hid (∀x,A.has x->¬p'.has x):=fun x q=>hsp x (Xq x q);have af0:V.heap.size<=w2.heap.size:=Hr.bD.size;have c4:w2.cell? ⟨N,4,none⟩=some hv:=by have q:=wV.wa.bk 4 (by decide) (by decide);rw [cq] at q;exact q
  have f4:=wV.wa.fz 4;obtain ⟨ha',hc',Jn⟩:=bA wV.ho;have HHv:=af Jn;have hO:=wV.ho;rw [Jn] at c4 hO;have HO:=af hO;have Aj:N<w2.heap.size:=wV.wa.lt;have ye:=af wV;have EL:=af Hr;have cH:=af hset;have HAi:=af hAi;have pY:Hid (∀x,p'.has x->p.has x∨V.heap.size<=x):=Jm.2.2.2.2.2.2;have axp:=af af0;have vA:Hid ((jK A).toList=[.pointer (some ⟨a0.X,0,none⟩),.pointer (some ⟨a0.Q,0,none⟩)]):=by unfold Hid jK;rw [hAX,hAQ]
  obtain ⟨inf,cJ,yx,cW,hby⟩:=atZ;have gJ:=af cJ;have EV:=af yx;have dR:=af cW;have gK:=af hby;clear cJ yx cW hby Jm hha hfr hsp wV Hr hset hA hAX hAQ hAi Xq af0 Jn hO hr1 F9 HD;generalize a0.X=AX at *;generalize a0.Q=AQ at *;generalize hLh:hs.length=LH at *;have HLh:=af hLh;clear hLh;go_wp2_with fail
  refine (aq jR _ _).mono ?_;rintro e w' ⟨rfl,hw⟩;obtain rfl:=hw.symm
  go_wp2_with (at_builtin;refine vV _ rfl _ _ 47 rfl (N+1) 87 inf _ 2 16 Tryz.underlying47 gJ.out EV.out dR.out gK.out rfl (by decide) (.slice ha' LH hc') LH (uL hs) rfl (HO.out.alloc _) ⟨w2.heap.size,0,none⟩ 1 1 [.pointer (some ⟨AX,0,none⟩),.pointer (some ⟨AQ,0,none⟩)] rfl rfl (mP (bg w2 _)) (fun u hu=>by simp at hu;rcases hu with rfl | rfl<;>rfl) (by decide) (by have:=HHL.out;unfold maxLen;omega) (by have:=HHL.out;omega) (by rw [aB];omega) (w2.heap.size+1) (by rw [aB]) ?_
               intro g1 c1 w3 qX eG ha1 hl1;have hD:w3.heap[N]? =w2.heap[N]?:=(eG.block N (by rw [aB];omega) (fun e=>by have:=(aR HO.out N e.symm).1;omega)).trans (cM w2 _ N (by omega));have c5:=(aP (a:=⟨N,4,none⟩) hD).trans c4;have f5:=(fS (a:=⟨N,4,none⟩) hD).trans f4;have jy:=af qX;have p7:=af eG;have jW:=af ha1
               clear qX eG ha1 hl1 hD c4 f4)
  go_ret;have hb0:ak w2.heap.size w2 (w2.alloc (.cells #[.pointer (some ⟨AX,0,none⟩),.pointer (some ⟨AQ,0,none⟩)] 87)):=(aA _ _).alloc (ax _) _;have hV:=HHv.out;have ho:=jy.out;rw [<-vA.out] at ho;have hv1:hv.ownBlock=(mQ (some ⟨g1,0,none⟩) (LH+1) c1).ownBlock∨(mQ (some ⟨g1,0,none⟩) (LH+1) c1).ownBlock=some (w2.alloc (.cells #[.pointer (some ⟨AX,0,none⟩),.pointer (some ⟨AQ,0,none⟩)] 87)).heap.size:=by
   rw [hV,aB];rcases jW.out with q | q
   ·exact .inl q
   ·exact .inr (congrArg some q)
  have hNf:∀x,A.has x->w.heap.size+2<=x:=fun x q=>by have:=M7.out x q;have:=HX.out.size;omega
  have k:=(ye.out.up hb0).push (a:=A) (p:=p') (v:=.slice (some ⟨g1,0,none⟩) (LH+1) c1) (by rw [HAi.out];exact cH.out) (kx.out.kept hb0.size (fun x q=>hb0.block x (kx.out.lt q)))
   (fun j q hq x h1 h2=>by
     rcases rJ hq with ⟨_,rfl⟩ | ⟨_,dQ⟩
     ·exact wU.out x h1 h2
     ·have:=(Gb.out.F6 dQ h2).2;have:=M7.out x h1;omega)
   (fun j b hb x h1 h2=>by have:=(Gb.out.hlt hb h2).2;have:=M7.out x h1;omega)
   (fun x q=>⟨fun e=>by have:=(aR Gb.out.wa.own x e).2;have:=M7.out x q;omega,fun e=>by have:=(aR Gb.out.ho x e).2;have:=M7.out x q;omega⟩)
   (fun x q=>by have:=hNf x q;have:=HH.out.wa.lt;omega)
   (by rw [HLh.out];exact ho) (by rw [hV];exact p7.out) hv1 _ rfl
  obtain ⟨k1,k2,k3⟩:=k;have fr:=EL.out.from HX.out.cA;refine ⟨rfl,_,_,_,_,k1,⟨(fr.bD.trans (fun x q=>.inl q) (aM.bh (F:=fun x=>x=N∨DH ps sv hs hv x) hb0)).trans (F1:=fun x=>x=N∨hv.ownBlock=some x) (fun x q=>.inl (q.imp id (fun c=>.inr (.inl c)))) k2,fun x q=>?_⟩,by rw [lU];omega,by rw [dK];exact Nat.le_add_right _ _,by rw [dK];exact ax _,fun _=>by rw [dK];rfl⟩;rcases q with q | q | q | ⟨j,b,hb,hx⟩
  ·exact .inl (.inl q)
  ·exact (k3 x q).imp (fun c=>.inr (.inl c)) (fun c=>aT fr.bD.size (aT hb0.size c))
  ·exact fr.new x (.inr (.inr (.inl q)))
  ·rcases QM hb with ⟨_,hb'⟩ | ⟨_,rfl⟩
   ·exact .inl (.inr (.inr (.inr ⟨j,b,hb',hx⟩)))
   ·exact .inr (by have:=hNf x hx;omega)
structure OxE (k on:Int) (OC:List aj) (w W:World):Prop where
 cA:ak w.heap.size w W
 c0:W.cell? ⟨w.heap.size,0,none⟩=some (.int .i64 k)
 c1:W.cell? ⟨w.heap.size,1,none⟩=some (.int .i64 on)
 all:W.rangeAt w.heap.size 0 OC
theorem QO (k on a b:Int) (s t:ByteArray) (z:List Int) (w W:World) (e:W=w.alloc (.cells (aV k on a b s t z) 51)):OxE k on (aV k on a b s t z).toList w W:=by
 have r:W.heap[w.heap.size]? =some (.cells (aV k on a b s t z) 51 (0,0)):=by rw [e,bg]
 have hb:ak w.heap.size w W:=by rw [e];exact (aA _ _).alloc (ax _) _
 obtain ⟨o0,o1,_,_⟩:=KR k on a b s t z;refine ⟨hb,(cF r 0).trans o0,(cF r 1).trans o1,fun j v hv=>?_⟩;rw [Nat.zero_add,cF r j,<-Array.getElem?_toList];exact hv
theorem auc (N:Nat) (on a b:Int) (s t:ByteArray) (z:List Int) (w:World) (hz:z.length=138) (P:World->Prop) (hc:∀w',ak w.heap.size w w'->av au 36 #[.pointer (some ⟨N,0,none⟩),.agg (aV 30 on a b s t z)] w' fun e' w''=>e'= .returned (.bool true)∧P w''):
 av au 13 #[.pointer (some ⟨N,0,none⟩),.agg (aV 30 on a b s t z)] w fun e' w'=>e'= .returned (.bool true)∧P w':=by
 obtain ⟨W,hW⟩:∃W,W=w.alloc (.cells (aV 30 on a b s t z) 51):=⟨_,rfl⟩;have HW:=af hW;have hE:=QO 30 on a b s t z w W hW;have c0:=hE.c0;have vA:=af hE.all;have HC:=af (hc W hE.cA);have qY:=af (K3 30 on a b s t z hz);clear hc hE hW;generalize hop:aV 30 on a b s t z=OC at *;clear hop;go_enter Nx,Ny;go_upto_region 1 with fail
 rw [<-HW.out];go_wp2_with (refine rQ rfl 51 _ rfl w.heap.size 0 rfl OC.toList _ vA.out D8 rfl (by rw [Da,qY.out]) ?_)
 refine (aq HC).mono ?_;rintro e w1 ⟨rfl,hp⟩;have HP:=af hp;clear hp HC;go_wp2_with fail
 go_ret;exact ⟨rfl,HP.out⟩
theorem aud {w:World} {B:Nat} {hs:List Hn} {g c:Nat} (h:w.ownsRow B 87 2 (.slice (some ⟨g,0,none⟩) hs.length c) hs.length (uL hs)) (i:Nat) (a:Hn) (hi:hs[i]? =some a):w.cell? ⟨g,i * 2,none⟩=some (.pointer (some ⟨a.X,0,none⟩))∧w.cell? ⟨g,i * 2+1,none⟩=some (.pointer (some ⟨a.Q,0,none⟩)):=by
 have key:=Hj (fun a:Hn=>(jK a).toList) 2 (fun _=>rfl) hs i a hi;have k0:=key 0 (by decide);have k1:=key 1 (by decide);exact ⟨by rw [h.cellAt (i * 2) (by have:=(fG.1 hi).1;omega)];exact k0,by rw [h.cellAt (i * 2+1) (by have:=(fG.1 hi).1;omega)];exact k1⟩
theorem aue (N:Nat) (k on a b:Int) (s t:ByteArray) (z:List Int) (w:World) (hk:30<k) (sa:Option Addr) (sc:Nat) (hN:N<w.heap.size) (c4:w.cell? ⟨N,4,none⟩=some (.slice sa 0 sc)):
 av au 13 #[.pointer (some ⟨N,0,none⟩),.agg (aV k on a b s t z)] w fun e' w'=>e'= .returned (.bool true)∧ak w.heap.size w w':=by
 obtain ⟨W,hW⟩:∃W,W=w.alloc (.cells (aV k on a b s t z) 51):=⟨_,rfl⟩;have HW:=af hW;have hE:=QO k on a b s t z w W hW;have c0:=hE.c0;have c4':=(aP (a:=⟨N,4,none⟩) (hE.cA.block N hN)).trans c4;have HB:=af hE.cA;have k1:¬k<20:=by omega
 have k2:(k == 20)=false:=by rw [beq_eq_false_iff_ne];omega
 have k3:¬k<30:=by omega
 have k4:(k == 30)=false:=by rw [beq_eq_false_iff_ne];omega
 clear hE hW c4;generalize hop:aV k on a b s t z=OC at *;clear hop;go_enter Nx,Ny;go_upto_region 1 with fail
 rw [<-HW.out];go_wp2_with fail
 go_ret;exact ⟨rfl,HB.out⟩
theorem auf (N:Nat) (hs:List Hn) (hv:aj) (k on a b:Int) (s t:ByteArray) (z:List Int) (w:World) (hk:30<k) (hz:z.length=138) (hN:N<w.heap.size) (c4:w.cell? ⟨N,4,none⟩=some hv) (ho:w.ownsRow (N+1) 87 2 hv hs.length (uL hs)) (hl:hs.length<=1000000000000) (hon: -9223372036854775808<=on∧on<=9223372036854775807) (j:Nat) (x:Hn) (hj:hs[j]? =some x) (hpk:oT on (hs.length:Int)=(j:Int)) (P:World->Prop)
 (hc:∀w',ak w.heap.size w w'->av au 37 #[.pointer (some ⟨N,0,none⟩),.agg (jK x),.agg (aV k on a b s t z)] w' fun e' w''=>e'= .returned (.bool true)∧P w''):
 av au 13 #[.pointer (some ⟨N,0,none⟩),.agg (aV k on a b s t z)] w fun e' w'=>e'= .returned (.bool true)∧P w':=by
 obtain ⟨W,hW⟩:∃W,W=w.alloc (.cells (aV k on a b s t z) 51):=⟨_,rfl⟩;have HW:=af hW;have hE:=QO k on a b s t z w W hW;have c0:=hE.c0;have c1:=hE.c1;have hjl:=(fG.1 hj).1;have mJ:=(aP (a:=⟨N,4,none⟩) (hE.cA.block N hN)).trans c4;have QS:=dX ho hE.cA;obtain ⟨g,c,gN,_,hgl⟩:=QS.form (by omega);rw [gN] at mJ QS;obtain ⟨d0,d1⟩:=aud QS j x hj;have fj:=af (fun w'=>K0 on (hs.length:Int) w' hon.1 hon.2 (by omega) (by omega));rw [hpk] at fj;have HC:=af (fun w' (hb:ak W.heap.size W w')=>hc w' (hE.cA.trans (hb.mono hE.cA.size)));have qT:=af (K3 k on a b s t z hz);have vA:=af hE.all;have HX:=af hE;have hp':(0:Int)<(hs.length:Int):=by omega
 have hi0:¬(j:Int)<0:=by omega
 have hi1:(j:Int)<(hs.length:Int):=by omega
 have k1:¬k<20:=by omega
 have k2:(k == 20)=false:=by rw [beq_eq_false_iff_ne];omega
 have k3:¬k<30:=by omega
 have k4:(k == 30)=false:=by rw [beq_eq_false_iff_ne];omega
 have cH:Hid (jK x=#[.pointer (some ⟨x.X,0,none⟩),.pointer (some ⟨x.Q,0,none⟩)]):=rfl;rw [cH.out] at HC;clear hE hW gN QS hj hpk hc c4 ho hl hon hjl cH hz;generalize x.X=PX at *;generalize x.Q=PR at *;generalize hop:aV k on a b s t z=OC at *;generalize hL:hs.length=L at *;clear hop hL;go_enter Nx,Ny;go_upto_region 1 with fail
 rw [<-HW.out];go_upto_region 10 with fail
 refine EO 6 [0,1,2,3,4,5,6,7,8,9,10,11,15] [12,13,14,16,17] 16 (fun w'=>w'.cell? ⟨N,4,none⟩=some (.slice (some ⟨g,0,none⟩) L c)∧w'.cell? ⟨w.heap.size,1,none⟩=some (.int .i64 on)∧w'.cell? ⟨g,j * 2,none⟩=some (.pointer (some ⟨PX,0,none⟩))∧w'.cell? ⟨g,j * 2+1,none⟩=some (.pointer (some ⟨PR,0,none⟩))∧Hid (w'.rangeAt w.heap.size 0 OC.toList)) (by kernel_rfl) (by kernel_rfl) (fun d _ _ _ _ h=>by cases d<;>exact h) ⟨mJ,c1,d0,d1,vA⟩ ?_
 iterate 12
  refine l7 ?_ rfl rfl ?_ ?_
  rotate_left
  ·rintro w' ⟨q0,q1,q2,q3,q4⟩;go_simp;rfl
  go_simp
 refine ⟨_,.agg OC,rfl,yieldsIf_load_mid rfl 51 _ rfl w.heap.size 0 rfl OC.toList _ (fun w' hS=>hS.2.2.2.2.out) D8 rfl (by rw [Da,qT.out]),?_⟩;go_simp;refine sj ?_;refine gA rfl rfl (fun K hK=>?_);go_simp;refine (aq fj _).mono ?_;rintro e w' ⟨rfl,hw⟩;obtain rfl:=hw.symm;refine hK _ _ (fun _=>⟨mJ,c1,d0,d1,vA.out⟩) ?_;clear hK K
 iterate 2
  refine gA rfl rfl (fun K hK=>?_);go_simp;refine hK _ _ (fun _=>⟨mJ,c1,d0,d1,vA.out⟩) ?_;clear hK K
 refine gA rfl rfl (fun K hK=>?_);go_simp;refine (aq HC _ (aA _ W).drew).mono ?_;rintro e w1 ⟨rfl,hp⟩;have HP:=af hp;clear hp HC fj;refine hK _ _ (fun h=>absurd h (by decide)) ?_;clear hK K;refine gA rfl rfl (fun K hK=>?_);go_simp;refine hK _ _ (fun h=>absurd h (by decide)) ?_;clear hK K;refine wY ?_;go_wp2_with fail
 go_ret;exact ⟨rfl,HP.out⟩
end
section
open Go.RowKit
theorem af3 (n:Nat) (w:World) (h1:n<=4000000000):
 av au 87 #[.int .i64 (n:Int)] w fun e' w'=>e'= .returned (.agg #[.string MARK,.string (ah (aS 8 n))])∧ak w.heap.size w w':=by
 have HM:=af (fun w'=>qu n 8 w' (by decide) (by omega));generalize ah (aS 8 n)=D at *;go_enter Tryz.func87,Tryz.ntmps87;go_wp2_with fail
 refine (aq HM _).mono ?_;rintro e w1 ⟨rfl,hb1⟩;have yj:Hid (w1.heap[w.heap.size]? =some (.cells #[.string ⟨#[]⟩,.string ⟨#[]⟩] 127 (0,0))):=(hb1.block _ (by rw [aB];omega)).trans (bg w _);have aJ:Hid (ak w.heap.size w w1):=((aA _ _).alloc (ax _) _).trans (hb1.mono (by rw [aB];omega));clear hb1;go_wp2_with (refine wpList_store_row rfl 127 _ _ rfl w.heap.size #[.string MARK,.string D] rfl rfl 127 _ yj.out abT rfl (by simp [Value.oneCell']) ?_)
 exact bodyPost_ret (v:=.agg #[.string MARK,.string D]) (results_cell_row Tryz.results87 _ _ w.heap.size 127 _ (0,0) _ rfl (setRow_heap _ _ _ _ _ (0,0) yj.out) Tryz.underlying127 rfl abT) rfl ⟨rfl,iI aJ.out (ax _) _⟩
theorem aug (N q:Nat) (vs:List aj) (vi:aj) (w0 w:World) (h0:Ad 2 57 127 2 Ig N vs vi w0) (hb:ak w0.heap.size w0 w) (hq:vs.length=4 * q) (qn:q<=900000000) (l:aj) (ps:List (List UInt8×List UInt8)) (hl:w.ownsRow w0.heap.size 127 2 l ps.length (bR ps)) (hpl:ps.length<=1048576):
 av au 82 #[.pointer (some ⟨N,0,none⟩),l] w fun e' w'=>e'= .returned (.tuple #[])∧(∃vs' nr,Ad 2 57 127 2 Ig N vs' nr w'∧vs'.length=4 * (q+1)∧(∀x,nr.ownBlock=some x->vi.ownBlock=some x∨w0.heap.size<=x)∧∀v∈vs',v∈vs∨∀x,v.ownBlock=some x->w0.heap.size<=x∧x<w'.heap.size)∧ak N w0 w'∧(∀g,g<w0.heap.size->g≠N->vi.ownBlock≠some g->w'.heap[g]? =w0.heap[g]?)∧(∀j,j≠2->w'.cell? ⟨N,j,none⟩=w0.cell? ⟨N,j,none⟩)∧∀t:cE,(∃cur,w0.heap[N]? =some (.cells cur t (0,0)))->∃cur,w'.heap[N]? =some (.cells cur t (0,0)):=by
 have hW:=h0.above hb;obtain ⟨ia,ic,rfl⟩:=bA h0.row;obtain ⟨la,lc,rfl⟩:=bA hl;have c0:=hW.cf;have Aj:=hW.mE;have hmk:((vs.length:Nat):Int)<=4000000000:=by omega
 have HMk:=af (fun w'=>af3 vs.length w' (by omega));obtain ⟨Dm,Xr⟩:∃Dm,Dm=ah (aS 8 vs.length):=⟨_,rfl⟩;rw [<-Xr] at HMk;have HPm:Hid (Ig q=gT Dm):=by unfold Hid Ig TL gT;rw [Xr,hq]
 have HQ:=af hq;have hvl:vs.length<=3600000000:=by omega
 have H0:=af h0;have HB:=af hb;have HL:=af hl;have hBw:=hb.size;obtain ⟨inf,cJ,hz,cW,hby⟩:=al8;have gJ:=af cJ;have HZ:=af hz;have dR:=af cW;have gK:=af hby;clear cJ hz cW hby;obtain ⟨inp,cJ,hz,cW,hby⟩:=EU;have Xs:=af cJ;have Xt:=af hz;have CP:=af cW;have Xu:=af hby;have hxl:(bR ps).length=ps.length * 2:=aaf (fun x:List UInt8×List UInt8=>[tZ (ah x.1),tZ (ah x.2)]) 2 (fun _=>rfl) ps;clear h0 hb hl hW Xr hq cJ hz cW hby;go_enter Tryz.func82,Tryz.ntmps82;go_wp2_with fail
 refine (aq HMk _).mono ?_;rintro e wa ⟨rfl,hba⟩;obtain ⟨W,hW⟩:∃W,W=wa.alloc (.cells #[.string MARK,.string Dm] 127):=⟨_,rfl⟩;have hbW:ak w.heap.size w W:=by rw [hW];exact hba.alloc hba.size _
 have pM:Hid (uq 127 (gT Dm) W wa.heap.size):=by unfold Hid;rw [hW];exact bg wa _
 have pJ:=af hbW;have BD:=af hW;have hsa:=hba.size;have hsW:W.heap.size=wa.heap.size+1:=by rw [hW,aB]
 have HLW:=af (dX HL.out hbW);clear hba hbW hW;go_wp2_with fail
 rw [<-BD.out];go_loopw [5] (fun i wr=>∃k:Nat,k<=ps.length∧i= .int .i64 k∧wr.ownsRow w0.heap.size 127 2 (.slice la ps.length lc) ps.length (fu (gT Dm) k ++ (bR ps).drop (k * 2))∧KG 127 2 (gT Dm) w0.heap.size W wr) (fun i _=>ps.length - (aI i).toNat)
 case atStart=>exact ⟨0,bK _,rfl,HLW.out,KG.refl _ _⟩
 case round=>
  obtain ⟨k,hk,rfl,hown,hkm⟩:=hrel;have HO:=af hown;have HKm:=af hkm;have hbx:=pM.out.kg rfl hkm;obtain ⟨b0,b1⟩:=Pw hbx;by_cases hlt:k<ps.length
  ·have hlt':(k:Int)<(ps.length:Int):=by omega
   obtain ⟨g,cc,hf,_,hgl⟩:=hown.form (by omega);cases hf;have hcell:∀j,j<2->∃u,wr.cell? ⟨g,k * 2+j,none⟩=some u:=fun j hj=>by
    rw [hown.cellAt (k * 2+j) (by omega)];have:k * 2+j<(fu (gT Dm) k ++ (bR ps).drop (k * 2)).length:=by rw [dK,KS rfl,List.length_drop,hxl];show _<k * 2+_;omega
    exact ⟨_,List.getElem?_eq_getElem this⟩
   obtain ⟨u0,h0⟩:=hcell 0 (by decide);obtain ⟨u1,h1⟩:=hcell 1 (by decide);have h0':wr.cell? ⟨g,k * 2,none⟩=some u0:=h0;have f0:=hown.frozenAt (k * 2);have f1:=hown.frozenAt (k * 2+1);clear hown hkm h0 hbx hcell;go_wp2_with fail
   have s1:=HO.out.stored (k * 2) (.string MARK);have s2:=s1.1.stored (k * 2+1) (.string Dm);have hst:=s2.1;rw [al7 Dm (bR ps) ps.length k hxl hlt] at hst;have q1:=KG.store (mc:=gT Dm) HO.out (k * 2) (u:=.string MARK) (by rw [show k * 2 % 2=0 by omega];rfl);have q2:=KG.store (mc:=gT Dm) s1.1 (k * 2+1) (u:=.string Dm) (by rw [show (k * 2+1) % 2=1 by omega];rfl);exact ⟨⟨k+1,by omega,by go_num,hst,(HKm.out.trans q1).trans q2⟩,by simp [aI];omega⟩
  ·have hkn:k=ps.length:=by omega
   subst hkn;have hlt':¬(ps.length:Int)<(ps.length:Int):=by omega
   have jy:Hid (wr.ownsRow w0.heap.size 127 2 (.slice la ps.length lc) ps.length (fu (gT Dm) ps.length)):=by
    have:(bR ps).drop (ps.length * 2)=[]:=List.drop_of_length_le (by omega);rw [this,List.append_nil] at hown;exact hown
   have hsz:=hkm.below.size;clear hown hkm HO;clear hbx;go_wp2_with (first | (at_builtin;refine TG (mc:=gT Dm) (E:=127) (k:=2) (wH:=32) AV Xs.out Xt.out CP.out Xu.out rfl (by decide) rfl (by decide) (Ub Dm) _ rfl _ _ rfl w0.heap.size (.slice la ps.length lc) ps.length 1 1 rfl (jy.out.alloc _) ⟨wr.heap.size,0,none⟩ rfl (TH wr _ 1 _ rfl) (by omega) (by rw [aB];omega) ?_;intro a1 c1 w1 qX hk1;have dm:=af (aR qX);have m9:=af (HKm.out.trans ((KG.above (E:=127) (k:=2) (mc:=gT Dm) (B:=w0.heap.size) (by omega) ((aA wr.heap.size wr).alloc (ax _) _)).trans hk1));have p7:=af (Pn (E:=127) (k:=2) (mc:=gT Dm) rfl (by decide) qX (by omega));have HT1:=af ((KG.above (E:=127) (k:=2) (mc:=gT Dm) (B:=w0.heap.size) (by omega) ((aA wr.heap.size wr).alloc (ax _) _)).trans hk1);have rH:=af (TD (E:=127) (k:=2) (mc:=gT Dm) rfl (by decide) (jy.out.alloc _) hk1);have hs1:=hk1.below.size;rw [aB] at hs1;clear qX hk1;obtain ⟨y10,y11⟩:=Pw (pM.out.kg rfl m9.out)) | (at_builtin;refine TG (mc:=gT Dm) (E:=127) (k:=2) (wH:=32) AV Xs.out Xt.out CP.out Xu.out rfl (by decide) rfl (by decide) (Ub Dm) _ rfl _ _ rfl w0.heap.size (.slice la ps.length lc) ps.length 2 2 rfl (rH.out.alloc _) ⟨w1.heap.size,0,none⟩ rfl (TH w1 _ 2 _ rfl) (by omega) (by rw [aB];omega) ?_;intro a2 c2 w2 Af hk2;have dW:=af (aR Af);have fC:=af (m9.out.trans ((KG.above (E:=127) (k:=2) (mc:=gT Dm) (B:=w0.heap.size) (by omega) ((aA w1.heap.size w1).alloc (ax _) _)).trans hk2));have yR:=af (Pn (E:=127) (k:=2) (mc:=gT Dm) rfl (by decide) Af (by omega));have Ap:=af ((KG.above (E:=127) (k:=2) (mc:=gT Dm) (B:=w0.heap.size) (by omega) ((aA w1.heap.size w1).alloc (ax _) _)).trans hk2);have rE:=af (TD (E:=127) (k:=2) (mc:=gT Dm) rfl (by decide) (rH.out.alloc _) hk2);have oA:=hk2.below.size;rw [aB] at oA;clear Af hk2;obtain ⟨y20,y21⟩:=Pw (pM.out.kg rfl fC.out)) | (at_builtin;refine TG (mc:=gT Dm) (E:=127) (k:=2) (wH:=32) AV Xs.out Xt.out CP.out Xu.out rfl (by decide) rfl (by decide) (Ub Dm) _ rfl _ _ rfl w0.heap.size (.slice la ps.length lc) ps.length 3 3 rfl (rE.out.alloc _) ⟨w2.heap.size,0,none⟩ rfl (TH w2 _ 3 _ rfl) (by omega) (by rw [aB];omega) ?_;intro a3 c3 w3 oX hk3;have De:=af (aR oX);have fM:=af (fC.out.trans ((KG.above (E:=127) (k:=2) (mc:=gT Dm) (B:=w0.heap.size) (by omega) ((aA w2.heap.size w2).alloc (ax _) _)).trans hk3));have iL:=af (Pn (E:=127) (k:=2) (mc:=gT Dm) rfl (by decide) oX (by omega));have Aq:=af ((KG.above (E:=127) (k:=2) (mc:=gT Dm) (B:=w0.heap.size) (by omega) ((aA w2.heap.size w2).alloc (ax _) _)).trans hk3);have M8:=af (TD (E:=127) (k:=2) (mc:=gT Dm) rfl (by decide) (rE.out.alloc _) hk3);have hs3:=hk3.below.size;rw [aB] at hs3;clear oX hk3;have lS:=af (H0.out.above (HB.out.trans ((pJ.out.mono (by omega)).trans fM.out.below)));have d0:=lS.out.cf;have df:=lS.out.fz 2;have jE:=lS.out.mE) | (at_builtin;refine vV _ rfl _ _ 43 rfl (N+1) 57 inf _ 1 24 Tryz.underlying43 gJ.out HZ.out dR.out gK.out rfl (by decide) (.slice ia vs.length ic) vs.length vs rfl (lS.out.row.alloc _) ⟨w3.heap.size,0,none⟩ 4 4 [.slice la ps.length lc,.slice a1 (ps.length+1) c1,.slice a2 (ps.length+2) c2,.slice a3 (ps.length+3) c3] rfl rfl (mP (bg w3 _)) (fun u hu=>by simp at hu;rcases hu with rfl | rfl | rfl | rfl<;>rfl) (by decide) (by unfold maxLen;omega) (by omega) (by rw [aB];omega) (w3.heap.size+1) (by rw [aB]) ?_;intro g5 c5 w5 ho5 QT ha5 hl5;have jf:=af ho5;have M9:=af QT;have EW:=af ha5;have k5:w5.cell? ⟨N,2,none⟩=some (.slice ia vs.length ic):=(QT.cell_far ⟨N,2,none⟩ (by rw [aB];show N<_;omega) (fun e=>by have:=(aR lS.out.row N e.symm).1;omega)).trans ((aP (cM w3 _ N jE)).trans d0);have kf5:w5.frozen? ⟨N,2,none⟩=false:=(QT.frozen_far ⟨N,2,none⟩ (by rw [aB];show N<_;omega) (fun e=>by have:=(aR lS.out.row N e.symm).1;omega)).trans ((fS (cM w3 _ N jE)).trans df);clear ho5 QT ha5))
   have M0:GS 127 2 (gT Dm) w3 (.slice la ps.length lc):=Pn (E:=127) (k:=2) (mc:=gT Dm) rfl (by decide) M8.out (by omega);have M1:GS 127 2 (gT Dm) w3 (.slice a1 (ps.length+1) c1):=(p7.out.kg Ap.out).kg Aq.out;have M2:GS 127 2 (gT Dm) w3 (.slice a2 (ps.length+2) c2):=yR.out.kg Aq.out;have M3:GS 127 2 (gT Dm) w3 (.slice a3 (ps.length+3) c3):=iL.out
   have hfin:=ali (by decide) (q:=q) lS.out g5 c5 _ _ rfl jf.out M9.out (fun v hv=>by
    rw [HPm.out];simp at hv;rcases hv with rfl | rfl | rfl | rfl
    ·exact M0
    ·exact M1
    ·exact M2
    ·exact M3) HQ.out
   go_end0
   have K6:=H0.out.mE;have bn:ak w0.heap.size w0 w3:=HB.out.trans ((pJ.out.mono (by omega)).trans fM.out.below);have hs3:=bn.size;have b3:ak N w0 w3:=bn.mono (by omega);have auk:w3.heap.size<=(w5.setCell ⟨N,2,none⟩ (.slice (some ⟨g5,0,none⟩) (vs.length+4) c5)).heap.size:=by
    have h1:=M9.out.size;rw [aB] at h1;have h2:(w5.setCell ⟨N,2,none⟩ (.slice (some ⟨g5,0,none⟩) (vs.length+4) c5)).heap.size=w5.heap.size:=by simp [qP]
    omega
   have p6:w5.heap[N]? =w0.heap[N]?:=(M9.out.block N (by rw [aB];omega) (fun e=>by have:=(aR lS.out.row N e.symm).1;omega)).trans ((cM w3 _ N (by omega)).trans (bn.block N K6));refine ⟨rfl,⟨_,_,hfin,?_,fun x e=>?_,fun v hv=>?_⟩,?_,fun g hg h1 h2=>?_,fun j hj=>?_,fun t ht=>?_⟩
   ·have:=HQ.out;simp;omega
   ·rcases EW.out with q | q
    ·exact .inl (q.trans e)
    ·have e':g5=x:=by simpa [Value.ownBlock] using e
     exact .inr (by rw [<-e',q];omega)
   ·rcases List.mem_append.1 hv with q | q
    ·exact .inl q
    ·refine .inr (fun x e=>?_);simp at q;rcases q with rfl | rfl | rfl | rfl
     ·exact ⟨(aR HL.out x e).1,dB (aR M8.out x e).2 auk⟩
     ·exact ⟨(dm.out x e).1,by have:=(dm.out x e).2;have:=Ap.out.below.size;have:=Aq.out.below.size;omega⟩
     ·exact ⟨(dW.out x e).1,by have:=(dW.out x e).2;have:=Aq.out.below.size;omega⟩
     ·exact ⟨(De.out x e).1,by have:=(De.out x e).2;omega⟩
   ·exact ((b3.alloc (by omega) _).grown M9.out (by rw [aB];omega) (fun j hj=>by have:=(aR lS.out.row j hj).1;omega)).setCell (p:=⟨N,2,none⟩) (ax _) _
   ·exact (dU _ _ h1).trans ((M9.out.block g (by rw [aB];have:=bn.size;omega) (fun e=>h2 e.symm)).trans ((cM w3 _ g (by have:=bn.size;omega)).trans (bn.block g hg)))
   ·rw [World.cell?_setCell_other w5 ⟨N,2,none⟩ ⟨N,j,none⟩ _ (fun e=>hj (by cases e;rfl))];exact aP p6
   ·intro e;exact ⟨_,by simp [qP,Array.getElem?_modify,p6,e];rfl⟩
theorem aul (N:Nat) (vs:List aj) (vi:aj) (w:World) (h:C9 N vs vi w) (hl:vs.length<=3600000000):
 av au 40 #[.pointer (some ⟨N,0,none⟩)] w fun e' w'=>e'= .returned (.bool true)∧ak w.heap.size w w':=by
 obtain ⟨ia,ic,rfl⟩:=bA h.row;have H:=af h;have Um:=h.mE;have c1w:=h.cf;clear h;go_enter Tryz.func40,Tryz.ntmps40;go_wp2_with fail
 go_loopw [3] (fun i wr=>∃k:Nat,k<=vs.length∧i= .int .i64 k∧ak w.heap.size w wr) (fun i _=>vs.length - (aI i).toNat)
 case atStart=>exact ⟨0,bK _,rfl,aA _ _⟩
 case round=>
  obtain ⟨k,hk,rfl,hbl⟩:=hrel;have bU:=af hbl;have dY:=hbl.size;have HR:=af (H.out.above hbl);have c1:=HR.out.cf;clear c1w;by_cases hlt:k<vs.length
  ·have hlt':(k:Int)<(vs.length:Int):=by omega
   obtain ⟨g,c,hf,_,hgl⟩:=HR.out.row.form (by omega);cases hf;obtain ⟨v,hv⟩:∃v,vs[k]? =some v:=⟨vs[k],by simp [hlt]⟩;have hcell:wr.cell? ⟨g,k,none⟩=some v:=(HR.out.row.cellAt k (by omega)).trans hv;obtain ⟨a,n,cc,rfl,hnb,hms⟩:=HR.out.ms k v hv;have Xv:=af hms;clear hms hv hbl;have af9:=af (fun w'=>af3 (k / 4 * 4) w' (by omega));have hcm:((k / 4 * 4:Nat):Int)=(k:Int) / 4 * 4:=by omega
   rw [hcm] at af9;unfold Ig TL at Xv;rw [show 4 * (k / 4)=k / 4 * 4 by omega] at Xv;generalize ah (aS 8 (k / 4 * 4))=Dm at *;clear hcm;have hNr:=HR.out.mE;go_wp2_with fail
   refine (aq af9 _).mono ?_;rintro e w1 ⟨rfl,hb1⟩;have hs1:=hb1.size;obtain ⟨W,hW⟩:∃W,W=w1.alloc (.cells #[.string MARK,.string Dm] 127):=⟨_,rfl⟩;have BD:=af hW;have hbW:ak wr.heap.size wr W:=by rw [hW];exact hb1.alloc hs1 _
   have pJ:=af hbW;have pM:Hid (uq 127 (gT Dm) W w1.heap.size):=by unfold Hid;rw [hW];exact bg w1 _
   have hsW:W.heap.size=w1.heap.size+1:=by rw [hW,aB]
   clear hb1 hbW hW;go_wp2_with fail
   rw [<-BD.out];obtain ⟨wo,Ep⟩:∃wo,wo=wr:=⟨_,rfl⟩;subst Ep;go_loopw [5] (fun j zi=>∃i:Nat,i<=n∧j= .int .i64 i∧ak W.heap.size W zi) (fun j _=>n - (aI j).toNat)
   case atStart=>exact ⟨0,bK _,rfl,aA _ _⟩
   case round=>
    obtain ⟨zi,auo⟩:∃zi,zi=wr:=⟨_,rfl⟩;subst auo;obtain ⟨i,hi,rfl,hb2⟩:=hrel;have aZ:=af hb2;have hrr:ak wo.heap.size wo zi:=pJ.out.trans (hb2.mono pJ.out.size);have d1:=(dZ hrr N 2 hNr).trans c1;have d2:=(dZ hrr g k hgl).trans hcell;obtain ⟨x0,x1⟩:=Pw (pM.out.below hb2);by_cases hin:i<n
    ·have Sq:(i:Int)<(n:Int):=by omega
     obtain ⟨g2,cur,rfl,jx,hcur⟩:=Xv.out (by omega);have aga:zi.heap[g2]? =some (.cells cur 127 (0,0)):=(hrr.block g2 (Array.getElem?_eq_some_iff.1 jx).1).trans jx;have ce:∀j u,j<2->(gT Dm)[j]? =some u->zi.cell? ⟨g2,i * 2+j,none⟩=some u:=fun j u hj hu=>by
      rw [cell_of_row zi g2 (i * 2+j) cur _ _ aga];exact hcur (i * 2+j) u (by omega) (by rw [show (i * 2+j) % 2=j by omega];exact hu)
     have y0:zi.cell? ⟨g2,i * 2,none⟩=some (.string MARK):=ce 0 _ (by decide) rfl;have y1:zi.cell? ⟨g2,i * 2+1,none⟩=some (.string Dm):=ce 1 _ (by decide) rfl;clear jx hcur aga ce hb2 hrr c1 hcell;go_wp2_with fail
     go_quiet (fail)
     go_wp2_with fail
     exact ⟨⟨i+1,by omega,by go_num,below_drewN aZ.out nq⟩,by simp [aI];omega⟩
    ·have Sq:¬(i:Int)<(n:Int):=by omega
     have HE:Hid (ak w.heap.size w zi):=bU.out.trans (hrr.mono dY);clear hb2 hrr c1 hcell;go_wp2_with fail
     exact ⟨⟨k+1,by omega,by go_num,HE.out⟩,by simp [aI];omega⟩
  ·have hlt':¬(k:Int)<(vs.length:Int):=by omega
   clear hbl;go_wp2_with fail
   go_ret;exact ⟨rfl,bU.out⟩
theorem aup (N:Nat) (vs:List aj) (vi:aj) (w:World) (h:C9 N vs vi w) (hl:vs.length<=3600000000):
 av au 14 #[.pointer (some ⟨N,0,none⟩)] w fun e' w'=>e'= .returned (.bool true)∧ak w.heap.size w w':=by
 have HI:=af (alX N w (h.cn 0 (by decide) (by decide)));have HP:=af (al9 N w (h.cn 1 (by decide) (by decide)));have HL:=af (aul N vs vi w h hl);clear h;go_enter Tryz.func14,Tryz.ntmps14;go_wp2_with fail
 refine (aq HI).mono ?_;rintro e w' ⟨rfl,hw⟩;obtain rfl:=hw.symm;go_wp2_with fail
 refine (aq HP).mono ?_;rintro e w' ⟨rfl,hw⟩;obtain rfl:=hw.symm;go_wp2_with fail
 refine (aq HL).mono ?_;rintro e w1 ⟨rfl,hb1⟩;have HB:=af hb1;clear hb1;go_wp2_with fail
 go_ret;exact ⟨rfl,HB.out⟩
end
section
open Go.RowKit Go.Maps Go.WideMaps
def Xw (N q:Nat) (vs:List aj) (vi:aj) (w:World) (w':World):Prop:=
 ∃vs' nr,C9 N vs' nr w'∧vs'.length=4 * (q+1)∧(∀x,nr.ownBlock=some x->vi.ownBlock=some x∨w.heap.size<=x)∧(∀v∈vs',v∈vs∨∀x,v.ownBlock=some x->w.heap.size<=x∧x<w'.heap.size)∧ak N w w'∧(∀g,g<w.heap.size->g≠N->vi.ownBlock≠some g->w'.heap[g]? =w.heap[g]?)∧(∀j,j≠2->w'.cell? ⟨N,j,none⟩=w.cell? ⟨N,j,none⟩)∧∀t:cE,(∃cur,w.heap[N]? =some (.cells cur t (0,0)))->∃cur,w'.heap[N]? =some (.cells cur t (0,0))
theorem auq (N q:Nat) (vs:List aj) (vi:aj) (h:Hn) (p:Pr) (k:Nat) (on a b:Int) (s t:ByteArray) (z:List Int) (w:World) (hh:iB h p k w) (hb:C9 N vs vi w) (hq:vs.length=4 * q) (qn:q<=900000000):
 av au 37 #[.pointer (some ⟨N,0,none⟩),.agg (jK h),.agg (aV 34 on a b s t z)] w fun e' w'=>e'= .returned (.bool true)∧Xw N q vs vi w w':=by
 obtain ⟨W,hW⟩:∃W,W=(w.alloc (.cells (jK h) 87)).alloc (.cells (aV 34 on a b s t z) 51):=⟨_,rfl⟩;have HW:=af hW;have hB:=Jj h 34 on a b s t z w W hW;have c0:=hB.c0;have c1:=hB.c1;have o0:=hB.o0;have iK:=hh.kept hB.cA.size (fun x q=>hB.cA.block x (hh.lt q));have hlen:(h.g.b 0).length<=1500:=aT hh.ok.kn hh.ok.sz;have HC:=af (aqW h.X h.E W iK.x _ (fun e w' q=>by obtain ⟨u,q,_⟩:=q;exact ⟨u,q⟩) (aqP h.E p.D h.g h.m h.v W iK.eg (by omega)));have HD:Hid (∀w',ak W.heap.size W w'->dA h.Q p.R (fF h.g h.n) h.u w'):=fun w' hb=>iK.rg.kept (fun x q=>hb.block x (iK.rg.has q).2);have lS:=af (hb.above hB.cA);have HB:=af hB;have M5:=hB.size;have HQ:=af hq;have HQ2:=af qn;have qY:=af hlen;have Ih:Hid (N<w.heap.size):=hb.mE;clear hh hb iK hB hW hq qn hlen;generalize hst:jK h=HV at *;generalize hop:aV 34 on a b s t z=OC at *;clear hst hop;go_enter Tryz.func37,Tryz.ntmps37;go_upto_region 1 with fail
 rw [<-HW.out];go_wp2_with fail
 refine (aq HC).mono ?_;rintro e w1 ⟨u,rfl,qX,hb1⟩;have dm:=af (HD.out w1 hb1);have jg:=af (asO h.Q p.R (fF h.g h.n) h.u w1 dm.out);have k1:w1.cell? ⟨w.heap.size,1,none⟩=some (.pointer (some ⟨h.Q,0,none⟩)):=(aP (hb1.block w.heap.size (by omega))).trans c1;have hlk:(aG (h.g.b 0)).length<=1048576:=by rw [ee];have:=qY.out;omega
 have Af:w1.ownsRow (h.Q+1) 127 2 (h.u 0) (aG (h.g.b 0)).length (bR (aG (h.g.b 0))):=by have q:=dm.out.ow 0 (by decide);rw [ee];exact q
 have mG:=af (alk u (h.u 0) _ _ _ w1 qX Af hlk);have lP:=af (fun w2 (Na:ak w1.heap.size w1 w2)=>aug N q vs vi W w2 lS.out (hb1.trans (Na.mono hb1.size)) HQ.out HQ2.out u _ (dX qX Na) hlk);obtain ⟨ua,uc,rfl⟩:=bA qX;obtain ⟨va,vc,nW⟩:=bA Af;rw [nW] at jg mG;clear qX Af hb1 c0 c1 o0 HC nW hlk;go_wp2_with fail
 refine (aq jg).mono ?_;rintro e w' ⟨rfl,hw⟩;obtain rfl:=hw.symm;go_wp2_with fail
 refine (aq mG).mono ?_;rintro e w2 ⟨rfl,Na⟩;have agb:=af (lP.out w2 Na);clear Na lP mG jg k1;go_wp2_with fail
 refine (aq agb).mono ?_;rintro e w3 ⟨rfl,⟨vs',nr,hbk,hl3,QU,hvs⟩,hbl,hot,hcl,hty⟩;have HE:Hid (Xw N q vs vi w w3):=⟨vs',nr,hbk,hl3,fun x e=>(QU x e).imp id (aT HB.out.cA.size),fun v hv=>(hvs v hv).imp id (fun c x e=>⟨aT HB.out.cA.size (c x e).1,(c x e).2⟩),(HB.out.cA.mono (iP Ih.out)).trans hbl,fun g hg h1 h2=>(hot g (dB hg HB.out.cA.size) h1 h2).trans (HB.out.cA.block g hg),fun j hj=>(hcl j hj).trans (aP (HB.out.cA.block N Ih.out)),fun t ⟨cur,q⟩=>hty t ⟨cur,(HB.out.cA.block N Ih.out).trans q⟩⟩;clear hbk hl3 QU hvs hbl hot hcl hty agb;go_wp2_with fail
 go_ret;exact ⟨rfl,HE.out⟩
def Xx (vs:List aj) (vi:aj) (x:Nat):Prop:=vi.ownBlock=some x∨∃v∈vs,v.ownBlock=some x
theorem GS.aus {E:cE} {k:Nat} {mc:List aj} {w w':World} {v:aj} (h:GS E k mc w v) (hk:∀x,v.ownBlock=some x->w'.heap[x]? =w.heap[x]?):GS E k mc w' v:=by
 obtain ⟨a,n,c,rfl,hle,h⟩:=h;refine ⟨a,n,c,rfl,hle,fun hn=>?_⟩;obtain ⟨g,cur,ha,hg,hc⟩:=h hn;subst ha;exact ⟨g,cur,rfl,(hk g rfl).trans hg,hc⟩
theorem C9.kept {N:Nat} {vs:List aj} {vi:aj} {w w':World} (h:C9 N vs vi w) (hc:∀j,j<3->w'.cell? ⟨N,j,none⟩=w.cell? ⟨N,j,none⟩) (hf:∀j,w'.frozen? ⟨N,j,none⟩=false) (hn:∃cur,w'.heap[N]? =some (.cells cur 49 (0,0))) (hb:∀x,Xx vs vi x->w'.heap[x]? =w.heap[x]?):C9 N vs vi w':=by
 refine ⟨(hc 2 (by decide)).trans h.cf,fun j h1 h2=>(hc j h1).trans (h.cn j h1 h2),hf,fun cur e=>?_,dz h.row (fun g e=>hb g (.inl e)),fun i v hv=>(h.ms i v hv).aus (fun x e=>hb x (.inr ⟨v,List.mem_of_getElem? hv,e⟩))⟩;obtain ⟨c,q⟩:=hn;rw [q] at e;simp at e
def zj (vi:aj) (j:Nat):aj:=if j=2 then vi else .slice none 0 0
structure kA (N q:Nat) (vs:List aj) (vi:aj) (ps:List Pr) (sv:aj) (hs:List Hn) (hv:aj) (m k:Nat) (w:World):Prop where
 wg:kz N (zj vi) ps sv hs hv m k w
 bk:C9 N vs vi w
 len:vs.length=4 * q
 bd:∀x,Xx vs vi x->N<x∧x<w.heap.size∧¬DH ps sv hs hv x
 tab:bF w
 pos:0<N
theorem kz.Xy {N:Nat} {bv:Nat->aj} {ps:List Pr} {sv:aj} {hs:List Hn} {hv:aj} {m k:Nat} {w:World} (h:kz N bv ps sv hs hv m k w) {x:Nat} (hx:DH ps sv hs hv x):N<x∧x<w.heap.size:=by
 rcases hx with q | q | ⟨i,p,hi,q⟩ | ⟨j,a,hj,q⟩
 ·have:=aR h.wa.own x q;exact ⟨by omega,this.2⟩
 ·have:=aR h.ho x q;exact ⟨by omega,this.2⟩
 ·exact h.F6 hi q
 ·exact h.hlt hj q
theorem kA.turn {N q:Nat} {vs:List aj} {vi:aj} {ps ps':List Pr} {sv eZ:aj} {hs hs':List Hn} {hv hv':aj} {m k m' k':Nat} {w w':World} (h:kA N q vs vi ps sv hs hv m k w) (h':kz N (zj vi) ps' eZ hs' hv' m' k' w') (f:rK N ps sv hs hv ps' eZ hs' hv' w w'):kA N q vs vi ps' eZ hs' hv' m' k' w'∧ak N w w':=by
 have hb:ak N w w':=f.bD.below (iP h.wg.wa.lt) (fun x c=>by
  rcases c with c | c
  ·omega
  ·have:=(h.wg.Xy c).1;omega)
 have hc:∀j,j<3->w'.cell? ⟨N,j,none⟩=w.cell? ⟨N,j,none⟩:=fun j hj=>by
  have a1:=h'.wa.bk j (by omega) (by omega);have a2:=h.wg.wa.bk j (by omega) (by omega);rw [bp _ _ _ _ (by omega)] at a1 a2;rw [a1,a2]
 refine ⟨⟨h',h.bk.kept hc h'.wa.fz h'.wa.nt (fun x c=>?_),h.len,fun x c=>?_,h.tab.below h.pos hb,h.pos⟩,hb⟩
 ·obtain ⟨b1,b2,b3⟩:=h.bd x c;exact f.bD.other x b2 (fun d=>d.elim (fun e=>by omega) b3)
 ·obtain ⟨b1,b2,b3⟩:=h.bd x c;refine ⟨b1,dB b2 hb.size,fun d=>?_⟩;rcases f.new x d with e | e
  ·exact b3 e
  ·omega
theorem kA.known {N q:Nat} {vs:List aj} {vi:aj} {ps:List Pr} {sv:aj} {hs:List Hn} {hv:aj} {m k:Nat} {w w':World} (h:kA N q vs vi ps sv hs hv m k w) (n:Xw N q vs vi w w'):∃vs' nr,kA N (q+1) vs' nr ps sv hs hv m k w'∧ak N w w':=by
 obtain ⟨vs',nr,hbk,hlen,QU,hvs,hbl,hot,hcl,hty⟩:=n;have kp:∀x,DH ps sv hs hv x->w'.heap[x]? =w.heap[x]?:=fun x c=>by
  obtain ⟨a1,a2⟩:=h.wg.Xy c;exact hot x a2 (by omega) (fun e=>(h.bd x (.inl e)).2.2 c)
 have hz:=hbl.size;have hnt:=hty _ h.wg.wa.nt;refine ⟨vs',nr,⟨⟨⟨dB h.wg.wa.lt hz,hbk.fz,fun j hj hj3=>?_,(hcl 3 (by decide)).trans h.wg.wa.st,dz h.wg.wa.own (fun x e=>kp x (.inl e)),fun i p hi=>⟨?_,(h.wg.wa.pr i p hi).2⟩,h.wg.wa.sep,h.wg.wa.row,hnt⟩,dz h.wg.ho (fun x e=>kp x (.inr (.inl e))),fun j a hj=>⟨?_,(h.wg.hn j a hj).2⟩,h.wg.sp,h.wg.sh,h.wg.sr,h.wg.rp,h.wg.rr⟩,hbk,hlen,fun x c=>?_,h.tab.below h.pos hbl,h.pos⟩,hbl⟩
 ·by_cases e4:j=4
  ·subst e4;rw [cq,hcl 4 (by decide)];have:=h.wg.wa.bk 4 (by decide) (by decide);rw [cq] at this;exact this
  ·rw [bp _ _ _ _ e4];by_cases e2:j=2
   ·subst e2;exact hbk.cf
   ·have:=hbk.cn j (by omega) e2;unfold zj;rw [if_neg e2];exact this
 ·exact (h.wg.wa.pr i p hi).1.up hz (fun x hx=>kp x (.inr (.inr (.inl ⟨i,p,hi,hx⟩))))
 ·obtain ⟨⟨p,hp,hn⟩,_⟩:=h.wg.hn j a hj;exact ⟨p,hp,hn.kept hz (fun x hx=>kp x (.inr (.inr (.inr ⟨j,a,hj,hx⟩))))⟩
 ·have old:Xx vs vi x∨(w.heap.size<=x∧x<w'.heap.size):=by
   rcases c with c | ⟨v,hv,c⟩
   ·rcases QU x c with e | e
    ·exact .inl (.inl e)
    ·exact .inr ⟨e,(aR hbk.row x c).2⟩
   ·rcases hvs v hv with e | e
    ·exact .inl (.inr ⟨v,e,c⟩)
    ·exact .inr (e x c)
  rcases old with e | ⟨e1,e2⟩
  ·obtain ⟨b1,b2,b3⟩:=h.bd x e;exact ⟨b1,by omega,b3⟩
  ·exact ⟨by have:=h.wg.wa.lt;omega,e2,fun d=>by have:=(h.wg.Xy d).2;omega⟩
end
end Go.Proofs.YtmmflekajbeamaaGreatDoor
