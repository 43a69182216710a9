/- Texts of ours, joined, in few bytes. -/
import Derived.Test.YtmmflekajbeamaaGreatDoorE16
open ByteArray renaming size_extract->rP
open Go renaming Calls->av,Ending->eL,TypeId->cE,Value->aj,block_lt_of_cell->mA,bodyPost_ret->cL,heap_alloc_new->bg,maxLen->cP,plainElem->Gl,plainElem_int->DY,results_cell_row->jl,wpList_load_row->qO,wpList_store_row->tX,wpStill_nil->jC,wp_append_lies->Rg
open Go.Instr renaming lookup->JB
open Go.Lit renaming int->DW
open Go.Maps renaming has->AL
open Go.Proofs.Tryz renaming func188->YC,ntmps188->YD,prog->au,underlying129->Gs,underlying175->nG,underlying3->pO,underlying57->AV
open Go.RowKit renaming Below->ak
open Go.RowKit.Below renaming heap_alloc->cM,refl->aA
open Go.Value renaming slice->mQ
open Go.WalkArith renaming wf_i64->Gm
open Go.World renaming cell?->cU,cell?_of_block->aP,frozen?_of_block->fS,news_of_block->mP
open List renaming drop_succ_cons->j6,drop_zero->iE,getElem?_append_right->lD,length_append->dK,length_cons->jM,length_drop->om,map_cons->zo,map_nil->AU,take_succ_cons->j5,take_zero->jU
open Nat renaming le_of_lt->iP,le_refl->ax,le_trans->aT,lt_of_lt_of_le->dB,lt_succ_of_lt->Nz,zero_le->bK
open Option.some renaming inj->oN
namespace Go.Proofs.YtmmflekajbeamaaGreatDoor
set_option maxRecDepth 100000
set_option maxHeartbeats 4000000
section
open Go.RowKit Go.Maps Go.WideMaps
theorem PD (l:List cD):(jj l).length=l.length * 2:=by
 induction l with
 | nil=>rfl
 | cons k l ih=>rw [K5,jM,jM,ih,jM];omega
def K7 (B N o:Nat) (l':List cD) (mv v:aj) (w:World) (e':eL) (w':World):Prop:=
 e'= .returned (.tuple #[])∧∃oB v',fE B N o l' oB v' w'∧lm B N o mv v w w'∧∀g,jz oB v' g->jz mv v g∨w.heap.size<=g
theorem amK (B N o:Nat) (l:List cD) (b:Nat) (v:aj) (ws:List Nat) (p:ByteArray) (w:World) (h:fE B N o l (.map (some b)) v w) (hBN:B<=N) (hf:∀j,w.frozen? ⟨N,j,none⟩=false) (hw:gO ws) (hn:ws∉cu l) (hl:l.length<=1000000000000):
 av au 190 #[.pointer (some ⟨N,o,none⟩),.agg (S (aD ws)),.string p] w (K7 B N o (l ++ [(ws,aC p)]) (.map (some b)) v w):=by
 have Aj:=h.lt;have HL:=af hl;have lp:=af hw;have fo:=af hn;have K8:=af hBN;have Uu:=h.c0;obtain ⟨X,hX⟩:∃X,X=w.heap.size:=⟨_,rfl⟩;have HX:Hid (¬jz (.map (some b)) v X):=fun q=>by have:=(h.has q).2.1;omega
 obtain ⟨W,hW⟩:∃W,W=w.alloc (.cells (S (aD ws)) 187):=⟨_,rfl⟩;have hrow:W.heap[X]? =some (.cells (S (aD ws)) 187 (0,0)):=by rw [hW,hX,bg]
 have hbW:ak w.heap.size w W:=by rw [hW];exact (aA _ _).alloc (ax _) _
 have HW:=af (h.up hbW);have HF:Hid (∀j,W.frozen? ⟨N,j,none⟩=false):=fun j=>(fS (hbW.block N Aj)).trans (hf j);have eO:Hid (∀W',lm B N o (.map (some b)) v W W'->lm B N o (.map (some b)) v w W'):=fun W' k=>(lm.above (aT hBN (iP Aj)) Aj hbW).trans (fun g q=>.inl q) k;have G3:Hid (∀g,jz (.map (some b)) v g->jz (.map (some b)) v g∨w.heap.size<=g):=fun g q=>.inl q;have PE:=af hbW.size;have me:=acm b;have BD:=af hW;have Uv:=af hX;clear h hbW hf hn hw hl hBN hX hW;have c0:=HW.out.c0;have c1:=HW.out.c1;have g0:=HF.out o;have g1:=HF.out (o+1);obtain ⟨D,hown,oY⟩:∃D,W.ownsMap au 187 (Gl au 3) b l.length D∧Db D (cu l):=by
  rcases HW.out.mp with ⟨q,_⟩ | ⟨b',D,q,_,hm,ht⟩
  ·cases q
  ·cases q;exact ⟨D,hm,ht⟩
 obtain ⟨va,vc,hv⟩:=bA HW.out.ls;obtain ⟨x,hrun⟩:∃x,(JB 129 (.map (some b)) (.agg (S (aD ws))) true).run au W.drew= .ok (.tuple #[x,.bool false]) W.drew:=by
  obtain ⟨x,ps',hrun,hx⟩:=(hown.drew).look_ok yC Gs (Eo _) (DY (H:=Unit) pO (a:=0) (by decide)) (xo lp.out);have hf:AL D (kW ws)=false:=by
   cases hq:AL D (kW ws)
   ·rfl
   ·exact absurd ((oY ws lp.out).1.1 hq) fo.out
  rw [hf] at hrun;exact ⟨x,hrun⟩
 have HK:=af (xo lp.out);have Ko:=af (oY.add hown.isMap lp.out fo.out);have Kq:=af (hown.drew.drew);have hl':l.length<cP:=by have:=HL.out;unfold cP;omega
 have CK:(DW .i64 (l.length:Int)).wf=true:=by
  have:=HL.out;refine Gm ?_<;>omega
 have Ak:=af CK;have Uw:=af hl';have vv:=af (fun w'=>OE ws w' lp.out.1 lp.out.2);obtain ⟨inf,cJ,hz,cW,hby⟩:=EU;have gJ:=af cJ;have HZ:=af hz;have dR:=af cW;have gK:=af hby;have HV:=af hv;rw [hv] at c1;have p9:X≠b:=fun e=>HX.out (.inl (by rw [e]));have Ux:some X≠(mQ va l.length vc).ownBlock:=fun e=>HX.out (.inr (by rw [HV.out,<-e]));have nJ:cu l=cu l:=rfl;have Uy:Hid ((cu l).length=l.length):=by unfold Hid cu;simp
 have hN:N<W.heap.size:=HW.out.lt;have mX:=nT lp.out.1;clear hown oY cJ hz cW hby hv hl' CK nJ;generalize K9:l.length=L at *;have kr:=af K9;clear K9;generalize hQ:aD ws=z at *;clear hQ;obtain ⟨a0,a1,a2,a3,a4,a5,a6,a7,a8,rfl⟩:=Uq z mX;simp only [S,zo,AU] at *;have q0:W.cell? ⟨X,0,none⟩=some (.int .i64 a0):=by simp [cU,hrow]
 have q1:W.cell? ⟨X,1,none⟩=some (.int .i64 a1):=by simp [cU,hrow]
 have q2:W.cell? ⟨X,2,none⟩=some (.int .i64 a2):=by simp [cU,hrow]
 have q3:W.cell? ⟨X,3,none⟩=some (.int .i64 a3):=by simp [cU,hrow]
 have q4:W.cell? ⟨X,4,none⟩=some (.int .i64 a4):=by simp [cU,hrow]
 have q5:W.cell? ⟨X,5,none⟩=some (.int .i64 a5):=by simp [cU,hrow]
 have q6:W.cell? ⟨X,6,none⟩=some (.int .i64 a6):=by simp [cU,hrow]
 have q7:W.cell? ⟨X,7,none⟩=some (.int .i64 a7):=by simp [cU,hrow]
 have q8:W.cell? ⟨X,8,none⟩=some (.int .i64 a8):=by simp [cU,hrow]
 clear hrow;go_enter Tryz.func190,Tryz.ntmps190;go_wp2_with fail
 have BF:=BD.out;have La:=Uv.out;rw [<-BF,<-La];clear BF La Uu Aj me;refine xV (by kernel_rfl) (by kernel_rfl) ?_
 repeat still_step
 refine jC ?_;go_wp2_with fail
 refine qp 6 (by kernel_rfl) (by kernel_rfl) ?_;simp only [j5,jU,j6,iE]
 repeat still_step
 refine jC ?_;go_wp2_with (at_mapUpdate;refine wpList_mapUpdate_own _ rfl _ _ _ 129 rfl 187 3 yC Gs _ b L D rfl Kq.out Uw.out _ _ (kW ws) rfl rfl HK.out (.lit (.int .i64 (L:Int))) [] (DY pO Ak.out) ?_;intro w3 CL CM;have H3:=af CL;have iL:=af CM;clear CL CM)
 have oC:X<W.heap.size:=mA q0;have kk:∀g j,g<W.heap.size->g≠b->w3.cell? ⟨g,j,none⟩=W.cell? ⟨g,j,none⟩:=fun g j h1 h2=>aP (iL.out.block g h1 (fun e=>h2 (oN e)));have hNb:N≠b:=fun e=>(HW.out.has (g:=b) (.inl rfl)).2.2 e.symm;have oZ:W.heap.size<=w3.heap.size:=iL.out.size;have d0:=(kk N o hN hNb).trans c0;have d1:=(kk N (o+1) hN hNb).trans c1;have t0:=(kk X 0 oC p9).trans q0;have t1:=(kk X 1 oC p9).trans q1;have t2:=(kk X 2 oC p9).trans q2;have t3:=(kk X 3 oC p9).trans q3;have t4:=(kk X 4 oC p9).trans q4;have t5:=(kk X 5 oC p9).trans q5;have t6:=(kk X 6 oC p9).trans q6;have t7:=(kk X 7 oC p9).trans q7;have t8:=(kk X 8 oC p9).trans q8;have Uz:Hid (∀j,w3.frozen? ⟨N,j,none⟩=false):=fun j=>(fS (iL.out.block N hN (fun e=>hNb (oN e)))).trans (HF.out j);have o9:Hid (w3.ownsRow B 127 2 (.slice va L vc) L (jj l)):=by
  have:=HW.out.ls;rw [HV.out,kr.out] at this;exact dz this (fun g hg=>iL.out.block g (aR this g hg).2 (fun e=>by have:=HW.out.apart;rw [HV.out] at this;exact this (by rw [<-oN e];exact hg)))
 clear hrun kk q0 q1 q2 q3 q4 q5 q6 q7 q8 c0 c1 g0 g1;refine ug 6 4 (fun w'=>w'.cell? ⟨N,o+1,none⟩=some (.slice va L vc)∧w'.cell? ⟨X,0,none⟩=some (.int .i64 a0)∧w'.cell? ⟨X,1,none⟩=some (.int .i64 a1)∧w'.cell? ⟨X,2,none⟩=some (.int .i64 a2)∧w'.cell? ⟨X,3,none⟩=some (.int .i64 a3)∧w'.cell? ⟨X,4,none⟩=some (.int .i64 a4)∧w'.cell? ⟨X,5,none⟩=some (.int .i64 a5)∧w'.cell? ⟨X,6,none⟩=some (.int .i64 a6)∧w'.cell? ⟨X,7,none⟩=some (.int .i64 a7)∧w'.cell? ⟨X,8,none⟩=some (.int .i64 a8)) (by kernel_rfl) (by kernel_rfl) (fun d _ _ _ _ h=>by cases d<;>exact h) ⟨d1,t0,t1,t2,t3,t4,t5,t6,t7,t8⟩ ?_;simp only [j5,jU,j6,iE]
 iterate 6
  refine mT ?_ rfl ?_ ?_
  rotate_left
  ·rintro w' ⟨e1,f0,f1,f2,f3,f4,f5,f6,f7,f8⟩;go_simp;rfl
  go_simp
 refine uf ?_;refine iQ rfl (fun K hK=>?_);go_simp;refine (aq vv _).mono ?_;rintro e w5 ⟨rfl,fD⟩;have jS:Hid (ak w3.heap.size w3 w5):=((aA w3.heap.size w3).drew).trans fD;clear fD;have xj:=jS.out.size;have oD:X<w3.heap.size:=dB oC oZ;have jE:N<w3.heap.size:=dB hN oZ;have k5:∀g j,g<w3.heap.size->w5.cell? ⟨g,j,none⟩=w3.cell? ⟨g,j,none⟩:=fun g j h1=>aP (jS.out.block g h1);have s1:=(k5 N (o+1) jE).trans d1;have s0:=(k5 N o jE).trans d0;have u0:=(k5 X 0 oD).trans t0;have u1:=(k5 X 1 oD).trans t1;have u2:=(k5 X 2 oD).trans t2;have u3:=(k5 X 3 oD).trans t3;have u4:=(k5 X 4 oD).trans t4;have u5:=(k5 X 5 oD).trans t5;have u6:=(k5 X 6 oD).trans t6;have u7:=(k5 X 7 oD).trans t7;have u8:=(k5 X 8 oD).trans t8;clear k5 d0 d1 t0 t1 t2 t3 t4 t5 t6 t7 t8;go_simp;refine hK _ _ ⟨s1,u0,u1,u2,u3,u4,u5,u6,u7,u8⟩ ?_;clear hK K;refine iQ rfl (fun K hK=>?_);go_simp;refine hK _ _ ⟨s1,u0,u1,u2,u3,u4,u5,u6,u7,u8⟩ ?_;clear hK K;refine iQ rfl (fun K hK=>?_);go_simp;have mY:X<w5.heap.size:=dB oD xj;have p6:N<w5.heap.size:=dB jE xj;have k6:∀ob g j,g<w5.heap.size->(w5.alloc ob).cell? ⟨g,j,none⟩=w5.cell? ⟨g,j,none⟩:=fun ob g j h1=>aP (cM w5 ob g h1);refine hK _ _ ⟨(k6 _ N (o+1) p6).trans s1,(k6 _ X 0 mY).trans u0,(k6 _ X 1 mY).trans u1,(k6 _ X 2 mY).trans u2,(k6 _ X 3 mY).trans u3,(k6 _ X 4 mY).trans u4,(k6 _ X 5 mY).trans u5,(k6 _ X 6 mY).trans u6,(k6 _ X 7 mY).trans u7,(k6 _ X 8 mY).trans u8⟩ ?_;clear hK K;refine iQ rfl (fun K hK=>?_);have jf:Hid ((w5.alloc (.cells #[.string (ah (aQ ws)),.string ⟨#[]⟩] 127)).ownsRow B 127 2 (.slice va L vc) L (jj l)):=(dX o9.out jS.out).alloc _;refine Rg _ _ _ 57 rfl B 127 inf _ 2 32 AV gJ.out HZ.out dR.out gK.out rfl (by decide) (.slice va L vc) L (jj l) rfl jf.out ⟨w5.heap.size,0,none⟩ 1 1 [.string (ah (aQ ws)),.string ⟨#[]⟩] rfl rfl (mP (bg w5 _)) (fun u hu=>by simp at hu;rcases hu with rfl | rfl<;>rfl) (by decide) (by have:=HL.out;unfold cP;omega) (by have:=HL.out;omega) (by rw [aB];have:=K8.out;omega) (w5.heap.size+1) (by rw [aB]) ?_;intro g cap w4 wN qR wO aae;have zS:some N≠(mQ va L vc).ownBlock:=fun q=>HW.out.nv (by rw [HV.out];exact q.symm);have k1:∀j,w4.cell? ⟨N,j,none⟩=w5.cell? ⟨N,j,none⟩:=fun j=>by
  rw [qR.cell_far ⟨N,j,none⟩ (by rw [aB];exact Nz p6) zS];exact aP (cM w5 _ N p6)
 have k2:∀j,w4.frozen? ⟨N,j,none⟩=false:=fun j=>by
  rw [qR.frozen_far ⟨N,j,none⟩ (by rw [aB];exact Nz p6) zS];exact (fS (w:=w5) (cM w5 _ N p6)).trans ((fS (jS.out.block N jE)).trans (Uz.out j))
 have k3:∀j,w4.cell? ⟨X,j,none⟩=w5.cell? ⟨X,j,none⟩:=fun j=>by
  rw [qR.cell_far ⟨X,j,none⟩ (by rw [aB];exact Nz mY) Ux];exact aP (cM w5 _ X mY)
 have vm:Hid (∀W',W'=w4.setCell ⟨N,o+1,none⟩ (.slice (some ⟨g,0,none⟩) (L+1) cap)->fE B N o (l ++ [(ws,[])]) (.map (some b)) (.slice (some ⟨g,0,none⟩) (L+1) cap) W'∧lm B N o (.map (some b)) v W W'):=fun W' BG=>by
  have key:=acn (w:=W) (w0:=W.drew.drew) (w3:=w3) (w5:=w5.alloc (.cells #[.string (ah (aQ ws)),.string ⟨#[]⟩] 127)) (w4:=w4) (W:=W') HW.out K8.out lp.out fo.out (((aA _ _).drew).drew) iL.out (by rw [kr.out];exact H3.out) (by have:=Ko.out;rw [Uy.out] at this;exact this) (jS.out.alloc xj _) g cap (by rw [kr.out];exact wN) (by rw [HV.out];exact qR) (by rw [HV.out];rcases wO with q | q;exact .inl q;exact .inr (by omega)) (by rw [kr.out];exact BG);rw [kr.out] at key;exact key
 have wR:Hid (v.ownBlock=some g∨W.heap.size<=g):=by unfold Hid;rw [HV.out];rcases wO with q | q;exact .inl q;exact .inr (by omega)
 refine hK _ _ ⟨(k1 (o+1)).trans s1,(k3 0).trans u0,(k3 1).trans u1,(k3 2).trans u2,(k3 3).trans u3,(k3 4).trans u4,(k3 5).trans u5,(k3 6).trans u6,(k3 7).trans u7,(k3 8).trans u8⟩ ?_;have y1:=(k1 (o+1)).trans s1;have y0:=(k1 o).trans s0;have yf:=k2 (o+1);have h4L:w4.frozen? ⟨g,L * 2+1,none⟩=false:=wN.frozenAt _
 have UA:∃u,w4.cell? ⟨g,L * 2+1,none⟩=some u:=⟨_,by
  rw [wN.cellAt (L * 2+1) (by omega),lD (by rw [PD,kr.out];omega),PD,kr.out,show L * 2+1 - L * 2=1 by omega]
  rfl⟩
 obtain ⟨u,hu⟩:=UA;have sZ:g≠N:=by
  rcases wO with q | q
  ·exact fun e=>zS (by rw [<-e];exact q.symm)
  ·omega
 clear wN qR wO k1 k3 k2 s0 s1 u0 u1 u2 u3 u4 u5 u6 u7 u8 hK K k6;unfold oy;have Lb:¬(L:Int)<0:=by omega
 have hL1:(L:Int)<((L+1:Nat):Int):=by omega
 go_wp2_with fail
 go_end0
 obtain ⟨e1,e2⟩:=vm.out _ rfl;have e3:=e1.Up (n:=l.length) (k:=(ws,[])) (g:=g) (c:=cap) (by simp) (by rw [dK,kr.out];rfl) (aC p);rw [nK,kr.out] at e3;have own:∀g',jz (.map (some b)) (.slice (some ⟨g,0,none⟩) (L+1) cap) g'->jz (.map (some b)) v g'∨W.heap.size<=g':=fun g' q=>by
  rcases q with q | q
  ·exact .inl (.inl q)
  ·cases q;rcases wR.out with a | a
   ·exact .inl (.inr a)
   ·exact .inr a
 have e4:(l ++ [(ws,[])]).set L (ws,aC p)=l ++ [(ws,aC p)]:=by rw [<-kr.out];simp
 rw [e4] at e3;refine ⟨rfl,_,_,e3.1,eO.out _ (e2.trans own e3.2),fun g' q=>?_⟩;rcases own g' q with a | a
 ·exact G3.out g' a
 ·exact .inr (aT PE.out a)
theorem amM (B N o:Nat) (v:aj) (ws:List Nat) (p:ByteArray) (w:World) (h:fE B N o [] (.map none) v w) (hBN:B<=N) (hf:∀j,w.frozen? ⟨N,j,none⟩=false) (hw:gO ws):
 av au 190 #[.pointer (some ⟨N,o,none⟩),.agg (S (aD ws)),.string p] w (K7 B N o ([] ++ [(ws,aC p)]) (.map none) v w):=by
 have Aj:=h.lt;have Uu:=h.c0;obtain ⟨l,hl0⟩:∃l:List cD,l=[]:=⟨[],rfl⟩;have HL:Hid (l.length<=1000000000000):=by unfold Hid;rw [hl0];exact bK _
 have fo:Hid (ws∉cu l):=by unfold Hid;rw [hl0];exact List.not_mem_nil
 have lp:=af hw;have K8:=af hBN;obtain ⟨X,hX⟩:∃X,X=w.heap.size:=⟨_,rfl⟩;obtain ⟨b,hb⟩:∃b,b=w.heap.size+1:=⟨_,rfl⟩;have hs0:(w.alloc (.cells (S (aD ws)) 187)).heap.size=w.heap.size+1:=aB _ _;have hb0:ak w.heap.size w (w.alloc (.cells (S (aD ws)) 187)):=(aA _ _).alloc (ax _) _;obtain ⟨W,hW⟩:∃W,W=((w.setCell ⟨N,o,none⟩ (.map (some (w.heap.size+1)))).alloc (.cells (S (aD ws)) 187)).alloc (.map #[] 0):=⟨_,rfl⟩;have BG:W=((w.alloc (.cells (S (aD ws)) 187)).alloc (.map #[] 0)).setCell ⟨N,o,none⟩ (.map (some (w.heap.size+1))):=by rw [hW,World.aco _ _ _ _ Aj,World.aco _ _ _ _ (by show N<_;rw [aB];omega)]
 have made:=h.made hBN hb0 W (by rw [BG,hs0]);rw [hs0,<-hb] at made;have HX:Hid (¬jz (.map (some b)) v X):=fun q=>by
  rcases q with q | q
  ·cases q;omega
  ·have:=(aR h.ls X q).2;omega
 have hrow:W.heap[X]? =some (.cells (S (aD ws)) 187 (0,0)):=by rw [BG,bB (by omega),cM _ _ _ (by rw [hs0];omega),hX,bg]
 have HW:Hid (fE B N o l (.map (some b)) v W):=by unfold Hid;rw [hl0];exact made.1
 have HF:Hid (∀j,W.frozen? ⟨N,j,none⟩=false):=fun j=>(made.2.fz j).trans (hf j);have G3:Hid (∀g,jz (.map (some b)) v g->jz (.map none) v g∨w.heap.size<=g):=fun g q=>by
  rcases q with q | q
  ·cases q;exact .inr (by omega)
  ·exact .inl (.inr q)
 have eO:Hid (∀W',lm B N o (.map (some b)) v W W'->lm B N o (.map none) v w W'):=fun W' k=>made.2.trans G3.out k;have PE:Hid (w.heap.size<=W.heap.size):=made.2.below.size;have me:=amH;have mk:∀w,(Instr.makeMap 129 none).run au w= .ok (.map (some w.heap.size)) (w.alloc (.map #[] 0)):=fun w=>rfl;have gw0:=hf o;have BD:=af hW;have Uv:=af hX;have hNz:¬N=w.heap.size:=by omega
 suffices HH:av au 190 #[.pointer (some ⟨N,o,none⟩),.agg (S (aD ws)),.string p] w (K7 B N o (l ++ [(ws,aC p)]) (.map none) v w) by rw [hl0] at HH;exact HH
 clear h hf hw hBN hX hW BG hs0 hb0 made hl0 hb;have c0:=HW.out.c0;have c1:=HW.out.c1;have g0:=HF.out o;have g1:=HF.out (o+1);obtain ⟨D,hown,oY⟩:∃D,W.ownsMap au 187 (Gl au 3) b l.length D∧Db D (cu l):=by
  rcases HW.out.mp with ⟨q,_⟩ | ⟨b',D,q,_,hm,ht⟩
  ·cases q
  ·cases q;exact ⟨D,hm,ht⟩
 obtain ⟨va,vc,hv⟩:=bA HW.out.ls;obtain ⟨x,hrun⟩:∃x,(JB 129 (.map (some b)) (.agg (S (aD ws))) true).run au W.drew= .ok (.tuple #[x,.bool false]) W.drew:=by
  obtain ⟨x,ps',hrun,hx⟩:=(hown.drew).look_ok yC Gs (Eo _) (DY (H:=Unit) pO (a:=0) (by decide)) (xo lp.out);have hf:AL D (kW ws)=false:=by
   cases hq:AL D (kW ws)
   ·rfl
   ·exact absurd ((oY ws lp.out).1.1 hq) fo.out
  rw [hf] at hrun;exact ⟨x,hrun⟩
 have HK:=af (xo lp.out);have Ko:=af (oY.add hown.isMap lp.out fo.out);have Kq:=af (hown.drew.drew);have hl':l.length<cP:=by have:=HL.out;unfold cP;omega
 have CK:(DW .i64 (l.length:Int)).wf=true:=by
  have:=HL.out;refine Gm ?_<;>omega
 have Ak:=af CK;have Uw:=af hl';have vv:=af (fun w'=>OE ws w' lp.out.1 lp.out.2);obtain ⟨inf,cJ,hz,cW,hby⟩:=EU;have gJ:=af cJ;have HZ:=af hz;have dR:=af cW;have gK:=af hby;have HV:=af hv;rw [hv] at c1;have p9:X≠b:=fun e=>HX.out (.inl (by rw [e]));have Ux:some X≠(mQ va l.length vc).ownBlock:=fun e=>HX.out (.inr (by rw [HV.out,<-e]));have nJ:cu l=cu l:=rfl;have Uy:Hid ((cu l).length=l.length):=by unfold Hid cu;simp
 have hN:N<W.heap.size:=HW.out.lt;have mX:=nT lp.out.1;clear hown oY cJ hz cW hby hv hl' CK nJ;generalize K9:l.length=L at *;have kr:=af K9;clear K9;generalize hQ:aD ws=z at *;clear hQ;obtain ⟨a0,a1,a2,a3,a4,a5,a6,a7,a8,rfl⟩:=Uq z mX;simp only [S,zo,AU] at *;have q0:W.cell? ⟨X,0,none⟩=some (.int .i64 a0):=by simp [cU,hrow]
 have q1:W.cell? ⟨X,1,none⟩=some (.int .i64 a1):=by simp [cU,hrow]
 have q2:W.cell? ⟨X,2,none⟩=some (.int .i64 a2):=by simp [cU,hrow]
 have q3:W.cell? ⟨X,3,none⟩=some (.int .i64 a3):=by simp [cU,hrow]
 have q4:W.cell? ⟨X,4,none⟩=some (.int .i64 a4):=by simp [cU,hrow]
 have q5:W.cell? ⟨X,5,none⟩=some (.int .i64 a5):=by simp [cU,hrow]
 have q6:W.cell? ⟨X,6,none⟩=some (.int .i64 a6):=by simp [cU,hrow]
 have q7:W.cell? ⟨X,7,none⟩=some (.int .i64 a7):=by simp [cU,hrow]
 have q8:W.cell? ⟨X,8,none⟩=some (.int .i64 a8):=by simp [cU,hrow]
 clear hrow;go_enter Tryz.func190,Tryz.ntmps190;go_wp2_with fail
 have BF:=BD.out;have La:=Uv.out;rw [<-BF,<-La];clear BF La Uu gw0 Aj me mk hNz;refine xV (by kernel_rfl) (by kernel_rfl) ?_
 repeat still_step
 refine jC ?_;go_wp2_with fail
 refine qp 6 (by kernel_rfl) (by kernel_rfl) ?_;simp only [j5,jU,j6,iE]
 repeat still_step
 refine jC ?_;go_wp2_with (at_mapUpdate;refine wpList_mapUpdate_own _ rfl _ _ _ 129 rfl 187 3 yC Gs _ b L D rfl Kq.out Uw.out _ _ (kW ws) rfl rfl HK.out (.lit (.int .i64 (L:Int))) [] (DY pO Ak.out) ?_;intro w3 CL CM;have H3:=af CL;have iL:=af CM;clear CL CM)
 have oC:X<W.heap.size:=mA q0;have kk:∀g j,g<W.heap.size->g≠b->w3.cell? ⟨g,j,none⟩=W.cell? ⟨g,j,none⟩:=fun g j h1 h2=>aP (iL.out.block g h1 (fun e=>h2 (oN e)));have hNb:N≠b:=fun e=>(HW.out.has (g:=b) (.inl rfl)).2.2 e.symm;have oZ:W.heap.size<=w3.heap.size:=iL.out.size;have d0:=(kk N o hN hNb).trans c0;have d1:=(kk N (o+1) hN hNb).trans c1;have t0:=(kk X 0 oC p9).trans q0;have t1:=(kk X 1 oC p9).trans q1;have t2:=(kk X 2 oC p9).trans q2;have t3:=(kk X 3 oC p9).trans q3;have t4:=(kk X 4 oC p9).trans q4;have t5:=(kk X 5 oC p9).trans q5;have t6:=(kk X 6 oC p9).trans q6;have t7:=(kk X 7 oC p9).trans q7;have t8:=(kk X 8 oC p9).trans q8;have Uz:Hid (∀j,w3.frozen? ⟨N,j,none⟩=false):=fun j=>(fS (iL.out.block N hN (fun e=>hNb (oN e)))).trans (HF.out j);have o9:Hid (w3.ownsRow B 127 2 (.slice va L vc) L (jj l)):=by
  have:=HW.out.ls;rw [HV.out,kr.out] at this;exact dz this (fun g hg=>iL.out.block g (aR this g hg).2 (fun e=>by have:=HW.out.apart;rw [HV.out] at this;exact this (by rw [<-oN e];exact hg)))
 clear hrun kk q0 q1 q2 q3 q4 q5 q6 q7 q8 c0 c1 g0 g1;refine ug 6 4 (fun w'=>w'.cell? ⟨N,o+1,none⟩=some (.slice va L vc)∧w'.cell? ⟨X,0,none⟩=some (.int .i64 a0)∧w'.cell? ⟨X,1,none⟩=some (.int .i64 a1)∧w'.cell? ⟨X,2,none⟩=some (.int .i64 a2)∧w'.cell? ⟨X,3,none⟩=some (.int .i64 a3)∧w'.cell? ⟨X,4,none⟩=some (.int .i64 a4)∧w'.cell? ⟨X,5,none⟩=some (.int .i64 a5)∧w'.cell? ⟨X,6,none⟩=some (.int .i64 a6)∧w'.cell? ⟨X,7,none⟩=some (.int .i64 a7)∧w'.cell? ⟨X,8,none⟩=some (.int .i64 a8)) (by kernel_rfl) (by kernel_rfl) (fun d _ _ _ _ h=>by cases d<;>exact h) ⟨d1,t0,t1,t2,t3,t4,t5,t6,t7,t8⟩ ?_;simp only [j5,jU,j6,iE]
 iterate 6
  refine mT ?_ rfl ?_ ?_
  rotate_left
  ·rintro w' ⟨e1,f0,f1,f2,f3,f4,f5,f6,f7,f8⟩;go_simp;rfl
  go_simp
 refine uf ?_;refine iQ rfl (fun K hK=>?_);go_simp;refine (aq vv _).mono ?_;rintro e w5 ⟨rfl,fD⟩;have jS:Hid (ak w3.heap.size w3 w5):=((aA w3.heap.size w3).drew).trans fD;clear fD;have xj:=jS.out.size;have oD:X<w3.heap.size:=dB oC oZ;have jE:N<w3.heap.size:=dB hN oZ;have k5:∀g j,g<w3.heap.size->w5.cell? ⟨g,j,none⟩=w3.cell? ⟨g,j,none⟩:=fun g j h1=>aP (jS.out.block g h1);have s1:=(k5 N (o+1) jE).trans d1;have s0:=(k5 N o jE).trans d0;have u0:=(k5 X 0 oD).trans t0;have u1:=(k5 X 1 oD).trans t1;have u2:=(k5 X 2 oD).trans t2;have u3:=(k5 X 3 oD).trans t3;have u4:=(k5 X 4 oD).trans t4;have u5:=(k5 X 5 oD).trans t5;have u6:=(k5 X 6 oD).trans t6;have u7:=(k5 X 7 oD).trans t7;have u8:=(k5 X 8 oD).trans t8;clear k5 d0 d1 t0 t1 t2 t3 t4 t5 t6 t7 t8;go_simp;refine hK _ _ ⟨s1,u0,u1,u2,u3,u4,u5,u6,u7,u8⟩ ?_;clear hK K;refine iQ rfl (fun K hK=>?_);go_simp;refine hK _ _ ⟨s1,u0,u1,u2,u3,u4,u5,u6,u7,u8⟩ ?_;clear hK K;refine iQ rfl (fun K hK=>?_);go_simp;have mY:X<w5.heap.size:=dB oD xj;have p6:N<w5.heap.size:=dB jE xj;have k6:∀ob g j,g<w5.heap.size->(w5.alloc ob).cell? ⟨g,j,none⟩=w5.cell? ⟨g,j,none⟩:=fun ob g j h1=>aP (cM w5 ob g h1);refine hK _ _ ⟨(k6 _ N (o+1) p6).trans s1,(k6 _ X 0 mY).trans u0,(k6 _ X 1 mY).trans u1,(k6 _ X 2 mY).trans u2,(k6 _ X 3 mY).trans u3,(k6 _ X 4 mY).trans u4,(k6 _ X 5 mY).trans u5,(k6 _ X 6 mY).trans u6,(k6 _ X 7 mY).trans u7,(k6 _ X 8 mY).trans u8⟩ ?_;clear hK K;refine iQ rfl (fun K hK=>?_);have jf:Hid ((w5.alloc (.cells #[.string (ah (aQ ws)),.string ⟨#[]⟩] 127)).ownsRow B 127 2 (.slice va L vc) L (jj l)):=(dX o9.out jS.out).alloc _;refine Rg _ _ _ 57 rfl B 127 inf _ 2 32 AV gJ.out HZ.out dR.out gK.out rfl (by decide) (.slice va L vc) L (jj l) rfl jf.out ⟨w5.heap.size,0,none⟩ 1 1 [.string (ah (aQ ws)),.string ⟨#[]⟩] rfl rfl (mP (bg w5 _)) (fun u hu=>by simp at hu;rcases hu with rfl | rfl<;>rfl) (by decide) (by have:=HL.out;unfold cP;omega) (by have:=HL.out;omega) (by rw [aB];have:=K8.out;omega) (w5.heap.size+1) (by rw [aB]) ?_;intro g cap w4 wN qR wO aae;have zS:some N≠(mQ va L vc).ownBlock:=fun q=>HW.out.nv (by rw [HV.out];exact q.symm);have k1:∀j,w4.cell? ⟨N,j,none⟩=w5.cell? ⟨N,j,none⟩:=fun j=>by
  rw [qR.cell_far ⟨N,j,none⟩ (by rw [aB];exact Nz p6) zS];exact aP (cM w5 _ N p6)
 have k2:∀j,w4.frozen? ⟨N,j,none⟩=false:=fun j=>by
  rw [qR.frozen_far ⟨N,j,none⟩ (by rw [aB];exact Nz p6) zS];exact (fS (w:=w5) (cM w5 _ N p6)).trans ((fS (jS.out.block N jE)).trans (Uz.out j))
 have k3:∀j,w4.cell? ⟨X,j,none⟩=w5.cell? ⟨X,j,none⟩:=fun j=>by
  rw [qR.cell_far ⟨X,j,none⟩ (by rw [aB];exact Nz mY) Ux];exact aP (cM w5 _ X mY)
 have vm:Hid (∀W',W'=w4.setCell ⟨N,o+1,none⟩ (.slice (some ⟨g,0,none⟩) (L+1) cap)->fE B N o (l ++ [(ws,[])]) (.map (some b)) (.slice (some ⟨g,0,none⟩) (L+1) cap) W'∧lm B N o (.map (some b)) v W W'):=fun W' BG=>by
  have key:=acn (w:=W) (w0:=W.drew.drew) (w3:=w3) (w5:=w5.alloc (.cells #[.string (ah (aQ ws)),.string ⟨#[]⟩] 127)) (w4:=w4) (W:=W') HW.out K8.out lp.out fo.out (((aA _ _).drew).drew) iL.out (by rw [kr.out];exact H3.out) (by have:=Ko.out;rw [Uy.out] at this;exact this) (jS.out.alloc xj _) g cap (by rw [kr.out];exact wN) (by rw [HV.out];exact qR) (by rw [HV.out];rcases wO with q | q;exact .inl q;exact .inr (by omega)) (by rw [kr.out];exact BG);rw [kr.out] at key;exact key
 have wR:Hid (v.ownBlock=some g∨W.heap.size<=g):=by unfold Hid;rw [HV.out];rcases wO with q | q;exact .inl q;exact .inr (by omega)
 refine hK _ _ ⟨(k1 (o+1)).trans s1,(k3 0).trans u0,(k3 1).trans u1,(k3 2).trans u2,(k3 3).trans u3,(k3 4).trans u4,(k3 5).trans u5,(k3 6).trans u6,(k3 7).trans u7,(k3 8).trans u8⟩ ?_;have y1:=(k1 (o+1)).trans s1;have y0:=(k1 o).trans s0;have yf:=k2 (o+1);have h4L:w4.frozen? ⟨g,L * 2+1,none⟩=false:=wN.frozenAt _
 have UA:∃u,w4.cell? ⟨g,L * 2+1,none⟩=some u:=⟨_,by
  rw [wN.cellAt (L * 2+1) (by omega),lD (by rw [PD,kr.out];omega),PD,kr.out,show L * 2+1 - L * 2=1 by omega]
  rfl⟩
 obtain ⟨u,hu⟩:=UA;have sZ:g≠N:=by
  rcases wO with q | q
  ·exact fun e=>zS (by rw [<-e];exact q.symm)
  ·omega
 clear wN qR wO k1 k3 k2 s0 s1 u0 u1 u2 u3 u4 u5 u6 u7 u8 hK K k6;unfold oy;have Lb:¬(L:Int)<0:=by omega
 have hL1:(L:Int)<((L+1:Nat):Int):=by omega
 go_wp2_with fail
 go_end0
 obtain ⟨e1,e2⟩:=vm.out _ rfl;have e3:=e1.Up (n:=l.length) (k:=(ws,[])) (g:=g) (c:=cap) (by simp) (by rw [dK,kr.out];rfl) (aC p);rw [nK,kr.out] at e3;have own:∀g',jz (.map (some b)) (.slice (some ⟨g,0,none⟩) (L+1) cap) g'->jz (.map (some b)) v g'∨W.heap.size<=g':=fun g' q=>by
  rcases q with q | q
  ·exact .inl (.inl q)
  ·cases q;rcases wR.out with a | a
   ·exact .inl (.inr a)
   ·exact .inr a
 have e4:(l ++ [(ws,[])]).set L (ws,aC p)=l ++ [(ws,aC p)]:=by rw [<-kr.out];simp
 rw [e4] at e3;refine ⟨rfl,_,_,e3.1,eO.out _ (e2.trans own e3.2),fun g' q=>?_⟩;rcases own g' q with a | a
 ·exact G3.out g' a
 ·exact .inr (aT PE.out a)
end
section
open Go.RowKit
theorem acp {a:cS} (h:a.gen=0) (K:Nat) (q:List UInt8):iH a K q=Aa a K q:=by unfold iH Aa;rw [if_pos h]
theorem acq {a:cS} (h:a.gen≠0) {K:Nat} (hK:K=2) (q:List UInt8):iH a K q=Bv a q:=by subst hK;unfold iH Bv;rw [if_neg h,if_pos rfl]
theorem acr {a:cS} (h:a.gen≠0) {K:Nat} (hK:K=3) (q:List UInt8):iH a K q=Bq a q:=by subst hK;unfold iH Bq;rw [if_neg h,if_neg (by decide),if_pos rfl]
theorem acs {a:cS} (h:a.gen≠0) {K:Nat} (h2:K≠2) (h3:K≠3) (q:List UInt8):iH a K q=none:=by unfold iH;rw [if_neg h,if_neg h2,if_neg h3]
theorem qA.up {A:Nat} {a:cS} {v:aj} {r:Option cS} {w W1:World} {e:eL} {w':World} (hA:A<w.heap.size) (hb:ak w.heap.size w W1) (h:qA A a v r W1 e w'):qA A a v r w e w':=by
 obtain ⟨⟨h1,h2⟩,h3⟩:=h;have hz:=hb.size;refine ⟨⟨(hb.mono (iP hA)).trans h1,fun g hg hn ho=>(h2 g (by omega) hn ho).trans (hb.block g hg)⟩,?_⟩;rcases h3 with ⟨a',v',x1,x2,x3,x4⟩ | x
 ·refine .inl ⟨a',v',x1,x2,x3,fun g hg=>?_⟩;rcases x4 g hg with h | h
  ·exact .inl h
  ·exact .inr (by omega)
 ·exact .inr x
theorem qA.form {A:Nat} {a:cS} {v:aj} {r:Option cS} {w:World} {e:eL} {w':World} (h:qA A a v r w e w'):∃b,e= .returned (.bool b):=by
 obtain ⟨_,⟨_,_,_,rfl,_⟩ | ⟨_,rfl,_⟩⟩:=h
 ·exact ⟨_,rfl⟩
 ·exact ⟨_,rfl⟩
theorem amP (A:Nat) (a:cS) (v:aj) (K:Nat) (q:List UInt8) (n:Int) (w:World) (h:gM A a v w) (ht:bF w) (qn:q.length<=200) (hal:a.list.length<=2000000) (hgg:a.good=0↔a.gen=0):
 av au 188 #[.pointer (some ⟨A,0,none⟩),.agg #[.int .i64 (K:Int),.string (ah q),.int .i64 n]] w (qA A a v (iH a K q) w):=by
 have hA:=h.lt;have hne:¬A=w.heap.size:=by omega
 have g2:w.cell? ⟨A,2,none⟩=some (.int .i64 (a.good:Int)):=h.cell 2;obtain ⟨W1,hW1⟩:∃W1,W1=w.alloc (.cells #[.int .i64 (K:Int),.string (ah q),.int .i64 n] 236):=⟨_,rfl⟩;have b1:ak w.heap.size w W1:=by rw [hW1];exact (aA _ _).alloc (ax _) _
 have a1:=h.above b1;have UB:Hid (∀r e w',qA A a v r W1 e w'->qA A a v r w e w'):=fun r e w' hp=>hp.up hA b1;have HW:=af hW1;by_cases h0:a.good=0
 ·have HC:=af (aka A a v K q n W1 a1 (hgg.1 h0));rw [<-acp (hgg.1 h0)] at HC;rw [h0] at g2;clear b1 a1 hW1;generalize iH a K q=R at *;generalize ah q=D at *;go_enter YC,YD;go_wp2_with fail
  rw [<-HW.out];refine (aq HC).mono ?_;intro e w' hp;obtain ⟨b,rfl⟩:=hp.form;have HP:=af (UB.out _ _ _ hp);clear hp;go_wp2_with fail
  go_ret;exact HP.out
 have yw:a.gen≠0:=fun e=>h0 (hgg.2 e);have h0':((a.good:Int) == 0)=false:=by rw [beq_eq_false_iff_ne];omega
 by_cases h2:K=2
 ·have HC:=af (al0 A a v K q n W1 a1 (ht.below ht.pos b1) qn hal);rw [<-acq yw h2] at HC;have h2t:((K:Int) == 2)=true:=by rw [beq_iff_eq];omega
  clear b1 a1 hW1 h2;generalize iH a K q=R at *;generalize ah q=D at *;go_enter YC,YD;go_wp2_with fail
  rw [<-HW.out];refine (aq HC).mono ?_;intro e w' hp;obtain ⟨b,rfl⟩:=hp.form;have HP:=af (UB.out _ _ _ hp);clear hp;go_wp2_with fail
  go_ret;exact HP.out
 have h2':((K:Int) == 2)=false:=by rw [beq_eq_false_iff_ne];omega
 by_cases h3:K=3
 ·have HC:=af (akc A a v K q n W1 a1);rw [<-acr yw h3] at HC;have h3t:((K:Int) == 3)=true:=by rw [beq_iff_eq];omega
  clear b1 a1 hW1 h3 h2;generalize iH a K q=R at *;generalize ah q=D at *;go_enter YC,YD;go_wp2_with fail
  rw [<-HW.out];refine (aq HC).mono ?_;intro e w' hp;obtain ⟨b,rfl⟩:=hp.form;have HP:=af (UB.out _ _ _ hp);clear hp;go_wp2_with fail
  go_ret;exact HP.out
 have h3':((K:Int) == 3)=false:=by rw [beq_eq_false_iff_ne];omega
 have HP:Hid (qA A a v (iH a K q) w (.returned (.bool false)) W1):=⟨qz.abl hA b1,.inr ⟨acs yw h2 h3 q,rfl,a1⟩⟩;clear b1 a1 hW1 h2 h3;generalize iH a K q=R at *;generalize ah q=D at *;go_enter YC,YD;go_wp2_with fail
 go_ret;rw [<-HW.out];exact HP.out
theorem acu (w:World):(zeroValue 175).run au w= .ok (.agg (bJ 0 false 0 (.slice none 0 0))) w:=by kernel_rfl
theorem iV:(Tryz.prog.info? 175).map (·.size)=some 4:=by kernel_rfl
theorem UC (gen:Nat) (whole:Bool) (good:Nat) (v:aj) (hv:v.oneCell'=true):(bJ gen whole good v).all (·.oneCell')=true:=by
 simp [bJ,Value.oneCell'];exact hv
theorem UD {w:World} {B n:Nat} {v:aj} {xs:List aj} {e:cE} {k:Nat} (h:w.ownsRow B e k v n xs):v.oneCell'=true:=by
 obtain ⟨a,c,rfl⟩:=bA h;rfl
theorem amQ (w:World) (c c':Array aj) (t:cE):(w.alloc (.cells c t)).setRow w.heap.size c'=w.alloc (.cells c' t):=sQ _ _ _ _ _ rfl
theorem acv {ops:Array Oper} {rest:List Oper} {o:Oper} {a:Act} {w:World} {Q:Exit->Act->World->Prop} (hgd:o.guard=none) (x y:Operand) (ho:o.op= .store 236 x y)
 (k:Int) (p:ByteArray) (n:Int) (hx:a.eval x= .pointer (some ⟨w.heap.size,0,none⟩)) (hy:a.eval y= .agg (lg k p n))
 (h:wpList au ops Q rest (a.put o.dst undef) (w.alloc (.cells #[.int .i64 k,.string p,.int .i64 n] 236))):wpList au ops Q (o :: rest) a (w.alloc (.cells (lg 0 (ah []) 0) 236)):=by
 refine Hu hgd x y ho w.heap.size k p n hx hy _ (bg w _) rfl ?_;rw [amQ];exact h
def Dc (A:Nat) (w:World):Nat:=match w.cell? ⟨A,2,none⟩ with | some v=>(intOf v).toNat | none=>0
theorem gM.good {A:Nat} {a:cS} {v:aj} {w:World} (h:gM A a v w):Dc A w=a.good:=by
 unfold Dc;rw [show w.cell? ⟨A,2,none⟩=some (.int .i64 (a.good:Int)) from h.cell 2];simp [intOf]
theorem amR {a a':cS} {k:Nat} {p:List UInt8} (h:iH a k p=some a'):a.list.length<=a'.list.length:=by
 unfold iH at h;split at h
 ·split at h
  ·cases h;exact ax _
  ·cases h
 ·split at h
  ·split at h
   ·cases h;simp
   ·cases h
  ·split at h
   ·split at h
    ·cases h;exact ax _
    ·cases h
   ·cases h
theorem amS:∀(f:Nat) (a:cS) (l:List UInt8),a.list.length<=(nL f a l).list.length:=by
 intro f
 induction f with
 | zero=>intro a l;exact ax _
 | succ f ih=>
   intro a l;rw [nL];cases hf:mS l with
   | none=>exact ax _
   | some x=>
     obtain ⟨k,p⟩:=x;simp only;cases ht:iH a k p with
     | none=>exact ax _
     | some a'=>exact aT (amR ht) (ih a' _)
structure uy (s:ByteArray) (a:cS):Prop where
 le:a.good<=s.size
 iff:a.good=0↔a.gen=0
 few:a.list.length<=a.good
 amT:a.list.length<=(scan (aC s)).list.length
 goes:nL (((aC s).drop a.good).length+1) a ((aC s).drop a.good)=scan (aC s)
theorem uy.zero (s:ByteArray):uy s kH:=⟨bK _,⟨fun _=>rfl,fun _=>rfl⟩,ax _,bK _,rfl⟩
theorem uy.stop {s:ByteArray} {a:cS} (h:uy s a) (hf:mS ((aC s).drop a.good)=none):scan (aC s)=a:=by rw [<-h.goes,nL,hf]
theorem uy.El {s:ByteArray} {a:cS} (h:uy s a) {K:Nat} {q:List UInt8} (hf:mS ((aC s).drop a.good)=some (K,q)) (ht:iH a K q=none):scan (aC s)=a:=by
 rw [<-h.goes,nL,hf];simp only;rw [ht]
theorem uy.step {s:ByteArray} {a a':cS} (h:uy s a) {K:Nat} {q:List UInt8} (hf:mS ((aC s).drop a.good)=some (K,q)) (ht:iH a K q=some a'):uy s a'∧a'.good=a.good+(q.length+8):=by
 obtain ⟨g1,g2,g3⟩:=Sf ht;have hq:=(xU hf).2.2.2.1;rw [om,jr] at hq;have hle:=h.le;have hgo:nL (((aC s).drop a'.good).length+1) a' ((aC s).drop a'.good)=scan (aC s):=by
  rw [<-h.goes]
  conv=>rhs;rw [nL,hf]
  simp only;rw [ht];simp only;rw [List.drop_drop,<-g1];exact (ahI _ _ a' _ (Nat.lt_succ_self _) (by rw [om,om,jr];omega)).symm
 exact ⟨⟨by omega,by omega,by have:=h.few;omega,by rw [<-hgo];exact amS _ _ _,hgo⟩,g1⟩
def Dd (s:ByteArray) (w:World) (e':eL) (w':World):Prop:=
 ak w.heap.size w w'∧∃v,e'= .returned (.agg (bJ (scan (aC s)).gen (scan (aC s)).whole (scan (aC s)).good v))∧w'.ownsRow w.heap.size 127 2 v (scan (aC s)).list.length (bR (scan (aC s)).list)
theorem Al {w:World} {B B' n:Nat} {v:aj} {xs:List aj} {e:cE} {k:Nat} (h:w.ownsRow B e k v n xs) (hb:B'<=B):w.ownsRow B' e k v n xs:=by
 refine ⟨h.1,?_⟩;rcases h.2 with h2 | ⟨g,cap,cur,x1,x2,x3⟩
 ·exact .inl h2
 ·exact .inr ⟨g,cap,cur,x1,by omega,x3⟩
theorem UE {s:ByteArray} {w wr:World} {a:cS} {v:aj} (hs:scan (aC s)=a) (ha:gM (w.heap.size+1) a v wr) (hb:ak w.heap.size w wr) (c:Array aj) (hR:wr.heap[w.heap.size]? =some (.cells c 175 (0,0))):
 (wr.setRow w.heap.size (bJ a.gen a.whole a.good v)).heap[w.heap.size]? =some (.cells (bJ a.gen a.whole a.good v) 175 (0,0))∧Dd s w (.returned (.agg (bJ a.gen a.whole a.good v))) (wr.setRow w.heap.size (bJ a.gen a.whole a.good v)):=by
 refine ⟨setRow_heap wr _ _ _ _ (0,0) hR,iI hb (ax _) _,v,by rw [hs],?_⟩;rw [hs];refine Al (B:=w.heap.size+1+1) (dz ha.list (fun g hg=>setRow_other _ _ _ _ (fun e=>?_))) (by omega);have:=(aR ha.list g hg).1;omega
theorem acw (s:ByteArray) (w:World) (ht:bF w) (hs:s.size<=4611686018427387904) (hsl:(scan (aC s)).list.length<=1048576):
 av au 150 #[.string s] w (Dd s w):=by
 have pZ:=af hsl;clear hsl;have zz:=acu;have zf:=abg;obtain ⟨W0,bq⟩:∃W0,W0=(w.alloc (.cells (bJ 0 false 0 (.slice none 0 0)) 175)).alloc (.cells (bJ 0 false 0 (.slice none 0 0)) 175):=⟨_,rfl⟩;have fV:=af bq;have hb0:ak w.heap.size w W0:=by rw [bq];exact ((aA _ _).alloc (ax _) _).alloc (by rw [aB];omega) _
 have r0:W0.heap[w.heap.size]? =some (.cells (bJ 0 false 0 (.slice none 0 0)) 175 (0,0)):=by rw [bq,cM _ _ _ (by rw [aB];omega),bg]
 have a0:gM (w.heap.size+1) kH (.slice none 0 0) W0:=by
  refine ⟨?_,World.ownsRow_nil _ _ _ _⟩;rw [bq];have:=bg (w.alloc (.cells (bJ 0 false 0 (.slice none 0 0)) 175)) (.cells (bJ 0 false 0 (.slice none 0 0)) 175);rw [aB] at this;exact this
 have HT:=af (fun w' (hb:ak w.heap.size w w')=>ht.below ht.pos hb);have H0:Hid (ak w.heap.size w W0∧W0.heap[w.heap.size]? =some (.cells (bJ 0 false 0 (.slice none 0 0)) 175 (0,0))∧gM (w.heap.size+1) kH (.slice none 0 0) W0):=⟨hb0,r0,a0⟩;clear hb0 r0 a0 bq ht;go_enter Tryz.func150,Tryz.ntmps150;go_wp2_with fail
 rw [<-fV.out];go_loopw [5] (fun _ wr=>∃(a:cS) (v:aj),Hid (uy s a)∧Hid (gM (w.heap.size+1) a v wr∧wr.heap[w.heap.size]? =some (.cells (bJ 0 false 0 (.slice none 0 0)) 175 (0,0))∧ak w.heap.size w wr)) (fun _ wr=>s.size - Dc (w.heap.size+1) wr)
 case atStart=>exact ⟨kH,.slice none 0 0,uy.zero s,H0.out.2.2,H0.out.2.1,H0.out.1⟩
 case round=>
  obtain ⟨a,v,HI,HM⟩:=hrel;have hA:=HM.out.1.lt;have c2:wr.cell? ⟨w.heap.size+1,2,none⟩=some (.int .i64 (a.good:Int)):=HM.out.1.cell 2;have hgl:(a.good:Int)<=(s.size:Int):=by have:=HI.out.le;omega
  have yw:(0:Int)<=(a.good:Int):=by omega
  have HF:=af (aj7 (s.extract a.good s.size) wr (by rw [rP];omega));have o9:Hid (aC (s.extract a.good s.size)=(aC s).drop a.good):=by
   unfold Hid;rw [s9,List.take_of_length_le (by rw [om,jr];omega)]
  go_wp2_with fail
  refine (aq HF).mono ?_;rintro e w1 ⟨hb1,hf⟩;unfold abf at hf;rw [o9.out] at hf;have hz1:=hb1.size;rcases hf with ⟨hn,rfl⟩ | ⟨K,q,hk,rfl⟩
  ·have UF:=af (HI.out.stop hn);have fL:Hid (gM (w.heap.size+1) a v (w1.alloc (.cells #[.int .i64 0,.string (ah []),.int .i64 0] 236))∧(w1.alloc (.cells #[.int .i64 0,.string (ah []),.int .i64 0] 236)).heap[w.heap.size]? =some (.cells (bJ 0 false 0 (.slice none 0 0)) 175 (0,0))∧ak w.heap.size w (w1.alloc (.cells #[.int .i64 0,.string (ah []),.int .i64 0] 236))):=by
    have BB:w.heap.size<wr.heap.size:=by omega
    refine ⟨(HM.out.1.above hb1).alloc _,((cM w1 _ _ (by omega)).trans (hb1.block _ BB)).trans HM.out.2.1,(HM.out.2.2.trans (hb1.mono (by omega))).alloc (by omega) _⟩
   have cR:=af (UE UF.out fL.out.1 fL.out.2.2 _ fL.out.2.1);have hone:=UC a.gen a.whole a.good v (UD HM.out.1.list);clear hb1 hn HF;go_wp2_with (first | (refine acv rfl _ _ rfl 0 (ah []) 0 rfl rfl ?_) | (refine qO rfl 175 _ rfl (w.heap.size+1) rfl 175 (bJ a.gen a.whole a.good v) (0,0) _ fL.out.1.cells nG rfl iV ?_) | (refine tX rfl 175 _ _ rfl w.heap.size (bJ a.gen a.whole a.good v) rfl rfl 175 _ fL.out.2.1 iV rfl hone ?_))
   exact cL (v:=.agg (bJ a.gen a.whole a.good v)) (jl Tryz.results150 _ _ w.heap.size 175 _ _ _ rfl cR.out.1 nG rfl iV) rfl cR.out.2
  ·have acy:=(xU hk).2.2.1;have UG:=(xU hk).2.2.2.1;rw [om,jr] at UG;have hle0:=HI.out.le;obtain ⟨n,hn⟩:∃n:Int,n=((q.length+8:Nat):Int):=⟨_,rfl⟩;rw [<-hn];have BB:w.heap.size+1<wr.heap.size:=hA;obtain ⟨W2,kK⟩:∃W2,W2=w1.alloc (.cells #[.int .i64 (K:Int),.string (ah q),.int .i64 n] 236):=⟨_,rfl⟩;have b2:ak wr.heap.size wr W2:=by rw [kK];exact hb1.alloc (by omega) _
   have a2:=HM.out.1.above b2;have B2:ak w.heap.size w W2:=HM.out.2.2.trans (b2.mono (by omega));have R2:W2.heap[w.heap.size]? =some (.cells (bJ 0 false 0 (.slice none 0 0)) 175 (0,0)):=(b2.block _ (by omega)).trans HM.out.2.1;have F2:W2.heap[w1.heap.size]? =some (.cells #[.int .i64 (K:Int),.string (ah q),.int .i64 n] 236 (0,0)):=by rw [kK,bg]
   have hz2:w1.heap.size<W2.heap.size:=(Array.getElem?_eq_some_iff.1 F2).1;have HC:=af (amP (w.heap.size+1) a v K q n W2 a2 (HT.out _ B2) acy (by have:=HI.out.amT;have:=pZ.out;omega) HI.out.iff);have hvl:∀g,v.ownBlock=some g->g<wr.heap.size:=fun g hg=>(aR HM.out.1.list g hg).2;have HVl:=af hvl;have l6:=af kK;have aZ:=af B2;have dW:=af R2;have pF:=af F2;have HK:=af hk;have eB:=af hn;clear hb1 HF kK b2 a2 B2 R2 F2 hk hvl hn;generalize ah q=D at *;go_wp2_with (refine acv rfl _ _ rfl K D n rfl rfl ?_)
   rw [<-l6.out];refine (aq HC).mono ?_;rintro e w3 ⟨⟨bn,oX⟩,⟨a',v',hr,rfl,qb,hv3⟩ | ⟨hr,rfl,qb⟩⟩
   ·obtain ⟨hst,hgd⟩:=HI.out.step HK.out hr;have R3:w3.heap[w.heap.size]? =some (.cells (bJ 0 false 0 (.slice none 0 0)) 175 (0,0)):=(oX _ (by omega) (by omega) (fun e=>by have:=(aR HM.out.1.list _ e).1;omega)).trans dW.out;have F3:w3.heap[w1.heap.size]? =some (.cells #[.int .i64 (K:Int),.string D,.int .i64 n] 236 (0,0)):=(oX _ hz2 (by omega) (fun e=>by have:=HVl.out _ e;omega)).trans pF.out;have k2:w3.cell? ⟨w1.heap.size,2,none⟩=some (.int .i64 n):=cF F3 2;have B3:ak w.heap.size w w3:=aZ.out.trans (bn.mono (by omega));have g2:w3.cell? ⟨w.heap.size+1,2,none⟩=some (.int .i64 (a.good:Int)):=qb.cell 2;have f2:=qb.frozen 2;have hn':n=(q.length:Int)+8:=by rw [eB.out];omega
    have kJ:(a.good:Int)+n=(a'.good:Int):=by rw [hn',hgd];omega
    have hnb:(0:Int)<=n∧n<=208:=by omega
    have Io:gM (w.heap.size+1) a' v' (w3.setCell ⟨w.heap.size+1,2,none⟩ (.int .i64 (a'.good:Int))):=qb.turn (a':=a') 2 _ rfl rfl;have CR:=af Io;have Pq:Hid ((w3.setCell ⟨w.heap.size+1,2,none⟩ (.int .i64 (a'.good:Int))).heap[w.heap.size]? =some (.cells (bJ 0 false 0 (.slice none 0 0)) 175 (0,0))):=(dU _ _ (by omega)).trans R3;have mU:Hid (ak w.heap.size w (w3.setCell ⟨w.heap.size+1,2,none⟩ (.int .i64 (a'.good:Int)))):=B3.setCell (p:=⟨w.heap.size+1,2,none⟩) (Nat.le_succ _) _;have cH:=af hst;have UH:=af hgd;have HMe:Hid (s.size - Dc (w.heap.size+1) (w3.setCell ⟨w.heap.size+1,2,none⟩ (.int .i64 (a'.good:Int)))<s.size - Dc (w.heap.size+1) wr):=by
     unfold Hid;rw [Io.good,HM.out.1.good];have:=hst.le;omega
    clear bn oX qb hv3 R3 F3 B3 Io hst hgd hr HC HK hn';go_wp2_with fail
    exact ⟨⟨a',v',cH.out,CR.out,Pq.out,mU.out⟩,HMe.out⟩
   ·have UF:=af (HI.out.El HK.out hr);have R3:w3.heap[w.heap.size]? =some (.cells (bJ 0 false 0 (.slice none 0 0)) 175 (0,0)):=(oX _ (by omega) (by omega) (fun e=>by have:=(aR HM.out.1.list _ e).1;omega)).trans dW.out;have B3:ak w.heap.size w w3:=aZ.out.trans (bn.mono (by omega));have cR:=af (UE UF.out qb B3 _ R3);have hone:=UC a.gen a.whole a.good v (UD HM.out.1.list);have vB:=af qb;have De:=af R3;clear bn oX qb R3 B3 hr HC HK;go_wp2_with (first | (refine qO rfl 175 _ rfl (w.heap.size+1) rfl 175 (bJ a.gen a.whole a.good v) (0,0) _ vB.out.cells nG rfl iV ?_) | (refine tX rfl 175 _ _ rfl w.heap.size (bJ a.gen a.whole a.good v) rfl rfl 175 _ De.out iV rfl hone ?_))
    exact cL (v:=.agg (bJ a.gen a.whole a.good v)) (jl Tryz.results150 _ _ w.heap.size 175 _ _ _ rfl cR.out.1 nG rfl iV) rfl cR.out.2
end
end Go.Proofs.YtmmflekajbeamaaGreatDoor
