/- Texts of ours, joined, in few bytes. -/
import Derived.Test.YtmmflekajbeamaaGreatDoorE22
open Go renaming Calls->av,Value->aj,bodyPost_ret->cL,execOp->kF,heap_alloc_new->bg,maxLen->cP,results_cell_row->jl,wpStill_nil->jC
open Go.Ending renaming returned->kS
open Go.Instr renaming loadAt->kR
open Go.Proofs.Tryz renaming func156->zx,ntmps156->zy,prog->au,results156->zA,underlying187->nE,underlying28->jO
open Go.Result renaming andThen->kN
open Go.RowKit renaming Below->ak,wrap64->aY
open Go.RowKit.Below renaming refl->aA
open Go.Sem renaming run->qi,run_bind->kB
open List renaming drop_succ_cons->j6,drop_zero->iE,getD_eq_getElem?_getD->bP,getElem?_eq_getElem->bE,getElem?_eq_none->lE,getElem_cons_succ->xO,getElem_cons_zero->vY,getElem_toArray->vX,take_succ_cons->j5,take_zero->jU
open Nat renaming le_refl->ax,le_succ_of_le->JR,le_trans->aT,lt_or_ge->oM
open Option renaming getD_some->Nf
namespace Go.Proofs.YtmmflekajbeamaaGreatDoor
set_option maxRecDepth 100000
set_option maxHeartbeats 8000000
section
open Go.RowKit
theorem apE (B:Nat) (pa:Option Addr) (pc:Nat) (ps:List aH) (w:World) (ho:w.ownsRow B 123 5 (.slice pa ps.length pc) ps.length (dM ps)) (hl:ps.length<=8) (hw:∀p∈ps,okB p):
 av au 214 #[.slice pa ps.length pc] w fun e' w'=>ak w.heap.size w w'∧∃v,e'= .returned v∧w'.ownsRow w.heap.size 123 5 v (idle ps).length (dM (idle ps)):=
 callsIn_wide.1 (apo B pa pc ps w ho hl hw)
theorem apF (s:ByteArray) (w:World) (ht:bF w) (hs:s.size<=cP):
 av au 175 #[.string s] w (Fe s w):=by
 have z9:=Ey;have j9:=af (Ow s w ht hs);have pW:=af ht;have hpos:=ht.pos;clear ht;go_enter Tryz.func175,Tryz.ntmps175;go_wp2_with fail
 refine (aq j9).mono ?_;rintro e w1 ⟨hb1,⟨hok,rfl⟩ | ⟨hno,rfl⟩⟩
 ·have aJ:=af hb1;have fK:=af hok;have hz1:=hb1.size;have h8:s.size / 4<=8:=by have:=hok.2.1;omega
  have hzl:=nT (ws:=dV s (s.size / 4)) (by rw [qx];exact h8);obtain ⟨W3,eY⟩:∃W3,W3=w1.alloc (.cells (S (aD (dV s (s.size / 4)))) 187):=⟨_,rfl⟩;have HW:=af eY;have r3:aK W3 w1.heap.size 187 (aD (dV s (s.size / 4))):=by unfold aK;rw [eY,bg]
  have Bu:ak w.heap.size w W3:=by rw [eY];exact hb1.alloc hz1 _
  have T6:=af Bu;have rI:=r3.isRow 9 hzl;have rD:=r3.bW;have h3z:w.heap.size<=W3.heap.size:=Bu.size;have gu:=af (SI (dV s (s.size / 4)) W3 (pW.out.below hpos Bu) (by rw [qx];exact h8) (G8 s _));clear hb1 hok j9 eY Bu r3;go_wp2_with (first | (refine pU iT rfl _ _ rfl w1.heap.size rfl (aD (dV s (s.size / 4))) rfl hzl (by rw [kV _ _ _ _ _ rfl];rfl) _ (sQ _ _ _ _ _ rfl) ?_) | (refine s7 rfl nE iT rfl _ rfl w1.heap.size rfl (by rw [<-HW.out];exact rI) (S (aD (dV s (s.size / 4)))) (by rw [<-HW.out];exact rD) ?_))
  rw [<-HW.out];refine (aq gu).mono ?_;rintro e w4 ⟨fZ,fv,rfl,hfo⟩;rw [T4 fK.out,ab1 s (uS s)] at hfo;have Bk:=af (aau _ fv (dV s (jo s)) w4 (T5 hfo (qx s _).symm) (by rw [qx];exact aT (uS s) h8));have mU:Hid (ak w.heap.size w w4):=T6.out.trans (fZ.mono h3z);have uh:=fZ.size;clear fZ hfo gu rI rD;go_wp2_with fail
  refine (aq Bk).mono ?_;rintro e w5 ⟨fD,T7,rfl,C5⟩;rw [ab2,qx,<-Eb] at C5;have Kv:(dD s).length<=8:=by rw [Eb];exact aT (uS s) h8
  have HK:=af (aoa _ T7 (dD s) w5 C5 Kv (Cr fK.out));have jS:Hid (ak w.heap.size w w5):=mU.out.trans (fD.mono (by omega));have xj:=fD.size;clear fD C5 Bk;go_wp2_with fail
  refine (aq HK).mono ?_;rintro e w6 ⟨pI,pv2,rfl,Ii⟩;obtain ⟨hkk,hkl⟩:=JW (Cr fK.out);obtain ⟨pa,pc,apG⟩:=bA Ii;subst apG;have Dp:=af (apE _ pa pc (wE (dD s)) w6 Ii (by rw [hkl];exact Kv) hkk);have Vv:Hid (ak w.heap.size w w6):=jS.out.trans (pI.mono (by omega));have hz6:=pI.size;clear pI Ii HK hkk hkl Kv;go_wp2_with fail
  refine (aq Dp).mono ?_;rintro e w7 ⟨jH,pv3,rfl,adF⟩;obtain ⟨hoo,hol⟩:=NL fK.out;have vv:=af (ajz _ pv3 (xR s) w7 adF (aT hol (aT (uS s) h8)) hoo);have Po:Hid (ak w.heap.size w w7):=Vv.out.trans (jH.mono (by omega));have hz7:=jH.size;clear jH adF Dp hoo hol;go_wp2_with fail
  refine (aq vv).mono ?_;rintro e w8 ⟨rfl,qW⟩;have yL:Hid (ak w.heap.size w w8):=Po.out.trans (qW.mono (by omega));clear qW vv;go_wp2_with fail
  go_ret2
  exact ⟨yL.out,.inl ⟨fK.out,rfl⟩⟩
 ·have aJ:=af hb1;have fo:=af hno;have hz1:=hb1.size;clear hb1 hno j9;go_wp2_with (refine pU iT rfl _ _ rfl w1.heap.size rfl (aD []) rfl rfl (by rw [kV _ _ _ _ _ rfl];rfl) _ (sQ _ _ _ _ _ rfl) ?_)
  go_ret2
  exact ⟨aJ.out.alloc hz1 _,.inr ⟨fo.out,rfl⟩⟩
end
section
open Go.RowKit Go.Maps Go.WideMaps
theorem qd.lay {g:ay} {k:Nat} (h:qd g k) (i:Nat) (ws:List Nat) (p:List UInt8):qd (qJ g i ws p) (k+1):=by
 refine ⟨fun j hj=>?_,fun j hj=>JR (h.2 j hj)⟩;show (aE g.b i (jG (g.b i) ws p) j).length<=k+1
 by_cases e:j=i
 ·subst e;rw [cq];have h1:=UI (g.b j) ws p;have:=h.1 j hj;omega
 ·rw [bp _ _ _ _ e];exact JR (h.1 j hj)
theorem apI (ws:List Nat) (w:World) (ht:bF w) (hb:gi (ah (aQ ws))):av au 175 #[.string (ah (aQ ws))] w fun e' w'=>e'= .returned (.tuple #[.string (ah (dw ws)),.int .i64 0])∧ak w.heap.size w w':=by
 refine (apF (ah (aQ ws)) w ht (by have:=hb.2.1;unfold cP;omega)).mono ?_;rintro e w' ⟨hbl,⟨_,rfl⟩ | ⟨hn,_⟩⟩
 ·exact ⟨rfl,hbl⟩
 ·exact absurd hb hn
theorem bH.Vw {E D:Nat} {g:ay} {m v:Nat->aj} {w:World} (h:bH E D g m v w) (i:Nat) (hi:i<4) (n:Nat) (hn:g.c i=n) (W:World) (hW:W=w.setCell ⟨E,141+i,none⟩ (.int .i64 ((n:Int)+1))):bH E D (dh g i) m v W∧aM (dc E m v) w W:=by
 subst hn;refine ⟨?_,?_⟩
 ·rw [hW];refine h.set (141+i) (.inr (by omega)) (dh g i) rfl rfl (adu D g i) _ ?_;unfold gU dh;rw [if_neg (by omega),if_neg (by omega),if_neg (by omega),if_pos (by omega),Nat.add_sub_cancel_left];simp only [cq];rfl
 ·rw [hW];exact (aM.set w E _ _).weak (fun _ q=>.inl (.inl q))
theorem gD.from {E D:Nat} {m v:Nat->aj} {w w1 w2:World} {g':ay} (c:aM (dc E m v) w w1) (h:gD E D m v w1 g' w2):gD E D m v w g' w2:=by
 obtain ⟨m2,v2,e2,c2,o2⟩:=h;exact ⟨m2,v2,e2,c.trans (fun x q=>.inl q) c2,fun x q=>(o2 x q).imp id (fun a=>aT c.size a)⟩
theorem gD.seq {E D:Nat} {m v m1 v1:Nat->aj} {w w1 w2:World} {g':ay} (c:aM (dc E m v) w w1) (o:∀x,dc E m1 v1 x->dc E m v x∨w.heap.size<=x) (h:gD E D m1 v1 w1 g' w2):gD E D m v w g' w2:=by
 obtain ⟨m2,v2,e2,c2,o2⟩:=h;refine ⟨m2,v2,e2,c.trans o c2,fun x q=>?_⟩;rcases o2 x q with a | a
 ·exact o x a
 ·exact .inr (aT c.size a)
theorem bF.bD {E D:Nat} {g:ay} {m v:Nat->aj} {w w':World} (ht:bF w) (h:bH E D g m v w) (hE:0<E) (c:aM (dc E m v) w w'):bF w':=
 ht.below (B:=1) (by decide) (c.below ht.pos (fun x q=>by have:=(h.has q).1;omega))
def adH (E D:Nat) (m v:Nat->aj) (w:World) (r:ay×List UInt8) (e':Ending) (w':World):Prop:=e'= .returned (.string (ah r.2))∧gD E D m v w r.1 w'
theorem apJ (E D:Nat) (g:ay) (m v:Nat->aj) (ws:List Nat) (w:World) (kk:Nat) (h:bH E D g m v w) (ht:bF w) (hE:0<E) (hU:gO ws) (hblk:gi (ah (aQ ws))) (mz:qd g kk) (hkk:kk<=100000000000) (hpl:∀k∈g.b 0,k.2.length<=1000000):
 av au 218 #[.pointer (some ⟨E,0,none⟩),.agg (S (aD ws))] w (adH E D m v w (cB g ws)):=by
 obtain ⟨W0,bq⟩:∃W0,W0=w.alloc (.cells (S (aD ws)) 187):=⟨_,rfl⟩;have hb0:ak w.heap.size w W0:=by rw [bq];exact (aA _ _).alloc (ax _) _
 have r0:aK W0 w.heap.size 187 (aD ws):=by rw [bq];exact bg w _
 have mX:=nT hU.1;have rI:=r0.isRow 9 mX;have rD:=r0.bW;have nY:=af (fun w' x=>Vm w' x (aD ws) mX);have vv:=af (fun w'=>OE ws w' hU.1 hU.2);have HH:=af h;have lp:=af hU;have lS:=af hblk;have HRn:=af mz;have HKk:=af hkk;have HT:=af (fun w' (hb:ak w.heap.size w w')=>ht.below ht.pos hb);have HFn:=af (fun w' (h':bH E D g m v w')=>adt E E 149 (g.b 0) (m 0) (v 0) ws w' (h'.bk 0 (by decide)) hU (by have:=mz.1 0 (by decide);omega));have As:=af (fun w' (ht':bF w')=>apI ws w' ht' hblk);have gR:=af r0;have bM:=af hb0;have fV:=af bq;have mg:=af hE;have Dq:=af (fun p w' (ht':bF w') (hp:p.length<=1000000)=>alT (ah (aQ ws)) (ah p) w' ht' (by have:=hblk.2.1;unfold cP;omega) (by rw [bZ];unfold cP;omega));have gu:Hid (∀p,fB (g.b 0) ws=some p->p.length<=1000000):=fun p hp=>by
  obtain ⟨n,hn,_⟩:=IP hp;exact hpl (ws,p) (List.mem_of_getElem? hn)
 have Ak:Hid (∀i,i<4->∀n,n=g.c i->aY ((n:Int)+1)=(n:Int)+1):=fun i hi n hn=>by have:=mz.2 i hi;subst hn;unfold aY;omega
 obtain ⟨PR,p8⟩:∃PR,PR=cB g ws:=⟨_,rfl⟩;rw [<-p8];have vH:=af p8;clear h ht hE hU hblk mz hkk hpl r0 hb0 bq p8;go_enter Tryz.func218,Tryz.ntmps218;go_wp2_with (first | refine s7 rfl nE iT rfl _ rfl w.heap.size rfl (by rw [<-fV.out];exact rI) (S (aD ws)) (by rw [<-fV.out];exact rD) ?_)
 rw [<-fV.out];refine (aq vv _).mono ?_;rintro e w1 ⟨rfl,hb1⟩;have dJ:ak w.heap.size w w1:=bM.out.trans (hb1.mono bM.out.size);have rX:aK w1 w.heap.size 187 (aD ws):=gR.out.keep (hb1.block _ gR.out.lt);have k1:bH E D g m v w1:=HH.out.kept (fun x q=>dJ.block x (HH.out.has q).2);have Fh:=af (HFn.out w1.drew (k1.kept (fun _ _=>rfl)));have aJ:=af dJ;clear hb1 dJ rI rD vv k1 HFn;go_upto_region 2 with fail
 refine LB 6 [0,1,2,3] [4] 4 5 (fun w'=>aK w' w.heap.size 187 (aD ws)) (by kernel_rfl) (by kernel_rfl) (fun d _ _ _ _ h=>by cases d<;>exact h) rX ?_
 iterate 3
  refine l7 ?_ rfl rfl ?_ ?_
  rotate_left
  ·rintro w' d0;go_simp;rfl
  go_simp
 refine l7 (.agg (S (aD ws))) rfl rfl ?_ ?_
 ·rintro w' d0;have hl:=nY.out w' _ d0;simp only [kF,vX,xO,vY,kB];show kN (qi au (kR 187 (.pointer (some ⟨w.heap.size,0,none⟩))) w') _=_
  rw [hl];rfl
 go_simp;refine sj ?_;refine Dn rfl rfl (fun K hK=>?_);go_simp;refine (aq Fh).mono ?_;rintro e wf ⟨rfl,hbf⟩;go_simp;refine hK _ _ (fun h=>absurd h (by decide)) ?_;clear hK K;refine IG ?_
 repeat still_step
 refine jC ?_;have vI:ak w.heap.size w wf:=(aJ.out.drew).trans (hbf.mono aJ.out.size);have rX:aK wf w.heap.size 187 (aD ws):=rX.keep (hbf.block _ rX.lt);have kf:bH E D g m v wf:=HH.out.kept (fun x q=>vI.block x (HH.out.has q).2);have P8:=HT.out wf vI;have HKf:=af kf;have Bo:=af vI;have HTf:=af P8;cases hq:fB (g.b 0) ws with
 | some p=>
   have hpl:=gu.out p hq;have HA:=af (Dq.out p wf P8 hpl);simp only [Nf,Option.isSome_some];clear hbf P8 kf vI Fh Dq gu;go_wp2_with fail
   refine (aq HA).mono ?_;rintro e wc ⟨hbc,n,rfl,hacc⟩;have L8:ak w.heap.size w wc:=Bo.out.trans (hbc.mono Bo.out.size);have HGc:Hid (gD E D m v w g wc):=gD.bh HH.out L8;have kc:bH E D g m v wc:=HH.out.kept (fun x q=>L8.block x (HH.out.has q).2);by_cases hn:n=0
   ·subst hn;have ri:Hid (PR=(dh g 1,p)):=by unfold Hid;rw [vH.out];unfold cB;rw [hq];simp only;rw [if_pos ((LX _ _).2 hacc)]
    have Dr:wc.cell? ⟨E,142,none⟩=some (.int .i64 ((g.c 1:Nat):Int)):=kc.sc 142 (.inr (by decide));have f142:=kc.fz 142;have Hg:=Ak.out 1 (by decide) _ rfl;have cR:Hid (∀W,W=wc.setCell ⟨E,142,none⟩ (.int .i64 ((g.c 1:Int)+1))->gD E D m v w (dh g 1) W):=fun W hW=>HGc.out.bind (fun m1 v1 k1=>k1.ct 1 (by decide) W hW);clear hbc hacc hq hpl kc L8 HA;go_wp2_with fail
    go_ret;rw [ri.out];exact ⟨rfl,cR.out _ rfl⟩
   ·have hn':(n == 0)=false:=by simpa using hn
    have ri:Hid (PR=(qJ (dh (dh g 2) 3) 1 ws (dw ws),dw ws)):=by unfold Hid;rw [vH.out];unfold cB;rw [hq];simp only;rw [if_neg (fun q=>hn (hacc.one ((LX _ _).1 q)))]
    have BO:wc.cell? ⟨E,143,none⟩=some (.int .i64 ((g.c 2:Nat):Int)):=kc.sc 143 (.inr (by decide));have f143:=kc.fz 143;have EC:=Ak.out 2 (by decide) _ rfl;have rXc:aK wc w.heap.size 187 (aD ws):=rX.keep (hbc.block _ rX.lt);obtain ⟨wb,je⟩:∃wb,wb=wc.setCell ⟨E,143,none⟩ (.int .i64 ((g.c 2:Int)+1)):=⟨_,rfl⟩;obtain ⟨kb,cb0⟩:=kc.Vw 2 (by decide) (g.c 2) rfl wb je;have cb:aM (dc E m v) w wb:=(aM.bh L8).trans (fun x q=>.inl q) cb0;have rX:aK wb w.heap.size 187 (aD ws):=rXc.keep (by rw [je];exact bB (fun e=>by have:=HH.out.lt;omega));have E7:=af je;clear hbc hacc hq hpl kc L8 HA hn cb0 je rXc HGc;go_upto_region 8 with fail
    rw [<-E7.out];have kc:=kb;have cc:=cb;clear BO f143 EC kb cb;have rj:wb.cell? ⟨E,144,none⟩=some (.int .i64 ((g.c 3:Nat):Int)):=kc.sc 144 (.inr (by decide));have f144:=kc.fz 144;have w3:=Ak.out 3 (by decide) _ rfl;obtain ⟨wd,hwd⟩:∃wd,wd=wb.setCell ⟨E,144,none⟩ (.int .i64 ((g.c 3:Int)+1)):=⟨_,rfl⟩;obtain ⟨kd,Ma⟩:=kc.Vw 3 (by decide) (g.c 3) rfl wd hwd;have cd:=cc.trans (fun x q=>.inl q) Ma;have Vx:w.heap.size<wd.heap.size:=by rw [hwd,fW];exact rX.lt
    have rX:aK wd w.heap.size 187 (aD ws):=rX.keep (by rw [hwd];exact bB (fun e=>by have:=HH.out.lt;omega));have Mb:=af (As.out wd ((HT.out w (aA _ _)).bD HH.out mg.out cd));have Bj:=af hwd;have Mc:=af kd;have Ds:=af cd;clear kc cc kd cd Ma hwd As;go_wp2_with fail
    rw [<-Bj.out];refine (aq Mb).mono ?_;rintro e we ⟨rfl,hbe⟩;have rX:aK we w.heap.size 187 (aD ws):=rX.keep (hbe.block _ Vx);have ke:bH E D (dh (dh g 2) 3) m v we.drew:=Mc.out.kept (fun x q=>hbe.block x (Mc.out.has q).2);have ce:aM (dc E m v) w we.drew:=Ds.out.trans (fun x q=>.inl q) (aM.bh hbe.drew);have m8:=af (PF E E 151 (g.b 1) (m 1) (v 1) ws (ah (dw ws)) we.drew (ke.bk 1 (by decide)) (ax _) ke.fz lp.out (by have:=HRn.out.1 1 (by decide);have:=HKk.out;omega));have vG:=af ke;have yG:=af ce;clear ke ce hbe rj f144 w3 Mb;go_upto_region 10 with fail
    refine ug 5 1 (fun w'=>aK w' w.heap.size 187 (aD ws)) (by kernel_rfl) (by kernel_rfl) (fun d _ _ _ _ h=>by cases d<;>exact h) rX ?_;simp only [j5,jU,j6,iE]
    iterate 3
     refine mT ?_ rfl ?_ ?_
     rotate_left
     ·rintro w' d0;go_simp;rfl
     go_simp
    refine mT (.agg (S (aD ws))) rfl ?_ ?_
    ·rintro w' d0;have hl:=nY.out w' _ d0;simp only [kF,kB];show kN (qi au (kR 187 (.pointer (some ⟨w.heap.size,0,none⟩))) w') _=_
     rw [hl];rfl
    go_simp;refine mT ?_ rfl ?_ ?_
    rotate_left
    ·rintro w' d0;go_simp;rfl
    go_simp;refine uf ?_;refine iQ rfl (fun K hK=>?_);go_simp;refine (aq m8).mono ?_;intro e wl hl;rw [kG] at hl;obtain ⟨rfl,hg⟩:=vG.out.lay (i:=1) (by decide) hl;have Md:Hid (gD E D m v w (qJ (dh (dh g 2) 3) 1 ws (dw ws)) wl):=gD.from yG.out hg;have Me:aK wl w.heap.size 187 (aD ws):=by
     obtain ⟨_,_,_,c,_⟩:=hg;exact rX.keep (c.other _ rX.lt (fun q=>by have:=(HH.out.has q).2;omega))
    clear hl hg m8;go_simp;refine hK _ _ Me ?_;clear hK K;unfold oy;go_wp2_with fail
    go_ret;rw [ri.out];exact ⟨rfl,Md.out⟩
 | none=>
   have ri:Hid (PR=(qJ (dh g 3) 1 ws (dw ws),dw ws)):=by unfold Hid;rw [vH.out];unfold cB;rw [hq]
   have kc:=kf;have cc:aM (dc E m v) w wf:=aM.bh vI;simp only [Option.getD_none,Option.isSome_none];clear hbf P8 kf vI Fh Dq gu hq;have rj:wf.cell? ⟨E,144,none⟩=some (.int .i64 ((g.c 3:Nat):Int)):=kc.sc 144 (.inr (by decide));have f144:=kc.fz 144;have w3:=Ak.out 3 (by decide) _ rfl;obtain ⟨wd,hwd⟩:∃wd,wd=wf.setCell ⟨E,144,none⟩ (.int .i64 ((g.c 3:Int)+1)):=⟨_,rfl⟩;obtain ⟨kd,Ma⟩:=kc.Vw 3 (by decide) (g.c 3) rfl wd hwd;have cd:=cc.trans (fun x q=>.inl q) Ma;have Vx:w.heap.size<wd.heap.size:=by rw [hwd,fW];exact rX.lt
   have rX:aK wd w.heap.size 187 (aD ws):=rX.keep (by rw [hwd];exact bB (fun e=>by have:=HH.out.lt;omega));have Mb:=af (As.out wd ((HT.out w (aA _ _)).bD HH.out mg.out cd));have Bj:=af hwd;have Mc:=af kd;have Ds:=af cd;clear kc cc kd cd Ma hwd As;go_wp2_with fail
   rw [<-Bj.out];refine (aq Mb).mono ?_;rintro e we ⟨rfl,hbe⟩;have rX:aK we w.heap.size 187 (aD ws):=rX.keep (hbe.block _ Vx);have ke:bH E D (dh (g) 3) m v we.drew:=Mc.out.kept (fun x q=>hbe.block x (Mc.out.has q).2);have ce:aM (dc E m v) w we.drew:=Ds.out.trans (fun x q=>.inl q) (aM.bh hbe.drew);have m8:=af (PF E E 151 (g.b 1) (m 1) (v 1) ws (ah (dw ws)) we.drew (ke.bk 1 (by decide)) (ax _) ke.fz lp.out (by have:=HRn.out.1 1 (by decide);have:=HKk.out;omega));have vG:=af ke;have yG:=af ce;clear ke ce hbe rj f144 w3 Mb;go_upto_region 10 with fail
   refine ug 5 1 (fun w'=>aK w' w.heap.size 187 (aD ws)) (by kernel_rfl) (by kernel_rfl) (fun d _ _ _ _ h=>by cases d<;>exact h) rX ?_;simp only [j5,jU,j6,iE]
   iterate 3
    refine mT ?_ rfl ?_ ?_
    rotate_left
    ·rintro w' d0;go_simp;rfl
    go_simp
   refine mT (.agg (S (aD ws))) rfl ?_ ?_
   ·rintro w' d0;have hl:=nY.out w' _ d0;simp only [kF,kB];show kN (qi au (kR 187 (.pointer (some ⟨w.heap.size,0,none⟩))) w') _=_
    rw [hl];rfl
   go_simp;refine mT ?_ rfl ?_ ?_
   rotate_left
   ·rintro w' d0;go_simp;rfl
   go_simp;refine uf ?_;refine iQ rfl (fun K hK=>?_);go_simp;refine (aq m8).mono ?_;intro e wl hl;rw [kG] at hl;obtain ⟨rfl,hg⟩:=vG.out.lay (i:=1) (by decide) hl;have Md:Hid (gD E D m v w (qJ (dh (g) 3) 1 ws (dw ws)) wl):=gD.from yG.out hg;have Me:aK wl w.heap.size 187 (aD ws):=by
    obtain ⟨_,_,_,c,_⟩:=hg;exact rX.keep (c.other _ rX.lt (fun q=>by have:=(HH.out.has q).2;omega))
   clear hl hg m8;go_simp;refine hK _ _ Me ?_;clear hK K;unfold oy;go_wp2_with fail
   go_ret;rw [ri.out];exact ⟨rfl,Md.out⟩
theorem apK (E D:Nat) (g:ay) (m v:Nat->aj) (ws:List Nat) (w:World) (kk:Nat) (h:bH E D g m v w) (ht:bF w) (hE:0<E) (hU:gO ws) (hblk:gi (ah (aQ ws))) (mz:qd g kk) (hkk:kk<=100000000000) (hpl:∀k∈g.b 0,k.2.length<=1000000):
 av au 182 #[.pointer (some ⟨E,0,none⟩),.agg (S (aD ws))] w (adH E D m v w (dS g ws)):=by
 obtain ⟨W0,bq⟩:∃W0,W0=w.alloc (.cells (S (aD ws)) 187):=⟨_,rfl⟩;have hb0:ak w.heap.size w W0:=by rw [bq];exact (aA _ _).alloc (ax _) _
 have rX:aK W0 w.heap.size 187 (aD ws):=by rw [bq];exact bg w _
 have mX:=nT hU.1;have nY:=af (fun w' x=>Vm w' x (aD ws) mX);have HH:=af h;have lp:=af hU;have HT:=af (fun w' (hb:ak w.heap.size w w')=>ht.below ht.pos hb);have k0:bH E D g m v W0.drew:=h.kept (fun x q=>hb0.block x (h.has q).2);have Fh:=af (adt E E 153 (g.b 2) (m 2) (v 2) ws W0.drew (k0.bk 2 (by decide)) hU (by have:=mz.1 2 (by decide);omega));have Vy:=af (fun w' (h':bH E D g m v w') (ht':bF w')=>apJ E D g m v ws w' kk h' ht' hE hU hblk mz hkk hpl);have bM:=af hb0;have fV:=af bq;have Ak:Hid (aY ((g.c 0:Int)+1)=(g.c 0:Int)+1):=by have:=mz.2 0 (by decide);unfold Hid aY;omega
 have qY:Hid (((cB g ws).1.b 2).length<=1000000000000):=by
  have e:(cB g ws).1.b 2=g.b 2:=by
   unfold cB
   repeat' split
   all_goals rfl
  unfold Hid;rw [e];have:=mz.1 2 (by decide);omega
 obtain ⟨PR,p8⟩:∃PR,PR=dS g ws:=⟨_,rfl⟩;rw [<-p8];have vH:=af p8;clear h ht hE hU hblk mz hkk hpl hb0 bq p8 k0;go_enter Tryz.func182,Tryz.ntmps182;go_upto_region 1 with fail
 rw [<-fV.out];refine LB 6 [0,1,2,3] [4] 4 5 (fun w'=>aK w' w.heap.size 187 (aD ws)) (by kernel_rfl) (by kernel_rfl) (fun d _ _ _ _ h=>by cases d<;>exact h) rX ?_
 iterate 3
  refine l7 ?_ rfl rfl ?_ ?_
  rotate_left
  ·rintro w' d0;go_simp;rfl
  go_simp
 refine l7 (.agg (S (aD ws))) rfl rfl ?_ ?_
 ·rintro w' d0;have hl:=nY.out w' _ d0;simp only [kF,vX,xO,vY,kB];show kN (qi au (kR 187 (.pointer (some ⟨w.heap.size,0,none⟩))) w') _=_
  rw [hl];rfl
 go_simp;refine sj ?_;refine Dn rfl rfl (fun K hK=>?_);go_simp;refine (aq Fh).mono ?_;rintro e wf ⟨rfl,hbf⟩;go_simp;refine hK _ _ (fun h=>absurd h (by decide)) ?_;clear hK K;refine IG ?_
 repeat still_step
 refine jC ?_;have vI:ak w.heap.size w wf:=(bM.out.drew).trans (hbf.mono bM.out.size);have rX:aK wf w.heap.size 187 (aD ws):=rX.keep (hbf.block _ rX.lt);have kf:bH E D g m v wf:=HH.out.kept (fun x q=>vI.block x (HH.out.has q).2);have Bo:=af vI;cases hq:fB (g.b 2) ws with
 | some p=>
   have ri:Hid (PR=(dh g 0,p)):=by unfold Hid;rw [vH.out];unfold dS;rw [hq]
   have Dt:wf.cell? ⟨E,141,none⟩=some (.int .i64 ((g.c 0:Nat):Int)):=kf.sc 141 (.inr (by decide));have f141:=kf.fz 141;have w0':=Ak.out;have cR:Hid (∀W,W=wf.setCell ⟨E,141,none⟩ (.int .i64 ((g.c 0:Int)+1))->gD E D m v w (dh g 0) W):=fun W hW=>(gD.bh HH.out vI).bind (fun m1 v1 k1=>k1.ct 0 (by decide) W hW);simp only [Nf,Option.isSome_some];clear hbf kf vI Fh Vy hq;go_wp2_with fail
   go_ret;rw [ri.out];exact ⟨rfl,cR.out _ rfl⟩
 | none=>
   have ri:Hid (PR=(qJ (cB g ws).1 2 ws (cB g ws).2,(cB g ws).2)):=by unfold Hid;rw [vH.out];unfold dS;rw [hq]
   have HQ:=af (Vy.out wf kf (HT.out wf vI));have rI:=rX.isRow 9 mX;have rD:=rX.bW;simp only [Option.getD_none,Option.isSome_none];clear hbf kf vI Fh Vy hq;go_wp2_with (first | refine s7 rfl nE iT rfl _ rfl w.heap.size rfl rI (S (aD ws)) rD ?_)
   refine (aq HQ).mono ?_;rintro e we ⟨rfl,me,ve,ke0,ce,oe⟩;have hXe:¬dc E me ve w.heap.size:=fun q=>by
    rcases oe _ q with a | a
    ·have:=(HH.out.has a).2;omega
    ·have:=rX.lt;omega
   have rX:aK we w.heap.size 187 (aD ws):=rX.keep (ce.other _ rX.lt (fun q=>by have:=(HH.out.has q).2;omega));have ke:bH E D (cB g ws).1 me ve we.drew:=ke0.kept (fun _ _=>rfl);have HC:Hid (aM (dc E m v) w we.drew):=(aM.bh Bo.out).trans (fun x q=>.inl q) (ce.trans (F1:=dc E m v) (fun x q=>.inl q) (aM.bh ((aA _ _).drew)));have HO:Hid (∀x,dc E me ve x->dc E m v x∨w.heap.size<=x):=fun x q=>(oe x q).imp id (fun a=>aT Bo.out.size a);have m8:=af (PF E E 153 ((cB g ws).1.b 2) (me 2) (ve 2) ws (ah (cB g ws).2) we.drew (ke.bk 2 (by decide)) (ax _) ke.fz lp.out qY.out);have vG:=af ke;clear ke ce oe ke0 HQ rI rD qY;generalize cB g ws=PP at *;go_upto_region 6 with fail
   refine ug 5 1 (fun w'=>aK w' w.heap.size 187 (aD ws)) (by kernel_rfl) (by kernel_rfl) (fun d _ _ _ _ h=>by cases d<;>exact h) rX ?_;simp only [j5,jU,j6,iE]
   iterate 3
    refine mT ?_ rfl ?_ ?_
    rotate_left
    ·rintro w' d0;go_simp;rfl
    go_simp
   refine mT (.agg (S (aD ws))) rfl ?_ ?_
   ·rintro w' d0;have hl:=nY.out w' _ d0;simp only [kF,kB];show kN (qi au (kR 187 (.pointer (some ⟨w.heap.size,0,none⟩))) w') _=_
    rw [hl];rfl
   go_simp;refine mT ?_ rfl ?_ ?_
   rotate_left
   ·rintro w' d0;go_simp;rfl
   go_simp;refine uf ?_;refine iQ rfl (fun K hK=>?_);go_simp;refine (aq m8).mono ?_;intro e wl hl;rw [kG] at hl;obtain ⟨rfl,hg⟩:=vG.out.lay (i:=2) (by decide) hl;have Md:Hid (gD E D m v w (qJ PP.1 2 ws PP.2) wl):=gD.seq HC.out HO.out hg;have Me:aK wl w.heap.size 187 (aD ws):=by
    obtain ⟨_,_,_,c,_⟩:=hg;exact rX.keep (c.other _ rX.lt hXe)
   clear hl hg m8;go_simp;refine hK _ _ Me ?_;clear hK K;unfold oy;go_wp2_with fail
   go_ret;rw [ri.out];exact ⟨rfl,Md.out⟩
theorem BP (z:List Int) (i j:Nat) (v:Int) (hi:i<z.length):gz (z.set i v) j=if j=i then v else gz z j:=by
 unfold gz;rw [bP,bP,List.getElem?_set];by_cases e:j=i
 ·subst e;rw [if_pos rfl,if_pos hi,if_pos rfl];rfl
 ·rw [if_neg (fun q=>e q.symm),if_neg e]
theorem Vz {z:List Int} (h1:∀i,i<136->0<=gz z i∧gz z i<4294967296) (h2:0<=gz z 136∧gz z 136<128∧0<=gz z 137∧gz z 137<=2):cV z=true:=by
 simp only [cV,Bool.and_eq_true,Co,Cp,D9,List.all_eq_true,List.mem_range,decide_eq_true_eq];exact ⟨⟨fun i hi=>(wu _).2 (h1 i (by omega)),fun i hi=>(wu _).2 (h1 (8+i) (by omega))⟩,h2⟩
theorem P9 {z:List Int} (h:cV z=true) (hl:z.length=138) {i:Nat} (hi:i<136) {v:Int} (hv:0<=v∧v<4294967296):cV (z.set i v)=true:=by
 have hp:=Cq h;refine Vz (fun j hj=>?_) ?_
 ·rw [BP _ _ _ _ (by omega)];split
  ·exact hv
  ·exact sP h j hj
 ·rw [BP _ _ _ _ (by omega),BP _ _ _ _ (by omega),if_neg (by omega),if_neg (by omega)];exact hp
theorem Fj {z:List Int} (h:cV z=true) (hl:z.length=138) {v:Int} (hv:0<=v∧v<128):cV (z.set 136 v)=true:=by
 have hp:=Cq h;refine Vz (fun j hj=>?_) ?_
 ·rw [BP _ _ _ _ (by omega),if_neg (by omega)];exact sP h j hj
 ·rw [BP _ _ _ _ (by omega),BP _ _ _ _ (by omega),if_pos rfl,if_neg (by omega)];exact ⟨hv.1,hv.2,hp.2.2⟩
theorem adP {z:List Int} (h:cV z=true) (hl:z.length=138) {v:Int} (hv:0<=v∧v<=2):cV (z.set 137 v)=true:=by
 have hp:=Cq h;refine Vz (fun j hj=>?_) ?_
 ·rw [BP _ _ _ _ (by omega),if_neg (by omega)];exact sP h j hj
 ·rw [BP _ _ _ _ (by omega),BP _ _ _ _ (by omega),if_pos rfl,if_neg (by omega)];exact ⟨hp.1,hp.2.1,hv.1,hv.2⟩
theorem adQ {z:List Int} (h:cV z=true) (hl:z.length=138) (hs:gz z 137=0):cV (gH z).1=true∧(gH z).2=0:=by
 unfold gH;rw [if_neg (by rw [h];decide),if_neg (by rw [hs];decide)];split
 ·exact ⟨adP h hl (by omega),rfl⟩
 ·rename_i hk;refine ⟨?_,rfl⟩;have hkn:AZ z=true:=by simpa using hk
  unfold AZ gW at hkn;generalize bu (kT z)=op at *;have ha:=uQ (kT z);have hb:=wj (kT z);have hc:=xP (kT z);have hk2:=wm (kT z);generalize fa (kT z)=a at *;generalize fb (kT z)=b at *;generalize fc (kT z)=c at *;generalize fk (kT z)=k at *;have hp:=Cq h;have hpc:0<=(gz z 136+1) % 128∧(gz z 136+1) % 128<128:=by omega
  have hm:∀x:Int,(8+(x % 128).toNat)<136:=fun x=>by omega
  unfold cQ;have hl':∀i v,(z.set i v).length=138:=fun i v=>by rw [List.length_set,hl]
  have h8:∀{x:Int},0<=x->x<8->x.toNat<136:=fun h0 h1=>by omega
  split
  ·exact adP h hl (by omega)
  ·rename_i n0;split
   ·rename_i e1;rw [if_neg (by omega),if_pos (.inl e1)] at hkn;exact Fj (P9 h hl (h8 ha.1 (of_decide_eq_true hkn)) (by omega)) (hl' _ _) hpc
   ·rename_i n1;split
    ·rename_i e2;rw [if_neg (by omega),if_neg (by omega),if_pos e2] at hkn;obtain ⟨q1,q2,q3⟩:=of_decide_eq_true hkn;exact Fj (P9 h hl (h8 ha.1 q1) (A8 _ _ _ (sP h _ (h8 hb.1 q2)).1 (sP h _ (h8 hb.1 q2)).2 (sP h _ (h8 hc.1 q3)).1 (sP h _ (h8 hc.1 q3)).2)) (hl' _ _) hpc
    ·rename_i n2;split
     ·rename_i e6;rw [if_neg (by omega),if_neg (by omega),if_neg n2,if_pos (.inl e6)] at hkn;obtain ⟨q1,q2⟩:=of_decide_eq_true hkn;exact Fj (P9 h hl (h8 ha.1 q1) (sP h _ (hm _))) (hl' _ _) hpc
     ·rename_i n6;split
      ·rename_i e7;rw [if_neg (by omega),if_neg (by omega),if_neg n2,if_pos (.inr (.inl e7))] at hkn;obtain ⟨q1,q2⟩:=of_decide_eq_true hkn;exact Fj (P9 h hl (hm _) (sP h _ (h8 ha.1 q1))) (hl' _ _) hpc
      ·split
       ·refine Fj h hl ?_;split<;>omega
       ·split
        ·exact Fj h hl (by omega)
        ·exact Fj h hl ⟨Int.emod_nonneg _ (by decide),Int.emod_lt_of_pos _ (by decide)⟩
def fO:Nat->List Int->List Int
 | 0,z=>z
 | n+1,z=>fO n (gH z).1
theorem Qa (n k:Nat) (z:List Int):fO (n+k) z=fO k (fO n z):=by
 induction n generalizing z with
 | zero=>rw [Nat.zero_add];rfl
 | succ n ih=>rw [Nat.succ_add,fO,ih];rfl
def iW (z:List Int):List Int:=(z.drop 8).take 128
def kP (z:List Int):Nat:=(gz z 136).toNat
def aO (z:List Int):List Nat:=gq (iW z) (kP z) (iq (iW z) 8 (kP z))
structure lu (z:List Int):Prop where
 len:z.length=138
 st:cV z=true
theorem lu.pc {z:List Int} (h:lu z):kP z<128∧gz z 136=(kP z:Int):=by
 have:=Cq h.st;unfold kP;omega
theorem lu.parts {z:List Int} (h:lu z):WL 8 (z.take 8)∧WL 128 (iW z):=ajr h.st h.len
theorem lu.form {z:List Int} (h:lu z) (hs:gz z 137=0):z=yg (z.take 8) (iW z) (kP z) 0:=by
 rw [ajV h.pc.1,<-h.pc.2,<-hs];exact SN h.len
theorem apM (z:List Int):(aO z).length=iq (iW z) 8 (kP z):=Hl _ _ _
theorem VA (z:List Int):aQ (aO z)=mB (iW z) (kP z):=rfl
theorem lu.blk {z:List Int} (h:lu z):gi (ah (aQ (aO z))):=OM h.parts.2 h.pc.1
theorem lu.pos {z:List Int} (h:lu z):1<=(aO z).length:=by rw [apM];exact aa6 _ 7 _ h.pc.1
theorem lu.Fk {z:List Int} (h:lu z):gO (aO z):=by
 refine ⟨?_,?_⟩
 ·have:=h.blk.2.1;rw [bZ,Ct] at this;omega
 ·refine aaM _ _ _ (fun i=>?_);rcases oM i 128 with hi | hi
  ·exact h.parts.2.at hi
  ·rw [bP,lE (by rw [h.parts.2.1];exact hi)];exact ⟨Int.le_refl _,by decide⟩
theorem adR {z:List Int} (h:lu z) (hs:gz z 137=0):∀k,k<=jo (ah (aQ (aO z)))->fO k z=yg (z.take 8) (iW z) (kP z) k:=by
 intro k
 induction k with
 | zero=>intro _;exact h.form hs
 | succ k ih=>
   intro hk;rw [Qa k 1 z,ih (by omega)];have:=ajW (k:=k) h.parts.1 h.parts.2 h.pc.1 (by rw [VA] at hk;omega);show (gH _).1=_
   rw [this]
theorem apN {z:List Int} (h:lu z) {p:List UInt8} (ha:tD (ah (aQ (aO z))) (ah p) 0):oP (ah p)∧(uT (iW z) (dO (ah p) ((ah p).size / 8)) (gj (z.take 8))).take 8=((dD (ah (aQ (aO z)))).take (jo (ah (aQ (aO z))))).foldl (rD (iW z)) (z.take 8):=by
 rcases ha with ⟨_,e⟩ | ⟨_,_,e⟩ | ⟨_,hp,hc,_⟩ | ⟨_,_,_,e⟩
 ·cases e
 ·cases e
 ·exact ⟨hp,ajZ h.parts.1 h.parts.2 h.pc.1 (GB hp) hc⟩
 ·cases e
theorem adS {ws:List Nat} (h:gO ws):dV (ah (aQ ws)) ws.length=ws:=by
 unfold dV;apply List.ext_getElem?;intro j;rw [List.getElem?_map];rcases oM j ws.length with hj | hj
 ·rw [List.getElem?_range hj,bE hj];show some (aX (ah (aQ ws)) j)=some ws[j]
  rw [aa4 (bE hj) (h.2 _ (List.getElem_mem hj))]
 ·rw [lE (by simpa using hj),lE hj];rfl
theorem VB {ws:List Nat} (h:gO ws):mZ (aQ ws)=ws:=by
 unfold mZ;rw [Ct,show 4 * ws.length / 4=ws.length by omega];exact adS h
theorem VC {z:List Int} (h:lu z):iw (aO z)=jo (ah (aQ (aO z))):=by
 have:=T4 h.blk;rw [bZ,Ct,show 4 * (aO z).length / 4=(aO z).length by omega,adS h.Fk] at this;exact this
end
section
open Go.RowKit
theorem apO (z:List Int) (a b c k:Nat) (w:World) (hl:z.length=138) (p0:0<=gz z 136) (p1:gz z 136<128):
 av au 156 #[.agg (S z),.agg #[.int .i64 0,.int .i64 a,.int .i64 b,.int .i64 c,.int .i64 k]] w fun e' w'=>e'= .returned (.agg (S (cQ z 0 a b c k)))∧ak w.heap.size w w':=by
 have hx:∀i,i<138->(S z)[i]? =some (.int .i64 (gz z i)):=fun i hi=>gP z i (by omega);have rU:=hx 136 (by omega);have hset:=jP;have zz:=iZ;have NQ:=hx 137 (by omega);have Fl:(S (z.set 137 1))[136]? =some (.int .i64 (gz z 136)):=by rw [gP _ _ (by simp [hl])];simp [gz]
 have HN:Hid (kS (.agg (S ((z.set 137 1).set 136 (gz z 136))))= .returned (.agg (S (cQ z 0 a b c k)))):=by rw [Hid,cQ,if_pos rfl,agL z hl]
 clear hx;go_enter zx,zy;go_wp2_with (first | (refine fH rfl _ rfl _ rfl (J5 _ _ _ _ _ _ (by simp [bQ,hl])) _ (J4 _ _ _ _ _) ?_) | (refine ja rfl _ _ rfl _ rfl _ rfl (by simp [hl]) (J6 _ _ _ _ _ _ (by simp [bQ,bT])) _ (J7 _ _ _ _ _ _) ?_))
 exact cL (v:=.agg (S ((z.set 137 1).set 136 (gz z 136)))) (jl zA _ _ _ 28 (S ((z.set 137 1).set 136 (gz z 136))) (0,0) _ rfl (wJ _ _ _ _) jO rfl (by rw [mD,bQ];simp [hl])) rfl ⟨HN.out,GM _ _ _ _⟩
theorem apP (z:List Int) (a b c k:Nat) (w:World) (hl:z.length=138) (ha:a<8) (p0:0<=gz z 136) (p1:gz z 136<128):
 av au 156 #[.agg (S z),.agg #[.int .i64 1,.int .i64 a,.int .i64 b,.int .i64 c,.int .i64 k]] w fun e' w'=>e'= .returned (.agg (S (cQ z 1 a b c k)))∧ak w.heap.size w w':=by
 have hx:∀i,i<138->(S z)[i]? =some (.int .i64 (gz z i)):=fun i hi=>gP z i (by omega);have rU:=hx 136 (by omega);have hset:=jP;have zz:=iZ;have BQ:=hx a (by omega);have Fl:(S (z.set a (k:Int)))[136]? =some (.int .i64 (gz (z.set a (k:Int)) 136)):=gP _ _ (by simp [hl]);have ha':(a:Int)<8:=by omega
 have HN:Hid (kS (.agg (S ((z.set a (k:Int)).set 136 ((gz z 136+1) % 128))))= .returned (.agg (S (cQ z 1 a b c k)))):=by simp [Hid,cQ]
 clear hx;go_enter zx,zy;go_wp2_with (first | (refine fH rfl _ rfl _ rfl (J5 _ _ _ _ _ _ (by simp [bQ,hl])) _ (J4 _ _ _ _ _) ?_) | (refine ja rfl _ _ rfl _ rfl _ rfl (by simp [hl]) (J6 _ _ _ _ _ _ (by simp [bQ,bT])) _ (J7 _ _ _ _ _ _) ?_))
 exact cL (v:=.agg (S ((z.set a (k:Int)).set 136 ((gz z 136+1) % 128)))) (jl zA _ _ _ 28 (S ((z.set a (k:Int)).set 136 ((gz z 136+1) % 128))) (0,0) _ rfl (wJ _ _ _ _) jO rfl (by rw [mD,bQ];simp [hl])) rfl ⟨HN.out,GM _ _ _ _⟩
theorem apQ (z:List Int) (a b c k:Nat) (w:World) (hl:z.length=138) (p0:0<=gz z 136) (p1:gz z 136<128):
 av au 156 #[.agg (S z),.agg #[.int .i64 9,.int .i64 a,.int .i64 b,.int .i64 c,.int .i64 k]] w fun e' w'=>e'= .returned (.agg (S (cQ z 9 a b c k)))∧ak w.heap.size w w':=by
 have hx:∀i,i<138->(S z)[i]? =some (.int .i64 (gz z i)):=fun i hi=>gP z i (by omega);have rU:=hx 136 (by omega);have hset:=jP;have zz:=iZ;have HN:Hid (kS (.agg (S (z.set 136 ((k:Int) % 128))))= .returned (.agg (S (cQ z 9 a b c k)))):=by simp [Hid,cQ]
 clear hx;go_enter zx,zy;go_wp2_with (first | (refine fH rfl _ rfl _ rfl (J5 _ _ _ _ _ _ (by simp [bQ,hl])) _ (J4 _ _ _ _ _) ?_) | (refine ja rfl _ _ rfl _ rfl _ rfl (by simp [hl]) (J6 _ _ _ _ _ _ (by simp [bQ,bT])) _ (J7 _ _ _ _ _ _) ?_))
 exact cL (v:=.agg (S (z.set 136 ((k:Int) % 128)))) (jl zA _ _ _ 28 (S (z.set 136 ((k:Int) % 128))) (0,0) _ rfl (wJ _ _ _ _) jO rfl (by rw [mD,bQ];simp [hl])) rfl ⟨HN.out,GM _ _ _ _⟩
theorem apR (z:List Int) (a b c k:Nat) (w:World) (hl:z.length=138) (ha:a<8) (r0:0<=gz z a) (r1:gz z a<4294967296) (p0:0<=gz z 136) (p1:gz z 136<128):
 av au 156 #[.agg (S z),.agg #[.int .i64 10,.int .i64 a,.int .i64 b,.int .i64 c,.int .i64 k]] w fun e' w'=>e'= .returned (.agg (S (cQ z 10 a b c k)))∧ak w.heap.size w w':=by
 have hx:∀i,i<138->(S z)[i]? =some (.int .i64 (gz z i)):=fun i hi=>gP z i (by omega);have rU:=hx 136 (by omega);have hset:=jP;have zz:=iZ;have BQ:=hx a (by omega);have ha':(a:Int)<8:=by omega
 have HN:Hid (kS (.agg (S (z.set 136 (gz z a % 128))))= .returned (.agg (S (cQ z 10 a b c k)))):=by simp [Hid,cQ]
 clear hx;go_enter zx,zy;go_wp2_with (first | (refine fH rfl _ rfl _ rfl (J5 _ _ _ _ _ _ (by simp [bQ,hl])) _ (J4 _ _ _ _ _) ?_) | (refine ja rfl _ _ rfl _ rfl _ rfl (by simp [hl]) (J6 _ _ _ _ _ _ (by simp [bQ,bT])) _ (J7 _ _ _ _ _ _) ?_))
 exact cL (v:=.agg (S (z.set 136 (gz z a % 128)))) (jl zA _ _ _ 28 (S (z.set 136 (gz z a % 128))) (0,0) _ rfl (wJ _ _ _ _) jO rfl (by rw [mD,bQ];simp [hl])) rfl ⟨HN.out,GM _ _ _ _⟩
theorem apS (z:List Int) (a b c k:Nat) (w:World) (hl:z.length=138) (ha:a<8) (hb:b<8) (hc:c<8) (r0:0<=gz z b) (r1:gz z b<4294967296) (s0:0<=gz z c) (s1:gz z c<4294967296) (p0:0<=gz z 136) (p1:gz z 136<128):
 av au 156 #[.agg (S z),.agg #[.int .i64 2,.int .i64 a,.int .i64 b,.int .i64 c,.int .i64 k]] w fun e' w'=>e'= .returned (.agg (S (cQ z 2 a b c k)))∧ak w.heap.size w w':=by
 have hx:∀i,i<138->(S z)[i]? =some (.int .i64 (gz z i)):=fun i hi=>gP z i (by omega);have rU:=hx 136 (by omega);have hset:=jP;have zz:=iZ;have BQ:=hx a (by omega);have pG:=hx b (by omega);have hcc:=hx c (by omega);have HN:Hid (kS (.agg (S ((z.set a (wk 2 (gz z b) (gz z c))).set 136 ((gz z 136+1) % 128))))= .returned (.agg (S (cQ z 2 a b c k)))):=by simp [Hid,cQ]
 have HR:=af (fun w'=>Ec 2 (gz z b) (gz z c) w' r0 r1 s0 s1 (by decide) (by decide));generalize wk 2 (gz z b) (gz z c)=r at *;have Fl:(S (z.set a r))[136]? =some (.int .i64 (gz (z.set a r) 136)):=gP _ _ (by simp [hl]);have ha':(a:Int)<8:=by omega
 have hb':(b:Int)<8:=by omega
 have hc':(c:Int)<8:=by omega
 clear hx;go_enter zx,zy;go_wp2_with fail
 refine qp 17 (by kernel_rfl) (by kernel_rfl) ?_;simp only [j5,jU,j6,iE]
 repeat still_step
 still_call (aq HR _)
 repeat still_step
 refine jC ?_;go_wp2_with (first | (refine fH rfl _ rfl _ rfl (Cx _ _ _ _ _ _ (by simp [bQ,hl])) _ (Cw _ _ _ _ _) ?_) | (refine ja rfl _ _ rfl _ rfl _ rfl (by simp [hl]) (Cy _ _ _ _ _ _ (by simp [bQ,bT])) _ (Cz _ _ _ _ _ _) ?_))
 exact cL (v:=.agg (S ((z.set a r).set 136 ((gz z 136+1) % 128)))) (jl zA _ _ _ 28 (S ((z.set a r).set 136 ((gz z 136+1) % 128))) (0,0) _ rfl (wJ _ _ _ _) jO rfl (by rw [mD,bQ];simp [hl])) rfl ⟨HN.out,CA _ _ _ _⟩
theorem apT (z:List Int) (a b c k:Nat) (w:World) (hl:z.length=138) (ha:a<8) (hb:b<8) (hc:c<8) (r0:0<=gz z b) (r1:gz z b<4294967296) (s0:0<=gz z c) (s1:gz z c<4294967296) (p0:0<=gz z 136) (p1:gz z 136<128):
 av au 156 #[.agg (S z),.agg #[.int .i64 3,.int .i64 a,.int .i64 b,.int .i64 c,.int .i64 k]] w fun e' w'=>e'= .returned (.agg (S (cQ z 3 a b c k)))∧ak w.heap.size w w':=by
 have hx:∀i,i<138->(S z)[i]? =some (.int .i64 (gz z i)):=fun i hi=>gP z i (by omega);have rU:=hx 136 (by omega);have hset:=jP;have zz:=iZ;have BQ:=hx a (by omega);have pG:=hx b (by omega);have hcc:=hx c (by omega);have HN:Hid (kS (.agg (S ((z.set a (wk 3 (gz z b) (gz z c))).set 136 ((gz z 136+1) % 128))))= .returned (.agg (S (cQ z 3 a b c k)))):=by simp [Hid,cQ]
 have HR:=af (fun w'=>Ec 3 (gz z b) (gz z c) w' r0 r1 s0 s1 (by decide) (by decide));generalize wk 3 (gz z b) (gz z c)=r at *;have Fl:(S (z.set a r))[136]? =some (.int .i64 (gz (z.set a r) 136)):=gP _ _ (by simp [hl]);have ha':(a:Int)<8:=by omega
 have hb':(b:Int)<8:=by omega
 have hc':(c:Int)<8:=by omega
 clear hx;go_enter zx,zy;go_wp2_with fail
 refine qp 17 (by kernel_rfl) (by kernel_rfl) ?_;simp only [j5,jU,j6,iE]
 repeat still_step
 still_call (aq HR _)
 repeat still_step
 refine jC ?_;go_wp2_with (first | (refine fH rfl _ rfl _ rfl (Cx _ _ _ _ _ _ (by simp [bQ,hl])) _ (Cw _ _ _ _ _) ?_) | (refine ja rfl _ _ rfl _ rfl _ rfl (by simp [hl]) (Cy _ _ _ _ _ _ (by simp [bQ,bT])) _ (Cz _ _ _ _ _ _) ?_))
 exact cL (v:=.agg (S ((z.set a r).set 136 ((gz z 136+1) % 128)))) (jl zA _ _ _ 28 (S ((z.set a r).set 136 ((gz z 136+1) % 128))) (0,0) _ rfl (wJ _ _ _ _) jO rfl (by rw [mD,bQ];simp [hl])) rfl ⟨HN.out,CA _ _ _ _⟩
theorem apU (z:List Int) (a b c k:Nat) (w:World) (hl:z.length=138) (ha:a<8) (hb:b<8) (hc:c<8) (r0:0<=gz z b) (r1:gz z b<4294967296) (s0:0<=gz z c) (s1:gz z c<4294967296) (p0:0<=gz z 136) (p1:gz z 136<128):
 av au 156 #[.agg (S z),.agg #[.int .i64 4,.int .i64 a,.int .i64 b,.int .i64 c,.int .i64 k]] w fun e' w'=>e'= .returned (.agg (S (cQ z 4 a b c k)))∧ak w.heap.size w w':=by
 have hx:∀i,i<138->(S z)[i]? =some (.int .i64 (gz z i)):=fun i hi=>gP z i (by omega);have rU:=hx 136 (by omega);have hset:=jP;have zz:=iZ;have BQ:=hx a (by omega);have pG:=hx b (by omega);have hcc:=hx c (by omega);have HN:Hid (kS (.agg (S ((z.set a (wk 4 (gz z b) (gz z c))).set 136 ((gz z 136+1) % 128))))= .returned (.agg (S (cQ z 4 a b c k)))):=by simp [Hid,cQ]
 have HR:=af (fun w'=>Ec 4 (gz z b) (gz z c) w' r0 r1 s0 s1 (by decide) (by decide));generalize wk 4 (gz z b) (gz z c)=r at *;have Fl:(S (z.set a r))[136]? =some (.int .i64 (gz (z.set a r) 136)):=gP _ _ (by simp [hl]);have ha':(a:Int)<8:=by omega
 have hb':(b:Int)<8:=by omega
 have hc':(c:Int)<8:=by omega
 clear hx;go_enter zx,zy;go_wp2_with fail
 refine qp 17 (by kernel_rfl) (by kernel_rfl) ?_;simp only [j5,jU,j6,iE]
 repeat still_step
 still_call (aq HR _)
 repeat still_step
 refine jC ?_;go_wp2_with (first | (refine fH rfl _ rfl _ rfl (Cx _ _ _ _ _ _ (by simp [bQ,hl])) _ (Cw _ _ _ _ _) ?_) | (refine ja rfl _ _ rfl _ rfl _ rfl (by simp [hl]) (Cy _ _ _ _ _ _ (by simp [bQ,bT])) _ (Cz _ _ _ _ _ _) ?_))
 exact cL (v:=.agg (S ((z.set a r).set 136 ((gz z 136+1) % 128)))) (jl zA _ _ _ 28 (S ((z.set a r).set 136 ((gz z 136+1) % 128))) (0,0) _ rfl (wJ _ _ _ _) jO rfl (by rw [mD,bQ];simp [hl])) rfl ⟨HN.out,CA _ _ _ _⟩
theorem apV (z:List Int) (a b c k:Nat) (w:World) (hl:z.length=138) (ha:a<8) (hb:b<8) (hc:c<8) (r0:0<=gz z b) (r1:gz z b<4294967296) (s0:0<=gz z c) (s1:gz z c<4294967296) (p0:0<=gz z 136) (p1:gz z 136<128):
 av au 156 #[.agg (S z),.agg #[.int .i64 5,.int .i64 a,.int .i64 b,.int .i64 c,.int .i64 k]] w fun e' w'=>e'= .returned (.agg (S (cQ z 5 a b c k)))∧ak w.heap.size w w':=by
 have hx:∀i,i<138->(S z)[i]? =some (.int .i64 (gz z i)):=fun i hi=>gP z i (by omega);have rU:=hx 136 (by omega);have hset:=jP;have zz:=iZ;have BQ:=hx a (by omega);have pG:=hx b (by omega);have hcc:=hx c (by omega);have HN:Hid (kS (.agg (S ((z.set a (wk 5 (gz z b) (gz z c))).set 136 ((gz z 136+1) % 128))))= .returned (.agg (S (cQ z 5 a b c k)))):=by simp [Hid,cQ]
 have HR:=af (fun w'=>Ec 5 (gz z b) (gz z c) w' r0 r1 s0 s1 (by decide) (by decide));generalize wk 5 (gz z b) (gz z c)=r at *;have Fl:(S (z.set a r))[136]? =some (.int .i64 (gz (z.set a r) 136)):=gP _ _ (by simp [hl]);have ha':(a:Int)<8:=by omega
 have hb':(b:Int)<8:=by omega
 have hc':(c:Int)<8:=by omega
 clear hx;go_enter zx,zy;go_wp2_with fail
 refine qp 17 (by kernel_rfl) (by kernel_rfl) ?_;simp only [j5,jU,j6,iE]
 repeat still_step
 still_call (aq HR _)
 repeat still_step
 refine jC ?_;go_wp2_with (first | (refine fH rfl _ rfl _ rfl (Cx _ _ _ _ _ _ (by simp [bQ,hl])) _ (Cw _ _ _ _ _) ?_) | (refine ja rfl _ _ rfl _ rfl _ rfl (by simp [hl]) (Cy _ _ _ _ _ _ (by simp [bQ,bT])) _ (Cz _ _ _ _ _ _) ?_))
 exact cL (v:=.agg (S ((z.set a r).set 136 ((gz z 136+1) % 128)))) (jl zA _ _ _ 28 (S ((z.set a r).set 136 ((gz z 136+1) % 128))) (0,0) _ rfl (wJ _ _ _ _) jO rfl (by rw [mD,bQ];simp [hl])) rfl ⟨HN.out,CA _ _ _ _⟩
end
end Go.Proofs.YtmmflekajbeamaaGreatDoor
