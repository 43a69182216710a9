/- Texts of ours, joined, in few bytes. -/
import Derived.Test.YtmmflekajbeamaaGreatDoorE31
open And renaming intro->JM
open Go renaming Calls->av,Value->aj,below_drewN->dH,bodyPost_ret->cL,heap_alloc_new->bg,maxLen->cP,results_none->agG,wpList_load_mid->rQ,wpList_store_mid->YF
open Go.Instr renaming loadAt->kR
open Go.Proofs.Tryz renaming func132->YU,func77->YW,ntmps132->YV,ntmps77->YX,prog->au,underlying28->jO
open Go.Result renaming andThen->kN
open Go.RowKit renaming Below->ak,intOf->aI,wrap64->aY
open Go.RowKit.Below renaming refl->aA
open Go.Value renaming int->cI
open Go.Value.slice renaming injEq->Gu
open Go.World renaming cell?_of_block->aP,frozen?_of_block->fS,ownsRow->uP
open List renaming getD_eq_getElem?_getD->bP,getElem?_eq_getElem->bE,getElem?_map->iX,length_map->jV
open Nat renaming le_refl->ax,le_trans->aT,lt_of_lt_of_le->dB,zero_le->bK
namespace Go.Proofs.YtmmflekajbeamaaGreatDoor
set_option maxRecDepth 100000
set_option maxHeartbeats 8000000
section
open Go.RowKit Go.Maps Go.WideMaps
def sL (E R:Nat) (v:Nat->aj) (w:World) (g':ay) (w':World):Prop:=
 ∃v',dA E R g' v' w'∧aM (cX E v) w w'∧∀x,cX E v' x->cX E v x∨w.heap.size<=x
theorem sL.bh {E R:Nat} {g:ay} {v:Nat->aj} {w w':World} (h:dA E R g v w) (hb:ak w.heap.size w w'):sL E R v w g w':=
 ⟨v,h.kept (fun x q=>hb.block x (h.has q).2),aM.bh hb,fun _ q=>.inl q⟩
theorem asq (R:Nat) (g:ay) (i:Nat) (hi:i<4):∀k,sI k->k≠147+i->gF R (dh g i) k=gF R g k:=fun k hs hk=>by
 unfold sI at hs;unfold gF dh;simp only;by_cases q:147<=k
 ·rw [bp _ _ _ _ (by omega)]
 ·have:k=0∨k=1∨k=2∨k=141∨k=142∨k=143:=by omega
  rcases this with rfl | rfl | rfl | rfl | rfl | rfl<;>simp
theorem dA.ct {E R:Nat} {g:ay} {v:Nat->aj} {w:World} (h:dA E R g v w) (i:Nat) (hi:i<4) (n:Nat) (hn:g.c i=n) (W:World) (hW:W=w.setCell ⟨E,147+i,none⟩ (.int .i64 ((n:Int)+1))):dA E R (dh g i) v W∧aM (cX E v) w W:=by
 rw [hW];refine ⟨h.set (147+i) (.inr (.inr (by omega))) (dh g i) rfl rfl (asq R g i hi) _ ?_,(aM.set w E _ _).weak (fun _ q=>.inl (.inl q))⟩;unfold gF dh;simp only;rw [if_neg (by omega),if_neg (by omega),if_neg (by omega),if_neg (by omega),if_neg (by omega),if_neg (by omega),if_pos (by omega),show 147+i - 147=i by omega,cq,hn];rfl
theorem dA.cnt {E R:Nat} {g:ay} {v:Nat->aj} {w:World} (h:dA E R g v w) (i:Nat) (hi:i<4):w.cell? ⟨E,147+i,none⟩=some (.int .i64 (g.c i:Int)):=by
 rw [h.sc (147+i) (.inr (.inr (by omega)))];unfold gF;rw [if_neg (by omega),if_neg (by omega),if_neg (by omega),if_neg (by omega),if_neg (by omega),if_neg (by omega),if_pos (by omega),show 147+i - 147=i by omega]
theorem aff (l:List cD) (k:cD):aG (l ++ [k])=aG l ++ [(aQ k.1,k.2)]:=by simp [aG]
theorem dA.app {E R:Nat} {g:ay} {v:Nat->aj} {w w1:World} (h:dA E R g v w) {i:Nat} (hi:i<3) (ws:List Nat) (p:List UInt8) {u:aj} (ho:w1.ownsRow (E+1) 127 2 u (aG (g.b i) ++ [(aQ ws,p)]).length (bR (aG (g.b i) ++ [(aQ ws,p)]))) (hg:w.grownBy w1 (v i).ownBlock) (hn:(v i).ownBlock=u.ownBlock∨u.ownBlock=some w.heap.size) (W:World) (hW:W=w1.setCell ⟨E,xG i,none⟩ u):
 sL E R v w {g with b:=aE g.b i (g.b i ++ [(ws,p)])} W:=by
 have ho':w1.ownsRow (E+1) 127 2 u (g.b i ++ [(ws,p)]).length (jj (g.b i ++ [(ws,p)])):=by
  rw [anj,aff,<-ee (g.b i ++ [(ws,p)]),aff];exact ho
 have hne:∀x,(v i).ownBlock=some x->x≠E:=fun x q=>h.ne hi q
 have he:=h.put hi (w1:=w1) (u:=u) (fun j hj hji x q=>hg.block x (aR (h.ow j hj) x q).2 (fun e=>h.sep j i hj hi hji x q e.symm)) (hg.block E h.lt (fun e=>hne E e.symm rfl)) ho' (fun x q j hj hji e=>by
  rcases hn with a | a
  ·exact h.sep j i hj hi hji x e (by rw [a];exact q)
  ·rw [a] at q;have:=(aR (h.ow j hj) x e).2;cases q
   omega)
 rw [<-hW] at he;refine ⟨_,he,?_,fun x q=>?_⟩
 ·rw [hW];refine aM.trans (w1:=w1) ⟨hg.os,hg.tape,hg.output,hg.size,fun x hx hn=>hg.block x hx (fun e=>hn (.inr ⟨i,hi,e.symm⟩))⟩ (fun x q=>.inl (.inl q)) (aM.set w1 E _ u)
 ·rcases q with q | ⟨j,hj,q⟩
  ·exact .inl (.inl q)
  ·by_cases e:j=i
   ·subst e;rw [cq] at q;rcases hn with a | a
    ·exact .inl (.inr ⟨j,hj,by rw [a];exact q⟩)
    ·rw [a] at q;cases q;exact .inr (ax _)
   ·rw [bp _ _ _ _ e] at q;exact .inl (.inr ⟨j,hj,q⟩)
theorem afg {l:List cD} {ws:List Nat} {n:Nat} (hl:∀k∈l,gO k.1) (hw:gO ws) (h:(cu l).findIdx? (·== ws)=some n):I7 (sH (aG l) (aQ ws))=(n:Int):=by rw [V4 hl hw,h];rfl
theorem afh {l:List cD} {ws:List Nat} (hl:∀k∈l,gO k.1) (hw:gO ws) (h:fB l ws=none):I7 (sH (aG l) (aQ ws))= -1:=by
 rw [V4 hl hw];unfold fB at h;cases hq:(cu l).findIdx? (·== ws) with
 | some n=>rw [hq] at h;cases h
 | none=>rfl
theorem asr {g:ay} {ws:List Nat} {p:List UInt8} (h2:fB (g.b 2) ws=none) (h0:fB (g.b 0) ws=some p) (ha:LW (aQ ws) p=true):(dS g ws).1= {dh g 1 with b:=aE g.b 2 (g.b 2 ++ [(ws,p)])}:=by
 have hp:cB g ws=(dh g 1,p):=by unfold cB;rw [h0];simp only [ha,if_true]
 unfold dS;rw [h2];simp only [hp];unfold qJ;rw [show (dh g 1).b 2=g.b 2 from rfl,V7 (Vl h2)];rfl
def newP (g:ay) (ws:List Nat):ay:={g with b:=aE (aE g.b 2 (g.b 2 ++ [(ws,dw ws)])) 1 (g.b 1 ++ [(ws,dw ws)])}
theorem ass {α:Type} (f:Nat->α) (i j:Nat) (a b:α) (h:i≠j):aE (aE f i a) j b=aE (aE f j b) i a:=by
 funext k;unfold aE;by_cases h1:k=j
 ·by_cases h2:k=i
  ·omega
  ·simp [h1];intro e;omega
 ·by_cases h2:k=i
  ·simp [h2];intro e;omega
  ·simp [h1,h2]
theorem afi {g g1:ay} {ws:List Nat} (hp:iO g) (h2:fB (g.b 2) ws=none) (e1:g1.b=g.b) (h0:cB g ws=(qJ g1 1 ws (dw ws),dw ws)):(dS g ws).1=newP g1 ws:=by
 have hn2:=Vl h2;have hn1:ws∉cu (g.b 1):=fun q=>hn2 (hp.sub ws q);unfold dS;rw [h2];simp only [h0];unfold qJ newP;simp only;rw [e1,bp _ _ _ _ (by decide),V7 hn2,V7 hn1,ass _ 1 2 _ _ (by decide)]
theorem sL.from {E R:Nat} {v:Nat->aj} {w w1 w2:World} {g':ay} (h:sL E R v w1 g' w2) (c:aM (cX E v) w w1):sL E R v w g' w2:=by
 obtain ⟨v',a,c',o⟩:=h;exact ⟨v',a,c.trans (fun x q=>.inl q) c',fun x q=>(o x q).imp id (aT c.size)⟩
theorem afj (ws:List Nat) (w:World) (hw:gO ws) (hb:gi (ah (aQ ws))):av au 121 #[.string (ah (aQ ws))] w fun e' w'=>ak w.heap.size w w'∧e'= .returned (.tuple #[.string (ah (dw ws)),.int .i64 0]):=by
 have hs:=Lf hw;refine (asc (ah (aQ ws)) w (by rw [bZ];unfold cP;omega)).mono ?_;rintro e w' ⟨h1,⟨_,h2⟩ | ⟨h2,_⟩⟩
 ·exact ⟨h1,h2⟩
 ·exact absurd hb h2
theorem ast (E R:Nat) (g:ay) (v:Nat->aj) (ws:List Nat) (w:World) (kk:Nat) (h:dA E R g v w) (hp:iO g) (hU:gO ws) (hblk:gi (ah (aQ ws))) (mz:qd g kk) (hkk:kk<=100000000000) (hpl:∀k∈g.b 0,k.2.length<=1000000):
 av au 132 #[.pointer (some ⟨E,0,none⟩),.string (ah (aQ ws))] w fun e' w'=>e'= .returned (.tuple #[])∧sL E R v w (dS g ws).1 w':=by
 have hl2:=mz.1 2 (by decide);have hl0:=mz.1 0 (by decide);have hl1:=mz.1 1 (by decide);have hc:=mz.2;have HH:=af h;have HP:=af hp;have lp:=af hU;have lS:=af hblk;have pE:Hid (∀w',dA E R g v w'->av au 179 #[v 2,.string (ah (aQ ws))] w' fun e' w''=>e'= .returned (.int .i64 (I7 (sH (aG (g.b 2)) (aQ ws))))∧w''=w'):=fun w' k=>VX _ _ _ _ w' (by rw [ee];exact k.ow 2 (by decide)) (by rw [ee];omega);have fj:Hid (∀w',dA E R g v w'->av au 179 #[v 0,.string (ah (aQ ws))] w' fun e' w''=>e'= .returned (.int .i64 (I7 (sH (aG (g.b 0)) (aQ ws))))∧w''=w'):=fun w' k=>VX _ _ _ _ w' (by rw [ee];exact k.ow 0 (by decide)) (by rw [ee];omega);have Qy:w.cell? ⟨E,145,none⟩=some (v 2):=h.ls 2 (by decide);have rj:w.cell? ⟨E,144,none⟩=some (v 0):=h.ls 0 (by decide);obtain ⟨DE,DF,hv2⟩:=bA (h.ow 2 (by decide));obtain ⟨sa0,WB,nW⟩:=bA (h.ow 0 (by decide));have nP:=af hv2;have Dz:=af nW;have wc:∀i,i<4->aY ((g.c i:Int)+1)=(g.c i:Int)+1:=fun i hi=>by have:=hc i hi;unfold aY;omega
 rw [hv2] at Qy pE;rw [nW] at rj fj;clear hv2 nW;cases h2:fB (g.b 2) ws with
 | some p=>
   obtain ⟨n,_,hn⟩:=IP h2;have hP:=afg (hp.bk 2 (by decide)).ok hU hn;rw [hP] at pE;have hn0:(0:Int)<=(n:Int):=by omega
   have hw0:=wc 0 (by decide);have c0:w.cell? ⟨E,147,none⟩=some (.int .i64 (g.c 0:Int)):=h.cnt 0 (by decide);have f0:=h.fz 147;have HE:Hid ((dS g ws).1=dh g 0):=by unfold Hid dS;rw [h2]
   have HC:=af (fun W=>h.ct 0 (by decide) (g.c 0) rfl W);clear h hp hU hblk mz hpl hP hn h2 hl0 hl1 hl2 hc wc rj fj;generalize g.c 0=N0 at *;go_enter YU,YV;go_wp2_with fail
   refine (aq pE _ HH.out).mono ?_;rintro e w' ⟨rfl,hw'⟩;obtain rfl:=hw'.symm;go_wp2_with fail
   rw [hw0]
   (try simp only [Exit.inBlock,Exit.then])
   refine cL (agG rfl _ _ _) rfl ?_;rw [HE.out];obtain ⟨a1,a2⟩:=HC.out _ rfl;exact ⟨rfl,v,a1,a2,fun _ q=>.inl q⟩
 | none=>
   have hP:=afh (hp.bk 2 (by decide)).ok hU h2;rw [hP] at pE;cases h0:fB (g.b 0) ws with
   | some p=>
     obtain ⟨n,hnk,hn⟩:=IP h0;have Aw:=afg (hp.bk 0 (by decide)).ok hU hn;rw [Aw] at fj;have hn0:(0:Int)<=(n:Int):=by omega
     have hlt:n<(g.b 0).length:=(List.getElem?_eq_some_iff.1 hnk).1;have hlt':(n:Int)<((g.b 0).length:Int):=by omega
     obtain ⟨gk,ck,WC,hgE,hgl⟩:=(h.ow 0 (by decide)).form (by omega);rw [Dz.out] at WC;simp only [Gu] at WC;obtain ⟨rfl,_,rfl⟩:=WC;have hrow:=h.ow 0 (by decide);rw [Dz.out] at hrow;obtain ⟨d0,d1⟩:=Ul hrow n (ws,p) hnk;simp only at d0 d1;have yG:Hid (∀w':World,w'.heap[gk]? =w.heap[gk]?->w'.cell? ⟨gk,n * 2,none⟩=some (.string (ah (aQ ws)))∧w'.cell? ⟨gk,n * 2+1,none⟩=some (.string (ah p))):=fun w' q=>⟨(aP q).trans d0,(aP q).trans d1⟩;have hps:p.length<=1000000:=hpl (ws,p) (List.mem_of_getElem? hnk);have lQ:(aQ ws).length<=32:=Lf hU;have Dq:=af (fun w'=>alV (ah (aQ ws)) (ah p) w' (by rw [bZ];unfold cP;omega) (by rw [bZ];unfold cP;omega));have asu:gk≠E:=by omega
     by_cases ha:LW (aQ ws) p=true
     ·have HE:=af (asr h2 h0 ha);have tH:Hid (∀m,tD (ah (aQ ws)) (ah p) m->m=0):=fun m q=>q.one ((LX _ _).1 ha);have hw1:=wc 1 (by decide);have c1:w.cell? ⟨E,148,none⟩=some (.int .i64 (g.c 1:Int)):=h.cnt 1 (by decide);have HC:=af (fun w' (k:dA E R g v w') W=>k.ct 1 (by decide) (g.c 1) rfl W);have qv:Hid (∀w',dA E R g v w'->w'.cell? ⟨E,148,none⟩=some (.int .i64 (g.c 1:Int))∧w'.frozen? ⟨E,148,none⟩=false):=fun w' k=>⟨k.cnt 1 (by decide),k.fz _⟩;have rE:Hid ((g.b 2).length<=100000000000):=aT hl2 hkk;clear h hp hU hblk mz hpl hP h2 hl0 hl1 hl2 hc wc Aw hn h0 ha hps lQ hrow hnk;generalize g.c 1=N1 at *;go_enter YU,YV;go_wp2_with fail
      refine (aq pE _ HH.out).mono ?_;rintro e w' ⟨rfl,hw'⟩;obtain rfl:=hw'.symm;go_wp2_with fail
      refine (aq fj _ HH.out).mono ?_;rintro e w' ⟨rfl,hw'⟩;obtain rfl:=hw'.symm;go_wp2_with fail
      refine (aq Dq _).mono ?_;rintro e w1 ⟨hb1,m,rfl,hm⟩;obtain rfl:=tH.out m hm;have k1:dA E R g v w1:=HH.out.kept (fun x q=>hb1.block x (HH.out.has q).2);obtain ⟨wZ,WD⟩:=qv.out _ k1;have m9:=af k1;have aJ:=af hb1;clear hm hb1 k1 c1 d0 d1 rj Qy pE fj Dq tH qv;go_upto_region 8 with fail
      rw [hw1];obtain ⟨W2,kK⟩:∃W2,W2=w1.setCell ⟨E,148,none⟩ (.int .i64 ((N1:Int)+1)):=⟨_,rfl⟩;rw [<-kK];obtain ⟨k2,MH⟩:=HC.out w1 m9.out W2 kK;have AB:W2.cell? ⟨E,145,none⟩=some (.slice DE (g.b 2).length DF):=by have:=k2.ls 2 (by decide);rw [nP.out] at this;exact this
      have Qz:W2.cell? ⟨E,144,none⟩=some (.slice (some ⟨gk,0,none⟩) (g.b 0).length WB):=by have:=k2.ls 0 (by decide);rw [Dz.out] at this;exact this
      obtain ⟨d0,d1⟩:=yG.out W2 (by rw [kK,bB asu];exact aJ.out.block gk hgl);have f145:=k2.fz 145;have fC:=af k2;have jX:=af MH;have l6:=af kK;have qE:Hid ((W2.cell? ⟨E,145,none⟩=some (.slice DE (g.b 2).length DF)∧W2.cell? ⟨E,144,none⟩=some (.slice (some ⟨gk,0,none⟩) (g.b 0).length WB))∧W2.cell? ⟨gk,n * 2,none⟩=some (.string (ah (aQ ws)))∧W2.cell? ⟨gk,n * 2+1,none⟩=some (.string (ah p))):=⟨⟨AB,Qz⟩,d0,d1⟩;have HGk:Hid (gk<W2.heap.size):=by unfold Hid;rw [kK,fW];exact dB hgl aJ.out.size
      clear k2 MH kK wZ WD HC;refine yQ 8 [0,1,2,3,5,6,7,9] [(some true,4),(some true,8),(some true,10),(some true,11),(some false,12),(some false,13),(none,14),(none,15),(some false,16)] 13 (fun w'=>(w'.cell? ⟨E,145,none⟩=some (.slice DE (g.b 2).length DF)∧w'.cell? ⟨E,144,none⟩=some (.slice (some ⟨gk,0,none⟩) (g.b 0).length WB))∧w'.cell? ⟨gk,n * 2,none⟩=some (.string (ah (aQ ws)))∧w'.cell? ⟨gk,n * 2+1,none⟩=some (.string (ah p))) (by kernel_rfl) (by kernel_rfl) (fun d _ _ _ _ h=>by cases d<;>exact h) ⟨⟨AB,Qz⟩,d0,d1⟩ ?_
      iterate 8
       refine yP ?_ rfl rfl ?_ ?_
       rotate_left
       ·intro w';go_simp;rfl
       go_simp
      refine yO ?_;clear AB Qz d0 d1
      iterate 4
       refine qK ?_ rfl rfl ?_ ?_
       rotate_left
       ·rintro w' ⟨⟨AB,Qz⟩,d0,d1⟩;go_simp;rfl
       go_simp
      refine jI rfl rfl (fun K hK=>?_);go_simp;refine hK _ _ (fun _=>?_) ?_
      ·have q:=qE.out;have hbq:ak W2.heap.size W2 ((W2.alloc (.cells #[.string (ah (aQ ws)),.string (ah p)] 127)).drew):=((aA _ _).alloc (ax _) _).drew;have hE:=hbq.block E fC.out.lt;have hG:=hbq.block gk HGk.out;exact ⟨⟨(aP hE).trans q.1.1,(aP hE).trans q.1.2⟩,(aP hG).trans q.2.1,(aP hG).trans q.2.2⟩
      clear hK K;have bn:ak W2.heap.size W2 ((W2.alloc (.cells #[.string (ah (aQ ws)),.string (ah p)] 127)).drew):=((aA _ _).alloc (ax _) _).drew;have k3:=fC.out.kept (fun x q=>bn.block x (fC.out.has q).2);have o3:=k3.ow 2 (by decide);rw [nP.out] at o3;have q3:uP ((W2.alloc (.cells #[.string (ah (aQ ws)),.string (ah p)] 127)).drew) W2.heap.size 127 2 (.slice (some ⟨W2.heap.size,0,none⟩) 1 1) 1 [.string (ah (aQ ws)),.string (ah p)]:=I8 W2 _ _;refine jI rfl rfl (fun K hK=>?_);refine acC _ _ rfl (B:=E+1) (B0:=W2.heap.size) (l:=aG (g.b 2)) (m:=[(aQ ws,p)]) rfl rfl (by rw [ee];exact o3) q3 (aT k3.lt (ax _)) (by rw [ee];have:=rE.out;simp;omega) ?_;intro v4 w4 a1 a2 a3;obtain ⟨va4,vc4,hv4⟩:=bA a1;generalize hL4:(aG (g.b 2) ++ [(aQ ws,p)]).length=L4 at a1 hv4;subst hv4;refine hK _ _ (fun h=>absurd h (by decide)) ?_;clear hK K;have HA:=af (fun W=>k3.app (i:=2) (by decide) ws p (u:=.slice va4 L4 vc4) (by show uP _ _ _ _ _ (aG (g.b 2) ++ [(aQ ws,p)]).length _;rw [hL4];exact a1) (by rw [nP.out];exact a2) (by rw [nP.out];exact a3) W);have zZ:w4.heap[E]? =W2.heap[E]?:=(a2.block E (dB fC.out.lt bn.size) (fun e=>by have:=(aR o3 E e.symm).1;omega)).trans (bn.block E fC.out.lt);have QA:w4.cell? ⟨E,145,none⟩=some (.slice DE (g.b 2).length DF):=(aP zZ).trans (by have:=fC.out.ls 2 (by decide);rw [nP.out] at this;exact this);have z145:w4.frozen? ⟨E,145,none⟩=false:=(fS zZ).trans f145;have iM:=af bn;clear a1 a2 a3 o3 q3 k3 zZ bn f145 hL4
      iterate 2
       refine Qe ?_ rfl rfl ?_ ?_
       rotate_left
       ·intro w';go_simp;rfl
       go_simp
      refine jI rfl rfl (fun K hK=>?_);go_simp;refine hK _ _ (fun h=>absurd h (by decide)) ?_;clear hK K;refine uH ?_;go_wp2_with fail
      (try simp only [Exit.inBlock,Exit.then])
      refine cL (agG rfl _ _ _) rfl ?_;refine ⟨rfl,?_⟩;rw [HE.out];exact (((HA.out _ rfl).from (aM.bh iM.out)).from jX.out).from (aM.bh aJ.out)
     ·have hp1:cB g ws=(qJ (dh (dh g 2) 3) 1 ws (dw ws),dw ws):=by unfold cB;rw [h0];simp only [ha,if_false,Bool.false_eq_true]
      have HE:=af (afi hp h2 (g1:=dh (dh g 2) 3) rfl hp1);have tH:Hid (∀m,tD (ah (aQ ws)) (ah p) m->(m == 0)=false):=fun m q=>by
       rw [beq_eq_false_iff_ne];rintro rfl;exact ha ((LX _ _).2 q)
      have hw2:=wc 2 (by decide);have vh:=wc 3 (by decide);have HC:=af (fun w' (k:dA E R g v w') W=>k.ct 2 (by decide) (g.c 2) rfl W);have MI:=af (fun w' (k:dA E R (dh g 2) v w') W=>k.ct 3 (by decide) (g.c 3) (show aE g.c 2 (g.c 2+1) 3=g.c 3 from bp _ _ _ _ (by decide)) W);have qv:Hid (∀w',dA E R g v w'->(w'.cell? ⟨E,149,none⟩=some (.int .i64 (g.c 2:Int))∧w'.frozen? ⟨E,149,none⟩=false)∧(w'.cell? ⟨E,150,none⟩=some (.int .i64 (g.c 3:Int))∧w'.frozen? ⟨E,150,none⟩=false)):=fun w' k=>⟨⟨k.cnt 2 (by decide),k.fz _⟩,k.cnt 3 (by decide),k.fz _⟩;have rE:Hid ((g.b 2).length<=100000000000):=aT hl2 hkk;have rH:Hid ((g.b 1).length<=100000000000):=aT hl1 hkk;have As:Hid (∀w',av au 121 #[.string (ah (aQ ws))] w' fun e' w''=>ak w'.heap.size w' w''∧e'= .returned (.tuple #[.string (ah (dw ws)),.int .i64 0])):=fun w'=>afj ws w' hU hblk;clear h hp hU hblk mz hpl hP h2 hl0 hl1 hl2 hc wc Aw hn h0 ha hps lQ hrow hnk hp1;generalize g.c 2=N2 at *;generalize g.c 3=N3 at *;go_enter YU,YV;go_wp2_with fail
      refine (aq pE _ HH.out).mono ?_;rintro e w' ⟨rfl,hw'⟩;obtain rfl:=hw'.symm;go_wp2_with fail
      refine (aq fj _ HH.out).mono ?_;rintro e w' ⟨rfl,hw'⟩;obtain rfl:=hw'.symm;go_wp2_with fail
      refine (aq Dq _).mono ?_;rintro e w1 ⟨hb1,m,rfl,hm⟩;have hm0:=tH.out m hm;have k1:dA E R g v w1:=HH.out.kept (fun x q=>hb1.block x (HH.out.has q).2);obtain ⟨⟨wZ,WD⟩,WE,WG⟩:=qv.out _ k1;have m9:=af k1;have aJ:=af hb1;clear hm hb1 k1 d0 d1 rj Qy pE fj Dq tH qv;go_upto_region 11 with fail
      rw [hw2,vh];obtain ⟨W2,kK⟩:∃W2,W2=w1.setCell ⟨E,149,none⟩ (.int .i64 ((N2:Int)+1)):=⟨_,rfl⟩;obtain ⟨W3,eY⟩:∃W3,W3=W2.setCell ⟨E,150,none⟩ (.int .i64 ((N3:Int)+1)):=⟨_,rfl⟩;rw [<-kK,<-eY];obtain ⟨k2,MH⟩:=HC.out w1 m9.out W2 kK;obtain ⟨k3,MJ⟩:=MI.out W2 k2 W3 eY;have MK:=af k3;have ku:Hid (aM (cX E v) w W3):=((aM.bh aJ.out).trans (fun x q=>.inl q) MH).trans (fun x q=>.inl q) MJ;clear k2 MH k3 MJ kK eY wZ WD WE WG HC MI;go_wp2_with fail
      refine (aq As _).mono ?_;rintro e w4 ⟨fZ,rfl⟩;have k4:dA E R (dh (dh g 2) 3) v w4:=MK.out.kept (fun x q=>fZ.block x (MK.out.has q).2);have si:Hid (aM (cX E v) w w4):=ku.out.trans (fun x q=>.inl q) (aM.bh (F:=cX E v) fZ);have AB:w4.cell? ⟨E,145,none⟩=some (.slice DE (g.b 2).length DF):=by have:=k4.ls 2 (by decide);rw [nP.out] at this;exact this
      have f145:=k4.fz 145;have fD:ak w4.heap.size w4 (w4.alloc (.cells #[.string (ah (aQ ws)),.string (ah (dw ws))] 127)):=(aA _ _).alloc (ax _) _;have k5:=k4.kept (fun x q=>fD.block x (k4.has q).2);have o5:=k5.ow 2 (by decide);rw [nP.out] at o5;have jf:Hid (uP (w4.alloc (.cells #[.string (ah (aQ ws)),.string (ah (dw ws))] 127)) (E+1) 127 2 (.slice DE (g.b 2).length DF) (aG (g.b 2)).length (bR (aG (g.b 2)))):=by unfold Hid;rw [ee];exact o5
      have iz:=af k4;have gV:=af k5;have jS:=af fD;clear fZ fD k4 k5 o5 As;go_upto_region 13 with (at_builtin;refine BH rfl _ _ rfl (B:=E+1) (B0:=w4.heap.size) (l:=aG (g.b 2)) (m:=[(aQ ws,dw ws)]) rfl rfl jf.out (I8 w4 _ _) gV.out.lt (by rw [ee];have:=rE.out;simp;omega) ?_;intro v6 w6 a1 a2 a3;obtain ⟨ML,MN,MO⟩:=bA a1;generalize MP:(aG (g.b 2) ++ [(aQ ws,dw ws)]).length=L6 at a1 MO;subst MO;have WH:=af MP;clear MP;have FT:w6.heap[E]? =w4.heap[E]?:=(a2.block E (dB iz.out.lt jS.out.size) (fun e=>by have:=(aR jf.out E e.symm).1;omega)).trans (jS.out.block E iz.out.lt);have jW:=af a1;have qy:=af a2;have vB:=af a3;have QA:=(aP (a:=⟨E,145,none⟩) FT).trans AB;have z145:=(fS (a:=⟨E,145,none⟩) FT).trans f145;clear a1 a2 a3 FT AB f145)
      obtain ⟨W7,FU⟩:∃W7,W7=w6.setCell ⟨E,145,none⟩ (.slice ML L6 MN):=⟨_,rfl⟩;rw [<-FU];obtain ⟨v7,k7,MQ,o7⟩:=gV.out.app (i:=2) (by decide) ws (dw ws) (u:=.slice ML L6 MN) (by show uP _ _ _ _ _ (aG (g.b 2) ++ [(aQ ws,dw ws)]).length _;rw [WH.out];exact jW.out) (by rw [nP.out];exact qy.out) (by rw [nP.out];exact vB.out) W7 FU;have BW:Hid (∀x,cX E v7 x->cX E v x∨w.heap.size<=x):=fun x q=>(o7 x q).imp id (aT (aT si.out.size jS.out.size));have MR:Hid (aM (cX E v) w W7):=(si.out.trans (fun x q=>.inl q) (aM.bh (F:=cX E v) jS.out)).trans (fun x q=>.inl q) MQ;have hgb:({(dh (dh g 2) 3) with b:=aE (dh (dh g 2) 3).b 2 ((dh (dh g 2) 3).b 2 ++ [(ws,dw ws)])}:ay).b 1=g.b 1:=(show aE g.b 2 (g.b 2 ++ [(ws,dw ws)]) 1=g.b 1 from bp _ _ _ _ (by decide));generalize MS:({(dh (dh g 2) 3) with b:=aE (dh (dh g 2) 3).b 2 ((dh (dh g 2) 3).b 2 ++ [(ws,dw ws)])}:ay)=G7 at *;have HEq:Hid ({G7 with b:=aE G7.b 1 (G7.b 1 ++ [(ws,dw ws)])}=newP (dh (dh g 2) 3) ws):=by
       unfold Hid;rw [hgb,<-MS];rfl
      obtain ⟨WI,WJ,hv1⟩:=bA (k7.ow 1 (by decide));have FV:W7.cell? ⟨E,146,none⟩=some (v7 1):=k7.ls 1 (by decide);have f146:=k7.fz 146;have rY:=af hv1;rw [hv1] at FV;have qW:ak W7.heap.size W7 (W7.alloc (.cells #[.string (ah (aQ ws)),.string (ah (dw ws))] 127)):=(aA _ _).alloc (ax _) _;have k8:=k7.kept (fun x q=>qW.block x (k7.has q).2);have o8:=k8.ow 1 (by decide);rw [hv1] at o8;have BX:Hid (uP (W7.alloc (.cells #[.string (ah (aQ ws)),.string (ah (dw ws))] 127)) (E+1) 127 2 (.slice WI (G7.b 1).length WJ) (aG (G7.b 1)).length (bR (aG (G7.b 1)))):=by unfold Hid;rw [ee];exact o8
      have WK:Hid ((G7.b 1).length<=100000000000):=by unfold Hid;rw [hgb];exact rH.out
      have mK:=af k7;have lT:=af k8;have yL:=af qW;clear k7 MQ o7 MS hgb hv1 qW k8 o8 FU QA z145 jW qy vB;go_wp2_with (at_builtin;refine BH rfl _ _ rfl (B:=E+1) (B0:=W7.heap.size) (l:=aG (G7.b 1)) (m:=[(aQ ws,dw ws)]) rfl rfl BX.out (I8 W7 _ _) lT.out.lt (by rw [ee];have:=WK.out;simp;omega) ?_;intro v9 w9 a1 a2 a3;obtain ⟨WM,WN,MT⟩:=bA a1;generalize MU:(aG (G7.b 1) ++ [(aQ ws,dw ws)]).length=L9 at a1 MT;subst MT;have WO:=af MU;clear MU;have FW:w9.heap[E]? =W7.heap[E]?:=(a2.block E (dB mK.out.lt yL.out.size) (fun e=>by have:=(aR BX.out E e.symm).1;omega)).trans (yL.out.block E mK.out.lt);have jW:=af a1;have qy:=af a2;have vB:=af a3;have QB:=(aP (a:=⟨E,146,none⟩) FW).trans FV;have z146:=(fS (a:=⟨E,146,none⟩) FW).trans f146;clear a1 a2 a3 FW FV f146)
      go_end0
      refine ⟨rfl,?_⟩;rw [HE.out,<-HEq.out];obtain ⟨v10,k10,WQ,Mu⟩:=lT.out.app (i:=1) (by decide) ws (dw ws) (u:=.slice WM L9 WN) (by rw [WO.out];exact jW.out) (by rw [rY.out];exact qy.out) (by rw [rY.out];exact vB.out) _ rfl;refine ⟨v10,k10,(MR.out.trans (fun x q=>.inl q) (aM.bh (F:=cX E v) yL.out)).trans BW.out WQ,fun x q=>?_⟩;rcases Mu x q with a | a
      ·exact BW.out x a
      ·exact .inr (aT MR.out.size (aT yL.out.size a))
   | none=>
     have Aw:=afh (hp.bk 0 (by decide)).ok hU h0;rw [Aw] at fj;have hp1:cB g ws=(qJ (dh g 3) 1 ws (dw ws),dw ws):=by unfold cB;rw [h0]
     have HE:=af (afi hp h2 (g1:=dh g 3) rfl hp1);have vh:=wc 3 (by decide);have MI:=af (fun w' (k:dA E R g v w') W=>k.ct 3 (by decide) (g.c 3) rfl W);have WE:w.cell? ⟨E,150,none⟩=some (.int .i64 (g.c 3:Int)):=h.cnt 3 (by decide);have WG:=h.fz 150;have rE:Hid ((g.b 2).length<=100000000000):=aT hl2 hkk;have rH:Hid ((g.b 1).length<=100000000000):=aT hl1 hkk;have As:Hid (∀w',av au 121 #[.string (ah (aQ ws))] w' fun e' w''=>ak w'.heap.size w' w''∧e'= .returned (.tuple #[.string (ah (dw ws)),.int .i64 0])):=fun w'=>afj ws w' hU hblk;clear h hp hU hblk mz hpl hP h2 hl0 hl1 hl2 hc wc Aw h0 hp1;generalize g.c 3=N3 at *;go_enter YU,YV;go_wp2_with fail
     refine (aq pE _ HH.out).mono ?_;rintro e w' ⟨rfl,hw'⟩;obtain rfl:=hw'.symm;go_wp2_with fail
     refine (aq fj _ HH.out).mono ?_;rintro e w' ⟨rfl,hw'⟩;obtain rfl:=hw'.symm;clear rj Qy pE fj;go_upto_region 11 with fail
     rw [vh];obtain ⟨W3,eY⟩:∃W3,W3=w.setCell ⟨E,150,none⟩ (.int .i64 ((N3:Int)+1)):=⟨_,rfl⟩;rw [<-eY];obtain ⟨k3,MJ⟩:=MI.out w HH.out W3 eY;have MK:=af k3;have ku:Hid (aM (cX E v) w W3):=MJ;clear k3 MJ eY WE WG MI;go_wp2_with fail
     refine (aq As _).mono ?_;rintro e w4 ⟨fZ,rfl⟩;have k4:dA E R (dh g 3) v w4:=MK.out.kept (fun x q=>fZ.block x (MK.out.has q).2);have si:Hid (aM (cX E v) w w4):=ku.out.trans (fun x q=>.inl q) (aM.bh (F:=cX E v) fZ);have AB:w4.cell? ⟨E,145,none⟩=some (.slice DE (g.b 2).length DF):=by have:=k4.ls 2 (by decide);rw [nP.out] at this;exact this
     have f145:=k4.fz 145;have fD:ak w4.heap.size w4 (w4.alloc (.cells #[.string (ah (aQ ws)),.string (ah (dw ws))] 127)):=(aA _ _).alloc (ax _) _;have k5:=k4.kept (fun x q=>fD.block x (k4.has q).2);have o5:=k5.ow 2 (by decide);rw [nP.out] at o5;have jf:Hid (uP (w4.alloc (.cells #[.string (ah (aQ ws)),.string (ah (dw ws))] 127)) (E+1) 127 2 (.slice DE (g.b 2).length DF) (aG (g.b 2)).length (bR (aG (g.b 2)))):=by unfold Hid;rw [ee];exact o5
     have iz:=af k4;have gV:=af k5;have jS:=af fD;clear fZ fD k4 k5 o5 As;go_upto_region 13 with (at_builtin;refine BH rfl _ _ rfl (B:=E+1) (B0:=w4.heap.size) (l:=aG (g.b 2)) (m:=[(aQ ws,dw ws)]) rfl rfl jf.out (I8 w4 _ _) gV.out.lt (by rw [ee];have:=rE.out;simp;omega) ?_;intro v6 w6 a1 a2 a3;obtain ⟨ML,MN,MO⟩:=bA a1;generalize MP:(aG (g.b 2) ++ [(aQ ws,dw ws)]).length=L6 at a1 MO;subst MO;have WH:=af MP;clear MP;have FT:w6.heap[E]? =w4.heap[E]?:=(a2.block E (dB iz.out.lt jS.out.size) (fun e=>by have:=(aR jf.out E e.symm).1;omega)).trans (jS.out.block E iz.out.lt);have jW:=af a1;have qy:=af a2;have vB:=af a3;have QA:=(aP (a:=⟨E,145,none⟩) FT).trans AB;have z145:=(fS (a:=⟨E,145,none⟩) FT).trans f145;clear a1 a2 a3 FT AB f145)
     obtain ⟨W7,FU⟩:∃W7,W7=w6.setCell ⟨E,145,none⟩ (.slice ML L6 MN):=⟨_,rfl⟩;rw [<-FU];obtain ⟨v7,k7,MQ,o7⟩:=gV.out.app (i:=2) (by decide) ws (dw ws) (u:=.slice ML L6 MN) (by show uP _ _ _ _ _ (aG (g.b 2) ++ [(aQ ws,dw ws)]).length _;rw [WH.out];exact jW.out) (by rw [nP.out];exact qy.out) (by rw [nP.out];exact vB.out) W7 FU;have BW:Hid (∀x,cX E v7 x->cX E v x∨w.heap.size<=x):=fun x q=>(o7 x q).imp id (aT (aT si.out.size jS.out.size));have MR:Hid (aM (cX E v) w W7):=(si.out.trans (fun x q=>.inl q) (aM.bh (F:=cX E v) jS.out)).trans (fun x q=>.inl q) MQ;have hgb:({(dh g 3) with b:=aE (dh g 3).b 2 ((dh g 3).b 2 ++ [(ws,dw ws)])}:ay).b 1=g.b 1:=(show aE g.b 2 (g.b 2 ++ [(ws,dw ws)]) 1=g.b 1 from bp _ _ _ _ (by decide));generalize MS:({(dh g 3) with b:=aE (dh g 3).b 2 ((dh g 3).b 2 ++ [(ws,dw ws)])}:ay)=G7 at *;have HEq:Hid ({G7 with b:=aE G7.b 1 (G7.b 1 ++ [(ws,dw ws)])}=newP (dh g 3) ws):=by
      unfold Hid;rw [hgb,<-MS];rfl
     obtain ⟨WI,WJ,hv1⟩:=bA (k7.ow 1 (by decide));have FV:W7.cell? ⟨E,146,none⟩=some (v7 1):=k7.ls 1 (by decide);have f146:=k7.fz 146;have rY:=af hv1;rw [hv1] at FV;have qW:ak W7.heap.size W7 (W7.alloc (.cells #[.string (ah (aQ ws)),.string (ah (dw ws))] 127)):=(aA _ _).alloc (ax _) _;have k8:=k7.kept (fun x q=>qW.block x (k7.has q).2);have o8:=k8.ow 1 (by decide);rw [hv1] at o8;have BX:Hid (uP (W7.alloc (.cells #[.string (ah (aQ ws)),.string (ah (dw ws))] 127)) (E+1) 127 2 (.slice WI (G7.b 1).length WJ) (aG (G7.b 1)).length (bR (aG (G7.b 1)))):=by unfold Hid;rw [ee];exact o8
     have WK:Hid ((G7.b 1).length<=100000000000):=by unfold Hid;rw [hgb];exact rH.out
     have mK:=af k7;have lT:=af k8;have yL:=af qW;clear k7 MQ o7 MS hgb hv1 qW k8 o8 FU QA z145 jW qy vB;go_wp2_with (at_builtin;refine BH rfl _ _ rfl (B:=E+1) (B0:=W7.heap.size) (l:=aG (G7.b 1)) (m:=[(aQ ws,dw ws)]) rfl rfl BX.out (I8 W7 _ _) lT.out.lt (by rw [ee];have:=WK.out;simp;omega) ?_;intro v9 w9 a1 a2 a3;obtain ⟨WM,WN,MT⟩:=bA a1;generalize MU:(aG (G7.b 1) ++ [(aQ ws,dw ws)]).length=L9 at a1 MT;subst MT;have WO:=af MU;clear MU;have FW:w9.heap[E]? =W7.heap[E]?:=(a2.block E (dB mK.out.lt yL.out.size) (fun e=>by have:=(aR BX.out E e.symm).1;omega)).trans (yL.out.block E mK.out.lt);have jW:=af a1;have qy:=af a2;have vB:=af a3;have QB:=(aP (a:=⟨E,146,none⟩) FW).trans FV;have z146:=(fS (a:=⟨E,146,none⟩) FW).trans f146;clear a1 a2 a3 FW FV f146)
     go_end0
     refine ⟨rfl,?_⟩;rw [HE.out,<-HEq.out];obtain ⟨v10,k10,WQ,Mu⟩:=lT.out.app (i:=1) (by decide) ws (dw ws) (u:=.slice WM L9 WN) (by rw [WO.out];exact jW.out) (by rw [rY.out];exact qy.out) (by rw [rY.out];exact vB.out) _ rfl;refine ⟨v10,k10,(MR.out.trans (fun x q=>.inl q) (aM.bh (F:=cX E v) yL.out)).trans BW.out WQ,fun x q=>?_⟩;rcases Mu x q with a | a
     ·exact BW.out x a
     ·exact .inr (aT MR.out.size (aT yL.out.size a))
end
section
open Go.RowKit
theorem asy (z mem:List Int) (pc:Nat) (w:World) (hl:z.length=138) (hz:∀i,i<128->gz z (8+i)=mem.getD i 0) (hm:∀i,0<=mem.getD i 0∧mem.getD i 0<4294967296) (hpc:pc<128):
 av au 131 #[.agg (S z),.int .i64 (pc:Int)] w fun e' w'=>e'= .returned (.string (ah (mB mem pc)))∧ak w.heap.size w w':=by
 have hr:aK (w.alloc (.cells (S z) 28)) w.heap.size 28 z:=bg w _;have hb1:ak w.heap.size w (w.alloc (.cells (S z) 28)):=(aA w.heap.size w).alloc (ax _) _;have HR:=af hr;have HB:=af hb1;have HM:=af hm;have HZ:=af hz;have ajF:(pc:Int)<128:=by omega
 clear hr hb1 hm hz;go_enter Tryz.func131,Tryz.ntmps131;go_wp2_with fail
 go_loopw [5,6] (fun t i wr=>∃k:Nat,k<=8∧pc+k<=128∧i= .int .i64 k∧t= .string (ah (aQ (gq mem pc k)))∧Hid ((∀q,q<k->eV (mem.getD (pc+q) 0)=true)∧aK wr w.heap.size 28 z∧ak w.heap.size w wr)) (fun _ i _=>8 - (aI i).toNat)
 case atStart=>exact ⟨0,bK _,by omega,rfl,rfl,fun q hq=>by omega,HR.out,HB.out⟩
 case round=>
  obtain ⟨k,hk,hpk,rfl,rfl,dW⟩:=hrel;obtain ⟨hpl,hrow,hbl⟩:=dW.out;by_cases h8:k<8
  ·have h8':(k:Int)<8:=by omega
   by_cases hlt:pc+k<128
   ·have hlt':(pc:Int)+(k:Int)<128:=by omega
    have hc:=HM.out (pc+k);have hx0:mem.getD (pc+k) 0=(((mem.getD (pc+k) 0).toNat:Nat):Int):=(Int.toNat_of_nonneg hc.1).symm;have cm:=hrow.cell (8+(pc+k)) (by omega);rw [HZ.out (pc+k) hlt,hx0] at cm;have HX:Hid (ah (aQ (gq mem pc k)) ++ ah (aS 4 (mem.getD (pc+k) 0).toNat)=ah (aQ (gq mem pc (k+1)))):=by unfold Hid;rw [Zl,R6,mC]
    have gu:=af (fun w'=>GF (mem.getD (pc+k) 0) w' hc.1 hc.2);have afn:nH (bu (mem.getD (pc+k) 0)) (fa (mem.getD (pc+k) 0)) (fb (mem.getD (pc+k) 0)) (fc (mem.getD (pc+k) 0))=eV (mem.getD (pc+k) 0):=rfl;rw [afn,hx0] at gu;have jR:=af (fun w'=>qu (mem.getD (pc+k) 0).toNat 4 w' (by decide) (by omega));have z1:(ah (aQ (gq mem pc k))).size<=64:=by rw [bZ,Ct,Hl];omega
    have z2:(ah (aS 4 (mem.getD (pc+k) 0).toNat)).size<=64:=by rw [bZ,iF];decide
    have cR:Hid (eV (mem.getD (pc+k) 0)=false->mB mem pc=aQ (gq mem pc (k+1))):=fun hp=>by
     unfold mB;rw [Ky mem pc (k+1) (by omega) (by omega) (fun j hj=>hpl j (by omega)) (by omega) (.inr (.inr (by rw [Nat.add_sub_cancel,hp];decide)))]
    have qt:Hid (eV (mem.getD (pc+k) 0)=true->∀q,q<k+1->eV (mem.getD (pc+q) 0)=true):=fun hp q hq=>by
     by_cases hqk:q<k
     ·exact hpl q hqk
     ·obtain rfl:q=k:=by omega
      exact hp
    rw [hx0] at cR qt;generalize ah (aQ (gq mem pc k))=D1 at *;generalize (mem.getD (pc+k) 0).toNat=x at *;generalize ah (aS 4 x)=D2 at *;have l5:=af hrow;have bU:=af hbl;have dY:w.heap.size<wr.heap.size:=hrow.lt;clear hc hx0 afn hpl hrow hbl;cases hq:eV (x:Int)
    ·rw [hq] at gu cR;go_wp2_with fail
     refine (aq jR _).mono ?_;rintro e w1 ⟨rfl,hb1⟩;have aJ:Hid (ak w.heap.size w w1):=bU.out.trans (hb1.mono (by omega));clear hb1;go_wp2_with fail
     refine (aq gu _).mono ?_;rintro e w' ⟨rfl,hw⟩;obtain rfl:=hw.symm;go_wp2_with fail
     go_ret;refine ⟨?_,aJ.out⟩;rw [cR.out (by first | trivial | rfl),<-HX.out];rfl
    ·rw [hq] at gu qt;go_wp2_with fail
     refine (aq jR _).mono ?_;rintro e w1 ⟨rfl,hb1⟩;have aJ:Hid (ak w.heap.size w w1):=bU.out.trans (hb1.mono (by omega));have dm:Hid (aK w1 w.heap.size 28 z):=l5.out.keep (hb1.block _ dY);clear hb1;go_wp2_with fail
     refine (aq gu _).mono ?_;rintro e w' ⟨rfl,hw⟩;obtain rfl:=hw.symm;go_wp2_with fail
     refine ⟨⟨k+1,by omega,by omega,by go_num,?_,qt.out (by first | trivial | rfl),dm.out,aJ.out⟩,by simp [aI];omega⟩;rw [HX.out]
   ·have hlt':¬(pc:Int)+(k:Int)<128:=by omega
    have axi:decide ((pc:Int)+(k:Int)<128)=false:=decide_eq_false hlt';have cR:Hid (mB mem pc=aQ (gq mem pc k)):=by
     unfold Hid mB;rw [Ky mem pc k (by omega) hk (fun j hj=>hpl j (by omega)) (by omega) (.inl (by omega))]
    have bU:=af hbl;clear hpl hrow hbl;go_wp2_with fail
    go_ret;refine ⟨?_,bU.out⟩;rw [cR.out];rfl
  ·have h8':¬(k:Int)<8:=by omega
   have cR:Hid (mB mem pc=aQ (gq mem pc k)):=by
    unfold Hid mB;rw [Ky mem pc k (by omega) hk (fun j hj=>hpl j (by omega)) (by omega) (.inr (.inl (by omega)))]
   have bU:=af hbl;clear hpl hrow hbl;go_wp2_with fail
   go_ret;refine ⟨?_,bU.out⟩;rw [cR.out];rfl
end
section
open Go.RowKit Go.Maps Go.WideMaps
theorem asz (E R:Nat) (g:ay) (r:aN) (v:Nat->aj) (fuel:Int) (w:World) (h:dL E R g r v w) (ho:iN g r.us=true):
 av au 77 #[.pointer (some ⟨E,0,none⟩),.int .i64 fuel] w fun e' w'=>e'= .returned (.tuple #[.int .i64 0,.int .i64 17])∧ak w.heap.size w w':=by
 have HO:=af (Ft E R g r v w h);rw [ho] at HO;clear h ho;go_enter YW,YX;go_wp2_with fail
 refine (aq HO).mono ?_;rintro e w1 ⟨rfl,nq,rfl⟩;clear HO;go_wp2_with fail
 go_ret2
 exact ⟨rfl,dH (aA _ _) _⟩
theorem asA (E R:Nat) (g:ay) (r:aN) (v:Nat->aj) (fuel:Int) (w:World) (h:dL E R g r v w) (ho:iN g r.us=false) (hf:fuel<0∨2000<fuel):
 av au 77 #[.pointer (some ⟨E,0,none⟩),.int .i64 fuel] w fun e' w'=>e'= .returned (.tuple #[.int .i64 0,.int .i64 1])∧ak w.heap.size w w':=by
 have HO:=af (Ft E R g r v w h);rw [ho] at HO;clear h ho;rcases hf with hf | hf
 ·go_enter YW,YX;go_wp2_with fail
  refine (aq HO).mono ?_;rintro e w1 ⟨rfl,nq,rfl⟩;clear HO;go_wp2_with fail
  go_ret2
  exact ⟨rfl,dH (aA _ _) _⟩
 ·have IB:¬fuel<0:=by omega
  go_enter YW,YX;go_wp2_with fail
  refine (aq HO).mono ?_;rintro e w1 ⟨rfl,nq,rfl⟩;clear HO;go_wp2_with fail
  go_ret2
  exact ⟨rfl,dH (aA _ _) _⟩
theorem asB (w:World) (E:Nat) (z:List Int) (hz:z.length=138) (h:w.rangeAt E 3 (z.map (cI .i64))):(kR 28 (.pointer (some ⟨E,3,none⟩))).run au w= .ok (.agg (S z)) w:=
 run_loadAt_mid w E 3 28 (z.map (cI .i64)) _ h jO rfl (by rw [mD,jV,hz])
theorem iO.QC {g:ay} {k:Nat} (h:iO g) (hg:xE g k) (fuel:Nat):iO (eT g fuel).1:=by
 unfold eT;split
 ·exact h.of rfl
 ·exact (h.arf hg.z.Fk ((zN _).2 hg.z.blk)).of rfl
theorem dA.stop {E R:Nat} {g:ay} {v:Nat->aj} {w:World} (h:dA E R g v w):w.cell? ⟨E,140,none⟩=some (.int .i64 (gz g.z 137)):=by
 refine h.st 137 (.int .i64 (gz g.z 137)) ?_;rw [iX,bE (by rw [h.zl];decide)];unfold gz;rw [bP,bE (by rw [h.zl];decide)];rfl
theorem dA.pcc {E R:Nat} {g:ay} {v:Nat->aj} {w:World} (h:dA E R g v w):w.cell? ⟨E,139,none⟩=some (.int .i64 (gz g.z 136)):=by
 refine h.st 136 (.int .i64 (gz g.z 136)) ?_;rw [iX,bE (by rw [h.zl];decide)];unfold gz;rw [bP,bE (by rw [h.zl];decide)];rfl
theorem asD {z:List Int} (h:lu z) (w:World):av au 131 #[.agg (S z),.int .i64 (gz z 136)] w fun e' w'=>e'= .returned (.string (ah (aQ (aO z))))∧ak w.heap.size w w':=by
 rw [h.pc.2,VA];refine asy z (iW z) (kP z) w h.len (fun i hi=>?_) (fun i=>?_) h.pc.1
 ·unfold iW gz;rw [bP,bP,List.getElem?_take,if_pos hi,List.getElem?_drop]
 ·have hw:=h.parts.2;rcases Nat.lt_or_ge i 128 with hi | hi
  ·exact hw.at hi
  ·rw [bP,List.getElem?_eq_none (by rw [hw.1];exact hi)];decide
theorem asE {G:ay} {z:List Int} (h:G.z=z):({G with z:=z}:ay)=G:=by subst h;rfl
theorem asF (E R:Nat) (g:ay) (r:aN) (v:Nat->aj) (fuel:Nat) (w:World) (k:Nat) (h:dL E R g r v w) (ho:iN g r.us=false) (hf:fuel<=2000) (hg:xE g k) (hp:iO g) (hk:k<=99999900000):
 av au 77 #[.pointer (some ⟨E,0,none⟩),.int .i64 (fuel:Int)] w fun e' w'=>e'= .returned (.tuple #[.int .i64 ((vM g fuel).2:Int),.int .i64 0])∧sL E R v w (vM g fuel).1 w':=by
 have HO:=af (Ft E R g r v w h);rw [ho] at HO;have E9:=af h.eg;have HG:=af hg;have HP:=af hp;have HK:=af hk;have HF:=af hf;have IB:¬(fuel:Int)<0:=by omega
 have hf1:¬(2000:Int)<(fuel:Int):=by omega
 obtain ⟨RR,mh⟩:∃RR,RR=vM g fuel:=⟨_,rfl⟩;rw [<-mh];have jA:=af mh;clear h ho hg mh hk hp;go_enter YW,YX;go_wp2_with fail
 refine (aq HO).mono ?_;rintro e w1 ⟨rfl,nq,rfl⟩;have H0:Hid (sL E R v w g (w.drewN nq)):=sL.bh E9.out (dH (aA _ _) _);clear HO;go_wp2_with fail
 go_loopw [7] (fun i wr=>∃(n:Nat) (g':ay),i= .int .i64 (n:Int)∧n<=fuel∧Hid (sL E R v w g' wr∧xE g' (k+4 * n)∧iO g'∧RR=kM (fuel+1 - n) g' fuel n)) (fun i _=>fuel - (aI i).toNat)
 case atStart=>exact ⟨0,g,rfl,bK _,H0.out,HG.out,HP.out,jA.out⟩
 case round=>
  obtain ⟨n,g',rfl,hn,HI⟩:=hrel;obtain ⟨⟨v1,e1,c1,o1⟩,eG,hp1,hr1⟩:=HI.out;have y:=e1.stop;have K4:=af c1;have jy:=af o1;have p7:=af eG;have dm:=af hr1;by_cases hst:gz g'.z 137=0
  ·by_cases hlt:n<fuel
   ·have hlt':(n:Int)<(fuel:Int):=by omega
    rw [hst] at y;obtain ⟨q1,q2,q3⟩:=Ql eG hst (fuel - n);have Du:RR=kM (fuel - n) (eT g' (fuel - n)).1 fuel (n+(eT g' (fuel - n)).2):=by
     rw [hr1,show fuel+1 - n=(fuel - n)+1 by omega,kM,if_pos ⟨hst,hlt⟩]
    have q4:=q3 (by omega);have Fp:RR=kM (fuel+1 - (n+(eT g' (fuel - n)).2)) (eT g' (fuel - n)).1 fuel (n+(eT g' (fuel - n)).2):=by
     rw [Du];exact VS _ _ _ _ _ _ q1 (by omega) (by omega) (by omega)
    have hk3:xE (eT g' (fuel - n)).1 (k+4 * (n+(eT g' (fuel - n)).2)):=⟨q1.z,q1.rd,q1.rn.more (by omega),q1.pl⟩;have hle:n+(eT g' (fuel - n)).2<=fuel:=by omega
    have HQ:=af (JM Fp (JM hk3 (JM hle q2)));have HPn:=af (hp1.QC eG (fuel - n));have bU:=af (fun w'=>asD eG.z w');have o9:=af (fun w'=>asB w' E g'.z eG.z.len);have yp:=e1.pcc;have yr:=e1.st;have hU:=eG.z.Fk;have hblk:=eG.z.blk;have asG:(aO g'.z).length<=8:=hU.1;have hsz:(ah (aQ (aO g'.z))).size=4 * (aO g'.z).length:=by rw [bZ,Ct]
    have WR:Hid (∀w',dA E R g' v1 w'->av au 132 #[.pointer (some ⟨E,0,none⟩),.string (ah (aQ (aO g'.z)))] w' fun e' w''=>e'= .returned (.tuple #[])∧sL E R v1 w' (dS g' (aO g'.z)).1 w''):=fun w' k'=>ast E R g' v1 (aO g'.z) w' (k+4 * n) k' hp1 hU hblk eG.rn (by have:=HK.out;have:=HF.out;omega) (eG.pl 0 (by decide));have hq:((ah (aQ (aO g'.z))).size:Int).tdiv 4=((aO g'.z).length:Int):=by rw [hsz,Int.tdiv_eq_ediv_of_nonneg (by omega)];omega
    have Le:aY ((aO g'.z).length:Int)=((aO g'.z).length:Int):=by unfold aY;omega
    have hfw:aY ((fuel:Int) - (n:Int))=((fuel - n:Nat):Int):=by have:=HF.out;unfold aY;omega
    have QD:Hid (eT g' (fuel - n)=if fuel - n<(aO g'.z).length then ({g' with z:=(gH g'.z).1},1) else (xD g',(aO g'.z).length)):=rfl;have HKg:=af e1;clear e1 c1 o1 eG hp1 hr1 q1 q2 q3 q4 Du Fp hk3 hle hU hblk hsz;generalize hT:ah (aQ (aO g'.z))=T at *;generalize hPC:gz g'.z 136=PC at *;clear hT hPC;go_upto_region 8 with fail
    refine yQ 8 [0,1,2,4,5,6,7] [(some true,3),(some true,8),(some false,9),(some false,10)] 9 (fun w'=>w'.rangeAt E 3 (g'.z.map (cI .i64))∧w'.cell? ⟨E,139,none⟩=some (.int .i64 PC)) (by kernel_rfl) (by kernel_rfl) (fun d _ _ _ _ h=>by cases d<;>exact h) ⟨yr,yp⟩ ?_
    iterate 7
     refine yP ?_ rfl rfl ?_ ?_
     rotate_left
     ·intro w';go_simp;rfl
     go_simp
    refine yO ?_;refine qK (.agg (S g'.z)) rfl rfl ?_ ?_
    ·rintro w' ⟨d0,d1⟩;have hl:=o9.out w' d0;simp only [execOp,List.getElem_toArray,List.getElem_cons_succ,List.getElem_cons_zero,Sem.run_bind];show kN (Sem.run au (kR 28 (.pointer (some ⟨E,3,none⟩))) w') _=_
     rw [hl];rfl
    go_simp;refine qK ?_ rfl rfl ?_ ?_
    rotate_left
    ·rintro w' ⟨d0,d1⟩;go_simp;rfl
    go_simp;refine jI rfl rfl (fun K hK=>?_);go_simp;refine (aq bU _).mono ?_;rintro e w2 ⟨rfl,hb2⟩;have aZ:Hid (ak wr.heap.size wr w2):=(aA _ wr).drew.trans hb2;clear hb2;go_simp;refine hK _ _ (fun h=>absurd h (by decide)) ?_;clear hK K;refine jI rfl rfl (fun K hK=>?_);go_simp;refine hK _ _ (fun h=>absurd h (by decide)) ?_;clear hK K;refine uH ?_;have fC:=af (HKg.out.kept (fun x q=>aZ.out.block x (HKg.out.has q).2));have jX:Hid (aM (cX E v) w w2):=K4.out.trans (fun x q=>.inl q) (aM.bh (F:=cX E v) aZ.out);clear yp yr o9 bU;by_cases hle:fuel - n<(aO g'.z).length
    ·have hle':¬((aO g'.z).length:Int)<=((fuel - n:Nat):Int):=by omega
     have EN:¬(aO g'.z).length<=fuel - n:=by omega
     have afq:(fuel:Int) - (n:Int)<((aO g'.z).length:Int):=by omega
     have WS:Hid ((eT g' (fuel - n)).1= {g' with z:=fO 1 g'.z}):=by unfold Hid;rw [QD.out,if_pos hle];rfl
     have qy:Hid ((eT g' (fuel - n)).2=1):=by unfold Hid;rw [QD.out,if_pos hle]
     rw [qy.out] at HQ;have kr:Hid ((1:Nat)<=2000):=by unfold Hid;decide
     have B6:Hid (dA E R {g' with z:=fO 0 g'.z} v1 w2∧aM (cX E v) w w2∧∀x,cX E v1 x->cX E v x∨w.heap.size<=x):=⟨fC.out,jX.out,jy.out⟩;clear hle WR;generalize WT:fuel - n=FN at *;generalize WU:(aO g'.z).length=FX at *;clear WT WU;go_wp2_with fail
     go_loopw [7,10] (fun q i wi=>∃(j:Nat) (v':Nat->aj),j<=1∧i= .int .i64 (j:Int)∧q= .int .i64 ((n+j:Nat):Int)∧Hid (dA E R {g' with z:=fO j g'.z} v' wi∧aM (cX E v) w wi∧∀x,cX E v' x->cX E v x∨w.heap.size<=x)) (fun _ i _=>1 - (aI i).toNat)
     case atStart=>exact ⟨0,_,bK _,rfl,by simp,B6.out⟩
     case round=>
      obtain ⟨j,v',hj,rfl,rfl,HJ⟩:=hrel;obtain ⟨e5,c5,o5⟩:=HJ.out;by_cases hjl:j<1
      ·have L3:(j:Int)<(1:Int):=by omega
       have cH:=af (fun w'=>ad3 (fO j g'.z) w' e5.zl);have hr:=e5.st;have hzl:=BR (fO j g'.z) e5.zl;have hz2:=Mg (fO j g'.z) e5.zl;have hnext:(gH (fO j g'.z)).1=fO (j+1) g'.z:=by rw [Qa j 1];rfl
       rw [hnext] at cH hz2;have gV:=af e5;have Mj:=af c5;have jf:=af o5;have O1:aY ((j:Int)+1)=(j:Int)+1:=by have:=HF.out;have:=kr.out;unfold aY;omega
       have hn1:aY (((n+j:Nat):Int)+1)=((n+(j+1):Nat):Int):=by have:=HF.out;have:=kr.out;unfold aY;omega
       clear e5 c5 o5 hnext;generalize MV:fO (j+1) g'.z=Z1 at *;have vE:=af MV;clear MV;generalize MW:fO j g'.z=Z0 at *;generalize MX:n+j=NJ at *;generalize MY:n+(j+1)=NJ1 at *;have uz:=af MW;have HNJ:=af MX;have WV:=af MY;clear MW MX MY;go_wp2_with (refine rQ rfl 28 _ rfl E 3 rfl (Z0.map (cI .i64)) _ hr jO rfl hzl ?_)
       refine (aq cH _).mono ?_;rintro e w6 ⟨rfl,pI⟩;have jH:ak w6.heap.size w6 (w6.alloc (.cells (S Z1) 28)):=(aA _ _).alloc (ax _) _;have FY:ak wr.heap.size wr (w6.alloc (.cells (S Z1) 28)):=pI.trans (jH.mono pI.size);have k7:=gV.out.kept (fun x q=>FY.block x (gV.out.has q).2);have WW:(w6.alloc (.cells (S Z1) 28)).there E 3 (S Z1).size:=fun i hi=>⟨k7.st.isSome i (by rw [jV,k7.zl];rw [bQ,hz2] at hi;exact hi),k7.fz _⟩;have WX:(Tryz.prog.info? 28).map (·.size)=some (S Z1).size:=by rw [mD,bQ,hz2]
       have hone:=zE Z1;have R7:bf (w6.alloc (.cells (S Z1) 28)) w6.heap.size 138=true:=by rw [kV _ _ _ _ _ rfl];simp [bQ,hz2]
       have D7:bW (w6.alloc (.cells (S Z1) 28)) w6.heap.size=S Z1:=zF _ _ _ _ rfl;have gL:Hid (∀W,W=(w6.alloc (.cells (S Z1) 28)).setCells E 3 (S Z1).toList->dA E R {g' with z:=Z1} v' W∧aM (cX E v) w W):=fun W hW=>by
        rw [hW];refine ⟨k7.PJ Z1 hz2,(Mj.out.trans (fun x q=>.inl q) (aM.bh (F:=cX E v) FY)).trans (F1:=cX E v') (fun x q=>jf.out x q) ((aM.setCells _ E 3 _).weak (fun x q=>.inl (.inl q)))⟩
       have zz:=iZ;clear pI jH FY k7 cH hr;go_wp2_with (first | (refine ja rfl _ _ rfl w6.heap.size rfl Z1 rfl hz2 (by rw [kV _ _ _ _ _ rfl];simp [bQ,bT]) _ (sQ _ _ _ _ _ rfl) ?_) | (refine fH rfl _ rfl w6.heap.size rfl R7 _ D7 ?_) | (refine YF rfl 28 _ _ rfl E 3 (S Z1) rfl rfl WW WX hone ?_))
       (try rw [O1])
       (try rw [hn1])
       exact ⟨⟨j+1,v',hjl,E1 j,by rw [WV.out],by rw [vE.out];exact (gL.out _ rfl).1,(gL.out _ rfl).2,jf.out⟩,E2 hjl⟩
      ·have L3:¬(j:Int)<(1:Int):=by omega
       have Hy:j=1:=by omega
       subst Hy;clear e5 c5 o5;go_wp2_with fail
       exact ⟨⟨_,(eT g' FN).1,rfl,HQ.out.2.2.1,⟨v',by have:=HJ.out.1;rw [WS.out];exact this,HJ.out.2⟩,HQ.out.2.1,HPn.out,HQ.out.1⟩,VT hlt HQ.out.2.2.2⟩
    ·have hle':((aO g'.z).length:Int)<=((fuel - n:Nat):Int):=by omega
     have EN:(aO g'.z).length<=fuel - n:=by omega
     have afq:¬(fuel:Int) - (n:Int)<((aO g'.z).length:Int):=by omega
     have HFN:Hid (n+(aO g'.z).length<=fuel):=by unfold Hid;omega
     have WS:Hid ((eT g' (fuel - n)).1= {(dS g' (aO g'.z)).1 with z:=fO (aO g'.z).length g'.z}):=by unfold Hid;rw [QD.out,if_neg hle];rfl
     have qy:Hid ((eT g' (fuel - n)).2=(aO g'.z).length):=by unfold Hid;rw [QD.out,if_neg hle]
     rw [qy.out] at HQ;have kr:Hid ((aO g'.z).length<=2000):=by unfold Hid;omega
     have ku:=af (WR.out w2 fC.out);clear hle WR;generalize WT:fuel - n=FN at *;clear WT;go_wp2_with fail
     refine (aq ku).mono ?_;rintro e w3 ⟨rfl,v3,k3,c3,o3⟩;have oZ:(dS g' (aO g'.z)).1.z=g'.z:=I2 _ _;have B6:Hid (dA E R {(dS g' (aO g'.z)).1 with z:=fO 0 g'.z} v3 w3∧aM (cX E v) w w3∧∀x,cX E v3 x->cX E v x∨w.heap.size<=x):=by
      refine ⟨?_,jX.out.trans jy.out c3,fun x q=>?_⟩
      ·have:({(dS g' (aO g'.z)).1 with z:=fO 0 g'.z}:ay)=(dS g' (aO g'.z)).1:=asE oZ;rw [this];exact k3
      ·rcases o3 x q with a | a
       ·exact jy.out x a
       ·exact .inr (aT jX.out.size a)
     clear k3 c3 o3 oZ ku;generalize hPG:(dS g' (aO g'.z)).1=PG at *;generalize WU:(aO g'.z).length=FX at *;clear hPG WU;go_wp2_with fail
     clear hle' EN afq hq Le hfw asG;go_loopw [7,10] (fun q i wi=>∃(j:Nat) (v':Nat->aj),j<=FX∧i= .int .i64 (j:Int)∧q= .int .i64 ((n+j:Nat):Int)∧Hid (dA E R {PG with z:=fO j g'.z} v' wi∧aM (cX E v) w wi∧∀x,cX E v' x->cX E v x∨w.heap.size<=x)) (fun _ i _=>FX - (aI i).toNat)
     case atStart=>exact ⟨0,_,bK _,rfl,by simp,B6.out⟩
     case round=>
      obtain ⟨j,v',hj,rfl,rfl,HJ⟩:=hrel;obtain ⟨e5,c5,o5⟩:=HJ.out;by_cases hjl:j<FX
      ·have L3:(j:Int)<(FX:Int):=by omega
       have cH:=af (fun w'=>ad3 (fO j g'.z) w' e5.zl);have hr:=e5.st;have hzl:=BR (fO j g'.z) e5.zl;have hz2:=Mg (fO j g'.z) e5.zl;have hnext:(gH (fO j g'.z)).1=fO (j+1) g'.z:=by rw [Qa j 1];rfl
       rw [hnext] at cH hz2;have gV:=af e5;have Mj:=af c5;have jf:=af o5;have O1:aY ((j:Int)+1)=(j:Int)+1:=by have:=HF.out;have:=kr.out;unfold aY;omega
       have hn1:aY (((n+j:Nat):Int)+1)=((n+(j+1):Nat):Int):=by have:=HF.out;have:=kr.out;unfold aY;omega
       clear e5 c5 o5 hnext;generalize MV:fO (j+1) g'.z=Z1 at *;have vE:=af MV;clear MV;generalize MW:fO j g'.z=Z0 at *;generalize MX:n+j=NJ at *;generalize MY:n+(j+1)=NJ1 at *;have uz:=af MW;have HNJ:=af MX;have WV:=af MY;clear MW MX MY;go_wp2_with (refine rQ rfl 28 _ rfl E 3 rfl (Z0.map (cI .i64)) _ hr jO rfl hzl ?_)
       refine (aq cH _).mono ?_;rintro e w6 ⟨rfl,pI⟩;have jH:ak w6.heap.size w6 (w6.alloc (.cells (S Z1) 28)):=(aA _ _).alloc (ax _) _;have FY:ak wr.heap.size wr (w6.alloc (.cells (S Z1) 28)):=pI.trans (jH.mono pI.size);have k7:=gV.out.kept (fun x q=>FY.block x (gV.out.has q).2);have WW:(w6.alloc (.cells (S Z1) 28)).there E 3 (S Z1).size:=fun i hi=>⟨k7.st.isSome i (by rw [jV,k7.zl];rw [bQ,hz2] at hi;exact hi),k7.fz _⟩;have WX:(Tryz.prog.info? 28).map (·.size)=some (S Z1).size:=by rw [mD,bQ,hz2]
       have hone:=zE Z1;have R7:bf (w6.alloc (.cells (S Z1) 28)) w6.heap.size 138=true:=by rw [kV _ _ _ _ _ rfl];simp [bQ,hz2]
       have D7:bW (w6.alloc (.cells (S Z1) 28)) w6.heap.size=S Z1:=zF _ _ _ _ rfl;have gL:Hid (∀W,W=(w6.alloc (.cells (S Z1) 28)).setCells E 3 (S Z1).toList->dA E R {PG with z:=Z1} v' W∧aM (cX E v) w W):=fun W hW=>by
        rw [hW];refine ⟨k7.PJ Z1 hz2,(Mj.out.trans (fun x q=>.inl q) (aM.bh (F:=cX E v) FY)).trans (F1:=cX E v') (fun x q=>jf.out x q) ((aM.setCells _ E 3 _).weak (fun x q=>.inl (.inl q)))⟩
       have zz:=iZ;clear pI jH FY k7 cH hr;go_wp2_with (first | (refine ja rfl _ _ rfl w6.heap.size rfl Z1 rfl hz2 (by rw [kV _ _ _ _ _ rfl];simp [bQ,bT]) _ (sQ _ _ _ _ _ rfl) ?_) | (refine fH rfl _ rfl w6.heap.size rfl R7 _ D7 ?_) | (refine YF rfl 28 _ _ rfl E 3 (S Z1) rfl rfl WW WX hone ?_))
       (try rw [O1])
       (try rw [hn1])
       exact ⟨⟨j+1,v',hjl,E1 j,by rw [WV.out],by rw [vE.out];exact (gL.out _ rfl).1,(gL.out _ rfl).2,jf.out⟩,E2 hjl⟩
      ·have L3:¬(j:Int)<(FX:Int):=by omega
       have Hy:j=FX:=by omega
       subst Hy;clear e5 c5 o5;go_wp2_with fail
       exact ⟨⟨_,(eT g' FN).1,rfl,HQ.out.2.2.1,⟨v',by have:=HJ.out.1;rw [WS.out];exact this,HJ.out.2⟩,HQ.out.2.1,HPn.out,HQ.out.1⟩,VT hlt HQ.out.2.2.2⟩
   ·have hlt':¬(n:Int)<(fuel:Int):=by omega
    rw [hst] at y;have pE:Hid (RR=(g',n)):=by
     unfold Hid;rw [hr1,show fuel+1 - n=(fuel - n)+1 by omega,kM,if_neg (fun q=>hlt q.2)]
    clear e1 c1 o1 eG hr1 hp1;go_wp2_with fail
    go_ret2
    rw [pE.out];exact ⟨rfl,HI.out.1⟩
  ·have aqN:(gz g'.z 137 == 0)=false:=by simpa using hst
   have pE:Hid (RR=(g',n)):=by
    unfold Hid;rw [hr1,show fuel+1 - n=(fuel - n)+1 by omega,kM,if_neg (fun q=>hst q.1)]
   generalize gz g'.z 137=ST at *;by_cases hlt:n<fuel
   ·have hlt':(n:Int)<(fuel:Int):=by omega
    clear e1 c1 o1 eG hr1 hp1 hst;go_wp2_with fail
    go_ret2
    rw [pE.out];exact ⟨rfl,HI.out.1⟩
   ·have hlt':¬(n:Int)<(fuel:Int):=by omega
    clear e1 c1 o1 eG hr1 hp1 hst;go_wp2_with fail
    go_ret2
    rw [pE.out];exact ⟨rfl,HI.out.1⟩
end
end Go.Proofs.YtmmflekajbeamaaGreatDoor
