/- Texts of ours, joined, in few bytes. -/
import Derived.Test.YtmmflekajbeamaaGreatDoorE17
open ByteArray renaming size_extract->rP
open Go.ByteArray renaming toList_eq->Cm
open Go.IntKind renaming wrap_i64->AJ
open Go.Proofs.Tryz renaming results126->Cn,underlying175->nG
open Go.RowKit renaming Below->ak
open Go.RowKit.Below renaming heap_alloc->cM,refl->aA
open Go.World renaming cell?_of_block->aP,frozen?_of_block->fS
open Go renaming bodyPost_ret->cL,heap_alloc_new->bg,results_cell_row->jl,wpList_load_row->qO,wpList_store_row->tX
open List renaming length_drop->om,take_of_length_le->mO
open Nat renaming le_refl->ax,le_succ->jk
namespace Go.Proofs.YtmmflekajbeamaaGreatDoor
set_option maxRecDepth 100000
set_option maxHeartbeats 8000000
open Go.RowKit
theorem aeU (s:ByteArray) (w:World) (hs:s.size<=1048576):
 Calls Tryz.prog 126 #[.string s] w (Dd s w):=by
 have zz:=acu;obtain ⟨inf,cJ,yx,cW,hby⟩:=EU;have gJ:=af cJ;have EV:=af yx;have dR:=af cW;have gK:=af hby;clear cJ yx cW hby;obtain ⟨W0,bq⟩:∃W0,W0=(w.alloc (.cells (bJ 0 false 0 (.slice none 0 0)) 175)).alloc (.cells (bJ 0 false 0 (.slice none 0 0)) 175):=⟨_,rfl⟩;have fV:=af bq;have hb0:ak w.heap.size w W0:=by rw [bq];exact ((aA _ _).alloc (ax _) _).alloc (by rw [aB];omega) _
 have r0:W0.heap[w.heap.size]? =some (.cells (bJ 0 false 0 (.slice none 0 0)) 175 (0,0)):=by rw [bq,cM _ _ _ (by rw [aB];omega),bg]
 have a0:gM (w.heap.size+1) kH (.slice none 0 0) W0:=by
  refine ⟨?_,World.ownsRow_nil _ _ _ _⟩;rw [bq];have:=bg (w.alloc (.cells (bJ 0 false 0 (.slice none 0 0)) 175)) (.cells (bJ 0 false 0 (.slice none 0 0)) 175);rw [aB] at this;exact this
 have H0:Hid (ak w.heap.size w W0∧W0.heap[w.heap.size]? =some (.cells (bJ 0 false 0 (.slice none 0 0)) 175 (0,0))∧gM (w.heap.size+1) kH (.slice none 0 0) W0):=⟨hb0,r0,a0⟩;have CN:Hid (s=ah ((aC s).drop kH.good)):=by unfold Hid kH;rw [List.drop_zero,nK]
 clear hb0 r0 a0 bq;go_enter Tryz.func126,Tryz.ntmps126;go_wp2_with fail
 rw [<-fV.out];go_loopw [0] (fun sv wr=>∃(a:cS) (v:Value) (D:ByteArray),sv= .string D∧Hid (D=ah ((aC s).drop a.good))∧Hid (uy s a)∧Hid (gM (w.heap.size+1) a v wr∧wr.heap[w.heap.size]? =some (.cells (bJ 0 false 0 (.slice none 0 0)) 175 (0,0))∧ak w.heap.size w wr)) (fun _ wr=>s.size - Dc (w.heap.size+1) wr)
 case atStart=>exact ⟨kH,.slice none 0 0,s,rfl,CN.out,uy.zero s,H0.out.2.2,H0.out.2.1,H0.out.1⟩
 case round=>
  obtain ⟨a,v,D,rfl,HD,HI,HM⟩:=hrel;have hA:=HM.out.1.lt;have hDz:D.size=s.size - a.good:=by rw [HD.out,bZ,om,jr]
  have hle0:=HI.out.le;have HF:=af (aj1 D wr (by omega));have o9:Hid (aC D=(aC s).drop a.good):=by unfold Hid;rw [HD.out,kG]
  have HDz:=af hDz;have hone:=UC a.gen a.whole a.good v (UD HM.out.1.list);clear hDz;go_wp2_with fail
  refine (aq HF).mono ?_;rintro e w1 ⟨hb1,k,p,rfl,hf⟩;unfold abd at hf;rw [o9.out] at hf;have hz1:=hb1.size;have fL:Hid (gM (w.heap.size+1) a v w1∧w1.heap[w.heap.size]? =some (.cells (bJ 0 false 0 (.slice none 0 0)) 175 (0,0))∧ak w.heap.size w w1):=⟨HM.out.1.above hb1,(hb1.block _ (by omega)).trans HM.out.2.1,HM.out.2.2.trans (hb1.mono (by omega))⟩;have mg:Hid (scan (aC s)=a->(w1.setRow w.heap.size (bJ a.gen a.whole a.good v)).heap[w.heap.size]? =some (.cells (bJ a.gen a.whole a.good v) 175 (0,0))∧Dd s w (.returned (.agg (bJ a.gen a.whole a.good v))) (w1.setRow w.heap.size (bJ a.gen a.whole a.good v))):=fun he=>UE he fL.out.1 fL.out.2.2 _ fL.out.2.1;clear hb1 HF;rcases hf with ⟨hn,rfl,rfl⟩ | ⟨K,q,hk,rfl,rfl⟩
  ·have cR:=af (mg.out (HI.out.stop hn));clear hn;generalize ah []=D0 at *;go_wp2_with (first | (refine qO rfl 175 _ rfl (w.heap.size+1) rfl 175 (bJ a.gen a.whole a.good v) (0,0) _ fL.out.1.cells nG rfl iV ?_) | (refine tX rfl 175 _ _ rfl w.heap.size (bJ a.gen a.whole a.good v) rfl rfl 175 _ fL.out.2.1 iV rfl hone ?_))
   exact cL (v:=.agg (bJ a.gen a.whole a.good v)) (jl Cn _ _ w.heap.size 175 _ _ _ rfl cR.out.1 nG rfl iV) rfl cR.out.2
  have hK1:=(xU hk).1;have hK3:=(xU hk).2.1;have acy:=(xU hk).2.2.1;have UG:=(xU hk).2.2.2.1;rw [om,jr] at UG;have c0:((K:Int) == 0)=false:=by rw [beq_eq_false_iff_ne];omega
  have g0:w1.cell? ⟨w.heap.size+1,0,none⟩=some (.int .i64 (a.gen:Int)):=fL.out.1.cell 0;have f0:=fL.out.1.frozen 0;have g1:w1.cell? ⟨w.heap.size+1,1,none⟩=some (.bool a.whole):=fL.out.1.cell 1;have f1:=fL.out.1.frozen 1;have g2:w1.cell? ⟨w.heap.size+1,2,none⟩=some (.int .i64 (a.good:Int)):=fL.out.1.cell 2;have f2:=fL.out.1.frozen 2;have g3:w1.cell? ⟨w.heap.size+1,3,none⟩=some v:=fL.out.1.cell 3;have f3:=fL.out.1.frozen 3;have hqz:(ah q).size=q.length:=bZ q;have oJ:=af (fun (h:iH a K q=none)=>mg.out (HI.out.El hk h));have xH:=af (fun a' (h:iH a K q=some a')=>HI.out.step hk h);have UH:=af HM.out.1.good
  have tN:Hid (∀(a':cS) (v':Value) (w3:World),iH a K q=some a'->gM (w.heap.size+1) ⟨a'.gen,a'.whole,a.good,a'.list⟩ v' w3->w3.heap[w.heap.size]? =some (.cells (bJ 0 false 0 (.slice none 0 0)) 175 (0,0))->ak w.heap.size w w3->
   (∃(a:cS) (v:Value) (D':ByteArray),Value.string (D.extract (q.length+8) D.size)= .string D'∧Hid (D'=ah ((aC s).drop a.good))∧Hid (uy s a)∧Hid (gM (w.heap.size+1) a v (w3.setCell ⟨w.heap.size+1,2,none⟩ (.int .i64 ((a'.good:Nat):Int)))∧(w3.setCell ⟨w.heap.size+1,2,none⟩ (.int .i64 ((a'.good:Nat):Int))).heap[w.heap.size]? =some (.cells (bJ 0 false 0 (.slice none 0 0)) 175 (0,0))∧ak w.heap.size w (w3.setCell ⟨w.heap.size+1,2,none⟩ (.int .i64 ((a'.good:Nat):Int)))))∧
   s.size - Dc (w.heap.size+1) (w3.setCell ⟨w.heap.size+1,2,none⟩ (.int .i64 ((a'.good:Nat):Int)))<s.size - Dc (w.heap.size+1) wr):=fun a' v' w3 hr qb Fp hB3=>by
   obtain ⟨hst,hgd⟩:=HI.out.step hk hr;have Io:gM (w.heap.size+1) a' v' (w3.setCell ⟨w.heap.size+1,2,none⟩ (.int .i64 (a'.good:Int))):=qb.turn (a':=a') 2 _ rfl rfl;refine ⟨⟨a',v',_,rfl,?_,hst,Io,(dU _ _ (by omega)).trans Fp,hB3.setCell (p:=⟨w.heap.size+1,2,none⟩) (jk _) _⟩,?_⟩
   ·unfold Hid;rw [<-nK (D.extract _ _),s9,o9.out,List.drop_drop,<-hgd,mO (by rw [om,jr,HDz.out];omega)]
   ·rw [Io.good,UH.out];have:=hst.le;omega
  have e2:Hid ((ah q).size=q.length):=hqz;have v1:((ah q).size:Int)+8<=(D.size:Int):=by have:=HDz.out;omega
  have v2:(0:Int)<=((ah q).size:Int)+8:=by omega
  have v3:(((ah q).size:Int)+8).toNat=(ah q).size+8:=by omega
  have v4:((ah q).size:Int)<=200:=by omega
  have v5:(a.good:Int)<=1048576:=by omega
  have HEq:Hid ((a.good:Int)+((ah q).size:Int)+8=((a.good+(q.length+8):Nat):Int)):=by unfold Hid;omega
  have HV:=af (fun w' (hl:q.length=4)=>aba (ah q) 0 4 w' (by decide) (by omega) (by omega));have yT:aU (ah q) 0 4<4294967296:=zG (ah q) 0 4;have qH:q≠[]->((ah q).toList == ([]:List UInt8))=false:=Td;have qG:q=[]->((ah q).toList == ([]:List UInt8))=true:=fun e=>by rw [e,Cm,GL];rfl
  have HFw:=af (Nat.le_trans HI.out.few HI.out.le);clear hqz mg hk HI HD UH;by_cases hg:a.gen=0
  ·have lB:=acp hg K q;have hgt:((a.gen:Int) == 0)=true:=by rw [beq_iff_eq];omega
   have hgp:¬(0:Int)<(a.gen:Int):=by omega
   by_cases hk1:K=1
   ·have ary:((K:Int) == 1)=true:=by rw [beq_iff_eq];omega
    have arz:((K:Int) != 1)=false:=by rw [bne_eq_false_iff_eq];omega
    by_cases hl4:q.length=4
    ·have uh:((ah q).size:Int)=4:=by have:=e2.out;omega
     by_cases hx:aU (ah q) 0 4=0
     ·have cR:=af (oJ.out (by rw [lB];exact if_neg (fun h=>h.2.2 hx)));have Mw:=af (fun w'=>HV.out w' hl4);rw [hx] at Mw;have HG:=af hg;clear hg lB hk1 hl4 hx tN oJ xH HV qH qG yT HEq v1 v2 v3;generalize ah q=P at *;go_wp2_with fail
      refine (aq Mw _).mono ?_;rintro e w' ⟨rfl,hw⟩;obtain rfl:=hw.symm;go_wp2_with (first | (refine qO rfl 175 _ rfl (w.heap.size+1) rfl 175 (bJ a.gen a.whole a.good v) (0,0) _ fL.out.1.cells nG rfl iV ?_) | (refine tX rfl 175 _ _ rfl w.heap.size (bJ a.gen a.whole a.good v) rfl rfl 175 _ fL.out.2.1 iV rfl hone ?_))
      exact cL (v:=.agg (bJ a.gen a.whole a.good v)) (jl Cn _ _ w.heap.size 175 _ _ _ rfl cR.out.1 nG rfl iV) rfl cR.out.2
     ·have hr:iH a K q=some ⟨aU (ah q) 0 4,a.whole,a.good+(q.length+8),a.list⟩:=by rw [lB];exact if_pos ⟨hk1,hl4,hx⟩
      have qb:gM (w.heap.size+1) ⟨aU (ah q) 0 4,a.whole,a.good,a.list⟩ v (w1.setCell ⟨w.heap.size+1,0,none⟩ (.int .i64 (aU (ah q) 0 4:Int))):=fL.out.1.turn (a':=⟨aU (ah q) 0 4,a.whole,a.good,a.list⟩) 0 _ rfl rfl;have eO:=af (tN.out _ v _ hr qb ((dU _ _ (by omega)).trans fL.out.2.1) (fL.out.2.2.setCell (p:=⟨w.heap.size+1,0,none⟩) (jk _) _));rw [hl4] at eO;have Mw:=af (fun w'=>HV.out w' hl4);have hx1:((aU (ah q) 0 4:Int) == 0)=false:=by rw [beq_eq_false_iff_ne];omega
      clear hg lB hk1 hl4 hx tN oJ xH HV qH qG hr qb;generalize aU (ah q) 0 4=X at *;generalize ah q=P at *;go_wp2_with fail
      refine (aq Mw _).mono ?_;rintro e w' ⟨rfl,hw⟩;obtain rfl:=hw.symm;go_wp2_with fail
      refine (aq Mw _).mono ?_;rintro e w' ⟨rfl,hw⟩;obtain rfl:=hw.symm;go_wp2_with fail
      rw [show (a.good:Int)+4+8=((a.good+(4+8):Nat):Int) by omega];exact eO.out
    ·have cR:=af (oJ.out (by rw [lB];exact if_neg (fun h=>hl4 h.2.1)));have uh:(((ah q).size:Int) == 4)=false:=by have:=e2.out;rw [beq_eq_false_iff_ne];omega
     have awR:(((ah q).size:Int) != 4)=true:=by have:=e2.out;rw [bne_iff_ne];omega
     have HG:=af hg;clear hg lB hk1 hl4 tN oJ xH HV qH qG yT HEq v1 v2 v3;generalize ah q=P at *;go_wp2_with (first | (refine qO rfl 175 _ rfl (w.heap.size+1) rfl 175 (bJ a.gen a.whole a.good v) (0,0) _ fL.out.1.cells nG rfl iV ?_) | (refine tX rfl 175 _ _ rfl w.heap.size (bJ a.gen a.whole a.good v) rfl rfl 175 _ fL.out.2.1 iV rfl hone ?_))
     exact cL (v:=.agg (bJ a.gen a.whole a.good v)) (jl Cn _ _ w.heap.size 175 _ _ _ rfl cR.out.1 nG rfl iV) rfl cR.out.2
   ·have cR:=af (oJ.out (by rw [lB];exact if_neg (fun h=>hk1 h.1)));have arA:((K:Int) == 1)=false:=by rw [beq_eq_false_iff_ne];omega
    have arz:((K:Int) != 1)=true:=by rw [bne_iff_ne];omega
    have HG:=af hg;clear hg lB hk1 tN oJ xH HV qH qG yT HEq v1 v2 v3;generalize ah q=P at *;go_wp2_with (first | (refine qO rfl 175 _ rfl (w.heap.size+1) rfl 175 (bJ a.gen a.whole a.good v) (0,0) _ fL.out.1.cells nG rfl iV ?_) | (refine tX rfl 175 _ _ rfl w.heap.size (bJ a.gen a.whole a.good v) rfl rfl 175 _ fL.out.2.1 iV rfl hone ?_))
    exact cL (v:=.agg (bJ a.gen a.whole a.good v)) (jl Cn _ _ w.heap.size 175 _ _ _ rfl cR.out.1 nG rfl iV) rfl cR.out.2
  ·have hgf:((a.gen:Int) == 0)=false:=by rw [beq_eq_false_iff_ne];omega
   have hgp:(0:Int)<(a.gen:Int):=by omega
   by_cases hk1:K=1
   ·have cR:=af (oJ.out (acs hg (by omega) (by omega) q));have ary:((K:Int) == 1)=true:=by rw [beq_iff_eq];omega
    clear hk1 hg tN oJ xH HV qH qG yT HEq v1 v2 v3;generalize ah q=P at *;go_wp2_with (first | (refine qO rfl 175 _ rfl (w.heap.size+1) rfl 175 (bJ a.gen a.whole a.good v) (0,0) _ fL.out.1.cells nG rfl iV ?_) | (refine tX rfl 175 _ _ rfl w.heap.size (bJ a.gen a.whole a.good v) rfl rfl 175 _ fL.out.2.1 iV rfl hone ?_))
    exact cL (v:=.agg (bJ a.gen a.whole a.good v)) (jl Cn _ _ w.heap.size 175 _ _ _ rfl cR.out.1 nG rfl iV) rfl cR.out.2
   have arA:((K:Int) == 1)=false:=by rw [beq_eq_false_iff_ne];omega
   by_cases hk2:K=2
   ·have lB:=acq hg hk2 q;have awS:((K:Int) == 2)=true:=by rw [beq_iff_eq];omega
    have hc0:(q.getD 0 0).toNat=bt (ah q) 0:=by rw [<-CU];rfl
    unfold Bv at lB;rw [hc0] at lB;by_cases mW:q=[]
    ·have cR:=af (oJ.out (by rw [lB];exact if_neg (fun h=>h.1 mW)));have CV:=qG mW;clear hk1 hk2 hg lB mW tN oJ xH HV qH qG yT HEq v1 v2 v3 hc0;generalize ah q=P at *;go_wp2_with (first | (refine qO rfl 175 _ rfl (w.heap.size+1) rfl 175 (bJ a.gen a.whole a.good v) (0,0) _ fL.out.1.cells nG rfl iV ?_) | (refine tX rfl 175 _ _ rfl w.heap.size (bJ a.gen a.whole a.good v) rfl rfl 175 _ fL.out.2.1 iV rfl hone ?_))
     exact cL (v:=.agg (bJ a.gen a.whole a.good v)) (jl Cn _ _ w.heap.size 175 _ _ _ rfl cR.out.1 nG rfl iV) rfl cR.out.2
    have CV:=qH mW;have uj:1<=q.length:=by cases q with | nil=>exact absurd rfl mW | cons _ _=>simp
    have Aw:0<(ah q).size:=by have:=e2.out;omega
    have awT:=oW (ah q) 0 Aw;have hbl:=nM (ah q) 0;by_cases hcl:q.length<1+4 * bt (ah q) 0
    ·have cR:=af (oJ.out (by rw [lB];exact if_neg (fun h=>by have:=h.2.1;omega)));have awU:((ah q).size:Int)<1+4 * (bt (ah q) 0:Int):=by have:=e2.out;omega
     clear hk1 hk2 hg lB mW tN oJ xH HV qH qG yT HEq v1 v2 v3 hc0 hcl;generalize bt (ah q) 0=c at *;generalize ah q=P at *;go_wp2_with (first | (refine qO rfl 175 _ rfl (w.heap.size+1) rfl 175 (bJ a.gen a.whole a.good v) (0,0) _ fL.out.1.cells nG rfl iV ?_) | (refine tX rfl 175 _ _ rfl w.heap.size (bJ a.gen a.whole a.good v) rfl rfl 175 _ fL.out.2.1 iV rfl hone ?_))
     exact cL (v:=.agg (bJ a.gen a.whole a.good v)) (jl Cn _ _ w.heap.size 175 _ _ _ rfl cR.out.1 nG rfl iV) rfl cR.out.2
    have u1:1+4 * (bt (ah q) 0:Int)<=((ah q).size:Int):=by have:=e2.out;omega
    have u2:¬((ah q).size:Int)<1+4 * (bt (ah q) 0:Int):=by omega
    have u3:(1+4 * (bt (ah q) 0:Int)).toNat=1+4 * bt (ah q) 0:=by omega
    have u4:(1:Int)<=1+4 * (bt (ah q) 0:Int):=by omega
    have C6:((ah q).extract 1 (1+4 * bt (ah q) 0)).size=4 * bt (ah q) 0:=by rw [rP];have:=e2.out;omega
    have Qr:aC ((ah q).extract 1 (1+4 * bt (ah q) 0))=(q.drop 1).take (4 * bt (ah q) 0):=by rw [s9,kG,show 1+4 * bt (ah q) 0 - 1=4 * bt (ah q) 0 by omega]
    have Wk:aC ((ah q).extract (4 * bt (ah q) 0+1) (ah q).size)=q.drop (1+4 * bt (ah q) 0):=by
     rw [s9,kG,Nat.add_comm (4 * bt (ah q) 0) 1,mO (by rw [om,bZ];exact ax _)]
    have Qs:ox (ah ((q.drop 1).take (4 * bt (ah q) 0)))=true↔gi ((ah q).extract 1 (1+4 * bt (ah q) 0)):=by rw [zN,<-Qr,nK]
    by_cases hbk:gi ((ah q).extract 1 (1+4 * bt (ah q) 0))
    ·have hr:iH a K q=some ⟨a.gen,a.whole,a.good+(q.length+8),a.list ++ [((q.drop 1).take (4 * bt (ah q) 0),q.drop (1+4 * bt (ah q) 0))]⟩:=by rw [lB];exact if_pos ⟨mW,by omega,Qs.2 hbk⟩
     have aeY:aC ((ah q).extract (((ah q).extract 1 (1+4 * bt (ah q) 0)).size+1) (ah q).size)=q.drop (1+4 * bt (ah q) 0):=by rw [C6];exact Wk
     rw [<-Qr,<-aeY] at hr;have uw:=af (fun w'=>TN _ w' hbk);have hal:a.list.length<=2000000:=by have:=HFw.out;omega
     have lO:=af hr;have C8:=af fL.out.1.list;have PE:=af C6;have hWi:((((ah q).extract 1 (1+4 * bt (ah q) 0)).size:Nat):Int)+1<=((ah q).size:Int):=by omega
     have awW:(0:Int)<=((((ah q).extract 1 (1+4 * bt (ah q) 0)).size:Nat):Int)+1:=by omega
     have hWn:(((((ah q).extract 1 (1+4 * bt (ah q) 0)).size:Nat):Int)+1).toNat=((ah q).extract 1 (1+4 * bt (ah q) 0)).size+1:=by omega
     have hWw:IntKind.i64.wrap (((((ah q).extract 1 (1+4 * bt (ah q) 0)).size:Nat):Int)+1)=((((ah q).extract 1 (1+4 * bt (ah q) 0)).size:Nat):Int)+1:=by rw [AJ];omega
     clear hk1 hk2 hg lB mW oJ xH HV qH qG yT hc0 hcl hr Qr Wk aeY Qs hbk C6;generalize bt (ah q) 0=c at *;generalize ah q=P at *;go_upto_region 14 with fail
     generalize P.extract 1 (1+4 * c)=Wd at *;go_wp2_with fail
     refine (aq uw _).mono ?_;rintro e w' ⟨rfl,hw⟩;obtain rfl:=hw.symm;go_upto_region 17 with fail
     refine Ti [0,1,2,3,4,5,6,7] [8,9,10,11,12] 11 (fun w'=>w'.cell? ⟨w.heap.size+1,3,none⟩=some v) (by kernel_rfl) (by kernel_rfl) (fun d _ _ _ _ h=>by cases d<;>exact h) g3 ?_
     iterate 8
      refine l7 ?_ rfl rfl ?_ ?_
      rotate_left
      ·intro w' d0;go_simp;rfl
      go_simp
     refine sj ?_;refine gA rfl rfl (fun K2 rG=>?_);go_simp;refine rG _ _ (fun _=>g3) ?_;clear rG K2;refine gA rfl rfl (fun K2 rG=>?_);go_simp;refine rG _ _ (fun _=>(aP (cM w1.drew _ (w.heap.size+1) (show w.heap.size+1<w1.heap.size by omega))).trans g3) ?_;clear rG K2;refine gA rfl rfl (fun K2 rG=>?_);refine wp_append_lies _ _ _ 57 rfl (w.heap.size+1+1) 127 inf _ 2 32 Tryz.underlying57 gJ.out EV.out dR.out gK.out rfl (by decide) v a.list.length (bR a.list) rfl ((dX C8.out (show ak w1.heap.size w1 w1.drew from (aA _ w1).drew)).alloc _) ⟨w1.heap.size,0,none⟩ 1 1 [.string Wd,.string (P.extract (Wd.size+1) P.size)] rfl rfl (World.news_of_block (bg w1.drew _)) (fun u hu=>by simp at hu;rcases hu with rfl | rfl<;>rfl) (by decide) (by unfold maxLen;omega) (by omega) (by show w.heap.size+1+1<=(w1.drew.alloc _).heap.size;rw [aB];show _<=w1.heap.size+1;omega) (w1.heap.size+1) (by show (w1.drew.alloc _).heap.size=_;rw [aB];rfl) ?_;intro g cap w6 Il hgr hat Pv;have yA:w6.heap[w.heap.size+1]? =w1.heap[w.heap.size+1]?:=(hgr.block _ (by show w.heap.size+1<(w1.drew.alloc _).heap.size;rw [aB];show _<w1.heap.size+1;omega) (fun e=>by have:=(aR C8.out _ e.symm).1;omega)).trans (cM w1.drew _ _ (show w.heap.size+1<w1.heap.size by omega));have hR6:w6.heap[w.heap.size]? =w1.heap[w.heap.size]?:=(hgr.block _ (by show w.heap.size<(w1.drew.alloc _).heap.size;rw [aB];show _<w1.heap.size+1;omega) (fun e=>by have:=(aR C8.out _ e.symm).1;omega)).trans (cM w1.drew _ _ (show w.heap.size<w1.heap.size by omega));have Je:ak w.heap.size w w6:=((fL.out.2.2.trans (show ak w.heap.size w1 w1.drew from (aA _ w1).drew)).alloc (show w.heap.size<=w1.heap.size by omega) _).grown hgr (by rw [aB];show _<=w1.heap.size+1;omega) (fun q hq=>by have:=(aR C8.out q hq).1;omega);have c6:w6.cell? ⟨w.heap.size+1,3,none⟩=some v:=(aP yA).trans g3;have f6:w6.frozen? ⟨w.heap.size+1,3,none⟩=false:=(fS yA).trans f3;have d6:w6.cell? ⟨w.heap.size+1,2,none⟩=some (.int .i64 (a.good:Int)):=(aP yA).trans g2;have e6:w6.frozen? ⟨w.heap.size+1,2,none⟩=false:=(fS yA).trans f2;refine rG _ _ (fun _=>c6) ?_;have qb:gM (w.heap.size+1) ⟨a.gen,a.whole,a.good,a.list ++ [(aC Wd,aC (P.extract (Wd.size+1) P.size))]⟩ (.slice (some ⟨g,0,none⟩) (a.list.length+1) cap) (w6.setCell ⟨w.heap.size+1,3,none⟩ (.slice (some ⟨g,0,none⟩) (a.list.length+1) cap)):=by
      refine ⟨?_,?_⟩
      ·have Ua:w6.heap[w.heap.size+1]? =some (.cells (bJ a.gen a.whole a.good v) 175 (0,0)):=yA.trans fL.out.1.cells;obtain ⟨hlt,hk⟩:=Array.getElem?_eq_some_iff.1 Ua;show (w6.heap.modify (w.heap.size+1) _)[w.heap.size+1]? =_
       rw [Array.getElem?_eq_getElem (by rw [Array.size_modify];exact hlt),Array.getElem_modify_self,hk];rfl
      ·have e:bR (a.list ++ [(aC Wd,aC (P.extract (Wd.size+1) P.size))])=bR a.list ++ [.string Wd,.string (P.extract (Wd.size+1) P.size)]:=by rw [Ta,nK,nK]
       show World.ownsRow _ _ _ _ _ (a.list ++ [_]).length (bR (a.list ++ [_]))
       rw [e,List.length_append];refine dz Il (fun g' hg'=>dU _ _ (fun e=>?_));have:=(aR Il g' hg').1;omega
     have eO:=af (tN.out _ _ _ lO.out qb ((dU _ _ (by omega)).trans (hR6.trans fL.out.2.1)) (Je.setCell (p:=⟨w.heap.size+1,3,none⟩) (jk _) _));clear rG K2 Il hgr hat Pv yA hR6 Je qb tN g0 g1 g2 g3 f0 f1 f2 f3;refine gA rfl rfl (fun K2 rG=>?_);go_simp;refine rG _ _ (fun h=>absurd h (by decide)) ?_;clear rG K2;refine gA rfl rfl (fun K2 rG=>?_);go_simp;refine rG _ _ (fun h=>absurd h (by decide)) ?_;clear rG K2;refine wY ?_;go_wp2_with fail
     rw [HEq.out,e2.out];exact eO.out
    ·have cR:=af (oJ.out (by rw [lB];exact if_neg (fun h=>hbk (Qs.1 h.2.2))));have uw:=af (fun w'=>TP _ w' hbk (by unfold maxLen;omega));clear hk1 hk2 hg lB mW tN oJ xH HV qH qG yT HEq v1 v2 v3 hc0 hcl Qr Wk Qs hbk C6;generalize bt (ah q) 0=c at *;generalize ah q=P at *;go_wp2_with fail
     refine (aq uw _).mono ?_;rintro e w' ⟨rfl,hw⟩;obtain rfl:=hw.symm;go_wp2_with (first | (refine qO rfl 175 _ rfl (w.heap.size+1) rfl 175 (bJ a.gen a.whole a.good v) (0,0) _ fL.out.1.cells nG rfl iV ?_) | (refine tX rfl 175 _ _ rfl w.heap.size (bJ a.gen a.whole a.good v) rfl rfl 175 _ fL.out.2.1 iV rfl hone ?_))
     exact cL (v:=.agg (bJ a.gen a.whole a.good v)) (jl Cn _ _ w.heap.size 175 _ _ _ rfl cR.out.1 nG rfl iV) rfl cR.out.2
   have awY:((K:Int) == 2)=false:=by rw [beq_eq_false_iff_ne];omega
   have lB:=acr hg (show K=3 by omega) q;unfold Bq at lB;cases yo:a.whole
   ·by_cases mW:q=[]
    ·have hr:iH a K q=some ⟨a.gen,true,a.good+(q.length+8),a.list⟩:=by rw [lB];exact if_pos ⟨yo,mW⟩
     have qb:gM (w.heap.size+1) ⟨a.gen,true,a.good,a.list⟩ v (w1.setCell ⟨w.heap.size+1,1,none⟩ (.bool true)):=fL.out.1.turn (a':=⟨a.gen,true,a.good,a.list⟩) 1 _ rfl rfl;have eO:=af (tN.out _ v _ hr qb ((dU _ _ (by omega)).trans fL.out.2.1) (fL.out.2.2.setCell (p:=⟨w.heap.size+1,1,none⟩) (jk _) _));have CV:=qG mW;rw [yo] at g1;clear hk1 hk2 hg lB mW tN oJ xH HV qH qG yT hr qb;generalize ah q=P at *;go_wp2_with fail
     rw [HEq.out,e2.out];exact eO.out
    ·have cR:=af (oJ.out (by rw [lB];exact if_neg (fun h=>mW h.2)));have CV:=qH mW;have hw1:(a.whole == true)=false:=by rw [yo];rfl
     clear hk1 hk2 hg lB mW tN oJ xH HV qH qG yT HEq v1 v2 v3;generalize ah q=P at *;rw [yo] at g1;go_wp2_with (first | (refine qO rfl 175 _ rfl (w.heap.size+1) rfl 175 (bJ a.gen a.whole a.good v) (0,0) _ fL.out.1.cells nG rfl iV ?_) | (refine tX rfl 175 _ _ rfl w.heap.size (bJ a.gen a.whole a.good v) rfl rfl 175 _ fL.out.2.1 iV rfl hone ?_))
     exact cL (v:=.agg (bJ a.gen a.whole a.good v)) (jl Cn _ _ w.heap.size 175 _ _ _ rfl cR.out.1 nG rfl iV) rfl cR.out.2
   ·have cR:=af (oJ.out (by rw [lB];exact if_neg (fun h=>by rw [yo] at h;cases h.1)));clear hk1 hk2 hg lB tN oJ xH HV qH qG yT HEq v1 v2 v3;generalize ah q=P at *;rw [yo] at g1;go_wp2_with (first | (refine qO rfl 175 _ rfl (w.heap.size+1) rfl 175 (bJ a.gen a.whole a.good v) (0,0) _ fL.out.1.cells nG rfl iV ?_) | (refine tX rfl 175 _ _ rfl w.heap.size (bJ a.gen a.whole a.good v) rfl rfl 175 _ fL.out.2.1 iV rfl hone ?_))
    exact cL (v:=.agg (bJ a.gen a.whole a.good v)) (jl Cn _ _ w.heap.size 175 _ _ _ rfl cR.out.1 nG rfl iV) rfl cR.out.2
end Go.Proofs.YtmmflekajbeamaaGreatDoor
