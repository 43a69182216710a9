/- Texts of ours, joined, in few bytes. -/
import Derived.Test.YtmmflekajbeamaaGreatDoorE15
import Derived.Great.BuildSlice
open Array renaming getElem?_modify->sO
open Go renaming Calls->av,Value->aj,block_lt_of_cell->mA,heap_alloc_new->bg,plainElem->Gl,plainElem_int->DY,wpStill_nil->jC
open Go.Instr renaming lookup->JB
open Go.Lit renaming int->DW
open Go.Maps renaming has->AL
open Go.Program renaming keyLits->XU
open Go.Proofs.Tryz renaming func13->Nx,ntmps13->Ny,prog->au,underlying129->Gs,underlying187->nE,underlying3->pO
open Go.RowKit renaming Below->ak
open Go.RowKit.Below renaming heap_alloc->cM,refl->aA
open Go.Value renaming int->cI
open Go.WalkArith renaming wf_i64->Gm
open Go.World renaming cell?_of_block->aP,cell?_setCell_same->qj,frozen?_of_block->fS,frozen?_setCell->oO,setCell->qP
open Int renaming tmod_eq_emod_of_nonneg->Rc
open List renaming ext_getElem?->tU,getElem?_append_left->jN,getElem?_append_right->lD,getElem?_eq_getElem->bE,getElem?_eq_none->lE,getElem?_eq_some_iff->fG,getElem?_map->iX,length_append->dK,length_set->lU,length_singleton->DX,map_cons->zo,map_nil->AU,mem_append->rO,mem_of_getElem?->oK,set_cons_succ->Ri
open Nat renaming le_of_lt->iP,le_refl->ax,le_succ->jk,le_trans->aT,lt_of_lt_of_le->dB,lt_or_ge->oM
open Option.some renaming inj->oN
namespace Go.Proofs.YtmmflekajbeamaaGreatDoor
set_option maxRecDepth 100000
set_option maxHeartbeats 8000000
section
open Go.RowKit
theorem K0 (c n:Int) (w:World) (h0: -9223372036854775808<=c) (h1:c<=9223372036854775807) (hn:0<n) (hn1:n<=1000000000001):
 av au 35 #[.int .i64 c,.int .i64 n] w fun e' w'=>e'= .returned (.int .i64 (oT c n))∧w'=w:=by
 have hb:=Zx c n hn;have hn0:¬n=0:=by omega
 by_cases hc:c<0
 ·have ht:(-(c+1)).tmod n=oT c n:=by
   unfold oT;rw [if_pos hc,Rc (by omega)]
  generalize oT c n=r at *;go_enter Tryz.func35,Tryz.ntmps35;go_wp2
  go_ret;exact ⟨by go_num,rfl⟩
 ·have ht:c.tmod n=oT c n:=by
   unfold oT;rw [if_neg hc,Rc (by omega)]
  generalize oT c n=r at *;go_enter Tryz.func35,Tryz.ntmps35;go_wp2
  go_ret;exact ⟨by go_num,rfl⟩
theorem Ug (c:Int) (L:Nat) (h:0<L):∃m:Nat,oT c (L:Int)=(m:Int)∧m<L:=by
 have hb:=Zx c (L:Int) (by omega);obtain ⟨m,hm⟩:=Int.eq_ofNat_of_zero_le hb.1;exact ⟨m,hm,by omega⟩
theorem Da:(Tryz.prog.info? 51).map (·.size)=some 144:=by kernel_rfl
theorem K3 (k on a b:Int) (s t:ByteArray) (z:List Int) (hz:z.length=138):(aV k on a b s t z).toList.length=144:=by
 unfold aV S;simp [hz]
theorem Uh {w:World} {B:Nat} {ps:List Pr} {g c:Nat} (h:w.ownsRow B 83 2 (.slice (some ⟨g,0,none⟩) ps.length c) ps.length (vz ps)) (i:Nat) (p:Pr) (hi:ps[i]? =some p):w.cell? ⟨g,i * 2,none⟩=some (.pointer (some ⟨p.X,0,none⟩))∧w.cell? ⟨g,i * 2+1,none⟩=some (.pointer (some ⟨p.R,0,none⟩)):=by
 have hlt:i<ps.length:=(fG.1 hi).1;have key:=Hj (fun p:Pr=>(fI p).toList) 2 (fun _=>rfl) ps i p hi;refine ⟨?_,?_⟩
 ·rw [h.cellAt (i * 2) (by omega)];exact key 0 (by decide)
 ·rw [h.cellAt (i * 2+1) (by omega)];exact key 1 (by decide)
def Py (N:Nat) (cv:Nat->aj) (ps:List Pr) (sv:aj) (k:Int) (s:ByteArray) (m:Nat) (w:World) (e':Ending) (w':World):Prop:=e'= .returned (.bool true)∧∃ps' eZ,ko N cv ps' eZ (m+1) w'∧Ai N ps ps' sv eZ w w'∧(ps'.length=if k=20 then ps.length+1 else ps.length)∧(k=20->ps=[]->sx ps' 0 w')∧(k=21∨k=24->∀n,sx ps n w->sx ps' (n+s.size) w')
theorem ko.more {N:Nat} {cv:Nat->aj} {ps:List Pr} {sv:aj} {m n:Nat} {w:World} (h:ko N cv ps sv m w) (hn:m<=n):ko N cv ps sv n w:=⟨h.lt,h.fz,h.bk,h.st,h.own,fun i p hp=>⟨(h.pr i p hp).1.more hn,(h.pr i p hp).2⟩,h.sep,h.row,h.nt⟩
structure Ox (N:Nat) (cv:Nat->aj) (ps:List Pr) (sv:aj) (k on a b:Int) (s t:ByteArray) (z:List Int) (m:Nat) (w W:World):Prop where
 wa:ko N cv ps sv m W
 cA:ak w.heap.size w W
 c0:W.cell? ⟨w.heap.size,0,none⟩=some (.int .i64 k)
 c1:W.cell? ⟨w.heap.size,1,none⟩=some (.int .i64 on)
 all:W.rangeAt w.heap.size 0 (aV k on a b s t z).toList
theorem Ui {N:Nat} {cv:Nat->aj} {ps:List Pr} {sv:aj} {m:Nat} {w:World} (h:ko N cv ps sv m w) (k on a b:Int) (s t:ByteArray) (z:List Int) (W:World) (e:W=w.alloc (.cells (aV k on a b s t z) 51)):Ox N cv ps sv k on a b s t z m w W:=by
 have r:W.heap[w.heap.size]? =some (.cells (aV k on a b s t z) 51 (0,0)):=by rw [e,bg]
 have hb:ak w.heap.size w W:=by rw [e];exact (aA _ _).alloc (ax _) _
 obtain ⟨o0,o1,_,_⟩:=KR k on a b s t z;refine ⟨h.up hb,hb,(cF r 0).trans o0,(cF r 1).trans o1,fun j v hv=>?_⟩;rw [Nat.zero_add,cF r j,<-Array.getElem?_toList];exact hv
theorem amg (N:Nat) (cv:Nat->aj) (ps:List Pr) (sv:aj) (m:Nat) (on a b:Int) (s t:ByteArray) (z:List Int) (w:World) (h:ko N cv ps sv m w) (hl:ps.length<=1000000000000):
 av au 13 #[.pointer (some ⟨N,0,none⟩),.agg (aV 20 on a b s t z)] w (Py N cv ps sv 20 s m w):=by
 obtain ⟨W,hW⟩:∃W,W=w.alloc (.cells (aV 20 on a b s t z) 51):=⟨_,rfl⟩;have HW:=af hW;have hO:=Ui h 20 on a b s t z W hW;have c0:=hO.c0;have HC:=af (amd N cv ps sv m W hO.wa hl);have HB:=af hO.cA;have hN:=h.lt;clear h hl hO hW;generalize hop:aV 20 on a b s t z=OC at *;clear hop;go_enter Nx,Ny;go_upto_region 1 with fail
 rw [<-HW.out];go_wp2_with fail
 refine (aq HC).mono ?_;rintro e w1 ⟨rfl,p,eZ,h1,hb1,hc1⟩;have H1:=af h1;have aJ:=af hb1;have K4:=af hc1;clear h1 hb1 hc1 HC;go_wp2_with fail
 go_ret;refine ⟨rfl,_,_,H1.out.more (jk m),aJ.out.from hN HB.out,by rw [if_pos rfl,dK];rfl,fun _ e i q hq=>?_,fun h=>absurd h (by decide)⟩;rw [e] at hq;cases i with
 | zero=>cases hq;exact K4.out
 | succ i=>cases hq
theorem amh (N:Nat) (cv:Nat->aj) (sv:aj) (m:Nat) (k on a b:Int) (s t:ByteArray) (z:List Int) (w:World) (h:ko N cv [] sv m w) (hk:21<=k∧k<=29):
 av au 13 #[.pointer (some ⟨N,0,none⟩),.agg (aV k on a b s t z)] w (Py N cv [] sv k s m w):=by
 obtain ⟨W,hW⟩:∃W,W=w.alloc (.cells (aV k on a b s t z) 51):=⟨_,rfl⟩;have HW:=af hW;have hO:=Ui h k on a b s t z W hW;have c0:=hO.c0;have c3:=hO.wa.st;obtain ⟨sa,sc,gN⟩:=bA hO.wa.own;rw [gN] at c3;have HB:=af hO.cA;have HWa:=af hO.wa;have hN:=h.lt;have k1:¬k<20:=by omega
 have k2:(k == 20)=false:=by rw [beq_eq_false_iff_ne];omega
 have k3:k<30:=by omega
 have k4:(k == 30)=false:=by rw [beq_eq_false_iff_ne];omega
 have k5:¬30<k:=by omega
 have k6:¬k=20:=by omega
 have HK:=af k6;clear h hO hW hk gN k6;generalize hop:aV k on a b s t z=OC at *;clear hop;go_enter Nx,Ny;go_upto_region 1 with fail
 rw [<-HW.out];go_wp2_with fail
 go_ret;exact ⟨rfl,_,_,HWa.out.more (jk m),(Ai.refl N [] sv W).from hN HB.out,by rw [if_neg HK.out],fun h=>absurd h HK.out,fun _ n _ i q hq=>by cases hq⟩
theorem amj (N:Nat) (cv:Nat->aj) (ps:List Pr) (sv:aj) (m:Nat) (k on a b:Int) (s t:ByteArray) (z:List Int) (w:World) (h:ko N cv ps sv m w) (hp:0<ps.length) (hl:ps.length<=1000000000000) (hk:21<=k∧k<=29) (hz:z.length=138) (hm:m<=1152921504606846976) (hs:s.size<=140737488351232)
 (ho: -9223372036854775808<=on∧on<=9223372036854775807) (ha:a<=9223372036854775807):
 av au 13 #[.pointer (some ⟨N,0,none⟩),.agg (aV k on a b s t z)] w (Py N cv ps sv k s m w):=by
 obtain ⟨W,hW⟩:∃W,W=w.alloc (.cells (aV k on a b s t z) 51):=⟨_,rfl⟩;have HW:=af hW;have hO:=Ui h k on a b s t z W hW;have c0:=hO.c0;have c1:=hO.c1;have c3:=hO.wa.st;obtain ⟨g,c,gN,_,hgl⟩:=hO.wa.own.form hp;rw [gN] at c3;have hown:=hO.wa.own;rw [gN] at hown;obtain ⟨i,hi,hil⟩:=Ug on ps.length hp;obtain ⟨p,hpi⟩:∃p,ps[i]? =some p:=⟨_,bE hil⟩;obtain ⟨d0,d1⟩:=Uh hown i p hpi;have fj:=af (fun w'=>K0 on (ps.length:Int) w' ho.1 ho.2 (by omega) (by omega));rw [hi] at fj;have cH:=af (fun (w':World) (hh:eH p m w')=>ama p m k on a b s t z w' hh hm hs ha);have HX:=af hO;have Uj:=af hpi;have HWw:=af h;have qT:=af (K3 k on a b s t z hz);have hall:=hO.all;have vA:=af hall;have hN:=h.lt;have hp':(0:Int)<(ps.length:Int):=by omega
 have hi0:¬(i:Int)<0:=by omega
 have hi1:(i:Int)<(ps.length:Int):=by omega
 have k1:¬k<20:=by omega
 have k2:(k == 20)=false:=by rw [beq_eq_false_iff_ne];omega
 have k3:k<30:=by omega
 have k6:¬k=20:=by omega
 have HK:=af k6;have acf:Hid (fI p=#[.pointer (some ⟨p.X,0,none⟩),.pointer (some ⟨p.R,0,none⟩)]):=rfl;have HPL:=af (rfl:ps.length=ps.length);rw [acf.out] at cH;clear h hO hW hk gN k6 hl ho ha hs hm hz hown hi hpi hall hp acf HPL hil;generalize EX:p.X=PX at *;generalize p8:p.R=PR at *;clear EX p8;generalize hop:aV k on a b s t z=OC at *;generalize hL:ps.length=L at *;have HL:=af hL;clear hop hL;go_enter Nx,Ny;go_upto_region 1 with fail
 rw [<-HW.out];go_upto_region 6 with fail
 refine EO 6 [0,1,2,3,4,5,6,7,8,9,10,14] [11,12,13,15,16] 15 (fun w'=>w'.cell? ⟨N,3,none⟩=some (.slice (some ⟨g,0,none⟩) L c)∧w'.cell? ⟨w.heap.size,1,none⟩=some (.int .i64 on)∧w'.cell? ⟨g,i * 2,none⟩=some (.pointer (some ⟨PX,0,none⟩))∧w'.cell? ⟨g,i * 2+1,none⟩=some (.pointer (some ⟨PR,0,none⟩))∧Hid (w'.rangeAt w.heap.size 0 OC.toList)) (by kernel_rfl) (by kernel_rfl) (fun d _ _ _ _ h=>by cases d<;>exact h) ⟨c3,c1,d0,d1,vA.out⟩ ?_
 iterate 11
  refine l7 ?_ rfl rfl ?_ ?_
  rotate_left
  ·rintro w' ⟨q0,q1,q2,q3,q4⟩;go_simp;rfl
  go_simp
 refine ⟨_,.agg OC,rfl,yieldsIf_load_mid rfl 51 _ rfl w.heap.size 0 rfl OC.toList _ (fun w' hS=>hS.2.2.2.2.out) Tryz.underlying51 rfl (by rw [Da,qT.out]),?_⟩;go_simp;refine sj ?_;refine gA rfl rfl (fun K hK=>?_);go_simp;refine (aq fj _).mono ?_;rintro e w' ⟨rfl,hw⟩;obtain rfl:=hw.symm;refine hK _ _ (fun _=>⟨c3,c1,d0,d1,vA.out⟩) ?_;clear hK K
 iterate 2
  refine gA rfl rfl (fun K hK=>?_);go_simp;refine hK _ _ (fun _=>⟨c3,c1,d0,d1,vA.out⟩) ?_;clear hK K
 refine gA rfl rfl (fun K hK=>?_);go_simp;have HPw:Hid (eH p m W.drew):=(HX.out.wa.pr i p Uj.out).1.up (ax _) (fun _ _=>rfl);refine (aq cH _ HPw.out).mono ?_;rintro e w1 ⟨rfl,p',hp',hf',hc'⟩;have HE:=af ((HX.out.wa.up (aA _ W).drew).set Uj.out hp' hf');have Ud:Hid (k=21∨k=24->∀n,sx ps n w->sx (ps.set i p') (n+s.size) w1):=fun h n hc=>(HX.out.wa.up (aA _ W).drew).calm Uj.out hf' (hc' h) n (sx.up HX.out.wa (aA _ W).drew (sx.up HWw.out HX.out.cA hc));clear hp' hf' hc' cH fj;refine hK _ _ (fun h=>absurd h (by decide)) ?_;clear hK K;refine gA rfl rfl (fun K hK=>?_);go_simp;refine hK _ _ (fun h=>absurd h (by decide)) ?_;clear hK K;refine wY ?_;go_wp2_with fail
 go_ret;exact ⟨rfl,_,_,HE.out.1,(HE.out.2.from (dB hN HX.out.cA.size) (aA _ W).drew).from hN HX.out.cA,by rw [if_neg HK.out,lU],fun h=>absurd h HK.out,Ud.out⟩
theorem amn (N:Nat) (cv:Nat->aj) (ps:List Pr) (sv:aj) (m:Nat) (k on a b:Int) (s t:ByteArray) (z:List Int) (w:World) (h:ko N cv ps sv m w) (hl:ps.length<=1000000000000) (hk:20<=k∧k<=29) (hz:z.length=138) (hm:m<=1152921504606846976) (hs:s.size<=140737488351232)
 (ho: -9223372036854775808<=on∧on<=9223372036854775807) (ha:a<=9223372036854775807):
 av au 13 #[.pointer (some ⟨N,0,none⟩),.agg (aV k on a b s t z)] w (Py N cv ps sv k s m w):=by
 by_cases h20:k=20
 ·subst h20;exact amg N cv ps sv m on a b s t z w h hl
 ·by_cases hp:0<ps.length
  ·exact amj N cv ps sv m k on a b s t z w h hp hl (by omega) hz hm hs ho ha
  ·obtain rfl:ps=[]:=List.length_eq_zero_iff.1 (by omega);exact amh N cv sv m k on a b s t z w h (by omega)
abbrev Im:Array aj:=#[.slice none 0 0,.slice none 0 0,.slice none 0 0,.slice none 0 0,.slice none 0 0]
theorem amq (N:Nat) (w:World) (r:w.heap[N]? =some (.cells Im 49 (0,0))):ko N um [] (.slice none 0 0) 0 w:=by
 refine ⟨(Array.getElem?_eq_some_iff.1 r).1,fun j=>by unfold World.frozen?;rw [r];simp,fun j hj hj3=>?_,cF r 3,World.ownsRow_nil _ _ _ _,(fun i p hp=>by cases hp),(fun i j p q hp=>by cases hp),(fun i p hp=>by cases hp),⟨_,r⟩⟩;have:j=0∨j=1∨j=2∨j=4:=by omega
 rcases this with rfl | rfl | rfl | rfl
 ·exact cF r 0
 ·exact cF r 1
 ·exact cF r 2
 ·exact cF r 4
def Pz:ByteArray:=⟨#[110,111,32,102,114,97,109,101]⟩
theorem amr:Tryz.prog.built 51 [(0,.int .i64 20)]=some (aV 20 0 0 0 ⟨#[]⟩ ⟨#[]⟩ bT):=by kernel_rfl
theorem ams:Tryz.prog.built 51 [(0,.int .i64 21),(4,.string Pz)]=some (aV 21 0 0 0 Pz ⟨#[]⟩ bT):=by kernel_rfl
theorem amt:Tryz.prog.built 51 [(0,.int .i64 24)]=some (aV 24 0 0 0 ⟨#[]⟩ ⟨#[]⟩ bT):=by kernel_rfl
structure acg (cs:List aj):Prop where
 it:∃k on a b s t z,cs=(aV k on a b s t z).toList∧z.length=138∧s.size<=140737488351232∧(-9223372036854775808<=on∧on<=9223372036854775807)∧a<=9223372036854775807
structure EY (v:aj) (n:Nat) (w:World):Prop where
 form:∃ad c,v= .slice ad n c
 at':∀i,i<n->∃G o c,v= .slice (some ⟨G,o,none⟩) n c∧G<w.heap.size∧∃cs,acg cs∧w.rangeAt G (o+i * 144) cs
 few:n<=1000000000000
theorem EY.up {v:aj} {n:Nat} {w w':World} (h:EY v n w) (hb:ak w.heap.size w w'):EY v n w':=by
 refine ⟨h.form,fun i hi=>?_,h.few⟩;obtain ⟨G,o,c,e,hG,cs,hc,hr⟩:=h.at' i hi;exact ⟨G,o,c,e,dB hG hb.size,cs,hc,fun j x hx=>(aP (hb.block G hG)).trans (hr j x hx)⟩
theorem amu {j n:Nat} (h:j<n) (hn:n<=1000000000000):j<=140737488351232:=by omega
theorem amv:(Tryz.zeroCells51).size=144:=by kernel_rfl
theorem amw (k on a b:Int) (s t:ByteArray) (z:List Int):(aV k on a b s t z).all (·.oneCell')=true:=by
 unfold aV S;rw [Array.all_append];simp [Value.oneCell']
theorem ach (k on a b:Int) (s t:ByteArray) (z:List Int) (hz:z.length=138):(aV k on a b s t z).size=144:=by
 have:=K3 k on a b s t z hz;rwa [Array.length_toList] at this
end
section
open Go.RowKit Go.Maps Go.WideMaps
theorem amx:(187:TypeId)<Tryz.prog.types.size:=of_decide_eq_true (by kernel_rfl)
theorem amy:(match Tryz.prog.underlying 187 with | some (.array _ _) | some (.struct _)=>true | _=>false)=true:=by rw [nE]
theorem yC:Keyed au 187:=Keyed.of_law (deep_law_laid Z5 (m:=3) (by omega) amx (by kernel_rfl) amy)
theorem ktW:Tryz.prog.keyType 187=true:=by kernel_rfl
theorem csW:Tryz.prog.cellsOf 187=9:=by kernel_rfl
theorem amA:Tryz.prog.cellsOf 25=8:=by kernel_rfl
def wB (x:Int):Prop:=-9223372036854775808<=x∧x<=9223372036854775807
def Uk (z:List Int):Lit:=.string (keyBytes (z.map (DW .i64)))
theorem Bw {x:Int} (h:wB x):(DW .i64 x).wf=true:=by unfold wB at h;refine Gm ?_<;>omega
theorem amB (z:List Int) (hz:z.length=9) (hb:∀x∈z,wB x):keyOf au 187 (.agg (S z))=some (Uk z):=by
 match z,hz with
 | [a,b,c,d,e,f,g,h,i],_=>
   have wa:=Bw (hb a (by simp));have wb:=Bw (hb b (by simp));have wc:=Bw (hb c (by simp));have wd:=Bw (hb d (by simp));have we:=Bw (hb e (by simp));have wf:=Bw (hb f (by simp));have wg:=Bw (hb g (by simp));have wh:=Bw (hb h (by simp));have wi:=Bw (hb i (by simp));obtain ⟨m,hm⟩:∃m,Tryz.prog.types.size=m+3:=⟨Tryz.prog.types.size - 3,(Nat.sub_add_cancel (Nat.le_of_lt_succ (dB (by decide:3<4) (aT (by decide:4<=100) (of_decide_eq_true (by kernel_rfl:decide (100<=Tryz.prog.types.size+1)=true)))))).symm⟩;unfold keyOf;simp only [nE];rw [if_pos (by simp [ktW,Value.formed,nE,csW,S]),hm];unfold XU;simp only [nE,Value.cells];rw [if_pos (by rw [csW];exact ⟨rfl,by simp⟩)];simp [S,Z8,amA,XU,pO,Tryz.underlying25,wa,wb,wc,wd,we,wf,wg,wh,wi,Uk,List.range,List.range.loop]
abbrev cD:=List Nat×List UInt8
def gO (ws:List Nat):Prop:=ws.length<=8∧∀x∈ws,x<4294967296
theorem amC {ws:List Nat} (h:gO ws):∀x∈aD ws,wB x:=by
 intro x hx;unfold aD at hx;unfold wB;rcases List.mem_cons.1 hx with rfl | hx
 ·have:=h.1;omega
 ·rcases rO.1 hx with hx | hx
  ·unfold nI at hx;obtain ⟨y,hy,rfl⟩:=List.mem_map.1 hx;have:=h.2 y hy;omega
  ·unfold zr at hx;have:=(List.mem_replicate.1 hx).2;omega
def kW (ws:List Nat):Lit:=Uk (aD ws)
theorem xo {ws:List Nat} (h:gO ws):keyOf au 187 (.agg (S (aD ws)))=some (kW ws):=amB (aD ws) (nT h.1) (amC h)
theorem amD {ws tE:List Nat} (e:aD ws=aD tE):ws=tE:=by
 have h0:(ws.length:Int)=(tE.length:Int):=by have:=congrArg (fun z=>gz z 0) e;simpa [CO] using this
 have hl:ws.length=tE.length:=by omega
 apply tU;intro i;rcases oM i ws.length with hi | hi
 ·have h1:=Ku (ws:=ws) hi;have h2:=Ku (ws:=tE) (i:=i) (by omega);rw [e,h2] at h1;rw [bE hi,bE (by omega:i<tE.length)];have q1:ws.getD i 0=ws[i]:=by simp [List.getD,hi]
  have q2:tE.getD i 0=tE[i]'(by omega):=by simp [List.getD,(by omega:i<tE.length)]
  rw [q1,q2] at h1;congr 1;omega
 ·rw [lE hi,lE (by omega)]
theorem amE {ws tE:List Nat} (h:gO ws) (h':gO tE) (e:kW ws=kW tE):ws=tE:=by
 have h1:=xo h;have h2:=xo h';rw [e] at h1;have h3:=yC.inj h1 h2;have h4:S (aD ws)=S (aD tE):=by simpa using h3
 refine amD ?_;unfold S at h4;have h5:(aD ws).map (cI .i64)=(aD tE).map (cI .i64):=by simpa using h4
 exact List.map_inj_right (fun a b q=>by cases q;rfl) |>.1 h5
def cu (l:List cD):List (List Nat):=l.map (·.1)
def jj (l:List cD):List aj:=bR (l.map fun k=>(aQ k.1,k.2))
def Db (D:DataW Unit) (T:List (List Nat)):Prop:=
 ∀ws,gO ws->(AL D (kW ws)=true↔ws∈T)∧∀n:Nat,T[n]? =some ws->(∀m:Nat,T[m]? =some ws->m=n)->D.atKey (kW ws) (.lit (.int .i64 0))= .lit (.int .i64 (n:Int))
theorem Db.add {D:DataW Unit} {T:List (List Nat)} (h:Db D T) (hD:IsMap D) {e:List Nat} (he:gO e) (hn:e∉T):Db (D.put (kW e) (.lit (.int .i64 (T.length:Int)))) (T ++ [e]):=by
 intro e' he';obtain ⟨h1,h2⟩:=h e' he';by_cases hee:e'=e
 ·subst hee;refine ⟨⟨fun _=>by simp,fun _=>?_⟩,fun n hn' _=>?_⟩
  ·rw [has_put_same hD (yC.key (xo he'))]
  ·rw [atKey_put_same hD (yC.key (xo he'))];have:n=T.length:=by
    by_cases hl:n<T.length
    ·rw [jN hl] at hn';exact absurd (oK hn') hn
    ·have:=(fG.1 hn').1;simp at this;omega
   rw [this]
 ·have hk:kW e'≠kW e:=fun q=>hee (amE he' he q);refine ⟨?_,fun n hn' hu=>?_⟩
  ·rw [has_put_other hk,h1];simp [hee]
  ·rw [atKey_put_other hk];have hl:n<T.length:=by
    by_cases hl:n<T.length
    ·exact hl
    ·rw [lD (by omega)] at hn';have h0:=(fG.1 hn').1;have Sw:n - T.length=0:=by simp at h0;omega
     rw [Sw] at hn';simp at hn';exact absurd hn'.symm hee
   rw [jN hl] at hn';exact h2 n hn' (fun m hm=>hu m (by rw [jN (fG.1 hm).1];exact hm))
structure fE (B N o:Nat) (l:List cD) (mv v:aj) (w:World):Prop where
 c0:w.cell? ⟨N,o,none⟩=some mv
 c1:w.cell? ⟨N,o+1,none⟩=some v
 nv:v.ownBlock≠some N
 ls:w.ownsRow B 127 2 v l.length (jj l)
 ok:∀k∈l,gO k.1
 one:∀i j:Nat,i<l.length->(cu l)[i]? =(cu l)[j]?->i=j
 mp:(mv= .map none∧l=[])∨∃b D,mv= .map (some b)∧B<=b∧w.ownsMap au 187 (Gl au 3) b l.length D∧Db D (cu l)
theorem Ul {w:World} {B g c:Nat} {l:List cD} (h:w.ownsRow B 127 2 (.slice (some ⟨g,0,none⟩) l.length c) l.length (jj l)) (n:Nat) (k:cD) (hn:l[n]? =some k):
 w.cell? ⟨g,n * 2,none⟩=some (.string (ah (aQ k.1)))∧w.cell? ⟨g,n * 2+1,none⟩=some (.string (ah k.2)):=by
 have hl:(l.map fun k=>(aQ k.1,k.2)).length=l.length:=List.length_map _;have h':=h;unfold jj at h';rw [<-hl] at h';exact Bt h' n (aQ k.1,k.2) (by rw [iX,hn];rfl)
theorem fE.uniq {B N o:Nat} {l:List cD} {mv v:aj} {w:World} (h:fE B N o l mv v w) {n:Nat} {ws:List Nat} (hn:(cu l)[n]? =some ws):∀m:Nat,(cu l)[m]? =some ws->m=n:=fun m hm=>by
 have hl:m<l.length:=by have:=(fG.1 hm).1;unfold cu at this;simpa using this
 exact h.one m n hl (by rw [hm,hn])
theorem amF (B N o:Nat) (l:List cD) (mv v:aj) (n:Nat) (k:cD) (w:World) (h:fE B N o l mv v w) (hn:l[n]? =some k) (hl:l.length<=1000000000000):
 av au 217 #[.pointer (some ⟨N,o,none⟩),.agg (S (aD k.1))] w fun e' w'=>e'= .returned (.tuple #[.string (ah k.2),.bool true])∧ak w.heap.size w w':=by
 have hw:=h.ok k (oK hn);have Bz:(cu l)[n]? =some k.1:=by unfold cu;rw [iX,hn];rfl
 rcases h.mp with ⟨_,rfl⟩ | ⟨b,D,rfl,hB,hown,oY⟩
 ·cases hn
 have c0:=h.c0;have c1:=h.c1;have hnl:n<l.length:=(fG.1 hn).1;obtain ⟨g,c,hv,hgB,hgl⟩:=h.ls.form (by omega);rw [hv] at c1;have hls:=h.ls;rw [hv] at hls;obtain ⟨_,d1⟩:=Ul hls n k hn;obtain ⟨iK,Bg⟩:=oY k.1 hw;have hat:=Bg n Bz (h.uniq Bz);have hin:k.1∈cu l:=oK Bz;have hrun:(JB 129 (.map (some b)) (.agg (S (aD k.1))) true).run au ((w.alloc (.cells (S (aD k.1)) 187)).drew)= .ok (.tuple #[.int .i64 (n:Int),.bool true]) ((w.alloc (.cells (S (aD k.1)) 187)).drew):=by
  obtain ⟨x,ps',hrun,hx⟩:=((hown.alloc (.cells (S (aD k.1)) 187)).drew).look_ok yC Gs (Eo _) (DY (H:=Unit) pO (a:=0) (by decide)) (xo hw);rw [iK.2 hin] at hrun;obtain ⟨a,rfl,ha,_⟩:=plainElem_int_inv pO hx;rw [hat] at ha;cases ha;exact hrun
 have HB:Hid (∀ob:Obj,ak w.heap.size w (w.alloc ob).drew):=fun ob=>((aA _ _).alloc (ax _) ob).drew;have Um:N<w.heap.size:=mA c0;have hz:=nT hw.1;have hn0:¬(n:Int)<0:=by omega
 have hn1:(n:Int)<(l.length:Int):=by omega
 clear h hw Bz hown oY iK Bg hat hin hls hv hn;generalize aD k.1=z at *;generalize ah k.2=P at *;generalize l.length=L at *
 match z,hz with
 | [a0,a1,a2,a3,a4,a5,a6,a7,a8],_=>
   simp only [S,zo,AU] at hrun⊢;go_enter Tryz.func217,Tryz.ntmps217;go_wp2_with fail
   refine xV (by kernel_rfl) (by kernel_rfl) ?_
   repeat still_step
   refine jC ?_;go_wp2_with fail
   go_ret2
   exact ⟨rfl,HB.out _⟩
theorem amG (B N o:Nat) (l:List cD) (mv v:aj) (ws:List Nat) (w:World) (h:fE B N o l mv v w) (hw:gO ws) (hn:ws∉cu l):
 av au 217 #[.pointer (some ⟨N,o,none⟩),.agg (S (aD ws))] w fun e' w'=>e'= .returned (.tuple #[.string ⟨#[]⟩,.bool false])∧ak w.heap.size w w':=by
 have c0:=h.c0;have Um:N<w.heap.size:=mA c0;have hz:=nT hw.1;have HB:Hid (∀ob:Obj,ak w.heap.size w (w.alloc ob).drew):=fun ob=>((aA _ _).alloc (ax _) ob).drew;have key:∃x,(JB 129 mv (.agg (S (aD ws))) true).run au ((w.alloc (.cells (S (aD ws)) 187)).drew)= .ok (.tuple #[x,.bool false]) ((w.alloc (.cells (S (aD ws)) 187)).drew):=by
  rcases h.mp with ⟨rfl,_⟩ | ⟨b,D,rfl,hB,hown,oY⟩
  ·exact ⟨.int .i64 0,Maps.look_nil true yC Gs (Eo _) (xo hw)⟩
  ·obtain ⟨x,ps',hrun,hx⟩:=((hown.alloc (.cells (S (aD ws)) 187)).drew).look_ok yC Gs (Eo _) (DY (H:=Unit) pO (a:=0) (by decide)) (xo hw);have hf:AL D (kW ws)=false:=by
    cases hq:AL D (kW ws)
    ·rfl
    ·exact absurd ((oY ws hw).1.1 hq) hn
   rw [hf] at hrun;exact ⟨x,hrun⟩
 obtain ⟨x,hrun⟩:=key;have Un:∃ob,mv= .map ob:=by
  rcases h.mp with ⟨rfl,_⟩ | ⟨b,D,rfl,_⟩
  ·exact ⟨_,rfl⟩
  ·exact ⟨_,rfl⟩
 obtain ⟨ob,rfl⟩:=Un;clear h hw hn;generalize aD ws=z at *
 match z,hz with
 | [a0,a1,a2,a3,a4,a5,a6,a7,a8],_=>
   simp only [S,zo,AU] at hrun⊢;go_enter Tryz.func217,Tryz.ntmps217;go_wp2_with fail
   refine xV (by kernel_rfl) (by kernel_rfl) ?_
   repeat still_step
   refine jC ?_;go_wp2_with fail
   go_ret2
   exact ⟨rfl,HB.out _⟩
theorem Uo {w:World} {B k g n cap:Nat} {e:TypeId} {xs:List aj} (h:w.ownsRow B e k (.slice (some ⟨g,0,none⟩) n cap) n xs) (j:Nat) (u:aj):(w.setCell ⟨g,j,none⟩ u).ownsRow B e k (.slice (some ⟨g,0,none⟩) n cap) n (xs.set j u):=by
 rcases h.2 with ⟨q,_⟩ | ⟨g',cap',cur,q,h1,h2,h3,h4,h5,h6⟩
 ·cases q
 ·cases q;refine ⟨by rw [lU];exact h.1,.inr ⟨g,cap,cur.setIfInBounds j u,rfl,h1,?_,h3,h4,by rw [Array.size_setIfInBounds];exact h5,?_⟩⟩
  ·simp [qP,sO,h2]
  ·rw [Array.toList_setIfInBounds,List.take_set,h6]
structure lm (B N o:Nat) (mv v:aj) (w w':World):Prop where
 below:ak B w w'
 other:∀g,g<w.heap.size->g≠N->(∀b,mv= .map (some b)->g≠b)->v.ownBlock≠some g->w'.heap[g]? =w.heap[g]?
 cells:∀j,j≠o->j≠o+1->w'.cell? ⟨N,j,none⟩=w.cell? ⟨N,j,none⟩
 fz:∀j,w'.frozen? ⟨N,j,none⟩=w.frozen? ⟨N,j,none⟩
def jG (l:List cD) (ws:List Nat) (p:List UInt8):List cD:=
 match (cu l).findIdx? (·== ws) with
 | some n=>l.set n (ws,p)
 | none=>l ++ [(ws,p)]
theorem K5 (k:cD) (l:List cD):jj (k :: l)= .string (ah (aQ k.1)) :: .string (ah k.2) :: jj l:=by simp [jj,bR]
theorem acj:∀(l:List cD) (n:Nat) (k:cD) (p:List UInt8),l[n]? =some k->(jj l).set (n * 2+1) (.string (ah p))=jj (l.set n (k.1,p))
 | [],n,_,_,h=>by simp at h
 | x :: l,0,k,p,h=>by
   have:x=k:=by simpa using h
   subst this;rw [List.set_cons_zero,K5,K5];rfl
 | x :: l,n+1,k,p,h=>by
   have h':l[n]? =some k:=by simpa using h
   rw [Ri,K5,K5,show (n+1) * 2+1=n * 2+1+1+1 by omega,Ri,Ri,acj l n k p h']
theorem ack (l:List cD) (n:Nat) (k:cD) (p:List UInt8) (h:l[n]? =some k):cu (l.set n (k.1,p))=cu l:=by
 unfold cu;rw [List.map_set];apply tU;intro j;rw [List.getElem?_set];split
 ·rename_i e;subst e;split
  ·rw [iX,h];rfl
  ·rename_i h1;rw [lE (by omega)]
 ·rfl
theorem fE.Up {B N o:Nat} {l:List cD} {mv v:aj} {w:World} (h:fE B N o l mv v w) {n g c:Nat} {k:cD} (hn:l[n]? =some k) (hv:v= .slice (some ⟨g,0,none⟩) l.length c) (p:List UInt8):
 fE B N o (l.set n (k.1,p)) mv v (w.setCell ⟨g,n * 2+1,none⟩ (.string (ah p)))∧lm B N o mv v w (w.setCell ⟨g,n * 2+1,none⟩ (.string (ah p))):=by
 have sZ:N≠g:=fun e=>h.nv (by rw [hv,e];rfl);have hN:(w.setCell ⟨g,n * 2+1,none⟩ (.string (ah p))).heap[N]? =w.heap[N]?:=bB sZ;have hBg:B<=g:=(aR h.ls g (by rw [hv];rfl)).1;refine ⟨⟨(aP hN).trans h.c0,(aP hN).trans h.c1,h.nv,?_,fun x hx=>?_,fun i j hi e=>?_,?_⟩,⟨(aA _ _).setCell (p:=⟨g,n * 2+1,none⟩) hBg _,fun g' _ _ _ hv'=>bB (fun e=>hv' (by rw [hv,e];rfl)),fun j _ _=>aP hN,fun j=>fS hN⟩⟩
 ·have hls:=h.ls;rw [hv] at hls⊢;rw [lU,<-acj l n k p hn];exact Uo hls _ _
 ·rcases List.mem_or_eq_of_mem_set hx with q | q
  ·exact h.ok x q
  ·rw [q];exact h.ok k (oK hn)
 ·rw [ack l n k p hn] at e;rw [lU] at hi;exact h.one i j hi e
 ·rcases h.mp with ⟨q,e⟩ | ⟨b,D,q,hb,hm,ht⟩
  ·rw [e] at hn;cases hn
  ·refine .inr ⟨b,D,q,hb,?_,by rw [ack l n k p hn];exact ht⟩;rw [lU];have hne:b≠g:=fun e=>by
    obtain ⟨es,cl,hh⟩:=GV hm;obtain ⟨_,c',t',fr,hc⟩:=GP h.ls g (by rw [hv];rfl);rw [e,hc] at hh;cases hh
   exact Bb hm (bB hne)
theorem acm (b:Nat) (w:World):(binOp .eql 129 (.map (some b)) (.map none)).run au w= .ok (.bool false) w:=by
 kernel_rfl
theorem amH (w:World):(binOp .eql 129 (.map none) (.map none)).run au w= .ok (.bool true) w:=by
 kernel_rfl
theorem fE.up {B N o:Nat} {l:List cD} {mv v:aj} {w w':World} (h:fE B N o l mv v w) (hb:ak w.heap.size w w'):fE B N o l mv v w':=by
 have hN:=hb.block N (mA h.c0);refine ⟨(aP hN).trans h.c0,(aP hN).trans h.c1,h.nv,dX h.ls hb,h.ok,h.one,?_⟩;rcases h.mp with q | ⟨b,D,q,hB,hm,ht⟩
 ·exact .inl q
 ·exact .inr ⟨b,D,q,hB,Bb hm (hb.block b hm.lt),ht⟩
theorem lm.grow {B N o:Nat} {mv v:aj} {w w1 w2:World} (k:lm B N o mv v w w1) (hN:N<w1.heap.size) (hB:B<=w1.heap.size) (hb:ak w1.heap.size w1 w2):lm B N o mv v w w2:=
 ⟨k.below.trans (hb.mono hB),fun g hg h1 h2 h3=>(hb.block g (dB hg k.below.size)).trans (k.other g hg h1 h2 h3),fun j h1 h2=>(aP (hb.block N hN)).trans (k.cells j h1 h2),fun j=>(fS (hb.block N hN)).trans (k.fz j)⟩
theorem amI (B N o:Nat) (l:List cD) (mv v:aj) (n:Nat) (k:cD) (p:ByteArray) (w:World) (h:fE B N o l mv v w) (hB:B<=w.heap.size) (hn:l[n]? =some k) (hl:l.length<=1000000000000):
 av au 190 #[.pointer (some ⟨N,o,none⟩),.agg (S (aD k.1)),.string p] w fun e' w'=>e'= .returned (.tuple #[])∧fE B N o (l.set n (k.1,aC p)) mv v w'∧lm B N o mv v w w':=by
 have hw:=h.ok k (oK hn);have Bz:(cu l)[n]? =some k.1:=by unfold cu;rw [iX,hn];rfl
 have HH:=af h;have HHn:=af hn;rcases h.mp with ⟨_,rfl⟩ | ⟨b,D,rfl,_,hown,oY⟩
 ·cases hn
 have c0:=h.c0;have c1:=h.c1;have hnl:n<l.length:=(fG.1 hn).1;obtain ⟨g,c,hv,hgB,hgl⟩:=h.ls.form (by omega);have HV:=af hv;rw [hv] at c1;have hls:=h.ls;rw [hv] at hls;obtain ⟨_,d1⟩:=Ul hls n k hn;have f1:w.frozen? ⟨g,n * 2+1,none⟩=false:=hls.frozenAt _;obtain ⟨iK,Bg⟩:=oY k.1 hw;have hat:=Bg n Bz (h.uniq Bz);have hin:k.1∈cu l:=oK Bz;have hrun:(JB 129 (.map (some b)) (.agg (S (aD k.1))) true).run au ((w.alloc (.cells (S (aD k.1)) 187)).drew)= .ok (.tuple #[.int .i64 (n:Int),.bool true]) ((w.alloc (.cells (S (aD k.1)) 187)).drew):=by
  obtain ⟨x,ps',hrun,hx⟩:=((hown.alloc (.cells (S (aD k.1)) 187)).drew).look_ok yC Gs (Eo _) (DY (H:=Unit) pO (a:=0) (by decide)) (xo hw);rw [iK.2 hin] at hrun;obtain ⟨a,rfl,ha,_⟩:=plainElem_int_inv pO hx;rw [hat] at ha;cases ha;exact hrun
 have HE:Hid (∀ob W,W=((w.setCell ⟨g,n * 2+1,none⟩ (.string p)).alloc ob).drew->fE B N o (l.set n (k.1,aC p)) (.map (some b)) v W∧lm B N o (.map (some b)) v w W):=fun ob W e=>by
  have q:=HH.out.Up HHn.out HV.out (aC p);rw [nK] at q;have hb0:ak (w.setCell ⟨g,n * 2+1,none⟩ (.string p)).heap.size (w.setCell ⟨g,n * 2+1,none⟩ (.string p)) ((w.setCell ⟨g,n * 2+1,none⟩ (.string p)).alloc ob).drew:=((aA _ _).alloc (ax _) ob).drew;rw [e];exact ⟨q.1.up hb0,q.2.grow (by rw [fW];exact mA HH.out.c0) (by rw [fW];exact hB) hb0⟩
 have Um:N<w.heap.size:=mA c0;have hz:=nT hw.1;have hn0:¬(n:Int)<0:=by omega
 have hn1:(n:Int)<(l.length:Int):=by omega
 have sZ:¬g=w.heap.size:=by omega
 clear h hw Bz hown oY iK Bg hat hin hls hv hn hB;generalize hQ:aD k.1=z at *;generalize ah k.2=P at *;generalize hL:l.length=L at *;clear hQ hL
 match z,hz with
 | [a0,a1,a2,a3,a4,a5,a6,a7,a8],_=>
   simp only [S,zo,AU] at hrun⊢;have me:=acm b;go_enter Tryz.func190,Tryz.ntmps190;go_wp2_with fail
   refine xV (by kernel_rfl) (by kernel_rfl) ?_
   repeat still_step
   refine jC ?_;go_wp2_with fail
   go_end0
   exact ⟨rfl,HE.out _ _ rfl⟩
theorem Uq (z:List Int) (h:z.length=9):∃a0 a1 a2 a3 a4 a5 a6 a7 a8,z=[a0,a1,a2,a3,a4,a5,a6,a7,a8]:=by
 match z,h with
 | [a0,a1,a2,a3,a4,a5,a6,a7,a8],_=>exact ⟨a0,a1,a2,a3,a4,a5,a6,a7,a8,rfl⟩
def jz (mv v:aj) (g:Nat):Prop:=mv= .map (some g)∨v.ownBlock=some g
theorem fE.lt {B N o:Nat} {l:List cD} {mv v:aj} {w:World} (h:fE B N o l mv v w):N<w.heap.size:=mA h.c0
theorem fE.has {B N o:Nat} {l:List cD} {mv v:aj} {w:World} (h:fE B N o l mv v w) {g:Nat} (hg:jz mv v g):B<=g∧g<w.heap.size∧g≠N:=by
 rcases hg with hg | hg
 ·rcases h.mp with ⟨q,_⟩ | ⟨b,D,q,hb,hm,_⟩
  ·rw [q] at hg;cases hg
  ·rw [q] at hg;cases hg;refine ⟨hb,hm.lt,fun e=>?_⟩;obtain ⟨es,cl,hh⟩:=GV hm;obtain ⟨c,t,fr,hc⟩:=cells_of_cell h.c0;rw [<-e,hh] at hc;cases hc
 ·have:=aR h.ls g hg;exact ⟨this.1,this.2,fun e=>h.nv (e▸hg)⟩
theorem fE.apart {B N o:Nat} {l:List cD} {b:Nat} {v:aj} {w:World} (h:fE B N o l (.map (some b)) v w):v.ownBlock≠some b:=fun e=>by
 rcases h.mp with ⟨q,_⟩ | ⟨b',D,q,hb,hm,_⟩
 ·cases q
 ·cases q;obtain ⟨es,cl,hh⟩:=GV hm;obtain ⟨_,c,t,fr,hc⟩:=GP h.ls b e;rw [hh] at hc;cases hc
theorem fE.kept {B N o:Nat} {l:List cD} {mv v:aj} {w w':World} (h:fE B N o l mv v w) (hN:∀j,j=o∨j=o+1->w'.cell? ⟨N,j,none⟩=w.cell? ⟨N,j,none⟩) (hk:∀g,jz mv v g->w'.heap[g]? =w.heap[g]?):fE B N o l mv v w':=by
 refine ⟨(hN o (.inl rfl)).trans h.c0,(hN (o+1) (.inr rfl)).trans h.c1,h.nv,dz h.ls (fun g hg=>hk g (.inr hg)),h.ok,h.one,?_⟩;rcases h.mp with q | ⟨b,D,q,hB,hm,ht⟩
 ·exact .inl q
 ·exact .inr ⟨b,D,q,hB,Bb hm (hk b (.inl q)),ht⟩
theorem lm.trans {B N o:Nat} {mv v Ur v1:aj} {w w1 w2:World} (h:lm B N o mv v w w1) (own:∀g,jz Ur v1 g->jz mv v g∨w.heap.size<=g) (k:lm B N o Ur v1 w1 w2):lm B N o mv v w w2:=by
 refine ⟨h.below.trans k.below,fun g hg h1 h2 h3=>?_,fun j h1 h2=>(k.cells j h1 h2).trans (h.cells j h1 h2),fun j=>(k.fz j).trans (h.fz j)⟩;have hn:¬jz Ur v1 g:=fun q=>by
  rcases own g q with (e | e) | e
  ·exact h2 g e rfl
  ·exact h3 e
  ·omega
 exact (k.other g (dB hg h.below.size) h1 (fun b e q=>hn (.inl (by rw [e,q]))) (fun e=>hn (.inr e))).trans (h.other g hg h1 h2 h3)
theorem lm.above {B N o:Nat} {mv v:aj} {w w':World} (hB:B<=w.heap.size) (hN:N<w.heap.size) (h:ak w.heap.size w w'):lm B N o mv v w w':=
 ⟨h.mono hB,fun g hg _ _ _=>h.block g hg,fun _ _ _=>aP (h.block N hN),fun _=>fS (h.block N hN)⟩
theorem fE.made {B N o:Nat} {v:aj} {w w0:World} (h:fE B N o [] (.map none) v w) (hBN:B<=N) (hb:ak w.heap.size w w0) (W:World) (hW:W=(w0.alloc (.map #[] 0)).setCell ⟨N,o,none⟩ (.map (some w0.heap.size))):
 fE B N o [] (.map (some w0.heap.size)) v W∧lm B N o (.map none) v w W:=by
 have hN:=h.lt;have hB:B<=w.heap.size:=aT hBN (iP hN);have K6:N<w0.heap.size:=dB hN hb.size;have e0:∀g,g<w0.heap.size->g≠N->W.heap[g]? =w0.heap[g]?:=fun g hg hn=>by rw [hW];exact (bB hn).trans (cM w0 _ g hg)
 have eN:∀j,j≠o->W.cell? ⟨N,j,none⟩=w.cell? ⟨N,j,none⟩:=fun j hj=>by rw [hW,cZ (fun e=>hj e.symm)];exact aP ((cM w0 _ N K6).trans (hb.block N hN))
 have eF:∀j,W.frozen? ⟨N,j,none⟩=w.frozen? ⟨N,j,none⟩:=fun j=>by rw [hW,oO];exact fS ((cM w0 _ N K6).trans (hb.block N hN))
 have hbel:ak w.heap.size w (w0.alloc (.map #[] 0)):=hb.alloc hb.size _;refine ⟨⟨?_,(eN (o+1) (by omega)).trans h.c1,h.nv,?_,h.ok,h.one,.inr ⟨w0.heap.size,.map [],rfl,aT hB hb.size,?_,fun e _=>⟨⟨fun q=>(by cases q),fun q=>(by cases q)⟩,fun n hn=>(by simp [cu] at hn)⟩⟩⟩,⟨?_,fun g hg h1 _ h3=>(e0 g (dB hg hb.size) h1).trans (hb.block g hg),fun j h1 _=>eN j h1,eF⟩⟩
 ·rw [hW];exact qj _ _ _ ((aP ((cM w0 _ N K6).trans (hb.block N hN))).trans h.c0)
 ·exact dz h.ls (fun g hg=>(e0 g (dB (aR h.ls g hg).2 hb.size) (fun e=>h.nv (e▸hg))).trans (hb.block g (aR h.ls g hg).2))
 ·rw [hW];exact Bb (World.ownsMap_made w0 _ _ _) (bB (by omega))
 ·rw [hW];exact (hbel.mono hB).setCell (p:=⟨N,o,none⟩) hBN _
theorem acn {B N o:Nat} {l:List cD} {b:Nat} {v:aj} {w w0 w3 w5 w4:World} {ws:List Nat} {D':DataW Unit} (h:fE B N o l (.map (some b)) v w) (hBN:B<=N) (hU:gO ws) (hn:ws∉cu l) (hb0:ak w.heap.size w w0) (qw:w0.grownBy w3 (some b)) (oX:w3.ownsMap au 187 (Gl au 3) b (l.length+1) D') (hk3:Db D' (cu l ++ [ws]))
 (fD:ak w3.heap.size w3 w5) (g cap:Nat) (ho:w4.ownsRow B 127 2 (.slice (some ⟨g,0,none⟩) (l.length+1) cap) (l.length+1) (jj l ++ [.string (ah (aQ ws)),.string (ah [])])) (hgr:w5.grownBy w4 v.ownBlock) (ha:v.ownBlock=some g∨w.heap.size<=g) (W:World) (hW:W=w4.setCell ⟨N,o+1,none⟩ (.slice (some ⟨g,0,none⟩) (l.length+1) cap)):
 fE B N o (l ++ [(ws,[])]) (.map (some b)) (.slice (some ⟨g,0,none⟩) (l.length+1) cap) W∧lm B N o (.map (some b)) v w W:=by
 have hN:=h.lt;have hBw:B<=w.heap.size:=aT hBN (iP hN);have PA:=h.has (g:=b) (.inl rfl);have gh:=h.apart;have PB:w.heap.size<=w3.heap.size:=aT hb0.size qw.size;have hk:∀k,k<w.heap.size->k≠b->v.ownBlock≠some k->w4.heap[k]? =w.heap[k]?:=fun k h1 h2 h3=>
  (hgr.block k (dB (dB h1 PB) fD.size) (fun e=>h3 e.symm)).trans ((fD.block k (dB h1 PB)).trans ((qw.block k (dB h1 hb0.size) (fun e=>h2 (oN e))).trans (hb0.block k h1)))
 have Us:w4.heap[N]? =w.heap[N]?:=hk N hN (fun e=>PA.2.2 e.symm) h.nv;have sZ:g≠N:=by
  rcases ha with ha | ha
  ·exact fun e=>h.nv (e▸ha)
  ·omega
 have Ut:∀k,k≠N->W.heap[k]? =w4.heap[k]?:=fun k hk=>by rw [hW];exact bB hk
 have EZ:∀j,j≠o+1->W.cell? ⟨N,j,none⟩=w.cell? ⟨N,j,none⟩:=fun j hj=>by rw [hW,cZ (fun e=>hj e.symm)];exact aP Us
 refine ⟨⟨(EZ o (by omega)).trans h.c0,?_,(fun e=>sZ (oN e)),?_,fun x hx=>?_,fun i j hi e=>?_,.inr ⟨b,D',rfl,PA.1,?_,?_⟩⟩,⟨?_,fun k h1 h2 h3 h4=>(Ut k h2).trans (hk k h1 (h3 b rfl) h4),fun j _ h2=>EZ j h2,fun j=>by rw [hW,oO];exact fS Us⟩⟩
 ·rw [hW];exact qj _ _ _ ((aP Us).trans h.c1)
 ·have e1:jj (l ++ [(ws,[])])=jj l ++ [.string (ah (aQ ws)),.string (ah [])]:=by unfold jj;rw [List.map_append];exact Ta _ _
  rw [e1,dK,DX];exact dz ho (fun k hk=>by cases hk;exact Ut g sZ)
 ·rcases rO.1 hx with q | q
  ·exact h.ok x q
  ·simp at q;rw [q];exact hU
 ·have ew:cu (l ++ [(ws,[])])=cu l ++ [ws]:=by simp [cu]
  rw [ew] at e;have BB:(cu l).length=l.length:=by simp [cu]
  rw [dK,DX] at hi;have key:∀m,m<=l.length->(cu l ++ [ws])[m]? =some ws->m=l.length:=fun m hm q=>by
   rcases oM m l.length with hl | hl
   ·rw [jN (by omega)] at q;exact absurd (oK q) hn
   ·omega
  have hlast:(cu l ++ [ws])[l.length]? =some ws:=by rw [<-BB,lD (ax _),Nat.sub_self];rfl
  have hj:j<l.length+1:=by
   rcases oM j (l.length+1) with q | q
   ·exact q
   ·have e2:(cu l ++ [ws])[j]? =none:=lE (by rw [dK,BB,DX];exact q);have e3:i<(cu l ++ [ws]).length:=by rw [dK,BB,DX];exact hi
    rw [e2,bE e3] at e;cases e
  rcases oM i l.length with q1 | q1<;>rcases oM j l.length with q2 | q2
  ·rw [jN (by omega),jN (by omega)] at e;exact h.one i j q1 e
  ·have ej:j=l.length:=by omega
   rw [ej,hlast] at e;have:=key i (by omega) e;omega
  ·have ei:i=l.length:=by omega
   rw [ei,hlast] at e;have:=key j (by omega) e.symm;omega
  ·omega
 ·rw [dK,DX];exact Bb oX ((Ut b PA.2.2).trans ((hgr.block b (dB oX.lt fD.size) (fun e=>gh e.symm)).trans (fD.block b oX.lt)))
 ·have ew:cu (l ++ [(ws,[])])=cu l ++ [ws]:=by simp [cu]
  rw [ew];exact hk3
 ·rw [hW];refine ((((hb0.mono hBw).trans ?_).trans (fD.mono (aT hBw PB))).grown hgr (aT hBw (aT PB fD.size)) (fun k hk=>(aR h.ls k hk).1)).setCell (p:=⟨N,o+1,none⟩) hBN _;exact (aA _ _).grown qw (aT hBw hb0.size) (fun k hk=>by cases hk;exact PA.1)
theorem World.aco (w:World) (a:Addr) (v:aj) (o:Obj) (h:a.block<w.heap.size):(w.setCell a v).alloc o=(w.alloc o).setCell a v:=by
 unfold qP World.alloc;congr 1;apply Array.ext_getElem?;intro k;simp only [sO,Array.getElem?_push,Array.size_modify];by_cases hk:a.block=k
 ·subst hk;simp [Nat.ne_of_lt h]
 ·simp [hk]
end
end Go.Proofs.YtmmflekajbeamaaGreatDoor
