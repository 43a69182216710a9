/- Texts of ours, joined, in few bytes. -/
import Derived.Test.YtmmflekajbeamaaGreatDoorE17
import Derived.Shelf.Spec.SlicesGrow
import Derived.Deep.Upon
import Derived.Shelf.Strings.BuilderK
open Go.Builtin renaming append_->Rn
open Go renaming Calls->av,Ending->eL,Value->aj,block_lt_of_cell->mA,heap_alloc_new->bg,maxLen->cP
open Go.Lib renaming IsBuilderF->JP
open Go.Proofs.Tryz renaming prog->au,underlying57->AV
open Go.Result renaming andThen_ok->DI
open Go.RowKit renaming Below->ak,intOf->aI,wrap64->aY
open Go.RowKit.Below renaming heap_alloc->cM,refl->aA
open Go.Value renaming int->cI,string->tZ
open Go.Value.slice renaming injEq->Gu
open Go.World renaming cell?->cU,cell?_of_block->aP,cell?_setCell_same->qj,frozen?->ij,frozen?_of_block->fS,frozen?_setCell->oO,ownsRow_nil->j7
open List renaming getElem?_eq_getElem->bE,getElem?_eq_some_iff->fG,getElem_mem->lC,length_append->dK,length_cons->jM,length_eq_zero_iff->Nq,length_map->jV,length_take->ny,take_length->xJ
open Nat renaming le_refl->ax,le_succ->jk,le_trans->aT,lt_of_lt_of_le->dB,lt_of_succ_lt->YE,lt_succ_self->Gt,zero_le->bK
namespace Go.Proofs.YtmmflekajbeamaaGreatDoor
set_option maxRecDepth 100000
set_option maxHeartbeats 4000000
section
open Go.RowKit Go.Maps Go.WideMaps
theorem PF (B N o:Nat) (l:List cD) (mv v:aj) (ws:List Nat) (p:ByteArray) (w:World) (h:fE B N o l mv v w) (hBN:B<=N) (hf:∀j,w.frozen? ⟨N,j,none⟩=false) (hw:gO ws) (hl:l.length<=1000000000000):
 av au 190 #[.pointer (some ⟨N,o,none⟩),.agg (S (aD ws)),.string p] w (K7 B N o (jG l ws (aC p)) mv v w):=by
 unfold jG;cases hq:(cu l).findIdx? (·== ws) with
 | some n=>
   obtain ⟨h1,h2,_⟩:=List.findIdx?_eq_some_iff_getElem.1 hq;have hn:n<l.length:=by unfold cu at h1;simpa using h1
   have he:l[n].1=ws:=by
    have:(cu l)[n]=l[n].1:=by simp [cu]
    rw [this] at h2;simpa using h2
   have hk:l[n]? =some l[n]:=bE hn;have key:=amI B N o l mv v n l[n] p w h (aT hBN (Nat.le_of_lt h.lt)) hk hl;rw [he] at key;exact key.mono fun e' w' q=>⟨q.1,mv,v,q.2.1,q.2.2,fun g hg=>.inl hg⟩
 | none=>
   have hn:ws∉cu l:=fun hm=>by
    have:=List.findIdx?_eq_none_iff.1 hq ws hm;simp at this
   rcases h.mp with ⟨rfl,rfl⟩ | ⟨b,D,rfl,_⟩
   ·exact amM B N o v ws p w h hBN hf hw
   ·exact amK B N o l b v ws p w h hBN hf hw hn hl
structure oF (B:Nat) (l:List cD) (mv v:aj) (w:World):Prop where
 ls:w.ownsRow B 127 2 v l.length (jj l)
 ok:∀k∈l,gO k.1
 one:∀i j:Nat,i<l.length->(cu l)[i]? =(cu l)[j]?->i=j
 mp:(mv= .map none∧l=[])∨∃b D,mv= .map (some b)∧B<=b∧w.ownsMap au 187 (plainElem au 3) b l.length D∧Db D (cu l)
theorem fE.val {B N o:Nat} {l:List cD} {mv v:aj} {w:World} (h:fE B N o l mv v w):oF B l mv v w:=⟨h.ls,h.ok,h.one,h.mp⟩
theorem oF.at' {B N o:Nat} {l:List cD} {mv v:aj} {w:World} (h:oF B l mv v w) (c0:w.cell? ⟨N,o,none⟩=some mv) (c1:w.cell? ⟨N,o+1,none⟩=some v) (nv:v.ownBlock≠some N):fE B N o l mv v w:=⟨c0,c1,nv,h.ls,h.ok,h.one,h.mp⟩
theorem oF.has {B:Nat} {l:List cD} {mv v:aj} {w:World} (h:oF B l mv v w) {g:Nat} (hg:jz mv v g):B<=g∧g<w.heap.size:=by
 rcases hg with hg | hg
 ·rcases h.mp with ⟨q,_⟩ | ⟨b,D,q,hb,hm,_⟩
  ·rw [q] at hg;cases hg
  ·rw [q] at hg;cases hg;exact ⟨hb,hm.lt⟩
 ·exact aR h.ls g hg
theorem oF.kept {B:Nat} {l:List cD} {mv v:aj} {w w':World} (h:oF B l mv v w) (hk:∀g,jz mv v g->w'.heap[g]? =w.heap[g]?):oF B l mv v w':=by
 refine ⟨dz h.ls (fun g hg=>hk g (.inr hg)),h.ok,h.one,?_⟩;rcases h.mp with q | ⟨b,D,q,hB,hm,ht⟩
 ·exact .inl q
 ·exact .inr ⟨b,D,q,hB,Bb hm (hk b (.inl q)),ht⟩
theorem oF.base {B B':Nat} {l:List cD} {mv v:aj} {w:World} (h:oF B l mv v w) (hb:B'<=B):oF B' l mv v w:=by
 refine ⟨Al h.ls hb,h.ok,h.one,?_⟩;rcases h.mp with q | ⟨b,D,q,hB,hm,ht⟩
 ·exact .inl q
 ·exact .inr ⟨b,D,q,aT hb hB,hm,ht⟩
theorem oF.map {B:Nat} {l:List cD} {mv v:aj} {w:World} (h:oF B l mv v w):∃ob,mv= .map ob:=by
 rcases h.mp with ⟨rfl,_⟩ | ⟨b,D,rfl,_⟩
 ·exact ⟨_,rfl⟩
 ·exact ⟨_,rfl⟩
theorem oF.none (B:Nat) (w:World):oF B [] (.map none) (.slice none 0 0) w:=⟨j7 _ _ _ _,(fun k h=>by cases h),(fun i j h=>by cases h),.inl ⟨rfl,rfl⟩⟩
def mZ (t:List UInt8):List Nat:=dV (ah t) (t.length / 4)
def kL (b:List cD) (x:List UInt8×List UInt8):List cD:=if ox (ah x.1)=true then jG b (mZ x.1) x.2 else b
def dN (l:List (List UInt8×List UInt8)):List cD:=l.foldl kL []
theorem amX {l:List (List UInt8×List UInt8)} {k:Nat} {x:List UInt8×List UInt8} (h:l[k]? =some x):dN (l.take (k+1))=kL (dN (l.take k)) x:=by
 unfold dN;rw [He h,List.foldl_append];rfl
theorem UI (l:List cD) (ws:List Nat) (p:List UInt8):(jG l ws p).length<=l.length+1:=by
 unfold jG;split
 ·rw [List.length_set];omega
 ·rw [dK];exact ax _
theorem amY (l:List cD) (x:List UInt8×List UInt8):(kL l x).length<=l.length+1:=by
 unfold kL;split
 ·exact UI _ _ _
 ·omega
theorem acz:∀(l:List (List UInt8×List UInt8)) (b:List cD),(l.foldl kL b).length<=b.length+l.length
 | [],b=>by simp
 | x :: l,b=>by
   have h1:=acz l (kL b x);have h2:=amY b x;rw [List.foldl_cons,jM];omega
theorem Ip (l:List (List UInt8×List UInt8)):(dN l).length<=l.length:=by have:=acz l [];simpa [dN] using this
theorem acA:(Tryz.prog.info? 131).map (·.size)=some 2:=by kernel_rfl
def E0 (l:List cD) (w:World) (e':eL) (w':World):Prop:=∃mv v,e'= .returned (.agg #[mv,v])∧oF w.heap.size l mv v w'∧ak w.heap.size w w'
theorem UJ (B0:Nat) (v0:aj) (l:List (List UInt8×List UInt8)) (w:World) (ht:bF w) (h:w.ownsRow B0 127 2 v0 l.length (bR l)) (hx:∀x∈l,x.1.length<=1000000) (hl:l.length<=1000000000000):
 av au 152 #[v0] w (E0 (dN l) w):=by
 obtain ⟨W0,bq⟩:∃W0,W0=(w.alloc (.cells #[.map none,.slice none 0 0] 131)).alloc (.cells #[.map none,.slice none 0 0] 131):=⟨_,rfl⟩;have hs1:(w.alloc (.cells #[.map none,.slice none 0 0] 131)).heap.size=w.heap.size+1:=aB _ _;have hb0:ak w.heap.size w W0:=by rw [bq];exact ((aA _ _).alloc (ax _) _).alloc (by rw [aB];omega) _
 have r0:W0.heap[w.heap.size]? =some (.cells #[.map none,.slice none 0 0] 131 (0,0)):=by rw [bq,cM _ _ _ (by rw [aB];omega),bg]
 have r1:W0.heap[w.heap.size+1]? =some (.cells #[.map none,.slice none 0 0] 131 (0,0)):=by rw [bq,<-hs1,bg]
 have a0:fE (w.heap.size+1) (w.heap.size+1) 0 [] (.map none) (.slice none 0 0) W0:=(oF.none _ _).at' (by simp [cU,r1]) (by simp [cU,r1]) (fun e=>by cases e);have f0:∀j,W0.frozen? ⟨w.heap.size+1,j,none⟩=false:=fun j=>by simp [ij,r1]
 have fV:=af bq;have HT:=af (fun w' (hb:ak w.heap.size w w')=>ht.below ht.pos hb);have H0:Hid (fE (w.heap.size+1) (w.heap.size+1) 0 (dN (l.take 0)) (.map none) (.slice none 0 0) W0∧(∀j,W0.frozen? ⟨w.heap.size+1,j,none⟩=false)∧W0.heap[w.heap.size]? =some (.cells #[.map none,.slice none 0 0] 131 (0,0))∧ak w.heap.size w W0):=⟨a0,f0,r0,hb0⟩;have HO:=af h;have HX:=af hx;have HL:=af hl;obtain ⟨va,vc,hv⟩:=bA h;subst hv;clear hb0 r0 r1 a0 f0 bq ht h hx hs1;go_enter Tryz.func152,Tryz.ntmps152;go_wp2_with fail
 rw [<-fV.out];go_loopw [10] (fun i wr=>∃(k:Nat) (mv u:aj),k<=l.length∧i= .int .i64 k∧Hid (fE (w.heap.size+1) (w.heap.size+1) 0 (dN (l.take k)) mv u wr∧(∀j,wr.frozen? ⟨w.heap.size+1,j,none⟩=false)∧wr.heap[w.heap.size]? =some (.cells #[.map none,.slice none 0 0] 131 (0,0))∧ak w.heap.size w wr)) (fun i _=>l.length - (aI i).toNat)
 case atStart=>exact ⟨0,.map none,.slice none 0 0,bK _,rfl,H0.out⟩
 case round=>
  obtain ⟨k,mv,u,hk,rfl,HM⟩:=hrel;by_cases hlt:k<l.length
  ·have hlt':(k:Int)<(l.length:Int):=by omega
   obtain ⟨g,c,hv,_,hgl⟩:=HO.out.form (by omega);simp only [Gu] at hv;obtain ⟨rfl,_,rfl⟩:=hv;obtain ⟨d0,d1⟩:=Bt HO.out k l[k] (bE hlt);have hbl:=HM.out.2.2.2;replace d0:=(aP (hbl.block g hgl)).trans d0;replace d1:=(aP (hbl.block g hgl)).trans d1;have hgz:g<wr.heap.size:=dB hgl hbl.size;have HK:=af (amX (bE hlt));have hxl:=HX.out l[k] (lC hlt);generalize l[k]=x at *;have hz:(ah x.1).size=x.1.length:=bZ _;have j9:=af (fun w' (hb:ak w.heap.size w w')=>Ow (ah x.1) w' (HT.out w' hb) (by rw [hz];unfold cP;omega));have bU:=af hbl;have HZ:=af hz;clear hbl hz hxl;go_wp2_with fail
   refine (aq j9 _ (bU.out.alloc bU.out.size _)).mono ?_;rintro e w1 ⟨hb1,hres⟩;have hz1:wr.heap.size+1<=w1.heap.size:=by have:=hb1.size;rw [aB] at this;exact this
   have b1:=hb1.block wr.heap.size (by rw [aB];exact Gt _);rw [bg] at b1;have q1:w1.cell? ⟨wr.heap.size,1,none⟩=some (.string (ah x.2)):=by simp [cU,b1]
   have aJ:Hid (ak wr.heap.size wr w1):=((aA _ _).alloc (ax _) _).trans (hb1.mono (by rw [aB];exact jk _));clear hb1 b1;rcases hres with ⟨hok,rfl⟩ | ⟨hno,rfl⟩
   ·have h8:gO (mZ x.1):=⟨by unfold mZ;rw [qx,<-HZ.out];have:=hok.2.1;omega,G8 _ _⟩;have HA:Hid (kL (dN (l.take k)) x=jG (dN (l.take k)) (mZ x.1) x.2):=if_pos ((zN _).2 hok);have hrd:dV (ah x.1) ((ah x.1).size / 4)=mZ x.1:=by rw [HZ.out];rfl
    rw [hrd];have hzl:=nT h8.1;have Am:Hid (fE (w.heap.size+1) (w.heap.size+1) 0 (dN (l.take k)) mv u (w1.alloc (.cells (S (aD (mZ x.1))) 187))):=HM.out.1.up (aJ.out.alloc aJ.out.size _);have HFz:Hid (∀j,(w1.alloc (.cells (S (aD (mZ x.1))) 187)).frozen? ⟨w.heap.size+1,j,none⟩=false):=fun j=>(fS ((aJ.out.alloc aJ.out.size _).block _ HM.out.1.lt)).trans (HM.out.2.1 j);have m8:=af (PF (w.heap.size+1) (w.heap.size+1) 0 (dN (l.take k)) mv u (mZ x.1) (ah x.2) _ Am.out (ax _) HFz.out h8 (by have h1:=Ip (l.take k);rw [ny] at h1;have:=HL.out;omega));have hrow:aK (w1.alloc (.cells (S (aD (mZ x.1))) 187)) w1.heap.size 187 (aD (mZ x.1)):=bg w1 _;have rI:=hrow.isRow 9 hzl;have rD:=hrow.bW;replace q1:=(aP (a:=⟨wr.heap.size,1,none⟩) (cM w1 (.cells (S (aD (mZ x.1))) 187) wr.heap.size hz1)).trans q1;clear hok hrd h8 hrow
    go_wp2_with (first
     | refine pU iT rfl _ _ rfl w1.heap.size rfl (aD (mZ x.1)) rfl hzl (by rw [kV _ _ _ _ _ rfl];rfl) _ (sQ _ _ _ _ _ rfl) ?_
     | refine s7 rfl Tryz.underlying187 iT rfl _ rfl w1.heap.size rfl rI (S (aD (mZ x.1))) rD ?_)
    refine (aq m8).mono ?_;rintro e w3 ⟨rfl,oB,v',Lc,hfr,_⟩;have amZ:=af Lc;have bn:ak wr.heap.size wr (w1.alloc (.cells (S (aD (mZ x.1))) 187)):=aJ.out.alloc aJ.out.size _;have iM:Hid (ak w.heap.size w w3):=(bU.out.trans (bn.mono bU.out.size)).trans (hfr.below.mono (jk _));have pq:Hid (∀j,w3.frozen? ⟨w.heap.size+1,j,none⟩=false):=fun j=>(hfr.fz j).trans (HFz.out j);have dY:w.heap.size<wr.heap.size:=YE HM.out.1.lt;have De:Hid (w3.heap[w.heap.size]? =some (.cells #[.map none,.slice none 0 0] 131 (0,0))):=(hfr.below.block _ (Gt _)).trans ((bn.block _ dY).trans HM.out.2.2.1);clear Lc hfr bn m8;go_wp2_with fail
    refine ⟨⟨k+1,oB,v',hlt,by go_num,?_⟩,by simp [aI];omega⟩;rw [HK.out,HA.out];have Lc:=amZ.out;rw [kG] at Lc;exact ⟨Lc,pq.out,De.out,iM.out⟩
   ·have HA:Hid (kL (dN (l.take k)) x=dN (l.take k)):=if_neg (fun q=>hno ((zN _).1 q));have hzl:(aD []).length=9:=rfl;have bn:ak wr.heap.size wr (w1.alloc (.cells (S (aD [])) 187)):=aJ.out.alloc aJ.out.size _;have HE:Hid (fE (w.heap.size+1) (w.heap.size+1) 0 (dN (l.take k)) mv u (w1.alloc (.cells (S (aD [])) 187))∧(∀j,(w1.alloc (.cells (S (aD [])) 187)).frozen? ⟨w.heap.size+1,j,none⟩=false)∧(w1.alloc (.cells (S (aD [])) 187)).heap[w.heap.size]? =some (.cells #[.map none,.slice none 0 0] 131 (0,0))∧ak w.heap.size w (w1.alloc (.cells (S (aD [])) 187))):=⟨HM.out.1.up bn,fun j=>(fS (bn.block _ HM.out.1.lt)).trans (HM.out.2.1 j),(bn.block _ (YE HM.out.1.lt)).trans HM.out.2.2.1,bU.out.trans (bn.mono bU.out.size)⟩;clear hno bn;go_wp2_with (refine pU iT rfl _ _ rfl w1.heap.size rfl (aD []) rfl hzl (by rw [kV _ _ _ _ _ rfl];rfl) _ (sQ _ _ _ _ _ rfl) ?_)
    refine ⟨⟨k+1,mv,u,hlt,by go_num,?_⟩,by simp [aI];omega⟩;rw [HK.out,HA.out];exact HE.out
  ·have hlt':¬(k:Int)<(l.length:Int):=by omega
   obtain rfl:k=l.length:=by omega
   rw [xJ] at HM;obtain ⟨ob,rfl⟩:=HM.out.1.val.map;obtain ⟨ua,uc,rfl⟩:=bA HM.out.1.ls;generalize Un:Value.map ob=mv at HM;generalize huv:Value.slice ua (dN l).length uc=u at HM;have c0:=HM.out.1.c0;have c1:=HM.out.1.c1;have r0:=HM.out.2.2.1;have s0:wr.cell? ⟨w.heap.size,0,none⟩=some (.map none):=by simp [cU,r0]
   have s1:wr.cell? ⟨w.heap.size,1,none⟩=some (.slice none 0 0):=by simp [cU,r0]
   have f0:∀j,wr.frozen? ⟨w.heap.size,j,none⟩=false:=fun j=>by simp [ij,r0]
   have g0:=f0 0;have g1:=f0 1;have hNe:∀g,jz mv u g->g≠w.heap.size:=fun g q e=>by have:=(HM.out.1.has q).1;omega
   have cR:Hid (∀Wf,Wf=(wr.setCell ⟨w.heap.size,0,none⟩ mv).setCell ⟨w.heap.size,1,none⟩ u->Wf.heap[w.heap.size]? =some (.cells #[mv,u] 131 (0,0))∧E0 (dN l) w (.returned (.agg #[mv,u])) Wf):=fun Wf e=>by
    refine ⟨by rw [e];simp [World.setCell,Array.getElem?_modify,r0],mv,u,rfl,?_,?_⟩
    ·refine (HM.out.1.val.base (B':=w.heap.size) (jk _)).kept (fun g q=>?_);rw [e];exact (bB (hNe g q)).trans (bB (hNe g q))
    ·rw [e];exact (HM.out.2.2.2.setCell (p:=⟨w.heap.size,0,none⟩) (ax _) _).setCell (p:=⟨w.heap.size,1,none⟩) (ax _) _
   clear f0 r0 hNe;subst Un huv;go_wp2_with fail
   exact bodyPost_ret (v:=.agg #[.map ob,.slice ua (dN l).length uc]) (results_cell_row Tryz.results152 _ _ w.heap.size 131 _ _ _ rfl (cR.out _ rfl).1 Tryz.underlying131 rfl acA) rfl (cR.out _ rfl).2
end
section
open Go.RowKit Go.Maps Go.WideMaps Go.Shelf
theorem am1 (l:List (List UInt8×List UInt8)):(bR l).length=l.length * 2:=aaf (fun x:List UInt8×List UInt8=>[tZ (ah x.1),tZ (ah x.2)]) 2 (fun _=>rfl) l
theorem am2 (l m:List (List UInt8×List UInt8)):bR (l ++ m)=bR l ++ bR m:=by simp [bR]
theorem am3 (l:List (List UInt8×List UInt8)):∀u∈bR l,u.oneCell'=true:=fun u hu=>by
 unfold bR at hu;obtain ⟨x,_,hx⟩:=List.mem_flatMap.1 hu;simp at hx;rcases hx with rfl | rfl<;>rfl
theorem am4 (w:World) (ty:TypeId) {B B0:Nat} {v x:aj} {l m:List (List UInt8×List UInt8)} (hv:w.ownsRow B 127 2 v l.length (bR l)) (hx:w.ownsRow B0 127 2 x m.length (bR m)) (hB:B<=w.heap.size) (hl:l.length+m.length<=2000000000000):
 ∃v' w',(Rn #[57,57] ty #[v,x]).run au w= .ok v' w'∧w'.ownsRow B 127 2 v' (l ++ m).length (bR (l ++ m))∧w.grownBy w' v.ownBlock∧(v.ownBlock=v'.ownBlock∨v'.ownBlock=some w.heap.size):=by
 obtain ⟨inf,cJ,hz,cW,hby⟩:=EU;by_cases hm:m.length=0
 ·have hm0:m=[]:=Nq.1 hm;subst hm0;obtain ⟨va,vc,rfl⟩:=bA hv;obtain ⟨xa,xc,rfl⟩:=bA hx;refine ⟨.slice va l.length vc,w,?_,by rw [List.append_nil];exact hv,World.grownBy.refl _ _,.inl rfl⟩;have hle:l.length<=vc:=by
   rcases hv.2 with ⟨q,q2⟩ | ⟨g,cap,cur,q,h1,h2,h3,h4,h5,h6⟩
   ·rw [q2];exact bK _
   ·simp only [Gu] at q;obtain ⟨_,_,rfl⟩:=q;exact h3
  refine run_append_nothing w _ _ _ 127 inf AV cJ va l.length vc hle _ ?_;cases xa with
  | none=>exact ⟨.inl ⟨_,AV⟩,fun w'=>by simp [Builtin.lenOf],by simp [Builtin.firstCells],by simp [Builtin.firstCells],by simp,fun u hu=>by cases hu⟩
  | some ad=>exact ⟨.inl ⟨_,AV⟩,fun w'=>by simp [Builtin.lenOf],_root_.Go.run_firstCells_some w inf.size 0 ad 0 xc [] (by simp) (fun j v hj=>by cases hj),_root_.Go.run_firstCells_some w.drew inf.size 0 ad 0 xc [] (by simp) (fun j v hj=>by cases hj),by simp,fun u hu=>by cases hu⟩
 ·obtain ⟨xg,xc,rfl,_,_⟩:=hx.form (by omega);obtain ⟨g,cap,w',hr,h2,h3,h4,h5⟩:=run_append_lies w 57 ty B 127 inf _ 2 32 AV cJ hz cW hby rfl (by decide) v l.length (bR l) hv ⟨xg,0,none⟩ m.length xc (bR m) (am1 m) (fun j u hj=>hx.cells (g:=xg) rfl j u hj) (am3 m) (by omega) (by unfold cP;omega) (by omega) hB w.heap.size rfl;exact ⟨_,w',hr,by rw [dK,am2];exact h2,h3,h4.imp (fun q=>q) (fun q=>by rw [q];rfl)⟩
theorem acC {o:Oper} {a:Act} {w:World} {K:Act->World->Prop} {Q:Exit->Act->World->Prop} (s x:Operand)
 (ho:o.op= .call {callee:=.builtin .append,args:=#[s,x],argTypes:=#[57,57]}) {B B0:Nat} {v y:aj} {l m:List (List UInt8×List UInt8)} (hs:a.eval s=v) (hx:a.eval x=y) (hv:w.ownsRow B 127 2 v l.length (bR l)) (hy:w.ownsRow B0 127 2 y m.length (bR m)) (hB:B<=w.heap.size) (hl:l.length+m.length<=2000000000000)
 (h:∀v' w',w'.ownsRow B 127 2 v' (l ++ m).length (bR (l ++ m))->w.grownBy w' v.ownBlock->(v.ownBlock=v'.ownBlock∨v'.ownBlock=some w.heap.size)->K (a.put o.dst v') w'):o.wp au a w K Q:=by
 obtain ⟨v',w',hr,h2,h3,h4⟩:=am4 w o.type hv hy hB hl;unfold Oper.wp execOp;simp only [ho,resolve,invoke,builtin,Sem.run_bind,Sem.run_pure,DI,List.map_toArray,List.map_cons,List.map_nil,hs,hx,hr];exact h v' w' h2 h3 h4
theorem BH {ops:Array Oper} {rest:List Oper} {o:Oper} {a:Act} {w:World} {Q:Exit->Act->World->Prop} (hgd:o.guard=none) (s x:Operand)
 (ho:o.op= .call {callee:=.builtin .append,args:=#[s,x],argTypes:=#[57,57]}) {B B0:Nat} {v y:aj} {l m:List (List UInt8×List UInt8)} (hs:a.eval s=v) (hx:a.eval x=y) (hv:w.ownsRow B 127 2 v l.length (bR l)) (hy:w.ownsRow B0 127 2 y m.length (bR m)) (hB:B<=w.heap.size) (hl:l.length+m.length<=2000000000000)
 (h:∀v' w',w'.ownsRow B 127 2 v' (l ++ m).length (bR (l ++ m))->w.grownBy w' v.ownBlock->(v.ownBlock=v'.ownBlock∨v'.ownBlock=some w.heap.size)->wpList au ops Q rest (a.put o.dst v') w'):wpList au ops Q (o :: rest) a w:=
 wpList_plain hgd fun _ hK=>acC s x ho hs hx hv hy hB hl fun v' w' h2 h3 h4=>hK _ _ (h v' w' h2 h3 h4)
def PI:Ren:=⟨fun _=>221,fun t=>if t=0 then 0 else if t=3 then 3 else if t=4 then 4 else if t=9 then 9 else if t=20 then 20 else if t=22 then 57 else 127,fun x=>x⟩
theorem acD:Lays8.n4 au PI:=by
 constructor<;>first | kernel_rfl | (intro w;kernel_rfl) | exact ⟨ "slices.Grow[[]crib/api.Known,crib/api.Known]",rfl,by kernel_rfl⟩
theorem am5 (n:Nat) (w:World) (hn:n<=2000000000000):
 av au 221 #[.slice none 0 0,.int .i64 (n:Int)] w fun e' w'=>∃v,e'= .returned v∧w'.ownsRow w.heap.size 127 2 v 0 []∧ak w.heap.size w w':=by
 by_cases h0:n=0
 ·subst h0;refine (Any8.slices_Grow_room acD none 0 0 0 w (ax _) (by omega) (by omega) (ax _)).mono ?_;rintro e w' ⟨rfl,rfl⟩;exact ⟨_,rfl,j7 _ _ _ _,aA _ _⟩
 ·obtain ⟨inf,cJ,hz,cW,hby⟩:=EU;refine (Any8.slices_Grow_grow acD inf _ cJ hz (by rw [cW];decide) none 0 0 n [] w (ax _) (by omega) (by rw [hby];omega) (by omega) (by simp) (fun _=>rfl) (fun a h=>by cases h)).mono ?_;rintro e w' ⟨rfl,rfl⟩;have hG:=grownCap_ge w (0+n) 0 (PI.t 25);have hGm:=grownCap_le_maxLen w (0+n) 0 (PI.t 25) (by unfold cP;omega);generalize grownCap w (0+n) 0 (PI.t 25)=G at *;refine ⟨_,rfl,⟨rfl,.inr ⟨w.heap.size,G,_,rfl,ax _,bg w.drew _,bK _,hGm,?_,?_⟩⟩,(aA _ _).drew.alloc (ax _) _⟩
  ·simp only [Array.size_append,List.size_toArray,size_zeroCells,List.length_nil,Value.cells];show 0+(0+n - 0) * 2+(G - (0+n)) * 2=G * 2
   omega
  ·simp
theorem am7 (B0:Nat) (v:aj) (l:List (List UInt8×List UInt8)) (w:World) (h:w.ownsRow B0 127 2 v l.length (bR l)) (hl:l.length<=1000000000000):
 av au 94 #[v] w fun e' w'=>∃v',e'= .returned v'∧w'.ownsRow w.heap.size 127 2 v' l.length (bR l)∧ak w.heap.size w w':=by
 rcases h.2 with ⟨rfl,hl0⟩ | ⟨g,cap,cur,rfl,_⟩
 ·have h0:l=[]:=Nq.1 hl0;subst h0;have q:∀w,(binOp .eql 57 (.slice none 0 0) (.slice none 0 0)).run au w= .ok (.bool true) w:=fun w=>by rfl
  go_enter Tryz.func94,Tryz.ntmps94;go_wp2_with fail
  go_ret;exact ⟨_,rfl,j7 _ _ _ _,aA _ _⟩
 ·have q:∀w,(binOp .eql 57 (.slice (some ⟨g,0,none⟩) l.length cap) (.slice none 0 0)).run au w= .ok (.bool false) w:=fun w=>by rfl
  have HO:Hid (∀ob:Obj,(w.alloc ob).ownsRow B0 127 2 (.slice (some ⟨g,0,none⟩) l.length cap) l.length (bR l)):=fun ob=>h.alloc ob;have HL:=af hl;clear h hl;go_enter Tryz.func94,Tryz.ntmps94;go_wp2_with (at_builtin;refine BH rfl _ _ rfl (B:=w.heap.size) (B0:=B0) (l:=[]) (m:=l) rfl rfl (World.ownsRow_made w #[] 0 (ax _) (bK _) rfl) (HO.out _) (by rw [aB];exact jk _) (by have:=HL.out;simp;omega) ?_;intro v' w' h1 h2 h3;have H1:=af h1;have H2:=af h2;clear h1 h2 h3)
  go_ret;refine ⟨_,rfl,H1.out,?_⟩;exact ((aA _ w).alloc (ax _) _).grown H2.out (by rw [aB];exact jk _) (by intro k hk;cases hk;exact ax _)
def acE (l:List (List UInt8×List UInt8)) (w:World) (e':eL) (w':World):Prop:=∃v,e'= .returned v∧w'.ownsRow w.heap.size 127 2 v l.length (bR l)∧ak w.heap.size w w'
theorem am8 (B1 B2 G:Nat) (v1 v2:aj) (l m:List (List UInt8×List UInt8)) (w:World) (c0:w.cell? ⟨G,0,none⟩=some v1) (c1:w.cell? ⟨G,1,none⟩=some v2) (h1:w.ownsRow B1 127 2 v1 l.length (bR l)) (h2:w.ownsRow B2 127 2 v2 m.length (bR m)) (hl:l.length+m.length<=1000000000000):
 av au 185 #[.slice (some ⟨G,0,none⟩) 2 2] w (acE (l ++ m) w):=by
 obtain ⟨a1,n1,rfl⟩:=bA h1;obtain ⟨a2,n2,rfl⟩:=bA h2;have H1:=af h1;have H2:=af h2;have HL:=af hl;have HG:Hid (∀w',av au 221 #[.slice none 0 0,.int .i64 ((l.length:Int)+(m.length:Int))] w' fun e' w''=>∃v,e'= .returned v∧w''.ownsRow w'.heap.size 127 2 v 0 []∧ak w'.heap.size w' w''):=fun w'=>by
  have:=am5 (l.length+m.length) w' (by omega);rw [Int.natCast_add] at this;exact this
 have kr:Hid ((l ++ m).length=l.length+m.length):=dK;have hGl:G<w.heap.size:=mA c0;clear h1 h2 hl;generalize acG:l.length=L1 at *;generalize EN:m.length=L2 at *;have w1:aY ((L1:Int)+(L2:Int))=(L1:Int)+(L2:Int):=by have:=HL.out;unfold aY;omega
 have w0:aY (L1:Int)=(L1:Int):=by have:=HL.out;unfold aY;omega
 have ye:=af acG;have EL:=af EN;clear acG EN;have hs0:¬((L1:Int)<0):=by omega
 have hs1:¬((L1:Int)+(L2:Int)<0):=by omega
 go_enter Tryz.func185,Tryz.ntmps185;go_wp2_with fail
 go_loopw [3,11] (fun s i wr=>wr=w∧((s= .int .i64 0∧i= .int .i64 0)∨(s= .int .i64 (L1:Int)∧i= .int .i64 1)∨(s= .int .i64 ((L1:Int)+(L2:Int))∧i= .int .i64 2))) (fun _ i _=>2 - (aI i).toNat)
 case atStart=>exact ⟨rfl,.inl ⟨rfl,rfl⟩⟩
 case round=>
  obtain ⟨rfl,⟨rfl,rfl⟩ | ⟨rfl,rfl⟩ | ⟨rfl,rfl⟩⟩:=hrel
  ·go_wp2_with fail
   exact ⟨⟨trivial,.inr (.inl ⟨by rw [w0],rfl⟩)⟩,by simp [aI]⟩
  ·go_wp2_with fail
   exact ⟨⟨trivial,.inr (.inr ⟨by rw [w1],rfl⟩)⟩,by simp [aI]⟩
  ·go_wp2_with fail
   refine (aq HG _).mono ?_;rintro e w2 ⟨v,rfl,ho,hb⟩;obtain ⟨w,hw⟩:∃w,w=wr:=⟨_,rfl⟩;subst hw;have HO:=af ho;have HB:=af hb;clear ho hb HG w1 w0 hs0 hs1;go_wp2_with fail
   go_loopw [6,27] (fun v i wr=>∃l',Hid (wr.ownsRow w.heap.size 127 2 v (List.length l') (bR l')∧ak w.heap.size w wr)∧((i= .int .i64 0∧l'=[])∨(i= .int .i64 1∧l'=l)∨(i= .int .i64 2∧l'=l ++ m))) (fun _ i _=>2 - (aI i).toNat)
   case atStart=>exact ⟨[],⟨HO.out,HB.out⟩,.inl ⟨rfl,rfl⟩⟩
   case round=>
    obtain ⟨l',HM,⟨rfl,rfl⟩ | ⟨rfl,rfl⟩ | ⟨rfl,rfl⟩⟩:=hrel
    ·have d0:=(aP (HM.out.2.block G hGl)).trans c0;have HS:Hid (wr.ownsRow B1 127 2 (.slice a1 L1 n1) l.length (bR l)):=by unfold Hid;rw [ye.out];exact dX H1.out HM.out.2
     go_wp2_with (at_builtin;refine BH rfl _ _ rfl (B:=w.heap.size) (B0:=B1) (l:=[]) (m:=l) rfl rfl HM.out.1 HS.out HM.out.2.size (by have:=HL.out;have:=ye.out;simp;omega) ?_;intro v' w' h1 h2 h3;have K1:=af h1;have K2:=af h2;clear h1 h2 h3)
     refine ⟨⟨l,⟨K1.out,HM.out.2.grown K2.out HM.out.2.size (fun k hk=>(aR HM.out.1 k hk).1)⟩,.inr (.inl ⟨rfl,rfl⟩)⟩,by simp [aI]⟩
    ·have d1:=(aP (HM.out.2.block G hGl)).trans c1;have HS:Hid (wr.ownsRow B2 127 2 (.slice a2 L2 n2) m.length (bR m)):=by unfold Hid;rw [EL.out];exact dX H2.out HM.out.2
     go_wp2_with (at_builtin;refine BH rfl _ _ rfl (B:=w.heap.size) (B0:=B2) (l:=l') (m:=m) rfl rfl HM.out.1 HS.out HM.out.2.size (by have:=HL.out;have:=ye.out;have:=EL.out;omega) ?_;intro v' w' h1 h2 h3;have K1:=af h1;have K2:=af h2;clear h1 h2 h3)
     refine ⟨⟨l' ++ m,⟨K1.out,HM.out.2.grown K2.out HM.out.2.size (fun k hk=>(aR HM.out.1 k hk).1)⟩,.inr (.inr ⟨rfl,rfl⟩)⟩,by simp [aI]⟩
    ·go_wp2_with fail
     go_ret;exact ⟨_,rfl,HM.out.1,HM.out.2⟩
end
section
open Go.RowKit Go.Shelf
def UK:Ren:=⟨fun f=>if f=166 then 142 else if f=169 then 144 else if f=240 then 184 else 220,fun t=>if t=0 then 0 else if t=3 then 3 else if t=4 then 4 else if t=5 then 5 else if t=9 then 9 else if t=20 then 20 else if t=37 then 136 else if t=70 then 190 else if t=72 then 192 else if t=75 then 194 else if t=80 then 198 else if t=127 then 233 else 284,fun x=>x⟩
theorem am9:Lays.n166 au UK:=by
 constructor<;>first | kernel_rfl | (intro w;kernel_rfl)
theorem acH:Lays.n169 au UK:=by
 constructor<;>first | kernel_rfl | (intro w;kernel_rfl)
theorem UL:Builder.Extra au UK:=by
 refine ⟨⟨?_,?_⟩,?_,?_,?_,?_,?_,?_,?_,?_⟩<;>first | kernel_rfl | (intro w;kernel_rfl) | decide
theorem ana {T e:TypeId} {B b:Nat} {bs:List aj} {w w':World} (h:JP T e B b bs w) (hb:ak w.heap.size w w'):JP T e B b bs w':=by
 have key:∀p,Lib.BuilderAtF T e B b p bs w->Lib.BuilderAtF T e B b p bs w':=fun p q=>by
  have hlt:=q.lt;obtain ⟨hB,v,hv,ho,hn⟩:=q;refine ⟨hB,v,(hb.block b hlt).trans hv,ho.kept (row:=none) ⟨hb.os,hb.tape,hb.output,hb.size,fun k hk _=>hb.block k hk⟩ ?_,hn⟩;cases v.ownBlock with
  | none=>exact .inl rfl
  | some g=>exact .inr (fun e=>by cases e)
 exact h.imp (key _) (key _)
def jT (k:Nat) (p:List UInt8):List UInt8:=if p.length<=200 then lf k p else []
theorem BI (k:Nat) (p:List UInt8):(jT k p).length<=208:=by
 unfold jT;split
 ·rw [JZ];omega
 ·exact bK _
theorem Bl.txt {k:Nat} {p:ByteArray} {w w':World} {e:eL} (h:Bl (k:Int) p w e w') (h1:1<=k) (h3:k<=3):ak w.heap.size w w'∧∃n,e= .returned (.tuple #[.string (ah (jT k (aC p))),.int .i64 n]):=by
 refine ⟨h.1,?_⟩;rcases h.2 with ⟨ho,rfl⟩ | ⟨ho,rfl⟩
 ·have:jT k (aC p)=lf k (aC p):=if_pos (by rw [jr];exact ho.2.2);exact ⟨0,by rw [this];rfl⟩
 ·have:jT k (aC p)=[]:=if_neg (fun q=>ho ⟨by omega,by omega,by rw [jr] at q;exact q⟩);exact ⟨1,by rw [this]⟩
theorem UM (k:Nat) (p:ByteArray) (w:World) (h1:1<=k) (h3:k<=3):
 av au 143 #[.int .i64 (k:Int),.string p] w fun e' w'=>e'= .returned (.string (ah (jT k (aC p))))∧ak w.heap.size w w':=by
 have HS:=af (aay (k:Int) p w);have H1:=af h1;have H3:=af h3;clear h1 h3;go_enter Tryz.func143,Tryz.ntmps143;go_wp2_with fail
 refine (aq HS).mono ?_;intro e w1 hp;obtain ⟨hb,n,rfl⟩:=hp.txt H1.out H3.out;have HB:=af hb;clear hb hp HS;go_wp2_with fail
 go_ret;exact ⟨rfl,HB.out⟩
theorem E1 (k:Nat):cI .i64 ((k:Int)+1)= .int .i64 ((k+1:Nat):Int):=rfl
theorem E2 {n k:Nat} (h:k<n):n - (aI (.int .i64 ((k:Int)+1))).toNat<n - (aI (.int .i64 (k:Int))).toNat:=by
 have h1:(aI (.int .i64 ((k:Int)+1))).toNat=k+1:=by simp [aI]
 have h2:(aI (.int .i64 (k:Int))).toNat=k:=by simp [aI]
 rw [h1,h2];omega
def Ld (x:List UInt8×List UInt8):List UInt8:=aS 1 (x.1.length / 4) ++ x.1 ++ x.2
def tF (x:List UInt8×List UInt8):List UInt8:=jT 2 (Ld x)
def aW (l:List (List UInt8×List UInt8)):List UInt8:=l.flatMap tF
theorem acI {l:List (List UInt8×List UInt8)} {k:Nat} {x:List UInt8×List UInt8} (h:l[k]? =some x):aW (l.take (k+1))=aW (l.take k) ++ tF x:=by
 unfold aW;rw [He h,List.flatMap_append];simp
theorem Df:∀l:List (List UInt8×List UInt8),(aW l).length<=208 * l.length
 | []=>bK _
 | x :: l=>by
   have h1:=Df l;have h2:(tF x).length<=208:=BI _ _;have h3:aW (x :: l)=tF x ++ aW l:=rfl;rw [h3,dK,jM];omega
theorem anb {l:List (List UInt8×List UInt8)} {k:Nat} {D:ByteArray} (hl:l.length<=500000000000) (hD:D.size<=208):(eW (aW (l.take k))).length+D.size<=140737488355328:=by
 have hel:=Df (l.take k);rw [ny] at hel;unfold eW;rw [jV];omega
theorem acJ (B0:Nat) (v0:aj) (l:List (List UInt8×List UInt8)) (w:World) (h:w.ownsRow B0 127 2 v0 l.length (bR l)) (hx:∀x∈l,x.1.length<=1000000∧x.2.length<=1000000) (hl:l.length<=500000000000):
 av au 90 #[v0] w fun e' w'=>e'= .returned (.string (ah (aW l)))∧ak w.heap.size w w':=by
 obtain ⟨W0,bq⟩:∃W0,W0=w.alloc (.cells #[.pointer none,.slice none 0 0] 192):=⟨_,rfl⟩;have hb0:ak w.heap.size w W0:=by rw [bq];exact (aA _ _).alloc (ax _) _
 have a0:JP 192 5 w.heap.size w.heap.size (eW (aW (l.take 0))) W0:=.inl ⟨ax _,_,by rw [bq];exact bg w _,World.ownsRowF_nil _ _ _ _,fun e=>by cases e⟩;have fV:=af bq;have H0:Hid (JP 192 5 w.heap.size w.heap.size (eW (aW (l.take 0))) W0∧ak w.heap.size w W0):=⟨a0,hb0⟩;have HO:=af h;have HX:=af hx;have HL:=af hl;obtain ⟨va,vc,hv⟩:=bA h;subst hv;clear hb0 a0 bq h hx hl;go_enter Tryz.func90,Tryz.ntmps90;go_wp2_with fail
 rw [<-fV.out];go_loopw [9] (fun i wr=>∃k:Nat,k<=l.length∧i= .int .i64 k∧Hid (JP 192 5 w.heap.size w.heap.size (eW (aW (l.take k))) wr∧ak w.heap.size w wr)) (fun i _=>l.length - (aI i).toNat)
 case atStart=>exact ⟨0,bK _,rfl,H0.out⟩
 case round=>
  obtain ⟨k,hk,rfl,HM⟩:=hrel;by_cases hlt:k<l.length
  ·have hlt':(k:Int)<(l.length:Int):=by omega
   obtain ⟨g,c,hv,_,hgl⟩:=HO.out.form (by omega);simp only [Gu] at hv;obtain ⟨rfl,_,rfl⟩:=hv;obtain ⟨d0,d1⟩:=Bt HO.out k l[k] (bE hlt);have hbl:=HM.out.2;replace d0:=(aP (hbl.block g hgl)).trans d0;replace d1:=(aP (hbl.block g hgl)).trans d1;have HK:=af (acI (bE hlt));have hxl:=HX.out l[k] (lC hlt);generalize l[k]=x at *;clear hbl;have hz1:(ah x.1).size=x.1.length:=bZ _;have hz2:(ah x.2).size=x.2.length:=bZ _;have gL:Hid (aC (ah (aS 1 ((ah x.1).size / 4)) ++ ah x.1 ++ ah x.2)=Ld x):=by unfold Hid;rw [mC,mC,kG,hz1];rfl
   obtain ⟨N1,fJ⟩:∃N1,N1=ah (aS 1 ((ah x.1).size / 4)):=⟨_,rfl⟩;have hn1:N1.size=1:=by rw [fJ,bZ,iF]
   have wU:Hid (∀w',av au 102 #[.slice none 0 0,.int .i64 (((ah x.1).size / 4:Nat):Int),.int .i64 1] w' fun e' w''=>∃v',e'= .returned v'∧(convert 136 9 v').run au w''= .ok (.string N1) w''∧ak w'.heap.size w' w''):=fun w'=>by
    refine (EB w'.heap.size (.slice none 0 0) [] ((ah x.1).size / 4) 1 w' (ax _) (j7 _ _ _ _) (bK _) (by decide)).mono ?_;rintro e w'' ⟨v',rfl,ho,hb,_⟩;refine ⟨v',rfl,?_,hb⟩;rw [fJ];exact EA ho
   have hq:((ah x.1).size:Int).tdiv 4=(((ah x.1).size / 4:Nat):Int):=by rw [Int.tdiv_eq_ediv_of_nonneg (by omega)];omega
   have Le:aY (((ah x.1).size / 4:Nat):Int)=(((ah x.1).size / 4:Nat):Int):=by have h0:(ah x.1).size<=1000000:=(by omega);unfold aY;omega
   rw [<-fJ] at gL;have hb1:(ah x.1).size<=1000000:=by omega
   have hb2:(ah x.2).size<=1000000:=by omega
   have HIs:=af HM.out.1;have hk1:aY ((k:Int)+1)=(k:Int)+1:=by have:=HL.out;unfold aY;omega
   have bU:=af HM.out.2;have pZ:Hid (∀p w',av au 143 #[.int .i64 2,.string p] w' fun e' w''=>e'= .returned (.string (ah (jT 2 (aC p))))∧ak w'.heap.size w' w''):=fun p w'=>UM 2 p w' (by decide) (by decide);have sy:Hid (∀w',JP 192 5 w.heap.size w.heap.size (eW (aW (l.take k))) w'->w.heap.size<=w'.heap.size->∀D,D=ah (tF x)->av au 142 #[.pointer (some ⟨w.heap.size,0,none⟩),.string D] w' fun e' w''=>(∃n,e'= .returned (.tuple #[.int .i64 n,.nilIface]))∧JP 192 5 w.heap.size w.heap.size (eW (aW (l.take (k+1)))) w''∧ak w.heap.size w' w''):=fun w' hi hs D hD=>by
    have hD2:D.size<=208:=by rw [hD,bZ];exact BI _ _
    refine (Any.Builder_WriteString_k am9 UL w.heap.size w.heap.size (eW (aW (l.take k))) D w' hi (anb HL.out hD2) hs).mono ?_;rintro e w'' ⟨rfl,h1,h2,_⟩;refine ⟨⟨_,rfl⟩,.inr ?_,h2⟩;rw [HK.out,Hf,<-kG (tF x),<-Oy,<-hD];exact h1
   clear hxl hz1 hz2 fJ HM;generalize ah x.1=X1 at *;generalize ah x.2=X2 at *;generalize hX4:X1.size / 4=X4 at *;clear hX4;go_wp2_with fail
   refine (aq wU _).mono ?_;rintro e w1 ⟨v',rfl,hcv,pG⟩;have hz1:wr.heap.size+1<=w1.heap.size:=by have:=pG.size;rw [aB] at this;exact this
   have b1:=pG.block wr.heap.size (by rw [aB];exact Gt _);rw [bg] at b1;have q0:w1.cell? ⟨wr.heap.size,0,none⟩=some (.string X1):=by simp [cU,b1]
   have q1:w1.cell? ⟨wr.heap.size,1,none⟩=some (.string X2):=by simp [cU,b1]
   have aJ:Hid (ak wr.heap.size wr w1):=((aA _ _).alloc (ax _) _).trans (pG.mono (by rw [aB];exact jk _));clear pG b1 hq Le d0 d1;go_wp2_with fail
   refine (aq pZ _ _).mono ?_;rintro e w2 ⟨rfl,fY⟩;have aZ:Hid (ak wr.heap.size wr w2):=aJ.out.trans (fY.mono aJ.out.size);clear fY pZ wU;go_wp2_with fail
   refine (aq sy _ (ana HIs.out aZ.out) (aT bU.out.size aZ.out.size) _ (by rw [gL.out];rfl)).mono ?_;rintro e w3 ⟨⟨n,rfl⟩,hi3,bn⟩;have Dg:=af hi3;have iM:Hid (ak w.heap.size w w3):=(bU.out.trans (aZ.out.mono bU.out.size)).trans bn;clear hi3 bn sy;go_wp2_with fail
   rw [hk1];exact ⟨⟨k+1,hlt,E1 k,Dg.out,iM.out⟩,E2 hlt⟩
  ·have hlt':¬(k:Int)<(l.length:Int):=by omega
   obtain rfl:k=l.length:=by omega
   rw [xJ] at HM;have cH:Hid (av au 144 #[.pointer (some ⟨w.heap.size,0,none⟩)] wr fun e' w''=>e'= .returned (.string (ah (aW l)))∧ak w.heap.size wr w''):=by
    unfold Hid;by_cases h0:aW l=[]
    ·have hi:=HM.out.1;rw [h0] at hi⊢;exact (Any.Builder_String_empty_k acH UL w.heap.size w.heap.size wr hi HM.out.2.size).mono fun e w'' q=>⟨q.1,q.2.2.1⟩
    ·exact (Any.Builder_String_k acH UL w.heap.size w.heap.size (aW l) wr HM.out.1 h0).mono fun e w'' q=>⟨q.1,q.2.2.1⟩
   go_wp2_with fail
   refine (aq cH).mono ?_;rintro e w2 ⟨rfl,hb2⟩;have HB:=af (HM.out.2.trans hb2);clear hb2 cH;go_wp2_with fail
   go_ret;exact ⟨rfl,HB.out⟩
def Dh (g:Nat) (l:List (List UInt8×List UInt8)):List UInt8:=jT 1 (aS 4 g) ++ aW l ++ jT 3 []
theorem ang (g:Nat) (l:List (List UInt8×List UInt8)):(Dh g l).length<=416+208 * l.length:=by
 unfold Dh;rw [dK,dK];have h1:=BI 1 (aS 4 g);have h2:=Df l;have h3:=BI 3 [];omega
theorem anh (B0:Nat) (g:Nat) (v0:aj) (l:List (List UInt8×List UInt8)) (w:World) (h:w.ownsRow B0 127 2 v0 l.length (bR l)) (hx:∀x∈l,x.1.length<=1000000∧x.2.length<=1000000) (hl:l.length<=500000000000):
 av au 145 #[.int .i64 (g:Int),v0] w fun e' w'=>e'= .returned (.string (ah (Dh g l)))∧ak w.heap.size w w':=by
 have wU:Hid (∀w',av au 102 #[.slice none 0 0,.int .i64 (g:Int),.int .i64 4] w' fun e' w''=>∃v',e'= .returned v'∧(convert 136 9 v').run au w''= .ok (.string (ah (aS 4 g))) w''∧ak w'.heap.size w' w''):=fun w'=>by
  refine (EB w'.heap.size (.slice none 0 0) [] g 4 w' (ax _) (j7 _ _ _ _) (bK _) (by decide)).mono ?_;rintro e w'' ⟨v',rfl,ho,hb,_⟩;exact ⟨v',rfl,EA ho,hb⟩
 have ux:Hid (∀w',av au 143 #[.int .i64 1,.string (ah (aS 4 g))] w' fun e' w''=>e'= .returned (.string (ah (jT 1 (aS 4 g))))∧ak w'.heap.size w' w''):=fun w'=>by
  have:=UM 1 (ah (aS 4 g)) w' (by decide) (by decide);rw [kG] at this;exact this
 have BJ:Hid (∀w',av au 143 #[.int .i64 3,.string ⟨#[]⟩] w' fun e' w''=>e'= .returned (.string (ah (jT 3 [])))∧ak w'.heap.size w' w''):=fun w'=>UM 3 ⟨#[]⟩ w' (by decide) (by decide);have gL:Hid (∀w',ak w.heap.size w w'->av au 90 #[v0] w' fun e' w''=>e'= .returned (.string (ah (aW l)))∧ak w'.heap.size w' w''):=fun w' hb=>acJ B0 v0 l w' (dX h hb) hx hl;have l1:=BI 1 (aS 4 g);have l2:=Df l;have l3:=BI 3 [];have s1:=yq (jT 1 (aS 4 g)) (aW l) (by omega);have s2:=yq (jT 1 (aS 4 g) ++ aW l) (jT 3 []) (by rw [dK];omega);have HA:Hid (ah (jT 1 (aS 4 g) ++ aW l ++ jT 3 [])=ah (Dh g l)):=rfl;clear l1 l2 l3 h hx hl;generalize hAA:jT 1 (aS 4 g) ++ aW l=AA at *;clear hAA;generalize jT 1 (aS 4 g)=A1 at *;generalize aW l=A2 at *;generalize jT 3 []=A3 at *;generalize Dh g l=A4 at *;go_enter Tryz.func145,Tryz.ntmps145;go_wp2_with fail
 refine (aq wU _).mono ?_;rintro e w1 ⟨v',rfl,hcv,hb1⟩;have aJ:=af hb1;clear hb1;go_wp2_with fail
 refine (aq ux _).mono ?_;rintro e w2 ⟨rfl,hb2⟩;have aZ:Hid (ak w.heap.size w w2):=aJ.out.trans (hb2.mono aJ.out.size);clear hb2 hcv wU;go_wp2_with fail
 refine (aq gL _ aZ.out).mono ?_;rintro e w3 ⟨rfl,bn⟩;have iM:Hid (ak w.heap.size w w3):=aZ.out.trans (bn.mono aZ.out.size);clear bn gL ux;go_wp2_with fail
 refine (aq BJ _).mono ?_;rintro e w4 ⟨rfl,fZ⟩;have mU:Hid (ak w.heap.size w w4):=iM.out.trans (fZ.mono iM.out.size);clear fZ BJ;go_wp2_with fail
 go_ret;exact ⟨by rw [HA.out];rfl,mU.out⟩
end
section
open Go.RowKit Go.Maps Go.WideMaps
structure aM (F:Nat->Prop) (w w':World):Prop where
 os:w'.os=w.os
 tape:w'.tape=w.tape
 output:w'.output=w.output
 size:w.heap.size<=w'.heap.size
 other:∀x,x<w.heap.size->¬F x->w'.heap[x]? =w.heap[x]?
theorem aM.refl (F:Nat->Prop) (w:World):aM F w w:=⟨rfl,rfl,rfl,ax _,fun _ _ _=>rfl⟩
theorem aM.bh {F:Nat->Prop} {w w':World} (h:ak w.heap.size w w'):aM F w w':=⟨h.os,h.tape,h.output,h.size,fun x hx _=>h.block x hx⟩
theorem aM.below {F:Nat->Prop} {w w':World} (h:aM F w w') {B:Nat} (hB:B<=w.heap.size) (hF:∀x,F x->B<=x):ak B w w':=
 ⟨h.os,h.tape,h.output,h.size,fun x hx=>h.other x (dB hx hB) (fun q=>by have:=hF x q;omega)⟩
theorem aM.trans {F F1:Nat->Prop} {w w1 w2:World} (h:aM F w w1) (own:∀x,F1 x->F x∨w.heap.size<=x) (k:aM F1 w1 w2):aM F w w2:=
 ⟨k.os.trans h.os,k.tape.trans h.tape,k.output.trans h.output,aT h.size k.size,fun x hx hn=>(k.other x (dB hx h.size) (fun q=>by
   rcases own x q with a | a
   ·exact hn a
   ·omega)).trans (h.other x hx hn)⟩
theorem aM.weak {F G:Nat->Prop} {w w':World} (h:aM F w w') (hF:∀x,F x->G x∨w.heap.size<=x):aM G w w':=
 ⟨h.os,h.tape,h.output,h.size,fun x hx hn=>h.other x hx (fun q=>by
   rcases hF x q with a | a
   ·exact hn a
   ·omega)⟩
theorem aM.set (w:World) (g j:Nat) (u:aj):aM (fun x=>x=g) w (w.setCell ⟨g,j,none⟩ u):=⟨rfl,rfl,rfl,by rw [fW];exact ax _,fun _ _ hn=>bB hn⟩
theorem jh.bD {D:Nat} {vs vs':Nat->aj} {w w':World} (h:jh D vs vs' w w'):aM (fun x=>x=D∨∃i,i<2∧(vs i).ownBlock=some x) w w':=
 ⟨h.below.os,h.below.tape,h.below.output,h.below.size,fun x hx hn=>h.other x hx (fun e=>hn (.inl e)) (fun i hi e=>hn (.inr ⟨i,hi,e⟩))⟩
theorem lm.bD {B N o:Nat} {mv v:aj} {w w':World} (h:lm B N o mv v w w'):aM (fun x=>x=N∨jz mv v x) w w':=
 ⟨h.below.os,h.below.tape,h.below.output,h.below.size,fun x hx hn=>h.other x hx (fun e=>hn (.inl e)) (fun b e q=>hn (.inr (.inl (by rw [e,q])))) (fun e=>hn (.inr (.inr e)))⟩
structure ay where
 wk:Int
 fl:Bool
 z:List Int
 c:Nat->Nat
 ar:Nat
 gn:Nat
 sz:Nat
 b:Nat->List cD
def nV (j:Nat):Prop:=j<3∨(141<=j∧j<=148)
def gU (D:Nat) (g:ay) (j:Nat):aj:=
 if j=0 then .pointer (some ⟨D,0,none⟩) else if j=1 then .int .i64 g.wk else if j=2 then .bool g.fl else if j<145 then .int .i64 (g.c (j - 141):Int) else if j=145 then .int .i64 0 else if j=146 then .int .i64 (g.ar:Int) else if j=147 then .int .i64 (g.gn:Int) else .int .i64 (g.sz:Int)
structure bH (E D:Nat) (g:ay) (m v:Nat->aj) (w:World):Prop where
 fz:∀j,w.frozen? ⟨E,j,none⟩=false
 sc:∀j,nV j->w.cell? ⟨E,j,none⟩=some (gU D g j)
 st:w.rangeAt E 3 (g.z.map (cI .i64))
 zl:g.z.length=138
 bk:∀i,i<3->fE E E (149+i * 2) (g.b i) (m i) (v i) w
 sep:∀i j,i<3->j<3->i≠j->∀x,jz (m i) (v i) x->¬jz (m j) (v j) x
def dc (E:Nat) (m v:Nat->aj) (x:Nat):Prop:=x=E∨∃i,i<3∧jz (m i) (v i) x
def ig (D:Nat) (vs:Nat->aj) (x:Nat):Prop:=x=D∨∃i,i<2∧(vs i).ownBlock=some x
theorem bH.lt {E D:Nat} {g:ay} {m v:Nat->aj} {w:World} (h:bH E D g m v w):E<w.heap.size:=mA (h.sc 0 (.inl (by decide)))
theorem bH.has {E D:Nat} {g:ay} {m v:Nat->aj} {w:World} (h:bH E D g m v w) {x:Nat} (hx:dc E m v x):E<=x∧x<w.heap.size:=by
 rcases hx with rfl | ⟨i,hi,q⟩
 ·exact ⟨ax _,h.lt⟩
 ·have:=(h.bk i hi).has q;exact ⟨this.1,this.2.1⟩
theorem bH.ne {E D:Nat} {g:ay} {m v:Nat->aj} {w:World} (h:bH E D g m v w) {i:Nat} (hi:i<3) {x:Nat} (hx:jz (m i) (v i) x):x≠E:=((h.bk i hi).has hx).2.2
theorem bH.kept {E D:Nat} {g:ay} {m v:Nat->aj} {w w':World} (h:bH E D g m v w) (hk:∀x,dc E m v x->w'.heap[x]? =w.heap[x]?):bH E D g m v w':=by
 have hE:=hk E (.inl rfl);exact ⟨fun j=>(fS hE).trans (h.fz j),fun j hj=>(aP hE).trans (h.sc j hj),fun j u q=>(aP hE).trans (h.st j u q),h.zl,fun i hi=>(h.bk i hi).kept (fun _ _=>aP hE) (fun x q=>hk x (.inr ⟨i,hi,q⟩)),h.sep⟩
theorem cK.has {D:Nat} {d:aL} {vs:Nat->aj} {w:World} (h:cK D d vs w) {x:Nat} (hx:ig D vs x):D<=x∧x<w.heap.size:=by
 rcases hx with rfl | ⟨i,hi,q⟩
 ·exact ⟨ax _,h.lt⟩
 ·have:=aR (h.own i hi) x q;exact ⟨by omega,this.2⟩
theorem cK.kept {D:Nat} {d:aL} {vs:Nat->aj} {w w':World} (h:cK D d vs w) (hs:w.heap.size<=w'.heap.size) (hk:∀x,ig D vs x->w'.heap[x]? =w.heap[x]?):cK D d vs w':=
 h.up hs (hk D (.inl rfl)) (fun i hi x q=>hk x (.inr ⟨i,hi,q⟩))
theorem bH.set {E D:Nat} {g:ay} {m v:Nat->aj} {w:World} (h:bH E D g m v w) (j:Nat) (hj:nV j) (g':ay) (hz:g'.z=g.z) (hb:g'.b=g.b) (hs:∀k,nV k->k≠j->gU D g' k=gU D g k) (u:aj) (hu:u=gU D g' j):bH E D g' m v (w.setCell ⟨E,j,none⟩ u):=by
 have UN:j<149:=by unfold nV at hj;omega
 have hj3:¬(3<=j∧j<141):=by unfold nV at hj;omega
 refine ⟨fun k=>by rw [oO];exact h.fz k,fun k hk=>?_,fun k q e=>?_,by rw [hz];exact h.zl,fun i hi=>?_,h.sep⟩
 ·by_cases e:k=j
  ·subst e;rw [hu];exact qj _ _ _ (h.sc k hk)
  ·rw [cZ (fun q=>e q.symm),hs k hk e];exact h.sc k hk
 ·rw [hz] at e;have hk:k<138:=by have:=(fG.1 e).1;rw [jV,h.zl] at this;exact this
  rw [cZ (by omega)];exact h.st k q e
 ·rw [hb];exact (h.bk i hi).kept (fun k hk=>cZ (by omega)) (fun x q=>bB (h.ne hi q))
theorem heap_setCells_other (b:Nat):∀(vs:List aj) (o:Nat) (w:World) (x:Nat),x≠b->(w.setCells b o vs).heap[x]? =w.heap[x]?
 | [],_,_,_,_=>rfl
 | u :: r,o,w,x,h=>by rw [World.setCells,heap_setCells_other b r (o+1) _ x h];exact bB h
theorem bH.PJ {E D:Nat} {g:ay} {m v:Nat->aj} {w:World} (h:bH E D g m v w) (z:List Int) (hz:z.length=138):bH E D {g with z:=z} m v (w.setCells E 3 (z.map (cI .i64))):=by
 have hl:(z.map (cI .i64)).length=138:=by rw [jV,hz]
 have hout:∀k,k<3∨141<=k->(w.setCells E 3 (z.map (cI .i64))).cell? ⟨E,k,none⟩=w.cell? ⟨E,k,none⟩:=fun k hk=>World.cell?_setCells_out E _ 3 w ⟨E,k,none⟩ (fun _ _=>by rw [hl];show k<3∨3+138<=k;omega);refine ⟨fun k=>by rw [World.frozen?_setCells];exact h.fz k,fun k hk=>(hout k (by unfold nV at hk;omega)).trans (h.sc k hk),?_,hz,fun i hi=>?_,h.sep⟩
 ·refine World.rangeAt_setCells_same w E 3 _ (fun k hk=>⟨?_,h.fz _⟩);exact h.st.isSome k (by rw [jV,h.zl];rw [hl] at hk;exact hk)
 ·refine (h.bk i hi).kept (fun k hk=>hout k (by omega)) (fun x q=>?_);exact heap_setCells_other E _ 3 w x (h.ne hi q)
theorem bH.book {E D:Nat} {g:ay} {m v:Nat->aj} {w w':World} (h:bH E D g m v w) {i:Nat} (hi:i<3) {l':List cD} {oB v':aj} (hb:fE E E (149+i * 2) l' oB v' w') (hf:lm E E (149+i * 2) (m i) (v i) w w') (own:∀x,jz oB v' x->jz (m i) (v i) x∨w.heap.size<=x):
 bH E D {g with b:=aE g.b i l'} (aE m i oB) (aE v i v') w':=by
 have hne:∀j,j<3->j≠i->∀x,jz (m j) (v j) x->w'.heap[x]? =w.heap[x]?:=fun j hj hji x q=>by
  have hn:¬jz (m i) (v i) x:=h.sep j i hj hi hji x q;exact hf.other x ((h.bk j hj).has q).2.1 (h.ne hj q) (fun b e p=>hn (.inl (by rw [e,p]))) (fun e=>hn (.inr e))
 refine ⟨fun j=>(hf.fz j).trans (h.fz j),fun j hj=>?_,fun j u q=>?_,h.zl,fun j hj=>?_,fun j k hj hk hjk x q1 q2=>?_⟩
 ·have gN:gU D {g with b:=aE g.b i l'} j=gU D g j:=rfl;rw [gN];exact (hf.cells j (by unfold nV at hj;omega) (by unfold nV at hj;omega)).trans (h.sc j hj)
 ·have hk:j<138:=by have:=(fG.1 q).1;rw [jV,h.zl] at this;exact this
  exact (hf.cells (3+j) (by omega) (by omega)).trans (h.st j u q)
 ·by_cases hji:j=i
  ·subst hji;show fE E E (149+j * 2) (aE g.b j l' j) (aE m j oB j) (aE v j v' j) w'
   rw [cq,cq,cq];exact hb
  ·show fE E E (149+j * 2) (aE g.b i l' j) (aE m i oB j) (aE v i v' j) w'
   rw [bp _ _ _ _ hji,bp _ _ _ _ hji,bp _ _ _ _ hji];exact (h.bk j hj).kept (fun k hk=>hf.cells k (by omega) (by omega)) (hne j hj hji)
 ·by_cases hji:j=i<;>by_cases hki:k=i
  ·omega
  ·subst hji;rw [cq,cq] at q1;rw [bp _ _ _ _ hki,bp _ _ _ _ hki] at q2;rcases own x q1 with a | a
   ·exact h.sep j k hj hk hjk x a q2
   ·have:=((h.bk k hk).has q2).2.1;omega
  ·subst hki;rw [cq,cq] at q2;rw [bp _ _ _ _ hji,bp _ _ _ _ hji] at q1;rcases own x q2 with a | a
   ·exact h.sep j k hj hk hjk x q1 a
   ·have:=((h.bk j hj).has q1).2.1;omega
  ·rw [bp _ _ _ _ hji,bp _ _ _ _ hji] at q1;rw [bp _ _ _ _ hki,bp _ _ _ _ hki] at q2;exact h.sep j k hj hk hjk x q1 q2
theorem bH.UO {E D:Nat} {g:ay} {m v:Nat->aj} {w:World} (h:bH E D g m v w) {i:Nat} (hi:i<3) {l':List cD} {oB v':aj} (hb:oF E l' oB v' w) (hn:∀x,jz oB v' x->¬dc E m v x) (W:World) (hW:W=(w.setCell ⟨E,149+i * 2,none⟩ oB).setCell ⟨E,150+i * 2,none⟩ v'):
 bH E D {g with b:=aE g.b i l'} (aE m i oB) (aE v i v') W∧aM (fun x=>x=E) w W:=by
 have hE:∀x,x≠E->W.heap[x]? =w.heap[x]?:=fun x hx=>by rw [hW];exact (bB hx).trans (bB hx)
 have hc:∀k,k≠149+i * 2->k≠150+i * 2->W.cell? ⟨E,k,none⟩=w.cell? ⟨E,k,none⟩:=fun k h1 h2=>by rw [hW,cZ (fun e=>h2 e.symm),cZ (fun e=>h1 e.symm)]
 have hfz:∀k,W.frozen? ⟨E,k,none⟩=w.frozen? ⟨E,k,none⟩:=fun k=>by rw [hW,oO,oO]
 have c0:=(h.bk i hi).c0;have c1:=(h.bk i hi).c1;have hne:∀x,jz oB v' x->x≠E:=fun x q e=>hn x q (.inl e);refine ⟨⟨fun j=>(hfz j).trans (h.fz j),fun j hj=>?_,fun j u q=>?_,h.zl,fun j hj=>?_,fun j k hj hk hjk x q1 q2=>?_⟩,?_⟩
 ·have gN:gU D {g with b:=aE g.b i l'} j=gU D g j:=rfl;rw [gN];exact (hc j (by unfold nV at hj;omega) (by unfold nV at hj;omega)).trans (h.sc j hj)
 ·have hk:j<138:=by have:=(fG.1 q).1;rw [jV,h.zl] at this;exact this
  exact (hc (3+j) (by omega) (by omega)).trans (h.st j u q)
 ·by_cases hji:j=i
  ·subst hji;show fE E E (149+j * 2) (aE g.b j l' j) (aE m j oB j) (aE v j v' j) W
   rw [cq,cq,cq];refine (hb.kept (fun x q=>hE x (hne x q))).at' ?_ ?_ (fun e=>hne E (.inr e) rfl)
   ·rw [hW,cZ (by omega)];exact qj _ _ _ c0
   ·rw [hW,show 149+j * 2+1=150+j * 2 by omega];exact qj _ _ v' (u:=v j) (by rw [cZ (by omega),show 150+j * 2=149+j * 2+1 by omega];exact c1)
  ·show fE E E (149+j * 2) (aE g.b i l' j) (aE m i oB j) (aE v i v' j) W
   rw [bp _ _ _ _ hji,bp _ _ _ _ hji,bp _ _ _ _ hji];exact (h.bk j hj).kept (fun k hk=>hc k (by omega) (by omega)) (fun x q=>hE x (h.ne hj q))
 ·by_cases hji:j=i<;>by_cases hki:k=i
  ·omega
  ·subst hji;rw [cq,cq] at q1;rw [bp _ _ _ _ hki,bp _ _ _ _ hki] at q2;exact hn x q1 (.inr ⟨k,hk,q2⟩)
  ·subst hki;rw [cq,cq] at q2;rw [bp _ _ _ _ hji,bp _ _ _ _ hji] at q1;exact hn x q2 (.inr ⟨j,hj,q1⟩)
  ·rw [bp _ _ _ _ hji,bp _ _ _ _ hji] at q1;rw [bp _ _ _ _ hki,bp _ _ _ _ hki] at q2;exact h.sep j k hj hk hjk x q1 q2
 ·rw [hW];exact (aM.set w E _ oB).trans (fun x q=>.inl q) (aM.set _ E _ v')
structure dG (E D:Nat) (g:ay) (d:aL) (m v vs:Nat->aj) (w:World):Prop where
 eg:bH E D g m v w
 dv:cK D d vs w
 sep:∀x,dc E m v x->¬ig D vs x
structure cN (E D:Nat) (m v vs m' v' vs':Nat->aj) (w w':World):Prop where
 bD:aM (fun x=>dc E m v x∨ig D vs x) w w'
 eo:∀x,dc E m' v' x->dc E m v x∨w.heap.size<=x
 vo:∀x,ig D vs' x->ig D vs x∨w.heap.size<=x
theorem cN.refl (E D:Nat) (m v vs:Nat->aj) (w:World):cN E D m v vs m v vs w w:=⟨aM.refl _ _,fun _ h=>.inl h,fun _ h=>.inl h⟩
theorem cN.bh {E D:Nat} {m v vs:Nat->aj} {w w':World} (h:ak w.heap.size w w'):cN E D m v vs m v vs w w':=⟨aM.bh h,fun _ h=>.inl h,fun _ h=>.inl h⟩
theorem cN.trans {E D:Nat} {m v vs m1 v1 vs1 m2 v2 gy:Nat->aj} {w w1 w2:World} (h:cN E D m v vs m1 v1 vs1 w w1) (k:cN E D m1 v1 vs1 m2 v2 gy w1 w2):cN E D m v vs m2 v2 gy w w2:=by
 refine ⟨h.bD.trans (fun x q=>?_) k.bD,fun x q=>?_,fun x q=>?_⟩
 ·rcases q with q | q
  ·exact (h.eo x q).imp .inl id
  ·exact (h.vo x q).imp .inr id
 ·rcases k.eo x q with a | a
  ·exact h.eo x a
  ·exact .inr (aT h.bD.size a)
 ·rcases k.vo x q with a | a
  ·exact h.vo x a
  ·exact .inr (aT h.bD.size a)
theorem dG.up {E D:Nat} {g:ay} {d:aL} {m v vs:Nat->aj} {w w':World} (h:dG E D g d m v vs w) (hb:ak w.heap.size w w'):dG E D g d m v vs w':=
 ⟨h.eg.kept (fun x q=>hb.block x (h.eg.has q).2),h.dv.kept hb.size (fun x q=>hb.block x (h.dv.has q).2),h.sep⟩
theorem dG.dev {E D:Nat} {g:ay} {d d':aL} {m v vs vs':Nat->aj} {w w':World} (h:dG E D g d m v vs w) (hd:cK D d' vs' w') (hf:jh D vs vs' w w'):dG E D g d' m v vs' w'∧cN E D m v vs m v vs' w w':=by
 have vo:∀x,ig D vs' x->ig D vs x∨w.heap.size<=x:=fun x q=>by
  rcases q with q | ⟨i,hi,q⟩
  ·exact .inl (.inl q)
  ·rcases hf.own i hi x q with a | a
   ·exact .inl (.inr ⟨i,hi,a⟩)
   ·exact .inr a
 refine ⟨⟨h.eg.kept (fun x q=>hf.bD.other x (h.eg.has q).2 (h.sep x q)),hd,fun x q1 q2=>?_⟩,⟨hf.bD.weak (fun x q=>.inl (.inr q)),fun x q=>.inl q,vo⟩⟩;rcases vo x q2 with a | a
 ·exact h.sep x q1 a
 ·have:=(h.eg.has q1).2;omega
theorem dG.Di {E D:Nat} {g g':ay} {d:aL} {m v vs m' v':Nat->aj} {w w':World} (h:dG E D g d m v vs w) (he:bH E D g' m' v' w') (hc:aM (dc E m v) w w') (eo:∀x,dc E m' v' x->dc E m v x∨w.heap.size<=x):dG E D g' d m' v' vs w'∧cN E D m v vs m' v' vs w w':=by
 refine ⟨⟨he,h.dv.kept hc.size (fun x q=>hc.other x (h.dv.has q).2 (fun p=>h.sep x p q)),fun x q1 q2=>?_⟩,⟨hc.weak (fun x q=>.inl (.inl q)),eo,fun x q=>.inl q⟩⟩;rcases eo x q1 with a | a
 ·exact h.sep x a q2
 ·have:=(h.dv.has q2).2;omega
theorem dG.set {E D:Nat} {g:ay} {d:aL} {m v vs:Nat->aj} {w:World} (h:dG E D g d m v vs w) (j:Nat) (hj:nV j) (g':ay) (hz:g'.z=g.z) (hb:g'.b=g.b) (hs:∀k,nV k->k≠j->gU D g' k=gU D g k) (u:aj) (hu:u=gU D g' j):dG E D g' d m v vs (w.setCell ⟨E,j,none⟩ u)∧cN E D m v vs m v vs w (w.setCell ⟨E,j,none⟩ u):=
 h.Di (h.eg.set j hj g' hz hb hs u hu) ((aM.set w E j u).weak (fun _ q=>.inl (.inl q))) (fun _ q=>.inl q)
def EPost (E D:Nat) (m v vs:Nat->aj) (w:World) (n:Int) (g':ay) (d':aL) (e':eL) (w':World):Prop:=
 e'= .returned (.int .i64 n)∧∃m' v' vs',dG E D g' d' m' v' vs' w'∧cN E D m v vs m' v' vs' w w'
end
end Go.Proofs.YtmmflekajbeamaaGreatDoor
