/- Texts of ours, joined, in few bytes. -/
import Derived.Test.YtmmflekajbeamaaGreatDoorE07
import Derived.Deep.CutRange
open Go renaming Calls->av,TypeId->cE,Value->aj,bodyPost_ret->cL,heap_alloc_new->bg,maxLen->cP,results_cell_row->jl
open Go.Instr renaming loadAt->kR
open Go.IntWalk renaming i64_in->AP
open Go.Proofs.Tryz renaming prog->au,results170->Yj,underlying187->nE
open Go.Result renaming andThen->kN
open Go.RowKit renaming Below->ak,intOf->aI
open Go.RowKit.Below renaming heap_alloc->cM,refl->aA
open Go.Sem renaming run->qi,run_bind->kB
open Go.Value renaming bool->lV,int->cI
open Go.World renaming ownsRow_nil->j7
open Int renaming toNat_of_nonneg->vW
open List renaming drop_succ_cons->j6,drop_zero->iE,getD_eq_getElem?_getD->bP,getElem?_eq_getElem->bE,getElem?_eq_some_iff->fG,take_succ_cons->j5,take_zero->jU
open Nat renaming le_refl->ax,zero_add->ol,zero_le->bK
namespace Go.Proofs.YtmmflekajbeamaaGreatDoor
set_option maxRecDepth 100000
set_option maxHeartbeats 2000000
open Go.RowKit
theorem ajB {ws:List Nat} {k x:Nat} (h:ws[k]? =some x):aQ (ws.take (k+1))=aQ (ws.take k) ++ aS 4 x:=by rw [He h,R6]
theorem OE (ws:List Nat) (w:World) (hl:ws.length<=8) (hw:∀v∈ws,v<4294967296):
 av au 203 #[.agg (S (aD ws))] w fun e' w'=>e'= .returned (.string (ah (aQ ws)))∧ak w.heap.size w w':=by
 have hzl:=nT hl;have hr:aK (w.alloc (.cells (S (aD ws)) 187)) w.heap.size 187 (aD ws):=bg w _;have hb1:=af ((aA w.heap.size w).alloc (ax _) (.cells (S (aD ws)) 187));have c0:=hr.cell 0 (by omega);rw [CO] at c0;have lO:=af hr;have Bj:Hid (∀k,k<ws.length->ws[k]? =some (ws.getD k 0)∧ws.getD k 0<4294967296∧gz (aD ws) (1+k)=(ws.getD k 0:Nat)):=fun k hk'=>by
  refine ⟨by rw [bP,bE hk'];rfl,?_,Ku hk'⟩;rw [bP,bE hk'];exact hw _ (List.getElem_mem _)
 have hl':(ws.length:Int)<=8:=by omega
 clear hr hw;go_enter Tryz.func203,Tryz.ntmps203;go_wp2_with fail
 go_loopw [3,11] (fun v i wr=>∃k:Nat,k<=ws.length∧i= .int .i64 k∧wr.ownsRow (w.heap.size+1) 5 1 v (aQ (ws.take k)).length (eW (aQ (ws.take k)))∧aK wr w.heap.size 187 (aD ws)∧ak w.heap.size w wr) (fun _ i _=>ws.length - (aI i).toNat)
 case atStart=>exact ⟨0,bK _,rfl,j7 _ _ _ _,lO.out,hb1.out⟩
 case round=>
  obtain ⟨k,hk,rfl,hown,hrow,hbl⟩:=hrel;obtain ⟨va,vc,hv⟩:=bA hown;have HO:=af hown;have bU:=af hbl;have l5:=af hrow;have dY:w.heap.size<wr.heap.size:=hrow.lt;have hTl:(aQ (ws.take k)).length<=32:=by rw [Ct,List.length_take];omega
  by_cases hlt:k<ws.length
  ·have hlt':(k:Int)<(ws.length:Int):=by omega
   obtain ⟨e1,e2,e3⟩:=Bj.out k hlt;have cc:=hrow.cell (1+k) (by omega);rw [e3] at cc;have HS:=af (ajB e1);have wU:=af (EB (w.heap.size+1) u3 (aQ (ws.take k)) (ws.getD k 0) 4 wr (by omega) hown (by omega) (by decide));subst hv;generalize ws.getD k 0=x at *;clear e1 e2 e3 hown hrow hbl;go_wp2_with fail
   refine (aq wU).mono ?_;rintro e w2 ⟨v',rfl,b1,b2,b3⟩;have aZ:=af b2;have nN:=af b1;have dW:Hid (aK w2 w.heap.size 187 (aD ws)):=l5.out.keep (b2.block _ (by omega));clear b1 b2 b3;go_wp2_with fail
   refine ⟨⟨k+1,by omega,by go_num,?_,dW.out,bU.out.trans (aZ.out.mono (by omega))⟩,by simp [aI];omega⟩;rw [HS.out];exact nN.out
  ·have hlt':¬(k:Int)<(ws.length:Int):=by omega
   have hkn:k=ws.length:=by omega
   subst hkn;rw [List.take_length] at HO hv;have kc:=EA HO.out;subst hv;clear hown hrow hbl;go_wp2_with fail
   go_ret;exact ⟨rfl,bU.out⟩
theorem Hl (mem:List Int) (pc n:Nat):(gq mem pc n).length=n:=by simp [gq]
theorem ajC (mem:List Int) (pc:Nat) {n j:Nat} (h:j<n):(gq mem pc n).getD j 0=(mem.getD (pc+j) 0).toNat:=by
 unfold gq;rw [bP,List.getElem?_map,List.getElem?_range h];rfl
theorem ajD (mem:List Int) (pc k:Nat) (hm:∀i,0<=mem.getD i 0):wQ (gq mem pc k)=true↔k<8∧(0<k->eV (mem.getD (pc+(k - 1)) 0)=true):=by
 unfold wQ iw;rw [decide_eq_true_eq,Hl];by_cases h:0<k
 ·rw [ajC mem pc (by omega),vW (hm _)];by_cases hp:eV (mem.getD (pc+(k - 1)) 0)=true
  ·rw [if_neg (fun h=>by rw [hp] at h;exact absurd h.2 (by decide))];exact ⟨fun q=>⟨q.1,fun _=>hp⟩,fun q=>⟨q.1,rfl⟩⟩
  ·rw [if_pos ⟨h,by simpa using hp⟩];exact ⟨fun q=>by omega,fun q=>absurd (q.2 h) hp⟩
 ·rw [if_neg (fun q=>h q.1)];exact ⟨fun q=>⟨q.1,fun q=>absurd q h⟩,fun q=>⟨q.1,rfl⟩⟩
theorem Ky (mem:List Int) (pc k:Nat) (h1:1<=k) (h8:k<=8) (hp:∀j,j+1<k->eV (mem.getD (pc+j) 0)=true) (hk:pc+k<=128) (he:pc+k=128∨k=8∨¬eV (mem.getD (pc+(k - 1)) 0)=true):iq mem 8 pc=k:=by
 rw [ag6 mem pc (9 - k) (k - 1) (fun j hj=>hp j (by omega)) (by omega) (by omega)];obtain ⟨f,hf⟩:∃f,9 - k=f+1:=⟨8 - k,by omega⟩;rw [hf,iq,if_pos (by omega)];by_cases hpl:eV (mem.getD (pc+(k - 1)) 0)=true
 ·rw [if_pos hpl];have:iq mem f (pc+(k - 1)+1)=0:=by
   rcases he with h | h | h
   ·cases f with
    | zero=>rfl
    | succ f=>rw [iq,if_neg (by omega)]
   ·obtain rfl:f=0:=by omega
    rfl
   ·exact absurd hpl h
  rw [this];omega
 ·rw [if_neg hpl];omega
theorem aaM (mem:List Int) (pc k:Nat) (hm:∀i,0<=mem.getD i 0∧mem.getD i 0<4294967296):∀v∈gq mem pc k,v<4294967296:=fun v hv=>by
 obtain ⟨j,_,rfl⟩:=List.mem_map.1 hv;have:=hm (pc+j);omega
theorem ajE (mem:List Int) (pc:Nat) (w:World) (ht:bF w) (hl:mem.length=128) (hm:∀i,0<=mem.getD i 0∧mem.getD i 0<4294967296) (hpc:pc<128):
 av au 139 #[.agg (S mem),.int .i64 (pc:Int)] w fun e' w'=>e'= .returned (.agg (S (aD (gq mem pc (iq mem 8 pc)))))∧ak w.heap.size w w':=by
 have z9:=Ey;have pW:=af ht;have hpos:=ht.pos;clear ht;have hr0:aK (((w.alloc (.cells (S mem) 26)).alloc (.cells (S (aD [])) 187)).alloc (.cells (S (aD [])) 187)) w.heap.size 26 mem:=by
  unfold aK;rw [cM _ _ _ (by rw [aB,aB];omega),cM _ _ _ (by rw [aB];omega),bg]
 have hr1:aK (((w.alloc (.cells (S mem) 26)).alloc (.cells (S (aD [])) 187)).alloc (.cells (S (aD [])) 187)) (w.heap.size+1) 187 (aD []):=by
  unfold aK;rw [cM _ _ _ (by rw [aB,aB];omega)];have:=bg (w.alloc (.cells (S mem) 26)) (.cells (S (aD [])) 187);rw [aB] at this;exact this
 have eS:aK (((w.alloc (.cells (S mem) 26)).alloc (.cells (S (aD [])) 187)).alloc (.cells (S (aD [])) 187)) (w.heap.size+1+1) 187 (aD []):=by
  unfold aK;have:=bg ((w.alloc (.cells (S mem) 26)).alloc (.cells (S (aD [])) 187)) (.cells (S (aD [])) 187);rw [aB,aB] at this;exact this
 have hb0:ak w.heap.size w (((w.alloc (.cells (S mem) 26)).alloc (.cells (S (aD [])) 187)).alloc (.cells (S (aD [])) 187)):=(((aA _ _).alloc (ax _) _).alloc (by rw [aB];omega) _).alloc (by rw [aB,aB];omega) _;have gR:=af hr0;have dm:=af hr1;have dW:=af eS;have bM:=af hb0;have HM:=af hm;clear hr0 hr1 eS hb0 hm;have ajF:(pc:Int)<128:=by omega
 go_enter Tryz.func139,Tryz.ntmps139;go_wp2_with fail
 go_loopw [6] (fun i wr=>∃k p:Nat,p=pc+k∧i= .int .i64 p∧p<=128∧Hid (k<=8∧aK wr w.heap.size 26 mem∧aK wr (w.heap.size+1) 187 (aD [])∧aK wr (w.heap.size+1+1) 187 (aD (gq mem pc k))∧ak w.heap.size w wr∧∀q,q+1<k->eV (mem.getD (pc+q) 0)=true)) (fun i _=>128 - (aI i).toNat)
 case atStart=>exact ⟨0,pc,rfl,rfl,by omega,bK _,gR.out,dm.out,dW.out,bM.out,fun q hq=>by omega⟩
 case round=>
  obtain ⟨k,p,hp,rfl,hp8,HR⟩:=hrel;obtain ⟨k8,rm,rr,lZ,hbl,hpl⟩:=HR.out;have hlen:=nT (ws:=gq mem pc k) (by rw [Hl];exact k8);have SG:=rr.isRow 9 rfl;have rI:=lZ.isRow 9 hlen;have rD:=lZ.bW;have dY:w.heap.size+1+1<wr.heap.size:=lZ.lt;have lO:=af rr;have l5:=af lZ;have bU:=af hbl;have qT:=af hlen;have SS:=af rm;have HP:=af hp;have hgr:=ajD mem pc k (fun i=>(HM.out i).1);by_cases hlt:p<128
  ·have hlt':(p:Int)<128:=by omega
   have zV:=af (aam (gq mem pc k) wr (pW.out.below hpos hbl) (by rw [Hl];exact k8) (aaM mem pc k HM.out));rw [S9 hlen] at zV;have x0:=lZ.cell 0 (by omega);have x1:=lZ.cell 1 (by omega);have x2:=lZ.cell 2 (by omega);have x3:=lZ.cell 3 (by omega);have x4:=lZ.cell 4 (by omega);have x5:=lZ.cell 5 (by omega);have x6:=lZ.cell 6 (by omega);have x7:=lZ.cell 7 (by omega);have x8:=lZ.cell 8 (by omega);cases hq:wQ (gq mem pc k)
   ·rw [hq] at zV hgr;have hk1:1<=k:=by
     rcases Nat.eq_zero_or_pos k with h0 | h0
     ·have:=hgr.2 ⟨by omega,fun q=>by omega⟩;exact absurd this (by decide)
     ·exact h0
    have HE:=af (Ky mem pc k hk1 k8 hpl (by omega) (by
     by_cases h8:k<8
     ·exact .inr (.inr fun hh=>absurd (hgr.2 ⟨h8,fun _=>hh⟩) (by decide))
     ·exact .inr (.inl (by omega))))
    clear hq hgr hpl hbl k8 rr lZ rm hp hk1 hlen;go_wp2_with fail
    refine (aq zV).mono ?_;rintro e w1 ⟨rfl,hb1⟩;clear x0 x1 x2 x3 x4 x5 x6 x7 x8;have aJ:Hid (ak w.heap.size w w1):=bU.out.trans (hb1.mono (by omega));have Ho:Hid (aK w1 (w.heap.size+1) 187 (aD [])):=lO.out.keep (hb1.block _ (by omega));have aaN:Hid (aK w1 (w.heap.size+1+1) 187 (aD (gq mem pc k))):=l5.out.keep (hb1.block _ (by omega));clear hb1;go_wp2_with (first | (refine s7 rfl nE iT rfl _ rfl (w.heap.size+1+1) rfl (aaN.out.isRow 9 qT.out) _ aaN.out.bW ?_) | (refine pU iT rfl _ _ rfl (w.heap.size+1) rfl (aD (gq mem pc k)) rfl qT.out (Ho.out.isRow 9 rfl) _ rfl ?_))
    rw [HE.out];exact cL (v:=.agg (S (aD (gq mem pc k)))) (jl Tryz.results139 _ _ (w.heap.size+1) 187 (S (aD (gq mem pc k))) (0,0) _ rfl (Ho.out.setRow (aD (gq mem pc k))) nE rfl (by rw [iT,bQ,qT.out])) rfl ⟨rfl,iI aJ.out (by omega) _⟩
   ·rw [hq] at zV hgr;obtain ⟨h8,hpk⟩:=hgr.1 rfl;have G9:(gq mem pc k).length<8:=by rw [Hl];exact h8
    have hc:=HM.out p;have HX:Hid (gq mem pc (k+1)=gq mem pc k ++ [(mem.getD p 0).toNat]):=by unfold Hid;rw [Zl,HP.out]
    have hx0:mem.getD p 0=(((mem.getD p 0).toNat:Nat):Int):=(vW hc.1).symm;have cm:=rm.cell p (by omega);unfold gz at cm;rw [hx0] at cm;generalize (mem.getD p 0).toNat=x at *;have eO:Hid (∀w1 w2,ak wr.heap.size wr w1->aK w2 (w.heap.size+1+1) 187 (aD (gq mem pc k ++ [x]))->(∀B,B<=w.heap.size+1+1->ak B w1 w2)->(∀g,g≠w.heap.size+1+1->w2.heap[g]? =w1.heap[g]?)->(k+1<=8∧aK w2 w.heap.size 26 mem∧aK w2 (w.heap.size+1) 187 (aD [])∧aK w2 (w.heap.size+1+1) 187 (aD (gq mem pc (k+1)))∧ak w.heap.size w w2∧∀q,q+1<k+1->eV (mem.getD (pc+q) 0)=true)):=by
     intro w1 w2 b1 b2 b3 b4;refine ⟨by omega,rm.keep ((b4 _ (by omega)).trans (b1.block _ (by omega))),rr.keep ((b4 _ (by omega)).trans (b1.block _ (by omega))),by rw [HX.out];exact b2,(hbl.trans (b1.mono (by omega))).trans (b3 _ (by omega)),fun q dQ=>?_⟩;by_cases hqk:q+1<k
     ·exact hpl q hqk
     ·have:q=k - 1:=by omega
      rw [this];exact hpk (by omega)
    clear hq hgr hpl hbl k8 rr lZ rm hp hlen hpk hx0 hc;go_wp2_with fail
    refine (aq zV).mono ?_;rintro e w1 ⟨rfl,hb1⟩;clear x0 x1 x2 x3 x4 x5 x6 x7 x8;have aJ:=af hb1;have HAdd:=af (aan (w.heap.size+1+1) (gq mem pc k) x w1 (l5.out.keep (hb1.block _ (by omega))) G9);have cm1:=dZ hb1 w.heap.size p (by omega);rw [cm] at cm1;clear hb1 cm;go_wp2_with fail
    refine (aq HAdd).mono ?_;rintro e w2 ⟨rfl,b2,b3,b4⟩;have HE:=af (eO.out w1 w2 aJ.out b2 b3 b4);clear b2 b3 b4;go_wp2_with fail
    refine ⟨⟨k+1,p+1,?_,by go_num,by omega,HE.out⟩,by simp [aI];omega⟩;have:=HP.out;omega
  ·have hlt':¬(p:Int)<128:=by omega
   have HE:=af (Ky mem pc k (by omega) k8 hpl (by omega) (.inl (by omega)));clear hgr hpl hbl k8 rr lZ rm hp hlen;go_wp2_with (first | (refine s7 rfl nE iT rfl _ rfl (w.heap.size+1+1) rfl rI _ rD ?_) | (refine pU iT rfl _ _ rfl (w.heap.size+1) rfl (aD (gq mem pc k)) rfl qT.out SG _ rfl ?_))
   rw [HE.out];exact cL (v:=.agg (S (aD (gq mem pc k)))) (jl Tryz.results139 _ _ (w.heap.size+1) 187 (S (aD (gq mem pc k))) (0,0) _ rfl (lO.out.setRow (aD (gq mem pc k))) nE rfl (by rw [iT,bQ,qT.out])) rfl ⟨rfl,iI bU.out (by omega) _⟩

theorem OG {fn:Func} {p u:Tmp} (h:fn.results=#[.cell p 25,.tmp u]) (tmps:Array aj) (w:World) (g:Nat) (z:List Int) (hz:z.length=8)
 (hp:tmps.getD p undef= .pointer (some ⟨g,0,none⟩)) (hg:aK w g 25 z) (x:aj) (hu:tmps.getD u undef=x):
 (results fn tmps).run au w= .ok (.tuple #[.agg (S z),x]) w:=by
 rw [results_cell_tmp h,hp,hu];simp only [asAddr,Sem.run_pure,kN];rw [run_loadVar_row w g 25 25 (S z) (0,0) _ hg Tryz.underlying25 rfl (by rw [Es,bQ,hz])]
theorem aK.EG {w:World} {g:Nat} {t:cE} {z:List Int} (h:aK w g t z) (z':List Int):aK (w.setRow g (S z')) g t z':=setRow_heap w g _ _ t (0,0) h
theorem SU {w:World} {B:Nat} {v:aj} {n m:Nat} {xs:List aj} {e:cE} {k:Nat} (h:w.ownsRow B e k v n xs) (hn:n=m):w.ownsRow B e k v m xs:=hn▸h
theorem szI:(Tryz.prog.info? 3).map (·.size)=some 1:=by kernel_rfl
theorem ajI (a b:List Int):(S (a ++ b)).toList=(S a).toList ++ (S b).toList:=by simp [S]
theorem ajJ (w:World) (g g':Nat) (z:List Int) (ty:cE) (h:aK w g 222 (zr 16)) (h':aK w g' 25 z) (hz:z.length=8):
 (Builtin.copy_ #[121,121] ty #[.slice (some ⟨g,0,none⟩) 16 16,.slice (some ⟨g',0,none⟩) 8 8]).run au w= .ok (.int .i64 8) (w.setRow g (S (gj z))):=by
 have hl:(S z).toList.length=8:=by simp [S,hz]
 have:=run_copy_row (P:=au) w 121 121 ty 3 g 0 16 16 ⟨g',0,none⟩ 8 8 (S (zr 16)) 222 (S z).toList Tryz.underlying121 szI h (by rw [hl];rfl) (fun j v hj=>by
  have hlt:j<8:=by have:=(fG.1 hj).1;omega
  have h1:=h'.cell j (by omega);rw [Array.getElem?_toList,gP z j (by omega)] at hj;cases hj;have ea:(⟨g',0,none⟩:Addr).add j=⟨g',j,none⟩:=by
   unfold Addr.add;split
   ·rename_i hj0;rw [hj0]
   ·simp
  rw [ea]
  exact h1) (by rw [hl,bQ,rZ];decide) (fun v hv=>by
  have:=zE z;rw [Array.all_eq_true_iff_forall_mem] at this
  exact this v (by simpa using hv))
 rw [this,hl];congr 2;rw [show gj z=z ++ zr 8 from rfl];apply Array.toList_inj.1;have e:(S (zr 16)).toList.drop 8=(S (zr 8)).toList:=by simp [S,zr]
 rw [ajI,ol,e];simp
def Bm (aF mem:List Int):Prop:=kU (gz aF) 8=true∧kU (gz mem) 128=true
theorem OH {z:List Int} {n:Nat} (h:kU (gz z) n=true) (hl:z.length=n):WL n z:=by
 refine ⟨hl,fun x hx=>?_⟩;obtain ⟨i,hi⟩:=List.getElem?_of_mem hx;unfold kU at h;have:=List.all_eq_true.1 h i (List.mem_range.2 (by have:=(fG.1 hi).1;omega));unfold gz at this;rw [bP,hi] at this;exact (wu _).1 this
def EH (p:ByteArray) (aF mem:List Int) (w:World) (e':Ending) (w':World):Prop:=
 ak w.heap.size w w'∧((¬Bm aF mem∧e'= .returned (.tuple #[.agg (S (zr 8)),.int .i64 8]))∨(Bm aF mem∧¬oP p∧e'= .returned (.tuple #[.agg (S (zr 8)),.int .i64 11]))∨(Bm aF mem∧oP p∧e'= .returned (.tuple #[.agg (S ((uT mem (dO p (p.size / 8)) (gj aF)).take 8)),.int .i64 0])))
theorem ajK (p:ByteArray) (aF mem:List Int) (w:World) (hr:aF.length=8) (hm:mem.length=128) (hp:p.size<=cP):
 av au 170 #[.string p,.agg (S aF),.agg (S mem)] w (EH p aF mem w):=by
 have z8:=aah;have Ew:=aai;obtain ⟨W0,bq⟩:∃W0,W0=((w.alloc (.cells (S aF) 25)).alloc (.cells (S mem) 26)).alloc (.cells (S (zr 8)) 25):=⟨_,rfl⟩;have HW:=af bq;have hb0:ak w.heap.size w W0:=by rw [bq];exact GM w _ _ _
 have hz0:W0.heap.size=w.heap.size+1+1+1:=by rw [bq,aB,aB,aB]
 have r0:aK W0 w.heap.size 25 aF:=by
  unfold aK;rw [bq,cM _ _ _ (by rw [aB,aB];omega),cM _ _ _ (by rw [aB];omega),bg]
 have r1:aK W0 (w.heap.size+1) 26 mem:=by
  unfold aK;rw [bq,cM _ _ _ (by rw [aB,aB];omega)];have:=bg (w.alloc (.cells (S aF) 25)) (.cells (S mem) 26);rw [aB] at this;exact this
 have r2:aK W0 (w.heap.size+1+1) 25 (zr 8):=by
  unfold aK;rw [bq];have:=bg ((w.alloc (.cells (S aF) 25)).alloc (.cells (S mem) 26)) (.cells (S (zr 8)) 25);rw [aB,aB] at this;exact this
 have H1:=af (NP w.heap.size 0 8 (gz aF) W0 (by omega) (fun i hi=>by rw [ol];exact r0.cell i (by omega)));have H2:=af (NP (w.heap.size+1) 0 128 (gz mem) W0 (by omega) (fun i hi=>by rw [ol];exact r1.cell i (by omega)));have gR:=af r0;have dm:=af r1;have dW:=af r2;have bM:=af hb0;have Ez:Hid (∀w' n,ak w.heap.size w w'->aK w' (w.heap.size+1+1) 25 (zr 8)->((n=8∧¬Bm aF mem)∨(n=11∧Bm aF mem∧¬oP p))->EH p aF mem w (.returned (.tuple #[.agg (S (zr 8)),.int .i64 n])) w'):=fun w' n hb _ hn=>by
  rcases hn with ⟨rfl,h⟩ | ⟨rfl,h1,h2⟩
  ·exact ⟨hb,.inl ⟨h,rfl⟩⟩
  ·exact ⟨hb,.inr (.inl ⟨h1,h2,rfl⟩)⟩
 have jt:=af (ZY p W0 hp);clear r0 r1 r2 hb0 bq;cases uj:kU (gz aF) 8
 ·rw [uj] at H1;have HN:Hid (¬Bm aF mem):=fun h=>by have:=h.1;rw [uj] at this;cases this
  clear uj H2;go_enter Tryz.func170,Tryz.ntmps170;go_wp2_with fail
  rw [<-HW.out];refine (aq H1).mono ?_;rintro e w' ⟨rfl,hw⟩;obtain rfl:=hw.symm;go_wp2_with (refine pU Es rfl _ _ rfl (w.heap.size+1+1) rfl (zr 8) rfl (rZ 8) (dW.out.isRow 8 (rZ 8)) _ rfl ?_)
  exact cL (v:=.tuple #[.agg (S (zr 8)),.int .i64 8]) (OG Yj _ _ (w.heap.size+1+1) (zr 8) (rZ 8) rfl (dW.out.EG (zr 8)) _ rfl) rfl (Ez.out _ 8 (iI bM.out (by omega) _) (dW.out.EG (zr 8)) (.inl ⟨rfl,HN.out⟩))
 ·rw [uj] at H1;cases qn:kU (gz mem) 128
  ·rw [qn] at H2;have HN:Hid (¬Bm aF mem):=fun h=>by have:=h.2;rw [qn] at this;cases this
   clear uj qn;go_enter Tryz.func170,Tryz.ntmps170;go_wp2_with fail
   rw [<-HW.out];refine (aq H1).mono ?_;rintro e w' ⟨rfl,hw⟩;obtain rfl:=hw.symm;go_wp2_with fail
   refine (aq H2).mono ?_;rintro e w' ⟨rfl,hw⟩;obtain rfl:=hw.symm;go_wp2_with (refine pU Es rfl _ _ rfl (w.heap.size+1+1) rfl (zr 8) rfl (rZ 8) (dW.out.isRow 8 (rZ 8)) _ rfl ?_)
   exact cL (v:=.tuple #[.agg (S (zr 8)),.int .i64 8]) (OG Yj _ _ (w.heap.size+1+1) (zr 8) (rZ 8) rfl (dW.out.EG (zr 8)) _ rfl) rfl (Ez.out _ 8 (iI bM.out (by omega) _) (dW.out.EG (zr 8)) (.inl ⟨rfl,HN.out⟩))
  ·rw [qn] at H2;have CI:Hid (Bm aF mem):=⟨uj,qn⟩;have hWr:=OH uj hr;have SW:=OH qn hm;clear uj qn;go_enter Tryz.func170,Tryz.ntmps170;go_wp2_with fail
   rw [<-HW.out];refine (aq H1).mono ?_;rintro e w' ⟨rfl,hw⟩;obtain rfl:=hw.symm;go_wp2_with fail
   refine (aq H2).mono ?_;rintro e w' ⟨rfl,hw⟩;obtain rfl:=hw.symm;go_wp2_with fail
   refine (aq jt).mono ?_;rintro e w1 ⟨hb1,⟨hpk,pv,rfl,vp⟩ | ⟨zY,rfl⟩⟩
   ·have aJ:Hid (ak w.heap.size w w1):=bM.out.trans (hb1.mono bM.out.size);have hz1:=hb1.size;have aaP:=af (gR.out.keep (hb1.block _ (by omega)));have Ho:=af (dm.out.keep (hb1.block _ (by omega)));have Hp:=af (dW.out.keep (hb1.block _ (by omega)));have fj:=af hpk;have pY:=af (SU vp (GA p _).symm);obtain ⟨pa,pc,rfl⟩:=bA vp;have SX:(dO p (p.size / 8)).length=p.size / 8:=GA p _;have avC:p.size / 8<=10:=by have:=hpk.2.1;omega
    clear hb1 hpk vp jt H1 H2 gR dm dW;have r16:aK (w1.alloc (.cells (S (zr 16)) 222)) w1.heap.size 222 (zr 16):=bg w1 _;have hcp:=fun ty=>ajJ ((w1.alloc (.cells (S (zr 16)) 222)).drew) w1.heap.size w.heap.size aF ty (r16.keep rfl) (aaP.out.keep (cM w1 _ _ aaP.out.lt)) hr;have hrow:(w1.alloc (.cells (S (zr 16)) 222)).drew.setRow w1.heap.size (S (gj aF))=(w1.alloc (.cells (S (gj aF)) 222)).drew:=by rw [Y8,sQ _ _ _ _ _ rfl]
    rw [hrow] at hcp;clear hrow r16;have HLp:Hid (aK ((w1.alloc (.cells (S (gj aF)) 222)).drew) w1.heap.size 222 (gj aF)):=bg w1 _;have Bn:Hid (ak w1.heap.size w1 ((w1.alloc (.cells (S (gj aF)) 222)).drew)):=((aA _ _).alloc (ax _) _).drew;go_wp2_with fail
    refine qp 2 (by kernel_rfl) (by kernel_rfl) ?_;simp only [j5,jU,j6,iE]
    repeat still_step
    refine wpStill_nil ?_;go_wp2_with fail
    clear hcp;go_loopw [36] (fun i wr=>∃k:Nat,k<=p.size / 8∧i= .int .i64 k∧Hid (aK wr w1.heap.size 222 (((dO p (p.size / 8)).take k).foldl (oQ mem) (gj aF))∧ak w1.heap.size w1 wr)) (fun i _=>p.size / 8 - (aI i).toNat)
    case atStart=>exact ⟨0,bK _,rfl,HLp.out,Bn.out⟩
    case round=>
     obtain ⟨k,hk,rfl,Hq⟩:=hrel;have lQ:=WL.fold SW (GB fj.out) k (gj aF) (by omega) (WL.eC hWr);by_cases hlt:k<p.size / 8
     ·have hlt':(k:Int)<((p.size / 8:Nat):Int):=by omega
      have hpk:(dO p (p.size / 8))[k]? =some ((dO p (p.size / 8))[k]'(by omega)):=bE (by omega);have hmem:=List.mem_of_getElem? hpk;obtain ⟨hok,hkk⟩:=GB fj.out _ hmem;have zT:Hid (((dO p (p.size / 8)).take (k+1)).foldl (oQ mem) (gj aF)=(((dO p (p.size / 8)).take k).foldl (oQ mem) (gj aF)).set ((dO p (p.size / 8))[k]'(by omega)).d (vD (((dO p (p.size / 8)).take k).foldl (oQ mem) (gj aF)) mem ((dO p (p.size / 8))[k]'(by omega)))):=wC _ _ _ _ _ hpk;obtain ⟨hrl,hbl⟩:=Hq.out;have hPo:=SU pY.out rfl;obtain ⟨g,cap,hform,_,hgl⟩:=pY.out.form (by omega);obtain ⟨x0,x1,x2,x3,x4⟩:=wP (dX (SU (hform▸pY.out) rfl) hbl) k _ hpk;have hform':pa=some ⟨g,0,none⟩:=by injection hform
      subst hform';have EI:aK wr (w.heap.size+1) 26 mem:=Ho.out.keep (hbl.block _ Ho.out.lt);have hm1:w.heap.size+1<w1.heap.size:=Ho.out.lt;have dY:w1.heap.size<wr.heap.size:=hrl.lt;have HV:=af (fun w'=>aiK ((dO p (p.size / 8))[k]'(by omega)) (((dO p (p.size / 8)).take k).foldl (oQ mem) (gj aF)) mem w' hok lQ SW);generalize (dO p (p.size / 8))[k]'(by omega)=q at *;have EJ:=hok.1;have aaQ:(q.d:Int)<16:=by omega
      generalize hL:((dO p (p.size / 8)).take k).foldl (oQ mem) (gj aF)=L at *;clear hL;have aaR:∀w2 v,ak wr.heap.size wr w2->v=vD L mem q->aK w2 w1.heap.size 222 L∧(aK (w2.setCell ⟨w1.heap.size,q.d,none⟩ (.int .i64 v)) w1.heap.size 222 (((dO p (p.size / 8)).take (k+1)).foldl (oQ mem) (gj aF))∧ak w1.heap.size w1 (w2.setCell ⟨w1.heap.size,q.d,none⟩ (.int .i64 v))):=fun w2 v hb hv=>by
       have eS:=hrl.keep (hb.block _ dY);rw [zT.out,<-hv];exact ⟨eS,eS.set _ _,(hbl.trans (hb.mono (Nat.le_of_lt dY))).setCell (ax _) _⟩
      have eO:=af aaR;have Kt:=af (fun w' (hr:bf w' w1.heap.size 16=true)=>RU (P:=au) (ty:=222) Tryz.underlying222 rfl aag w' w1.heap.size hr);have aaS:=af (fun w' (hr:bf w' (w.heap.size+1) 128=true)=>RU (P:=au) (ty:=26) Tryz.underlying26 rfl aiJ w' (w.heap.size+1) hr);have rI:=hrl.isRow 16 lQ.1;have rD:=hrl.bW;have rI2:=EI.isRow 128 hm;have rD2:=EI.bW;have HRL:=af hrl;have HRM:=af EI;have OI:=af lQ.1;obtain ⟨pk,pd,zU,pb,pV⟩:=q;simp only [eM] at x0 x1 x2 x3 x4 EJ aaQ HV eO;clear aaR hrl EI hbl hpk hmem hok hkk lQ hPo hform zT fj pY Hq hWr SW;go_wp2_with fail
      have e0:∀(o:Obj) j x,o= .cells #[.int .i64 (pk:Int),.int .i64 (pd:Int),.int .i64 (zU:Int),.int .i64 (pb:Int),.int .i64 (pV:Int)] 123->#[cI .i64 (pk:Int),.int .i64 (pd:Int),.int .i64 (zU:Int),.int .i64 (pb:Int),.int .i64 (pV:Int)][j]? =some x->(wr.alloc o).cell? ⟨wr.heap.size,j,none⟩=some x:=fun o j x ho hx=>by
       rw [ho,World.cell?_alloc_at (hn:=rfl)];exact hx
      refine ug 5 1 (fun w'=>w'.cell? ⟨wr.heap.size,0,none⟩=some (.int .i64 (pk:Int))∧w'.cell? ⟨wr.heap.size,1,none⟩=some (.int .i64 (pd:Int))∧w'.cell? ⟨wr.heap.size,2,none⟩=some (.int .i64 (zU:Int))∧w'.cell? ⟨wr.heap.size,3,none⟩=some (.int .i64 (pb:Int))∧w'.cell? ⟨wr.heap.size,4,none⟩=some (.int .i64 (pV:Int))∧(bf w' w1.heap.size 16=true∧bW w' w1.heap.size=S L)∧(bf w' (w.heap.size+1) 128=true∧bW w' (w.heap.size+1)=S mem)) (by kernel_rfl) (by kernel_rfl) (fun d _ _ _ _ h=>by cases d<;>exact h) ⟨e0 _ 0 _ rfl rfl,e0 _ 1 _ rfl rfl,e0 _ 2 _ rfl rfl,e0 _ 3 _ rfl rfl,e0 _ 4 _ rfl rfl,⟨(xQ _ _ _ _ dY).trans rI,(A5 _ _ _ dY).trans rD⟩,⟨(xQ _ _ _ _ (by omega)).trans rI2,(A5 _ _ _ (by omega)).trans rD2⟩⟩ ?_;simp only [j5,jU,j6,iE]
      iterate 3
       refine mT ?_ rfl ?_ ?_
       rotate_left
       ·rintro w' ⟨d0,d1,d2,d3,d4,d5,d6⟩;go_simp;rfl
       go_simp
      refine mT (.agg (S L)) rfl ?_ ?_
      ·rintro w' ⟨d0,d1,d2,d3,d4,⟨d5,d6⟩,d7⟩;have hl:=Kt.out w' d5;rw [d6] at hl;clear d0 d1 d2 d3 d4 d5 d6 d7;simp only [execOp,kB];show kN (qi au (kR 222 (.pointer (some ⟨w1.heap.size,0,none⟩))) w') _=_
       rw [hl];rfl
      go_simp;refine mT (.agg (S mem)) rfl ?_ ?_
      ·rintro w' ⟨d0,d1,d2,d3,d4,d7,⟨d5,d6⟩⟩;have hl:=aaS.out w' d5;rw [d6] at hl;clear d0 d1 d2 d3 d4 d5 d6 d7;simp only [execOp,kB];show kN (qi au (kR 26 (.pointer (some ⟨w.heap.size+1,0,none⟩))) w') _=_
       rw [hl];rfl
      go_simp;refine uf ?_;refine iQ rfl (fun K hK=>?_);go_simp;refine (aq HV _).mono ?_;rintro e w2 ⟨rfl,hb2⟩;have fY:ak wr.heap.size wr w2:=(((aA _ _).alloc (ax _) _).drew).trans (hb2.mono (by show wr.heap.size<=(wr.alloc _).heap.size;rw [aB];omega));have hbx:∀j x,#[cI .i64 (pk:Int),.int .i64 (pd:Int),.int .i64 (zU:Int),.int .i64 (pb:Int),.int .i64 (pV:Int)][j]? =some x->w2.cell? ⟨wr.heap.size,j,none⟩=some x:=fun j x hx=>
       (dZ hb2 _ _ (by show wr.heap.size<(wr.alloc _).heap.size;rw [aB];omega)).trans (e0 _ j x rfl hx)
      obtain ⟨r16,HE⟩:=eO.out w2 _ fY rfl;have cc:=r16.cell pd (by have:=OI.out;omega);have ff:=r16.frozen pd;have SY:=HRM.out.keep (fY.block _ HRM.out.lt);refine hK _ _ ⟨hbx 0 _ rfl,hbx 1 _ rfl,hbx 2 _ rfl,hbx 3 _ rfl,hbx 4 _ rfl,⟨r16.isRow 16 OI.out,r16.bW⟩,⟨SY.isRow 128 hm,SY.bW⟩⟩ ?_;have gL:=af HE;clear HE r16 hbx hK K e0 rI rD rI2 rD2 Kt aaS HV eO hb2 fY SY;unfold oy;go_wp2_with fail
      exact ⟨⟨k+1,by omega,by go_num,gL.out⟩,by simp [aI];omega⟩
     ·have hkn:k=p.size / 8:=by omega
      have hlt':¬(k:Int)<((p.size / 8:Nat):Int):=by omega
      obtain ⟨h7,hbl⟩:=Hq.out;rw [List.take_of_length_le (by omega)] at h7 lQ;have hDo:Hid ((dO p (p.size / 8)).foldl (oQ mem) (gj aF)=uT mem (dO p (p.size / 8)) (gj aF)):=rfl;generalize (dO p (p.size / 8)).foldl (oQ mem) (gj aF)=L at *;have ln:=lQ.1;have y0:=h7.cell 0 (by omega);have y1:=h7.cell 1 (by omega);have y2:=h7.cell 2 (by omega);have y3:=h7.cell 3 (by omega);have y4:=h7.cell 4 (by omega);have y5:=h7.cell 5 (by omega);have y6:=h7.cell 6 (by omega);have y7:=h7.cell 7 (by omega);have h6:aK wr (w.heap.size+1+1) 25 (zr 8):=Hp.out.keep (hbl.block _ Hp.out.lt);have rI:=h6.isRow 8 (rZ 8);have a8:=aaj;have HEq:Hid ([gz L 0,gz L 1,gz L 2,gz L 3,gz L 4,gz L 5,gz L 6,gz L 7]=L.take 8):=by
       unfold Hid
       match L,ln with
       | [n0,n1,n2,n3,n4,n5,n6,n7,n8,n9,n10,n11,n12,n13,n14,n15],_=>rfl
      have H6:=af h6;have Bo:=af (aJ.out.trans (hbl.mono aJ.out.size));clear h6 h7 hbl lQ hkn Hq;go_wp2_with (refine pU Es rfl _ _ rfl (w.heap.size+1+1) rfl [gz L 0,gz L 1,gz L 2,gz L 3,gz L 4,gz L 5,gz L 6,gz L 7] rfl rfl rI _ rfl ?_)
      refine cL (v:=.tuple #[.agg (S [gz L 0,gz L 1,gz L 2,gz L 3,gz L 4,gz L 5,gz L 6,gz L 7]),.int .i64 0]) (OG Yj _ _ (w.heap.size+1+1) _ rfl rfl (H6.out.EG _) _ rfl) rfl ⟨iI Bo.out (by omega) _,.inr (.inr ⟨CI.out,fj.out,?_⟩)⟩;rw [HEq.out,hDo.out]
   ·have aJ:Hid (ak w.heap.size w w1):=bM.out.trans (hb1.mono bM.out.size);have hz1:=hb1.size;have Hp:=af (dW.out.keep (hb1.block _ (by omega)));have HN:=af zY;clear hb1 zY jt H1 H2;go_wp2_with (refine pU Es rfl _ _ rfl (w.heap.size+1+1) rfl (zr 8) rfl (rZ 8) (Hp.out.isRow 8 (rZ 8)) _ rfl ?_)
    exact cL (v:=.tuple #[.agg (S (zr 8)),.int .i64 11]) (OG Yj _ _ (w.heap.size+1+1) (zr 8) (rZ 8) rfl (Hp.out.EG (zr 8)) _ rfl) rfl (Ez.out _ 11 (iI aJ.out (by omega) _) (Hp.out.EG (zr 8)) (.inr ⟨rfl,CI.out,HN.out⟩))
def Kz (c0 c1 c2 c3:Int):Bool:=decide (c0<1∨7<c0∨16<=c1∨16<=c2∨16<=c3)
def KA (c0 c2 c3:Int):Bool:=decide (c0=1∧(c2≠0∨c3≠0))
def KB (c0 k:Int):Bool:=decide (2<=c0∧c0<=5∧k≠0)
def KC (c0 c3 k:Int):Bool:=decide (c0=6∧(c3≠0∨4095<k))
def KD (c0 c3 k:Int):Bool:=decide (c0=7∧(c3≠0∨k≠0))
theorem ajO (x d a b k:Int):
 (lW x d a b k=true∧d<16∧a<16∧b<16∧((x=1∧a=0∧b=0)∨(2<=x∧x<=5∧k=0)∨(x=6∧b=0∧k<=4095)∨(x=7∧b=0∧k=0)))∨
 (lW x d a b k=false∧(x<1∨7<x∨16<=d∨16<=a∨16<=b∨(x=1∧(a≠0∨b≠0))∨(2<=x∧x<=5∧k≠0)∨(x=6∧(b≠0∨4095<k))∨(x=7∧(b≠0∨k≠0)))):=by
 unfold lW;by_cases h:(d<16∧a<16∧b<16∧((x=1∧a=0∧b=0)∨(2<=x∧x<=5∧k=0)∨(x=6∧b=0∧k<=4095)∨(x=7∧b=0∧k=0)))
 ·left;rw [decide_eq_true h];exact ⟨rfl,h⟩
 ·right;rw [decide_eq_false h];refine ⟨rfl,?_⟩;by_cases g1:x<1
  ·exact .inl g1
  right;by_cases g7:7<x
  ·exact .inl g7
  right;by_cases gd:16<=d
  ·exact .inl gd
  right;by_cases ga:16<=a
  ·exact .inl ga
  right;by_cases gb:16<=b
  ·exact .inl gb
  right;have hx:x=1∨(2<=x∧x<=5)∨x=6∨x=7:=by omega
  rcases hx with hx | hx | hx | hx
  ·exact .inl ⟨hx,by
    by_cases a0:a=0
    ·exact .inr fun e=>h ⟨by omega,by omega,by omega,.inl ⟨hx,a0,e⟩⟩
    ·exact .inl a0⟩
  ·exact .inr (.inl ⟨hx.1,hx.2,fun e=>h ⟨by omega,by omega,by omega,.inr (.inl ⟨hx.1,hx.2,e⟩)⟩⟩)
  ·exact .inr (.inr (.inl ⟨hx,by
    by_cases b0:b=0
    ·exact .inr (Int.not_le.1 fun e=>h ⟨by omega,by omega,by omega,.inr (.inr (.inl ⟨hx,b0,e⟩))⟩)
    ·exact .inl b0⟩))
  ·exact .inr (.inr (.inr ⟨hx,by
    by_cases b0:b=0
    ·exact .inr fun e=>h ⟨by omega,by omega,by omega,.inr (.inr (.inr ⟨hx,b0,e⟩))⟩
    ·exact .inl b0⟩))
theorem ajP (c0 c1 c2 c3 k:Int):((((Kz c0 c1 c2 c3 || KA c0 c2 c3) || KB c0 k) || KC c0 c3 k) || KD c0 c3 k)= !lW c0 c1 c2 c3 k:=by
 have h:=ajO c0 c1 c2 c3 k;rcases h with ⟨h,hc⟩ | ⟨h,hc⟩
 ·rw [h];simp only [Kz,KA,KB,KC,KD,Bool.or_eq_false_iff,Bool.not_true,decide_eq_false_iff_not];refine ⟨⟨⟨⟨?_,?_⟩,?_⟩,?_⟩,?_⟩<;>omega
 ·rw [h];simp only [Kz,KA,KB,KC,KD,Bool.or_eq_true,Bool.not_false,decide_eq_true_eq];omega
theorem ajQ (s:ByteArray) (w:World) (hs:s.size<=cP):
 av au 113 #[.string s] w (ZX s w):=by
 obtain ⟨inf,cJ,hz,cW,hby⟩:=G0;have gJ:=af cJ;have HZ:=af hz;have dR:=af cW;have gK:=af hby;clear cJ hz cW hby;unfold cP at hs;by_cases Kg:s.size<=80
 ·have Sr:decide ((80:Int)<(s.size:Int))=false:=by simp;omega
  by_cases h8:s.size % 8=0
  ·have h8':(s.size:Int) % 8=0:=by omega
   go_enter Tryz.func113,Tryz.ntmps113;go_wp2_with fail
   go_loopw [4,5] (fun v i wr=>∃k j:Nat,8 * k<=s.size∧j=8 * k∧i= .int .i64 j∧wr.ownsRow w.heap.size 123 5 v k (dM (dO s k))∧ak w.heap.size w wr∧Hid (∀q,q<k->iY (putAt s (8 * q)))) (fun _ i _=>s.size - (aI i).toNat)
   case atStart=>exact ⟨0,0,bK _,rfl,rfl,j7 _ _ _ _,aA _ _,fun q hq=>by omega⟩
   case round=>
    obtain ⟨k,j,hk,hj,rfl,hown,hbl,HG⟩:=hrel;obtain ⟨va,vc,hv⟩:=bA hown;subst hv;have HO:=af hown;have bU:=af hbl;have HJ:=af hj;have dY:=hbl.size;by_cases hlt:j<s.size
    ·have hlt':(j:Int)<(s.size:Int):=by omega
     have Ok:j+8<=s.size:=by omega
     have hkk:k<=10:=by omega
     have hr:=fun w'=>CG s (j+4) 4 w' (by decide) (by omega) (by omega);have e4:((j+4:Nat):Int)=(j:Int)+4:=by omega
     rw [e4] at hr;have HR:=af hr;clear hr hown hbl hj h8 h8' hk e4;have OJ:Hid (lW (bt s j) (bt s (j+1)) (bt s (j+2)) (bt s (j+3)) (aU s (j+4) 4)= @decide (iY (putAt s j)) (okDec _)):=ZU (putAt s j);have v1:IntKind.i64.wrap ((j:Int)+1)=((j+1:Nat):Int):=AP _ ⟨by omega,by omega⟩;have v2:IntKind.i64.wrap ((j:Int)+2)=((j+2:Nat):Int):=AP _ ⟨by omega,by omega⟩;have v3:IntKind.i64.wrap ((j:Int)+3)=((j+3:Nat):Int):=AP _ ⟨by omega,by omega⟩;have l1:j+1<s.size:=by omega
     have l2:j+2<s.size:=by omega
     have l3:j+3<s.size:=by omega
     have EK:Hid (j+8<=s.size):=Ok;clear Ok;have HS:Hid (dM (dO s (k+1))=dM (dO s k) ++ [.int .i64 (bt s j),.int .i64 (bt s (j+1)),.int .i64 (bt s (j+2)),.int .i64 (bt s (j+3)),.int .i64 (aU s (j+4) 4)]):=by
      unfold Hid;rw [Za,En,<-HJ.out];rfl
     generalize (aU s (j+4) 4:Int)=k4 at *;generalize j+1=j1 at *;generalize j+2=j2 at *;generalize j+3=j3 at *;have g0:=oW s j hlt;have g1:=oW s j1 l1;have g2:=oW s j2 l2;have g3:=oW s j3 l3;have q1:(j1:Int)<(s.size:Int):=by omega
     have q2:(j2:Int)<(s.size:Int):=by omega
     have q3:(j3:Int)<(s.size:Int):=by omega
     have b0:=nM s j;have b1:=nM s j1;have b2:=nM s j2;have b3:=nM s j3;have z0:IntKind.i64.wrap (bt s j:Int)=bt s j:=AP _ ⟨by omega,by omega⟩;have z1:IntKind.i64.wrap (bt s j1:Int)=bt s j1:=AP _ ⟨by omega,by omega⟩;have z2:IntKind.i64.wrap (bt s j2:Int)=bt s j2:=AP _ ⟨by omega,by omega⟩;have z3:IntKind.i64.wrap (bt s j3:Int)=bt s j3:=AP _ ⟨by omega,by omega⟩;go_wp2_with fail
     refine (aq HR _).mono ?_;rintro e w' ⟨rfl,hw⟩;obtain rfl:=hw.symm;go_wp2_with fail
     refine ug 21 2 (fun _=>True) (by kernel_rfl) (by kernel_rfl) (fun d _ _ _ _ h=>by cases d<;>exact h) trivial ?_;simp only [j5,jU,j6,iE]
     iterate 21
      refine mT ?_ rfl ?_ ?_
      rotate_left
      ·rintro w' d0;go_simp;rfl
      go_simp
     refine uf ?_
     iterate 2
      refine iQ rfl (fun K hK=>?_);go_simp;refine hK _ _ trivial ?_;clear hK K
     unfold oy;clear g0 g1 g2 g3 b0 b1 b2 b3 z0 z1 z2 z3 v1 v2 v3 l1 l2 l3 q1 q2 q3;generalize (bt s j:Int)=c0 at *;generalize (bt s j1:Int)=c1 at *;generalize (bt s j2:Int)=c2 at *;generalize (bt s j3:Int)=c3 at *;go_upto_region 9 with fail
     go_cut [8] from 18 to 140 (fun b wx=>b= .bool (Kz c0 c1 c2 c3)∧wx=(wr.alloc (.cells #[.int .i64 c0,.int .i64 c1,.int .i64 c2,.int .i64 c3,.int .i64 k4] 123)).drew)
     case first=>
      by_cases g1:c0<1
      ·go_wp2_with fail
       go_meet
       exact ⟨congrArg lV (decide_eq_true (by omega)).symm,rfl⟩
      have h1:decide (c0<1)=false:=by simpa using g1
      by_cases g7:7<c0
      ·go_wp2_with fail
       go_meet
       exact ⟨congrArg lV (decide_eq_true (by omega)).symm,rfl⟩
      have h7:decide (7<c0)=false:=by simpa using g7
      by_cases gd:16<=c1
      ·go_wp2_with fail
       go_meet
       exact ⟨congrArg lV (decide_eq_true (by omega)).symm,rfl⟩
      have hd:decide (16<=c1)=false:=by simpa using gd
      by_cases ga:16<=c2
      ·go_wp2_with fail
       go_meet
       exact ⟨congrArg lV (decide_eq_true (by omega)).symm,rfl⟩
      have ha:decide (16<=c2)=false:=by simpa using ga
      by_cases gb:16<=c3
      ·go_wp2_with fail
       go_meet
       exact ⟨congrArg lV (decide_eq_true (by omega)).symm,rfl⟩
      have hb:decide (16<=c3)=false:=by simpa using gb
      go_wp2_with fail
      go_meet
      exact ⟨congrArg lV (decide_eq_false (by omega)).symm,rfl⟩
     case rest=>
     obtain ⟨rfl,rfl⟩:=hcut;generalize wV:Kz c0 c1 c2 c3=e1 at *;have ye:=af wV;clear wV;go_upto_region 10 with fail
     go_cut [8] from 18 to 140 (fun b wx=>b= .bool (e1 || KA c0 c2 c3)∧wx=(wr.alloc (.cells #[.int .i64 c0,.int .i64 c1,.int .i64 c2,.int .i64 c3,.int .i64 k4] 123)).drew)
     case first=>
      cases e1
      ·by_cases g1:c0=1
       ·subst g1;by_cases ga:c2=0
        ·subst ga;by_cases gb:c3=0
         ·subst gb;go_wp2_with fail
          go_meet
          exact ⟨congrArg lV (by decide),rfl⟩
         ·have gb':(c3 == 0)=false:=by simpa using gb
          go_wp2_with fail
          go_meet
          exact ⟨congrArg lV ((bne_iff_ne.2 gb).trans (decide_eq_true (by omega)).symm),rfl⟩
        ·have ga':(c2 == 0)=false:=by simpa using ga
         go_wp2_with fail
         go_meet
         exact ⟨congrArg lV (decide_eq_true (by omega)).symm,rfl⟩
       ·have g1':(c0 == 1)=false:=by simpa using g1
        go_wp2_with fail
        go_meet
        exact ⟨congrArg lV (decide_eq_false (by omega)).symm,rfl⟩
      ·go_wp2_with fail
       go_meet
       exact ⟨rfl,rfl⟩
     case rest=>
     obtain ⟨rfl,rfl⟩:=hcut;generalize Hr:(e1 || KA c0 c2 c3)=e2 at *;have EL:=af Hr;clear Hr;go_upto_region 11 with fail
     go_cut [8] from 18 to 140 (fun b wx=>b= .bool (e2 || KB c0 k4)∧wx=(wr.alloc (.cells #[.int .i64 c0,.int .i64 c1,.int .i64 c2,.int .i64 c3,.int .i64 k4] 123)).drew)
     case first=>
      cases e2
      ·by_cases g2:2<=c0
       ·by_cases g5:c0<=5
        ·by_cases gk:k4=0
         ·subst gk;go_wp2_with fail
          go_meet
          exact ⟨congrArg lV (decide_eq_false (by omega)).symm,rfl⟩
         ·have gk':(k4 == 0)=false:=by simpa using gk
          go_wp2_with fail
          go_meet
          exact ⟨congrArg lV ((bne_iff_ne.2 gk).trans (decide_eq_true (by omega)).symm),rfl⟩
        ·have g5':decide (c0<=5)=false:=by simpa using g5
         go_wp2_with fail
         go_meet
         exact ⟨congrArg lV (decide_eq_false (by omega)).symm,rfl⟩
       ·have wL:decide (2<=c0)=false:=by simpa using g2
        go_wp2_with fail
        go_meet
        exact ⟨congrArg lV (decide_eq_false (by omega)).symm,rfl⟩
      ·go_wp2_with fail
       go_meet
       exact ⟨rfl,rfl⟩
     case rest=>
     obtain ⟨rfl,rfl⟩:=hcut;generalize Hs:(e2 || KB c0 k4)=e3 at *;have KE:=af Hs;clear Hs;go_upto_region 12 with fail
     go_cut [8] from 18 to 140 (fun b wx=>b= .bool (e3 || KC c0 c3 k4)∧wx=(wr.alloc (.cells #[.int .i64 c0,.int .i64 c1,.int .i64 c2,.int .i64 c3,.int .i64 k4] 123)).drew)
     case first=>
      cases e3
      ·by_cases g6:c0=6
       ·subst g6;by_cases gb:c3=0
        ·subst gb;by_cases gk:4095<k4
         ·go_wp2_with fail
          go_meet
          exact ⟨congrArg lV (decide_eq_true (by omega)).symm,rfl⟩
         ·have gk':decide (4095<k4)=false:=by simpa using gk
          go_wp2_with fail
          go_meet
          exact ⟨congrArg lV (decide_eq_false (by omega)).symm,rfl⟩
        ·have gb':(c3 == 0)=false:=by simpa using gb
         go_wp2_with fail
         go_meet
         exact ⟨congrArg lV (decide_eq_true (by omega)).symm,rfl⟩
       ·have g6':(c0 == 6)=false:=by simpa using g6
        go_wp2_with fail
        go_meet
        exact ⟨congrArg lV (decide_eq_false (by omega)).symm,rfl⟩
      ·go_wp2_with fail
       go_meet
       exact ⟨rfl,rfl⟩
     case rest=>
     obtain ⟨rfl,rfl⟩:=hcut;generalize zZ:(e3 || KC c0 c3 k4)=e4 at *;have vm:=af zZ;clear zZ;go_upto_region 13 with fail
     go_cut [8] from 18 to 140 (fun b wx=>b= .bool (e4 || KD c0 c3 k4)∧wx=(wr.alloc (.cells #[.int .i64 c0,.int .i64 c1,.int .i64 c2,.int .i64 c3,.int .i64 k4] 123)).drew)
     case first=>
      cases e4
      ·by_cases g7:c0=7
       ·subst g7;by_cases gb:c3=0
        ·subst gb;by_cases gk:k4=0
         ·subst gk;go_wp2_with fail
          go_meet
          exact ⟨congrArg lV (by decide),rfl⟩
         ·have gk':(k4 == 0)=false:=by simpa using gk
          go_wp2_with fail
          go_meet
          exact ⟨congrArg lV ((bne_iff_ne.2 gk).trans (decide_eq_true (by omega)).symm),rfl⟩
        ·have gb':(c3 == 0)=false:=by simpa using gb
         go_wp2_with fail
         go_meet
         exact ⟨congrArg lV (decide_eq_true (by omega)).symm,rfl⟩
       ·have g7':(c0 == 7)=false:=by simpa using g7
        go_wp2_with fail
        go_meet
        exact ⟨congrArg lV (decide_eq_false (by omega)).symm,rfl⟩
      ·go_wp2_with fail
       go_meet
       exact ⟨rfl,rfl⟩
     case rest=>
     obtain ⟨rfl,rfl⟩:=hcut;generalize hE5:(e4 || KD c0 c3 k4)=e5 at *;have EM:Hid (e5= !lW c0 c1 c2 c3 k4):=by
      unfold Hid;rw [<-ajP,ye.out,EL.out,KE.out,vm.out,hE5]
     clear hE5 ye EL KE vm;by_cases Bp:iY (putAt s j)
     ·have he:e5=false:=by have h1:=EM.out;have h2:=OJ.out;rw [@decide_eq_true _ (okDec _) Bp] at h2;rw [h1,h2];rfl
      subst he;have HK:Hid (∀q,q<k+1->iY (putAt s (8 * q))):=fun q hq=>by
       by_cases hqk:q=k
       ·subst hqk;rw [<-HJ.out];exact Bp
       ·exact HG.out q (by omega)
      clear Bp OJ EM;go_wp2_with (at_builtin;refine wpList_append_lies _ rfl _ _ 125 rfl w.heap.size 123 inf _ 5 40 Tryz.underlying125 gJ.out HZ.out dR.out gK.out rfl (by decide) (.slice va k vc) k (dM (dO s k)) rfl ((HO.out.alloc _).alloc _).drew ⟨wr.heap.size+1,0,none⟩ 1 1 [.int .i64 c0,.int .i64 c1,.int .i64 c2,.int .i64 c3,.int .i64 k4] rfl rfl (World.news_of_block (by have:=bg (wr.alloc (.cells #[.int .i64 c0,.int .i64 c1,.int .i64 c2,.int .i64 c3,.int .i64 k4] 123)) (.cells #[.int .i64 c0,.int .i64 c1,.int .i64 c2,.int .i64 c3,.int .i64 k4] 123);rw [aB] at this;exact this)) (fun u hu=>by simp at hu;rcases hu with rfl | rfl | rfl | rfl | rfl<;>rfl) (by decide) (by unfold cP;omega) (by omega) (by show w.heap.size<=((wr.alloc _).alloc _).heap.size;rw [aB,aB];omega) (wr.heap.size+1+1) (by show ((wr.alloc _).alloc _).heap.size=_;rw [aB,aB]) ?_;intro wL cap2 w3 jQ js nO sY;have iR:=af jQ;have j8:=af js;clear jQ js nO)
      refine ⟨⟨k+1,j+8,by have:=HJ.out;have:=EK.out;omega,by have:=HJ.out;omega,by go_num,?_,?_,HK⟩,by simp [aI];have:=EK.out;omega⟩
      ·rw [HS.out];exact iR.out
      ·exact (((bU.out.alloc dY _).alloc (by rw [aB];omega) _).drew).grown j8.out (by show w.heap.size<=((wr.alloc _).alloc _).heap.size;rw [aB,aB];omega) (fun q hq=>(aR HO.out q hq).1)
     ·have he:e5=true:=by have h1:=EM.out;have h2:=OJ.out;rw [@decide_eq_false _ (okDec _) Bp] at h2;rw [h1,h2];rfl
      subst he;have HN:Hid (¬oP s):=fun h=>Bp (by have:=h.2.2 k (by have:=HJ.out;have:=EK.out;omega);rw [<-HJ.out] at this;exact this);clear Bp OJ EM HS;go_wp2_with fail
      go_ret2
      exact ⟨(bU.out.alloc dY _).drew,.inr ⟨HN.out,rfl⟩⟩
    ·have hlt':¬(j:Int)<(s.size:Int):=by omega
     have hkn:k=s.size / 8:=by omega
     have CI:Hid (oP s):=⟨h8,Kg,fun q hq=>HG.out q (by omega)⟩;clear hown hbl hj hk;go_wp2_with fail
     go_ret2
     rw [hkn] at HO;exact ⟨bU.out,.inl ⟨CI.out,_,rfl,HO.out⟩⟩
  ·have h8':((s.size:Int) % 8 == 0)=false:=by simp;omega
   have HN:Hid (¬oP s):=fun h=>h8 h.1;go_enter Tryz.func113,Tryz.ntmps113;go_wp2_with fail
   go_ret2
   exact ⟨aA _ _,.inr ⟨HN.out,rfl⟩⟩
 ·have Sr:(80:Int)<(s.size:Int):=by omega
  have HN:Hid (¬oP s):=fun h=>Kg h.2.1;go_enter Tryz.func113,Tryz.ntmps113;go_wp2_with fail
  go_ret2
  exact ⟨aA _ _,.inr ⟨HN.out,rfl⟩⟩
end Go.Proofs.YtmmflekajbeamaaGreatDoor
