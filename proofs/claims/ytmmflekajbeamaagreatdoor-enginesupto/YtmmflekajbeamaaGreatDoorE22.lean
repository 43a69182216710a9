/- Texts of ours, joined, in few bytes. -/
import Derived.Test.YtmmflekajbeamaaGreatDoorE21
import Derived.RangeFuncNested
import Derived.RangeFuncBound
import Derived.Shelf.RegionOpen
import Derived.OwnWalkIn
import Derived.LoopNIn
import Derived.LoopIn
open Array renaming getElem?_eq_some_iff->iD,replicate_succ->YJ,replicate_zero->YK
open Bool renaming and_eq_true->gG
open Go renaming Addr->oo,Boxed->Gx,CallsIn->YH,Fence->YG,TypeId->cE,Value->aj,callsIn_wide->Gy,heap_alloc_new->bg,maxLen->cP,ownsRow_succ->RF,undef->fQ,wpListIn_append_own->RE
open Go.CallsIn renaming inRound->RH
open Go.Instr renaming loadAt->kR
open Go.KeepsOthers renaming setCell->AW
open Go.Proofs.Tryz renaming prog->au,underlying125->AR
open Go.Result renaming andThen_ok->DI
open Go.RowKit renaming Below->ak,intOf->aI
open Go.RowKit.Below renaming heap_alloc->cM,refl->aA
open Go.World renaming news_of_block->mP
open List renaming append_toArray->YM,cons_append->Jq,ext_getElem?->tU,getD_eq_getElem?_getD->bP,getElem?_eq_getElem->bE,getElem?_eq_none->lE,getElem?_eq_some_iff->fG,getElem?_set->rN,length_cons->jM,length_eq_zero_iff->Nq,length_nil->vT,length_set->lU,mem_range->mL,nil_append->Jr,push_toArray->YL,range->jL,set_append_right->tY,size_toArray->Gq
open Nat renaming le_refl->ax,le_succ->jk,le_succ_of_le->JR,le_trans->aT,reduceAdd->JH,reduceSub->YI,zero_le->bK
namespace Go.Proofs.YtmmflekajbeamaaGreatDoor
set_option maxRecDepth 100000
set_option maxHeartbeats 8000000
section
open Go.RowKit
def Fe (s:ByteArray) (w:World) (e':Ending) (w':World):Prop:=
 ak w.heap.size w w'∧((gi s∧e'= .returned (.tuple #[.string (ah (gQ (xR s))),.int .i64 0]))∨(¬gi s∧e'= .returned (.tuple #[.string (ah []),.int .i64 10])))
end
section
open Go.RowKit Go.Maps Go.WideMaps
def fB (l:List cD) (ws:List Nat):Option (List UInt8):=
 match (cu l).findIdx? (·== ws) with
 | some n=>some (l.getD n ([],[])).2
 | none=>none
theorem IP {l:List cD} {ws:List Nat} {p:List UInt8} (h:fB l ws=some p):∃n,l[n]? =some (ws,p)∧(cu l).findIdx? (·== ws)=some n:=by
 unfold fB at h;split at h
 ·rename_i n hq;obtain ⟨h1,h2,_⟩:=List.findIdx?_eq_some_iff_getElem.1 hq;have hn:n<l.length:=by unfold cu at h1;simpa using h1
  have he:l[n].1=ws:=by
   have:(cu l)[n]=l[n].1:=by simp [cu]
   rw [this] at h2;simpa using h2
  refine ⟨n,?_,hq⟩;rw [bE hn];have h3:(l.getD n ([],[])).2=p:=by simpa using h
  rw [bP,bE hn] at h3;have h4:l[n].2=p:=h3;rw [<-he,<-h4]
 ·cases h
theorem Vl {l:List cD} {ws:List Nat} (h:fB l ws=none):ws∉cu l:=fun hm=>by
 unfold fB at h;split at h
 ·cases h
 ·rename_i hq;have:=List.findIdx?_eq_none_iff.1 hq ws hm;simp at this
theorem adt (B N o:Nat) (l:List cD) (mv v:aj) (ws:List Nat) (w:World) (h:fE B N o l mv v w) (hw:gO ws) (hl:l.length<=1000000000000):
 Calls au 217 #[.pointer (some ⟨N,o,none⟩),.agg (S (aD ws))] w fun e' w'=>e'= .returned (.tuple #[.string (ah ((fB l ws).getD [])),.bool (fB l ws).isSome])∧ak w.heap.size w w':=by
 cases hq:fB l ws with
 | some p=>
   obtain ⟨n,hn,_⟩:=IP hq;exact amF B N o l mv v n (ws,p) w h hn hl
 | none=>exact amG B N o l mv v ws w h hw (Vl hq)
def LW (s p:List UInt8):Bool:=ox (ah s) && (decide (p.length % 8=0∧p.length<=80) && ((jL (p.length / 8)).all fun j=>@decide (iY (putAt (ah p) (8 * j))) (okDec _))) && decide ((gI (dD (ah s))).take 8=(gI (dO (ah p) (p.length / 8))).take 8)
theorem LX (s p:List UInt8):LW s p=true↔tD (ah s) (ah p) 0:=by
 have hp:(ah p).size=p.length:=bZ p;unfold LW tD oP;rw [hp,gG,gG,gG,zN,decide_eq_true_eq,decide_eq_true_eq,List.all_eq_true];constructor
 ·rintro ⟨⟨h1,⟨h2,h3⟩,h4⟩,h5⟩;exact .inr (.inr (.inl ⟨h1,⟨h2,h3,fun j hj=>@of_decide_eq_true _ (okDec _) (h4 j (mL.2 hj))⟩,h5,rfl⟩))
 ·rintro (⟨_,h⟩ | ⟨_,_,h⟩ | ⟨h1,⟨h2,h3,h4⟩,h5,_⟩ | ⟨_,_,_,h⟩)
  ·cases h
  ·cases h
  ·exact ⟨⟨h1,⟨h2,h3⟩,fun j hj=>@decide_eq_true _ (okDec _) (h4 j (mL.1 hj))⟩,h5⟩
  ·cases h
def dw (ws:List Nat):List UInt8:=gQ (xR (ah (aQ ws)))
def dh (g:ay) (i:Nat):ay:={g with c:=aE g.c i (g.c i+1)}
def qJ (g:ay) (i:Nat) (ws:List Nat) (p:List UInt8):ay:={g with b:=aE g.b i (jG (g.b i) ws p)}
def cB (g:ay) (ws:List Nat):ay×List UInt8:=
 match fB (g.b 0) ws with
 | some p=>if LW (aQ ws) p=true then (dh g 1,p) else (qJ (dh (dh g 2) 3) 1 ws (dw ws),dw ws)
 | none=>(qJ (dh g 3) 1 ws (dw ws),dw ws)
def dS (g:ay) (ws:List Nat):ay×List UInt8:=
 match fB (g.b 2) ws with
 | some p=>(dh g 0,p)
 | none=>(qJ (cB g ws).1 2 ws (cB g ws).2,(cB g ws).2)
def qd (g:ay) (k:Nat):Prop:=(∀i,i<3->(g.b i).length<=k)∧∀i,i<4->g.c i<=k
theorem qd.ct {g:ay} {k:Nat} (h:qd g k) (i:Nat):qd (dh g i) (k+1):=by
 refine ⟨fun j hj=>JR (h.1 j hj),fun j hj=>?_⟩;show aE g.c i (g.c i+1) j<=k+1
 by_cases e:j=i
 ·subst e;rw [cq];have:=h.2 j hj;omega
 ·rw [bp _ _ _ _ e];exact JR (h.2 j hj)
theorem adu (D:Nat) (g:ay) (i:Nat):∀k,nV k->k≠141+i->gU D (dh g i) k=gU D g k:=fun k hs hk=>by
 unfold nV at hs;unfold gU dh;by_cases h0:k<3
 ·have:k=0∨k=1∨k=2:=by omega
  rcases this with rfl | rfl | rfl<;>rfl
 ·simp only;rw [bp _ _ _ _ (by omega)]
def gD (E D:Nat) (m v:Nat->aj) (w:World) (g':ay) (w':World):Prop:=
 ∃m' v',bH E D g' m' v' w'∧aM (dc E m v) w w'∧∀x,dc E m' v' x->dc E m v x∨w.heap.size<=x
theorem gD.bh {E D:Nat} {g:ay} {m v:Nat->aj} {w w':World} (h:bH E D g m v w) (hb:ak w.heap.size w w'):gD E D m v w g w':=
 ⟨m,v,h.kept (fun x q=>hb.block x (h.has q).2),aM.bh hb,fun _ q=>.inl q⟩
theorem gD.bind {E D:Nat} {m v:Nat->aj} {w w1 w2:World} {g1 g2:ay} (h:gD E D m v w g1 w1) (k:∀m1 v1,bH E D g1 m1 v1 w1->gD E D m1 v1 w1 g2 w2):gD E D m v w g2 w2:=by
 obtain ⟨m1,v1,e1,c1,o1⟩:=h;obtain ⟨m2,v2,e2,c2,o2⟩:=k m1 v1 e1;refine ⟨m2,v2,e2,c1.trans o1 c2,fun x q=>?_⟩;rcases o2 x q with a | a
 ·exact o1 x a
 ·exact .inr (aT c1.size a)
theorem bH.ct {E D:Nat} {g:ay} {m v:Nat->aj} {w:World} (h:bH E D g m v w) (i:Nat) (hi:i<4) (W:World) (hW:W=w.setCell ⟨E,141+i,none⟩ (.int .i64 ((g.c i:Int)+1))):gD E D m v w (dh g i) W:=by
 refine ⟨m,v,?_,?_,fun _ q=>.inl q⟩
 ·rw [hW];refine h.set (141+i) (.inr (by omega)) (dh g i) rfl rfl (adu D g i) _ ?_;unfold gU dh;rw [if_neg (by omega),if_neg (by omega),if_neg (by omega),if_pos (by omega),Nat.add_sub_cancel_left];simp only [cq];rfl
 ·rw [hW];exact (aM.set w E _ _).weak (fun _ q=>.inl (.inl q))
theorem bH.lay {E D:Nat} {g:ay} {m v:Nat->aj} {w w':World} (h:bH E D g m v w) {i:Nat} (hi:i<3) {ws:List Nat} {p:List UInt8} {e:Ending} (hl:K7 E E (149+i * 2) (jG (g.b i) ws p) (m i) (v i) w e w'):e= .returned (.tuple #[])∧gD E D m v w (qJ g i ws p) w':=by
 obtain ⟨he,oB,v',hb,hf,own⟩:=hl;refine ⟨he,aE m i oB,aE v i v',h.book hi hb hf own,hf.bD.weak (fun x q=>?_),fun x q=>?_⟩
 ·rcases q with q | q
  ·exact .inl (.inl q)
  ·exact .inl (.inr ⟨i,hi,q⟩)
 ·rcases q with q | ⟨j,hj,q⟩
  ·exact .inl (.inl q)
  ·by_cases hji:j=i
   ·subst hji;rw [cq,cq] at q;rcases own x q with a | a
    ·exact .inl (.inr ⟨j,hj,a⟩)
    ·exact .inr a
   ·rw [bp _ _ _ _ hji,bp _ _ _ _ hji] at q;exact .inl (.inr ⟨j,hj,q⟩)
theorem Vm (w:World) (x:Nat) (z:List Int) (hz:z.length=9) (h:aK w x 187 z):(kR 187 (.pointer (some ⟨x,0,none⟩))).run au w= .ok (.agg (S z)) w:=by
 simp only [kR,Instr.sureAddr,Sem.run_bind,Sem.run_pure,DI];rw [run_loadVar_row w x 187 187 (S z) (0,0) _ h Tryz.underlying187 rfl (by rw [iT,bQ,hz])]
end
section
open Go.RowKit Go.Shelf
attribute [local go_sem] Oper.semAt_some
def Ff:aH:=⟨1,0,0,0,0⟩
theorem aog:okB Ff:=⟨by decide,by decide,by decide,by decide,by decide,by decide,⟨by decide,by decide,by decide,.inl ⟨rfl,rfl,rfl⟩⟩⟩
abbrev Ar:={x:Nat×aH // okB x.2}
def okBD (p:aH):Decidable (okB p):=by
 have h:=okDec p;unfold okB;exact inferInstance
def LY (ps:List aH) (i:Nat):Ar:=@dite Ar (okB (ps.getD i Ff)) (okBD _) (fun h=>⟨(i,ps.getD i Ff),h⟩) (fun _=>⟨(i,Ff),aog⟩)
theorem adw {ps:List aH} (hw:∀p∈ps,okB p) {i:Nat} (hi:i<ps.length):(LY ps i).1=(i,ps[i]):=by
 have e:ps.getD i Ff=ps[i]:=by rw [bP,bE hi];rfl
 have h:okB (ps.getD i Ff):=by rw [e];exact hw _ (List.getElem_mem _)
 unfold LY;rw [dif_pos h];show (i,ps.getD i Ff)=_
 rw [e]
def yJ (ps:List aH) (k:Nat):List Ar:=(jL k).map fun j=>LY ps (ps.length - 1 - j)
theorem Vn (ps:List aH) (k:Nat):yJ ps (k+1)=yJ ps k ++ [LY ps (ps.length - 1 - k)]:=by simp [yJ,List.range_succ]
theorem aoh (ps:List aH) (k:Nat):(yJ ps k).length=k:=by simp [yJ]
def sB (n₁ Bs:Nat) (W W':World):Prop:=ak n₁ W W'∧W'.heap[Bs]? =W.heap[Bs]?
theorem sB.refl (n₁ Bs:Nat) (W:World):sB n₁ Bs W W:=⟨aA _ _,rfl⟩
theorem sB.trans {n₁ Bs:Nat} {A B C:World} (h:sB n₁ Bs A B) (h':sB n₁ Bs B C):sB n₁ Bs A C:=⟨h.1.trans h'.1,h'.2.trans h.2⟩
theorem aoi (F:YG) (n:Nat) (hf:F.fn 256) (hro:F.round=none) (hn:1<=n) (l Bs n₀ g cap:Nat) (ps:List aH) (hw:∀p∈ps,okB p) (hl:ps.length<=8) (hb:g<n₀) (J Jx:List Ar->World->Prop)
 (hY:∀pre x W,J pre W->pre.length<ps.length->YieldAt F (n - 1) au l #[.int .i64 (x.1.1:Int),.agg (eM x.1.2)] W fun e W'=>
   (e= .returned (.bool true)∧J (pre ++ [x]) W'∧sB n₀ Bs W W')∨(e= .returned (.bool false)∧Jx (pre ++ [x]) W'))
 (W:World) (hc0:W.cell? ⟨Bs,0,none⟩=some (.slice (some ⟨g,0,none⟩) ps.length cap)) (hc:∀j p,ps[j]? =some p->W.rangeAt g (j * 5) (eM p).toList) (h0:J [] W):
 YH F n au 256 #[.func (.yield l) #[] #[],.pointer (some ⟨Bs,0,none⟩)] W fun e W'=>(∃v,e= .returned v)∧
  ((∃ys,ys=yJ ps ps.length∧J ys W')∨(∃pre,(∃k,k<=ps.length∧pre=yJ ps k)∧Jx pre W')):=by
 refine callsIn_of_wp Tryz.func256 rfl hf ?_ hro;simp only [Tryz.ntmps256,Gq,jM,vT,JH,YI,YJ,YK,YL,YM,Jr,Jq];have hl':(ps.length:Int)<=8:=by omega
 gi_wp2
 gi_loopw [3] (fun i wr=>∃k:Nat,k<=ps.length∧i= .int .i64 ((ps.length:Int) - 1 - k)∧J (yJ ps k) wr∧sB n₀ Bs W wr)
  (fun i _=>(aI i+1).toNat)
 case atStart=>exact ⟨0,bK _,by simp,h0,sB.refl _ _ _⟩
 case round=>
  obtain ⟨k,hk,rfl,LZ,Oj⟩:=hrel;have hcb:=(Hh 0 Oj.2).trans hc0;by_cases hlt:k<ps.length
  ·obtain ⟨i,hi⟩:∃i,ps.length - 1 - k=i:=⟨_,rfl⟩;have hii:(ps.length:Int) - 1 - (k:Int)=(i:Int):=by omega
   have hil:i<ps.length:=by omega
   have awe:(i:Int)<(ps.length:Int):=by omega
   obtain ⟨fn,tmps,assign,body,hy,hR⟩:=hY _ (LY ps i) wr LZ (by rw [aoh];exact hlt);rw [adw hw hil] at hy;have hx:ps[i]? =some ps[i]:=bE hil;have KK:=hc i ps[i] hx;have cx:∀j v,(eM ps[i]).toList[j]? =some v->wr.cell? ⟨g,i * 5+j,none⟩=some v:=fun j v hv=>(Oj.1.cell (p:=⟨g,i * 5+j,none⟩) hb).trans (KK j v hv);generalize ps[i]=p at *;obtain ⟨p0,p1,p2,p3,p4⟩:=p;have x0:wr.cell? ⟨g,i * 5,none⟩=some (.int .i64 (p0:Int)):=cx 0 _ rfl;have x1:wr.cell? ⟨g,i * 5+1,none⟩=some (.int .i64 (p1:Int)):=cx 1 _ rfl;have x2:wr.cell? ⟨g,i * 5+1+1,none⟩=some (.int .i64 (p2:Int)):=cx 2 _ rfl;have x3:wr.cell? ⟨g,i * 5+1+1+1,none⟩=some (.int .i64 (p3:Int)):=cx 3 _ rfl;have x4:wr.cell? ⟨g,i * 5+1+1+1+1,none⟩=some (.int .i64 (p4:Int)):=cx 4 _ rfl;simp only [eM] at hy;rw [hii];clear cx KK hx
   gi_wp2
   refine hR.mono ?_;rintro e W3 (⟨rfl,hJ3,hk3⟩ | ⟨rfl,aol⟩)
   ·gi_wp2
    go_roundw
    case rel=>exact ⟨k+1,by omega,by congr 1;omega,by rw [Vn,hi];exact hJ3,Oj.trans hk3⟩
    case measure=>simp [aI]
   ·gi_wp2
    refine bodyPost_ret (results_none rfl _ _ _) rfl ?_;exact ⟨⟨_,rfl⟩,.inr ⟨_,⟨k+1,by omega,by rw [Vn,hi]⟩,aol⟩⟩
  ·obtain rfl:k=ps.length:=by omega
   have hneg:¬(0:Int)<=(ps.length:Int) - 1 - (ps.length:Int):=by omega
   gi_wp2
   go_end0
   first
   | exact ⟨⟨_,rfl⟩,.inl ⟨_,rfl,LZ⟩⟩
   | exact ⟨⟨_,rfl⟩,.inl LZ⟩
theorem aom (F:YG) (n:Nat) (hf:F.fn 256) (hro:F.round=none) (l Bs:Nat) (a:Option oo) (cap:Nat) (J:List Ar->World->Prop) (W:World) (hc0:W.cell? ⟨Bs,0,none⟩=some (.slice a 0 cap)) (h0:J [] W):
 YH F n au 256 #[.func (.yield l) #[] #[],.pointer (some ⟨Bs,0,none⟩)] W fun e W'=>(∃v,e= .returned v)∧J [] W':=by
 refine callsIn_of_wp Tryz.func256 rfl hf ?_ hro;simp only [Tryz.ntmps256,Gq,jM,vT,JH,YI,YJ,YK,YL,YM,Jr,Jq]
 gi_wp2
 gi_loopw [3] (fun i wr=>i= .int .i64 (-1)∧J [] wr) (fun _ _=>0)
 case atStart=>exact ⟨rfl,h0⟩
 case round=>
  obtain ⟨rfl,LZ⟩:=hrel
  gi_wp2
  go_end0
  exact ⟨⟨_,rfl⟩,LZ⟩
theorem aon (F:YG) (n:Nat) (hf:F.fn 242) (hro:F.round=none) (a:Option oo) (len cap:Nat) (w:World):
 YH F n au 242 #[.slice a len cap] w fun e w'=>e= .returned (.func (.func 256) #[] #[.pointer (some ⟨w.heap.size,0,none⟩)])∧w'=w.alloc (.cells #[.slice a len cap] 125):=by
 refine callsIn_of_wp Tryz.func242 rfl hf ?_ hro;simp only [Tryz.ntmps242,Gq,jM,vT,JH,YI,YJ,YK,YL,YM,Jr,Jq]
 gi_wp2
 go_ret;exact ⟨rfl,rfl⟩
theorem aoo {w:World} {B g cap:Nat} {ps:List aH} (h:w.ownsRow B 123 5 (.slice (some ⟨g,0,none⟩) ps.length cap) ps.length (dM ps)) (j:Nat) (p:aH) (hj:ps[j]? =some p):w.rangeAt g (j * 5) (eM p).toList:=by
 intro i v hv;have hlt:j<ps.length:=(fG.1 hj).1;have hi:i<5:=(fG.1 hv).1;rw [h.cellAt _ (by omega)];have:=Oo (fun p=>(eM p).toList) 5 (fun _=>rfl) ps j p hj i hi;unfold dM;rw [this];exact hv
theorem aop (F:YG) (n:Nat) (hf:F.fn 256) (hro:F.round=none) (hn:1<=n) (B Bs n₀:Nat) (sv:aj) (ps:List aH) (hw:∀p∈ps,okB p) (hl:ps.length<=8) (w:World) (hBs:Bs<w.heap.size)
 (hc:w.cell? ⟨Bs,0,none⟩=some sv) (hI:w.ownsRow B 123 5 sv ps.length (dM ps)) (gN:∀g,sv.ownBlock=some g->g<n₀):
 SeqStopsK F n au 256 #[.pointer (some ⟨Bs,0,none⟩)] (fun x:Ar=>#[Value.int .i64 (x.1.1:Int),.agg (eM x.1.2)]) (sB n₀ Bs) (fun ys=>ys=yJ ps ps.length) (fun _=>True) ps.length w:=fun l J Jx W hW _ _ hY h0=>by
 have hc':=(hW.cell (p:=⟨Bs,0,none⟩) hBs).trans hc;by_cases hz:ps.length=0
 ·obtain rfl:ps=[]:=Nq.1 hz;obtain ⟨a,c,rfl⟩:=bA hI;exact (aom F n hf hro l Bs a c J W hc' h0).mono fun e W' ⟨he,hj⟩=>⟨he,.inl ⟨_,rfl,hj⟩⟩
 ·obtain ⟨g,cap,rfl,_,hgl⟩:=hI.form (by omega);refine (aoi F n hf hro hn l Bs n₀ g cap ps hw hl (gN g rfl) J Jx hY W hc' (fun j p hj=>aoo (dX hI hW) j p hj) h0).mono ?_;rintro e W' ⟨he,⟨ys,rfl,hj⟩ | ⟨pre,⟨k,hk,rfl⟩,hj⟩⟩
  ·exact ⟨he,.inl ⟨_,rfl,hj⟩⟩
  ·exact ⟨he,.inr ⟨_,trivial,hj⟩⟩
end
section
open Go.RowKit
def uE (l:List aH) (k:Nat):List aH:=(jL l.length).map fun m=>if m<k∨l.length - k<=m then l.getD (l.length - 1 - m) dP else l.getD m dP
theorem IQ (l:List aH) (k:Nat):(uE l k).length=l.length:=by simp [uE]
theorem IR (l:List aH) (k m:Nat) (h:m<l.length):(uE l k)[m]? =some (if m<k∨l.length - k<=m then l.getD (l.length - 1 - m) dP else l.getD m dP):=by
 unfold uE;rw [List.getElem?_map,List.getElem?_range h];rfl
theorem adx {l:List aH} {m:Nat} (h:m<l.length):l[m]? =some (l.getD m dP):=by rw [bP,bE h];rfl
theorem aor (l:List aH):uE l 0=l:=by
 apply tU;intro m;by_cases h:m<l.length
 ·rw [IR l 0 m h,if_neg (by omega),adx h]
 ·rw [lE (by rw [IQ];omega),lE (by omega)]
theorem aos (l:List aH) (k:Nat) (h:¬k+1+k<l.length):uE l k=l.reverse:=by
 apply tU;intro m;by_cases hm:m<l.length
 ·rw [IR l k m hm,List.getElem?_reverse hm,adx (by omega)];by_cases hc:m<k∨l.length - k<=m
  ·rw [if_pos hc]
  ·rw [if_neg hc,show l.length - 1 - m=m by omega]
 ·rw [lE (by rw [IQ];omega),lE (by simp;omega)]
theorem aot (l:List aH) (k:Nat) (h:k+1+k<l.length):((uE l k).set k (l.getD (l.length - 1 - k) dP)).set (l.length - 1 - k) (l.getD k dP)=uE l (k+1):=by
 apply tU;intro m;rw [rN,rN,lU,IQ];by_cases hm:m<l.length
 ·rw [IR l (k+1) m hm];by_cases h1:l.length - 1 - k=m
  ·rw [if_pos h1,if_pos (by omega),if_pos (by omega),show l.length - 1 - m=k by omega]
  ·rw [if_neg h1];by_cases h2:k=m
   ·rw [if_pos h2,if_pos (by omega),if_pos (by omega),h2]
   ·rw [if_neg h2,IR l k m hm];by_cases hc:m<k∨l.length - k<=m
    ·rw [if_pos hc,if_pos (by omega)]
    ·rw [if_neg hc,if_neg (by omega)]
 ·rw [if_neg (by omega),if_neg (by omega),lE (by rw [IQ];omega),lE (by rw [IQ];omega)]
def P6 (z:List aj) (o:Nat) (q:aH):List aj:=((((z.set o (.int .i64 (q.kind:Int))).set (o+1) (.int .i64 (q.d:Int))).set (o+1+1) (.int .i64 (q.a:Int))).set (o+1+1+1) (.int .i64 (q.b:Int))).set (o+1+1+1+1) (.int .i64 (q.k:Int))
theorem aou (a z:List aj) (o:Nat) (q:aH):P6 (a ++ z) (o+a.length) q=a ++ P6 z o q:=by
 unfold P6;rw [tY _ _ (by omega),tY _ _ (by omega),tY _ _ (by omega),tY _ _ (by omega),tY _ _ (by omega)];simp only [Nat.add_sub_cancel];rw [show o+a.length+1 - a.length=o+1 by omega,show o+a.length+1+1 - a.length=o+1+1 by omega,show o+a.length+1+1+1 - a.length=o+1+1+1 by omega,show o+a.length+1+1+1+1 - a.length=o+1+1+1+1 by omega]
theorem ady (q:aH):∀(l:List aH) (d:Nat),d<l.length->P6 (dM l) (d * 5) q=dM (l.set d q)
 | [],d,h=>by simp at h
 | p :: l,0,_=>rfl
 | p :: l,d+1,h=>by
   have e1:dM (p :: l)=(eM p).toList ++ dM l:=by simp [dM]
   have e2:dM ((p :: l).set (d+1) q)=(eM p).toList ++ dM (l.set d q):=by simp [dM]
   rw [e1,e2,show (d+1) * 5=d * 5+(eM p).toList.length by rw [Nat.succ_mul];rfl,aou,ady q l d (by simpa using h)]
theorem adz {w:World} {B g n cap:Nat} {l:List aH} (h:w.ownsRow B 123 5 (.slice (some ⟨g,0,none⟩) n cap) n (dM l)) (d:Nat) (hd:d<l.length) (q:aH):(w.setCells g (d * 5) (eM q).toList).ownsRow B 123 5 (.slice (some ⟨g,0,none⟩) n cap) n (dM (l.set d q)):=by
 rw [P2,<-ady q l d hd];exact (((((h.stored (d * 5) _).1.stored (d * 5+1) _).1.stored (d * 5+1+1) _).1.stored (d * 5+1+1+1) _).1.stored (d * 5+1+1+1+1) _).1
theorem mr {k j:Nat} (a b:Nat) (h:k<j) (ha:a<5):¬k * 5+a=j * 5+b:=by omega
theorem mw {k j:Nat} (a b:Nat) (h:k<j) (ha:a<5):¬j * 5+b=k * 5+a:=by omega
theorem aov (B g cap:Nat) (l:List aH) (w:World) (ho:w.ownsRow B 123 5 (.slice (some ⟨g,0,none⟩) l.length cap) l.length (dM l)) (hl:l.length<=8):
 Calls au 243 #[.slice (some ⟨g,0,none⟩) l.length cap] w fun e' w'=>e'= .returned (.tuple #[])∧w'.ownsRow B 123 5 (.slice (some ⟨g,0,none⟩) l.length cap) l.length (dM l.reverse)∧(∀g',g'≠g->w'.heap[g']? =w.heap[g']?)∧ak B w w':=by
 have HO:=af ho;have hl':(l.length:Int)<=8:=by omega
 clear ho;go_enter Tryz.func243,Tryz.ntmps243;go_wp2_with fail
 go_loopw [2,3] (fun i j wr=>∃k:Nat,k<=l.length∧i= .int .i64 k∧j= .int .i64 ((l.length:Int) - 1 - k)∧Hid (wr.ownsRow B 123 5 (.slice (some ⟨g,0,none⟩) l.length cap) l.length (dM (uE l k))∧(∀g',g'≠g->wr.heap[g']? =w.heap[g']?)∧ak B w wr)) (fun i _ _=>l.length - (aI i).toNat)
 case atStart=>exact ⟨0,bK _,rfl,by simp,by rw [aor];exact HO.out,fun _ _=>rfl,aA _ _⟩
 case round=>
  obtain ⟨k,hk,rfl,rfl,HR⟩:=hrel;by_cases hlt:k+1+k<l.length
  ·obtain ⟨j,hj⟩:∃j,l.length - 1 - k=j:=⟨_,rfl⟩;have hjj:(l.length:Int) - 1 - (k:Int)=(j:Int):=by omega
   have hjl:j<l.length:=by omega
   have L3:(j:Int)<(l.length:Int):=by omega
   have awf:(k:Int)<(l.length:Int):=by omega
   have hkj:(k:Int)<(j:Int):=by omega
   have fw:k<j:=by omega
   rw [hjj];obtain ⟨h1,h2,h3⟩:=HR.out;have e:(uE l k).length=l.length:=IQ l k;have h1':=h1;rw [<-e] at h1';have hxk:(uE l k)[k]? =some (l.getD k dP):=by rw [IR l k k (by omega),if_neg (by omega)]
   have hxj:(uE l k)[j]? =some (l.getD j dP):=by rw [IR l k j hjl,if_neg (by omega)]
   obtain ⟨x0,x1,x2,x3,x4⟩:=wP h1' k _ hxk;obtain ⟨y0,y1,y2,y3,y4⟩:=wP h1' j _ hxj;have fk0:wr.frozen? ⟨g,k * 5,none⟩=false:=h1.frozenAt _;have fj0:wr.frozen? ⟨g,j * 5,none⟩=false:=h1.frozenAt _;have fk1:wr.frozen? ⟨g,k * 5+1,none⟩=false:=h1.frozenAt _;have fj1:wr.frozen? ⟨g,j * 5+1,none⟩=false:=h1.frozenAt _;have fk2:wr.frozen? ⟨g,k * 5+2,none⟩=false:=h1.frozenAt _;have fj2:wr.frozen? ⟨g,j * 5+2,none⟩=false:=h1.frozenAt _;have fk3:wr.frozen? ⟨g,k * 5+3,none⟩=false:=h1.frozenAt _;have fj3:wr.frozen? ⟨g,j * 5+3,none⟩=false:=h1.frozenAt _;have fk4:wr.frozen? ⟨g,k * 5+4,none⟩=false:=h1.frozenAt _;have fj4:wr.frozen? ⟨g,j * 5+4,none⟩=false:=h1.frozenAt _;have hsucc:=aot l k hlt;rw [hj] at hsucc;generalize l.getD k dP=X at *;generalize l.getD j dP=Y at *;obtain ⟨X0,X1,X2,X3,X4⟩:=X;obtain ⟨Y0,Y1,Y2,Y3,Y4⟩:=Y;simp only at x0 x1 x2 x3 x4 y0 y1 y2 y3 y4;have HF:Hid (∀WF,WF=(wr.setCells g (k * 5) (eM ⟨Y0,Y1,Y2,Y3,Y4⟩).toList).setCells g (j * 5) (eM ⟨X0,X1,X2,X3,X4⟩).toList->(WF.drew.ownsRow B 123 5 (.slice (some ⟨g,0,none⟩) l.length cap) l.length (dM (uE l (k+1)))∧(∀g',g'≠g->WF.drew.heap[g']? =w.heap[g']?)∧ak B w WF.drew)):=by
    intro WF Vo;have hBg:B<=g:=(aR h1 g rfl).1;have f1:WF.ownsRow B 123 5 (.slice (some ⟨g,0,none⟩) l.length cap) l.length (dM (uE l (k+1))):=by
     rw [Vo,<-hsucc];exact adz (adz h1 k (by omega) _) j (by rw [lU];omega) _
    have f2:∀g',g'≠g->WF.heap[g']? =w.heap[g']?:=fun g' hg=>by
     rw [Vo,P3 _ _ _ _ _ hg,P3 _ _ _ _ _ hg,h2 g' hg]
    have f3:ak B w WF:=by
     rw [Vo];exact LD (LD h3 hBg _ _) hBg _ _
    exact ⟨dz f1 (fun _ _=>rfl),f2,f3.drew⟩
   have aoy:¬k * 5=j * 5:=mr 0 0 fw (by decide);have aoz:¬j * 5=k * 5:=mw 0 0 fw (by decide);have aoA:¬k * 5=j * 5+1:=mr 0 1 fw (by decide);have aoB:¬j * 5+1=k * 5:=mw 0 1 fw (by decide);have aoC:¬k * 5=j * 5+2:=mr 0 2 fw (by decide);have aoD:¬j * 5+2=k * 5:=mw 0 2 fw (by decide);have aoE:¬k * 5=j * 5+3:=mr 0 3 fw (by decide);have aoF:¬j * 5+3=k * 5:=mw 0 3 fw (by decide);have aoG:¬k * 5=j * 5+4:=mr 0 4 fw (by decide);have aoH:¬j * 5+4=k * 5:=mw 0 4 fw (by decide);have aoI:¬k * 5+1=j * 5:=mr 1 0 fw (by decide);have aoJ:¬j * 5=k * 5+1:=mw 1 0 fw (by decide);have aoK:¬k * 5+1=j * 5+1:=mr 1 1 fw (by decide);have aoL:¬j * 5+1=k * 5+1:=mw 1 1 fw (by decide);have aoM:¬k * 5+1=j * 5+2:=mr 1 2 fw (by decide);have aoN:¬j * 5+2=k * 5+1:=mw 1 2 fw (by decide);have aoO:¬k * 5+1=j * 5+3:=mr 1 3 fw (by decide);have aoP:¬j * 5+3=k * 5+1:=mw 1 3 fw (by decide);have aoQ:¬k * 5+1=j * 5+4:=mr 1 4 fw (by decide);have aoR:¬j * 5+4=k * 5+1:=mw 1 4 fw (by decide);have aoS:¬k * 5+2=j * 5:=mr 2 0 fw (by decide);have aoT:¬j * 5=k * 5+2:=mw 2 0 fw (by decide);have aoU:¬k * 5+2=j * 5+1:=mr 2 1 fw (by decide);have aoV:¬j * 5+1=k * 5+2:=mw 2 1 fw (by decide);have aoW:¬k * 5+2=j * 5+2:=mr 2 2 fw (by decide);have aoX:¬j * 5+2=k * 5+2:=mw 2 2 fw (by decide);have aoY:¬k * 5+2=j * 5+3:=mr 2 3 fw (by decide);have aoZ:¬j * 5+3=k * 5+2:=mw 2 3 fw (by decide);have ao0:¬k * 5+2=j * 5+4:=mr 2 4 fw (by decide);have ao1:¬j * 5+4=k * 5+2:=mw 2 4 fw (by decide);have ao2:¬k * 5+3=j * 5:=mr 3 0 fw (by decide);have ao3:¬j * 5=k * 5+3:=mw 3 0 fw (by decide);have ao4:¬k * 5+3=j * 5+1:=mr 3 1 fw (by decide);have ao5:¬j * 5+1=k * 5+3:=mw 3 1 fw (by decide);have ao6:¬k * 5+3=j * 5+2:=mr 3 2 fw (by decide);have ao7:¬j * 5+2=k * 5+3:=mw 3 2 fw (by decide);have ao8:¬k * 5+3=j * 5+3:=mr 3 3 fw (by decide);have ao9:¬j * 5+3=k * 5+3:=mw 3 3 fw (by decide);have apa:¬k * 5+3=j * 5+4:=mr 3 4 fw (by decide);have apb:¬j * 5+4=k * 5+3:=mw 3 4 fw (by decide);have apc:¬k * 5+4=j * 5:=mr 4 0 fw (by decide);have apd:¬j * 5=k * 5+4:=mw 4 0 fw (by decide);have ape:¬k * 5+4=j * 5+1:=mr 4 1 fw (by decide);have apf:¬j * 5+1=k * 5+4:=mw 4 1 fw (by decide);have apg:¬k * 5+4=j * 5+2:=mr 4 2 fw (by decide);have aph:¬j * 5+2=k * 5+4:=mw 4 2 fw (by decide);have api:¬k * 5+4=j * 5+3:=mr 4 3 fw (by decide);have apj:¬j * 5+3=k * 5+4:=mw 4 3 fw (by decide);have apk:¬k * 5+4=j * 5+4:=mr 4 4 fw (by decide);have apl:¬j * 5+4=k * 5+4:=mw 4 4 fw (by decide);clear h1 h1' h2 h3 e hxk hxj hlt hsucc;go_wp2_with fail
   go_region
   all_goals
    go_wp2_with fail
    clear aoy aoz aoA aoB aoC aoD aoE aoF aoG aoH aoI aoJ aoK aoL aoM aoN aoO aoP aoQ aoR aoS aoT aoU aoV aoW aoX aoY aoZ ao0 ao1 ao2 ao3 ao4 ao5 ao6 ao7 ao8 ao9 apa apb apc apd ape apf apg aph api apj apk apl;refine ⟨⟨k+1,by omega,by go_num,by congr 1;omega,?_⟩,by simp [aI];omega⟩;exact HF.out _ rfl
  ·have hkj:¬(k:Int)<(l.length:Int) - 1 - (k:Int):=by omega
   have HE:=af (aos l k hlt);clear hlt;go_wp2_with fail
   go_end0
   obtain ⟨h1,h2,h3⟩:=HR.out;rw [HE.out] at h1;exact ⟨rfl,h1,h2,h3⟩
theorem reverse_nil (a:Option oo) (cap:Nat) (w:World):
 Calls au 243 #[.slice a 0 cap] w fun e' w'=>e'= .returned (.tuple #[])∧w'=w:=by
 go_enter Tryz.func243,Tryz.ntmps243;go_wp2_with fail
 go_loopw [2,3] (fun i j wr=>i= .int .i64 0∧j= .int .i64 (-1)∧wr=w) (fun _ _ _=>0)
 case atStart=>exact ⟨rfl,rfl,rfl⟩
 case round=>
  obtain ⟨rfl,rfl,rfl⟩:=hrel;go_wp2_with fail
  go_end0
  exact ⟨rfl,rfl⟩
end
section
open Go.RowKit Go.Shelf
attribute [local go_sem] Oper.semAt_some
def uF (l:List Bool):Array aj:=(l.map Value.bool).toArray
theorem sB.put {n₁ Bs:Nat} {w:World} (hn:n₁<=w.heap.size) (hB:Bs<w.heap.size) (W:World) (l:Nat) (o o':Obj) (hl:w.heap.size<=l) (h:W.heap[l]? =some o) (h1:o.isCells=false) (h2:o.isWalk=false):sB n₁ Bs W (W.putObj l o'):=
 ⟨belowK_b (w:=w) hn W l o o' hl h h1 h2,by
   have:=(grownBy_putObj' W l o').block Bs (by have:=(iD.1 h).1;omega) (fun e=>by cases e;omega)
   exact this⟩
def fR (pre:List Ar):List aH:=(pre.map fun x=>x.1.2).reverse
theorem adB (pre:List Ar) (x:Ar):fR (pre ++ [x])=x.1.2 :: fR pre:=by simp [fR]
theorem apm {ps:List aH} (hw:∀p∈ps,okB p):∀k,k<=ps.length->fR (yJ ps k)=ps.drop (ps.length - k):=by
 intro k
 induction k with
 | zero=>intro _;rw [Nat.sub_zero,List.drop_length];rfl
 | succ k ih=>
   intro hk;rw [Vn,adB,ih (by omega),adw hw (by omega)];rw [show ps.length - (k+1)=ps.length - 1 - k by omega,List.drop_eq_getElem_cons (by omega:ps.length - 1 - k<ps.length),show ps.length - 1 - k+1=ps.length - k by omega]
theorem Vp {X Y:World} {row:Option Nat} {g:Nat} {c:Array aj} {t:cE} (h:X.heap[g]? =some (.cells c t (0,0))) (hg:X.grownBy Y row) (hr:∀r,row=some r->∃o:Obj,X.heap[r]? =some o∧o.isCells=false):Y.heap[g]? =some (.cells c t (0,0)):=by
 refine (hg.block g (iD.1 h).1 (fun e=>?_)).trans h;obtain ⟨o,ho,hc⟩:=hr g e.symm;rw [h] at ho;cases ho;cases hc
def L5 (w:World) (pa:Option oo) (pc n:Nat) (pre:List Ar) (W:World):Prop:=
 (((∃v,Gx W (w.heap.size+1) 125 v∧W.ownsRow w.heap.size 123 5 v (idle (fR pre)).length (dM (idle (fR pre)).reverse)∧True)∧W.heap[w.heap.size]? =some (.cells (uF (jD (fR pre))) 304 (0,0)))∧Gx W (w.heap.size+1+1) 125 (.slice pa n pc))∧ak w.heap.size w W
theorem apn (w:World):Own (fun (pre:List Ar) (W:World)=>W.heap[w.heap.size]? =some (.cells (uF (jD (fR pre))) 304 (0,0))):=fun _ _ _ _ hs hg hr=>Vp hs hg hr
theorem vF {W:World} {g:Nat} {t:cE} {l:List Bool} (h:W.heap[g]? =some (.cells (uF l) t (0,0))) (i:Nat) (hi:i<l.length):W.cell? ⟨g,i,none⟩=some (.bool (l.getD i false)):=by
 rw [cF h i,uF];simp [bE hi,bP]
theorem xA {W:World} {g:Nat} {t:cE} {l:List Bool} (h:W.heap[g]? =some (.cells (uF l) t (0,0))) (i:Nat):W.frozen? ⟨g,i,none⟩=false:=by simp [World.frozen?,h]
theorem yK {W:World} {g:Nat} {t:cE} {l:List Bool} (h:W.heap[g]? =some (.cells (uF l) t (0,0))) (i:Nat) (b:Bool):(W.setCell ⟨g,i,none⟩ (.bool b)).heap[g]? =some (.cells (uF (l.set i b)) t (0,0)):=by
 obtain ⟨hlt,hk⟩:=iD.1 h;show (W.heap.modify g _)[g]? =_
 rw [Array.getElem?_eq_getElem (by rw [Array.size_modify];exact hlt),Array.getElem_modify_self,hk];simp [uF,List.map_set]
theorem L5.own (w:World) (pa:Option oo) (pc n:Nat) (W0:World) (h:w.heap.size<=W0.heap.size):OwnFrom W0.heap.size (L5 w pa pc n):=
 OwnFrom.and (OwnFrom.and (OwnFrom.and (Own.from (holdsRow_own w.heap.size (w.heap.size+1) 125 123 5 (fun pre=>(idle (fR pre)).length) (fun pre=>dM (idle (fR pre)).reverse) (fun _ _=>True)) _) (Own.from (apn w) _)) (Own.from (boxed_own _ _ _) _)) (ownFrom_below (ax _) h)
theorem apo (B:Nat) (pa:Option oo) (pc:Nat) (ps:List aH) (w:World) (ho:w.ownsRow B 123 5 (.slice pa ps.length pc) ps.length (dM ps)) (hl:ps.length<=8) (hw:∀p∈ps,okB p):
 YH Fence.wide 6 au 214 #[.slice pa ps.length pc] w fun e' w'=>ak w.heap.size w w'∧∃v,e'= .returned v∧w'.ownsRow w.heap.size 123 5 v (idle ps).length (dM (idle ps)):=by
 refine callsIn_of_wp_marks Tryz.func214 rfl trivial ?_ rfl;simp only [Tryz.ntmps214,Gq,jM,vT,JH,YI,YJ,YK,YL,YM,Jr,Jq]
 gi_wp2
 refine ⟨trivial,(aon Fence.wide 5 trivial rfl _ _ _ _).mono ?_⟩;rintro e w' ⟨rfl,rfl⟩
 gi_wp2
 obtain ⟨W0,bq⟩:∃W0,((w.alloc (.cells #[.bool true,.bool true,.bool true,.bool true,.bool true,.bool true,.bool true,.bool true] 304)).alloc (.cells #[.slice none 0 0] 125)).alloc (.cells #[.slice pa ps.length pc] 125)=W0:=⟨_,rfl⟩;have hsz:W0.heap.size=w.heap.size+3:=by rw [<-bq];simp
 have hB0:ak w.heap.size w W0:=by rw [<-bq];exact (((aA _ w).alloc (ax _) _).alloc (by simp) _).alloc (by simp;omega) _
 have bN:W0.heap[w.heap.size]? =some (.cells (uF (jD (fR []))) 304 (0,0)):=by
  rw [<-bq,cM _ _ _ (by simp;omega),cM _ _ _ (by simp),bg];rfl
 have bL:Gx W0 (w.heap.size+1) 125 (.slice none 0 0):=by
  rw [<-bq];have:=(Boxed.new (w.alloc (.cells #[.bool true,.bool true,.bool true,.bool true,.bool true,.bool true,.bool true,.bool true] 304)) 125 (.slice none 0 0)).alloc (.cells #[.slice pa ps.length pc] 125);rw [World.size_alloc] at this;exact this
 have bS:Gx W0 (w.heap.size+1+1) 125 (.slice pa ps.length pc):=by
  rw [<-bq];have:=Boxed.new ((w.alloc (.cells #[.bool true,.bool true,.bool true,.bool true,.bool true,.bool true,.bool true,.bool true] 304)).alloc (.cells #[.slice none 0 0] 125)) 125 (.slice pa ps.length pc);simp only [World.size_alloc] at this;exact this
 rw [bq];clear bq;have hO0:=dX ho hB0;refine wpIn_rangeFunc_ownH rfl (by decide) (gf:=256) (lb:=#[.pointer (some ⟨w.heap.size+1+1,0,none⟩)]) rfl trivial (enters_of Tryz.func256 (by kernel_rfl) rfl)
  (aop Fence.wide 5 trivial rfl (by decide) B (w.heap.size+1+1) w.heap.size (.slice pa ps.length pc) ps hw hl W0 (by omega) bS.cell hO0 (fun g hg=>(aR ho g hg).2)) sB.trans (sB.put (by omega) (by omega)) (aA _ _) (fun _=>rfl)
  (L5 w pa pc ps.length) (fun _ _ _=>False) (L5.own w pa pc ps.length W0 (by omega)) (fun _ _ _ _ _ hs _ _=>hs)
  ⟨⟨⟨⟨_,bL,World.ownsRow_nil _ _ _ _,trivial⟩,bN⟩,bS⟩,hB0⟩
  (fun x a' W=>∃Bx,w.heap.size+1+1<Bx∧W.heap[Bx]? =some (.cells (eM x.1.2) 123 (0,0))∧(∃v,Gx W (w.heap.size+1) 125 v∧v.ownBlock≠some Bx)∧a'= {tmps:=#[.slice pa ps.length pc,fQ,.slice none 0 0,.pointer (some ⟨w.heap.size,0,none⟩),.pointer (some ⟨w.heap.size+1,0,none⟩),fQ,.pointer (some ⟨Bx,0,none⟩),.agg #[.bool true,.bool true,.bool true,.bool true,.bool true,.bool true,.bool true,.bool true],.slice pa ps.length pc,.func (.func 256) #[] #[.pointer (some ⟨w.heap.size+1+1,0,none⟩)],.int .i64 (x.1.1:Int),.agg (eM x.1.2),fQ,fQ,fQ,fQ,fQ,fQ,fQ,fQ,fQ,fQ,fQ,fQ,fQ,fQ,fQ,fQ,fQ,fQ,fQ,fQ,fQ,fQ,fQ,fQ,fQ,fQ,fQ],defers:=[]})
  (fun x a' _ X Y row hs hg hr=>by obtain ⟨Bx,h1,h2,⟨v,h4,h5⟩,h3⟩:=hs;exact ⟨Bx,h1,Vp h2 hg (fun r e=>(hr r e).2),⟨v,Vp h4 hg (fun r e=>(hr r e).2),h5⟩,h3⟩)
  ?assign ?body ?done ?stop
 case assign=>
  rintro l pre x W K ⟨⟨⟨⟨v,hv,hrow,_⟩,hnd⟩,hbs⟩,dJ⟩ hK;obtain ⟨⟨xi,p0,p1,p2,p3,p4⟩,hx⟩:=x;have hpv:eM ⟨p0,p1,p2,p3,p4⟩=#[.int .i64 (p0:Int),.int .i64 (p1:Int),.int .i64 (p2:Int),.int .i64 (p3:Int),.int .i64 (p4:Int)]:=rfl;have hlS:=hbs.lt
  gi_wp2
  exact hK _ _ ((KeepsOthers.alloc _ _).from _) ⟨(aA _ W).alloc dJ.size _,cM W _ _ hlS⟩ ⟨⟨⟨⟨v,hv.alloc _,hrow.alloc _,trivial⟩,(cM W _ _ (iD.1 hnd).1).trans hnd⟩,hbs.alloc _⟩,dJ.alloc dJ.size _⟩ ⟨W.heap.size,hlS,bg W _,⟨v,hv.alloc _,fun e=>by have:=(aR hrow _ e).2;omega⟩,rfl⟩
 case body=>
  rintro l pre x a' W hl ⟨r,hr⟩ ⟨⟨⟨⟨v,hv,hrow,_⟩,hnd⟩,hbs⟩,dJ⟩ ⟨Bx,hBx,bX,⟨v2,aps,hne⟩,rfl⟩ hlt;obtain rfl:v2=v:=by
   have:=aps.symm.trans hv;simpa using this
  have Eh:=adB pre x;obtain ⟨⟨xi,p0,p1,p2,p3,p4⟩,hx⟩:=x;have hok:=hx;obtain ⟨k1,k6,d8,a8,b8,kb,_⟩:=hx;simp only at Eh k1 k6 d8 a8 b8;have hpv:eM ⟨p0,p1,p2,p3,p4⟩=#[.int .i64 (p0:Int),.int .i64 (p1:Int),.int .i64 (p2:Int),.int .i64 (p3:Int),.int .i64 (p4:Int)]:=rfl;have x0:W.cell? ⟨Bx,0,none⟩=some (.int .i64 (p0:Int)):=cF bX 0;have x1:W.cell? ⟨Bx,1,none⟩=some (.int .i64 (p1:Int)):=cF bX 1;have x2:W.cell? ⟨Bx,2,none⟩=some (.int .i64 (p2:Int)):=cF bX 2;have x3:W.cell? ⟨Bx,3,none⟩=some (.int .i64 (p3:Int)):=cF bX 3;have x4:W.cell? ⟨Bx,4,none⟩=some (.int .i64 (p4:Int)):=cF bX 4;have cn:=vF hnd p1 (by rw [rR];exact d8);rw [ag2 _ _ d8] at cn;have d8':(p1:Int)<8:=by omega
  have a8':(p2:Int)<8:=by omega
  have b8':(p3:Int)<8:=by omega
  cases hq:nd (fR pre) p1
  ·rw [hq] at cn
   gi_wp2
   refine ⟨KeepsFrom.refl _ _,sB.refl _ _ _,⟨⟨⟨v2,hv,?_,trivial⟩,?_⟩,hbs⟩,dJ⟩
   ·rw [Eh,idle,if_neg (by show ¬nd (fR pre) p1=true;rw [hq];decide)];exact hrow
   ·rw [Eh,ag3 (show nd (fR pre) (⟨p0,p1,p2,p3,p4⟩:aH).d=false from hq)];exact hnd
  ·rw [hq] at cn;have hc:=hv.cell;have aws:(idle (fR pre)).length<=8:=by
    have h1:=NK (fR pre);have h2:(fR pre).length=pre.length:=by simp [fR]
    omega
   have hkeep:=ag4 (ps:=fR pre) hok hq;have apv:idle (fR (pre ++ [⟨(xi,⟨p0,p1,p2,p3,p4⟩),hok⟩]))=⟨p0,p1,p2,p3,p4⟩ :: idle (fR pre):=by
    rw [Eh,idle,if_pos (show nd (fR pre) (⟨p0,p1,p2,p3,p4⟩:aH).d=true from hq)]
   have C6:=dJ.size;have hlB:=(iD.1 bX).1;have hlN:=(iD.1 hnd).1;have n1:Bx≠w.heap.size:=by omega
   have n2:Bx≠w.heap.size+1:=by omega
   have n3:w.heap.size+1≠w.heap.size:=by omega
   have L7:Hid (∀w1 g' cap' xs,w1.ownsRow w.heap.size 123 5 (.slice (some ⟨g',0,none⟩) ((idle (fR pre)).length+1) cap') ((idle (fR pre)).length+1) (dM (idle (fR pre)).reverse ++ [.int .i64 (p0:Int),.int .i64 (p1:Int),.int .i64 (p2:Int),.int .i64 (p3:Int),.int .i64 (p4:Int)])->(W.alloc xs).grownBy w1 v2.ownBlock->
    (∀j,w1.cell? ⟨Bx,j,none⟩=W.cell? ⟨Bx,j,none⟩)∧w1.heap[w.heap.size]? =some (.cells (uF (jD (fR pre))) 304 (0,0))∧(∀W',W'.heap[w.heap.size]? =some (.cells (uF (jD (⟨p0,p1,p2,p3,p4⟩ :: fR pre))) 304 (0,0))->(∀g,g≠w.heap.size->W'.heap[g]? =(w1.setCell ⟨w.heap.size+1,0,none⟩ (.slice (some ⟨g',0,none⟩) ((idle (fR pre)).length+1) cap')).heap[g]?)->ak w.heap.size w1 W'->KeepsOthers (w1.setCell ⟨w.heap.size+1,0,none⟩ (.slice (some ⟨g',0,none⟩) ((idle (fR pre)).length+1) cap')) W'->KeepsFrom W0.heap.size W W'∧sB w.heap.size (w.heap.size+1+1) W W'∧L5 w pa pc ps.length (pre ++ [⟨(xi,⟨p0,p1,p2,p3,p4⟩),hok⟩]) W')):=by
    intro w1 g' cap' xs hown' hgrow;obtain ⟨hv1,hv2,eS,hk2,hb2⟩:=hv.appended (by decide) hrow dJ.size (by omega) hown' hgrow;have fJ:w1.heap[w.heap.size]? =some (.cells (uF (jD (fR pre))) 304 (0,0)):=by
     refine ((hgrow.block _ (by rw [aB];omega) (fun e=>?_)).trans (cM W _ _ hlN)).trans hnd;obtain ⟨cur,hcur⟩:=wK hrow _ e.symm;rw [hnd] at hcur;cases hcur
    have Vq:Gx w1 (w.heap.size+1+1) 125 (.slice pa ps.length pc):=(hbs.alloc xs).kept hgrow (hbs.not_row (by decide) hrow);refine ⟨fun j=>?_,fJ,fun W' q1 q2 q3 q4=>?_⟩
    ·refine Hh j ((hgrow.block Bx (by rw [aB];omega) (fun e=>hne e.symm)).trans (cM W _ _ hlB))
    ·have hS':Gx W' (w.heap.size+1+1) 125 (.slice pa ps.length pc):=(q2 _ (by omega)).trans ((dU _ _ (by omega)).trans Vq);have hbW:ak w.heap.size W W':=by
      have h1:ak w.heap.size W w1:=((aA _ W).alloc C6 _).grown hgrow (by rw [aB];omega) (fun q hq=>(aR hrow q hq).1);exact h1.trans q3
     refine ⟨((hk2.trans q4).from _),⟨hbW,hS'.trans hbs.symm⟩,⟨⟨⟨_,(q2 _ (by omega)).trans hv2,?_,trivial⟩,?_⟩,hS'⟩,dJ.trans hbW⟩
     ·rw [apv];have:dM (⟨p0,p1,p2,p3,p4⟩ :: idle (fR pre)).reverse=dM (idle (fR pre)).reverse ++ [.int .i64 (p0:Int),.int .i64 (p1:Int),.int .i64 (p2:Int),.int .i64 (p3:Int),.int .i64 (p4:Int)]:=by
       rw [List.reverse_cons,En];rfl
      rw [this];refine dz eS (fun g hg=>q2 g (fun e=>?_));subst e;obtain ⟨cur,hcur⟩:=wK eS _ hg;rw [show (w1.setCell ⟨w.heap.size+1,0,none⟩ _).heap[w.heap.size]? =_ from (dU _ _ (by omega)).trans fJ] at hcur;cases hcur
     ·rw [Eh];exact q1
   obtain ⟨va,vc,hvv⟩:=bA hrow;subst hvv;have hIn:=G0;obtain ⟨inf,cJ,hz,cW,hby⟩:=hIn;have hkd:p0=1∨p0=6∨(2<=p0∧p0<=5):=by omega
   rcases hkd with rfl | rfl | ⟨h2,h5⟩
   ·have hA:qq 1=false:=by decide
    have Fg:Hid (sU ⟨1,p1,p2,p3,p4⟩ (jD (fR pre))=(jD (fR pre)).set p1 false):=by unfold Hid sU lI;simp
    have vG:=af hkeep;clear hkeep
    gi_wp2_with (gi_at_builtin;refine RE _ rfl _ _ 125 rfl w.heap.size 123 inf _ 5 40 AR cJ hz cW hby rfl (by decide) _ _ _ rfl (hrow.alloc _) ⟨W.heap.size,0,none⟩ 1 1 [.int .i64 1,.int .i64 (p1:Int),.int .i64 (p2:Int),.int .i64 (p3:Int),.int .i64 (p4:Int)] rfl rfl (mP (bg W _)) (fun u hu=>by simp at hu;rcases hu with rfl | rfl | rfl | rfl | rfl<;>rfl) (by unfold cP;omega) (by omega) (by rw [aB];omega) ?_;intro v' w1 hown' hgrow _;obtain ⟨g',cap',rfl⟩:=RF hown';obtain ⟨hb0,fJ,cR⟩:=L7.out w1 g' cap' _ hown' hgrow;have y0:=(hb0 0).trans x0;have y1:=(hb0 1).trans x1;have y2:=(hb0 2).trans x2;have y3:=(hb0 3).trans x3;have hc1:w1.cell? ⟨w.heap.size+1,0,none⟩=some (.slice va (idle (fR pre)).length vc):=(hv.appended (by decide) hrow dJ.size (by omega) hown' hgrow).1.cell;have hf1:w1.frozen? ⟨w.heap.size+1,0,none⟩=false:=(hv.appended (by decide) hrow dJ.size (by omega) hown' hgrow).1.frozen;have IU:=vF fJ p1 (by rw [rR];exact d8);have IV:=xA fJ p1;have IW:=vF fJ p2 (by rw [rR];exact a8);have IX:=xA fJ p2;have HE:=af cR;have qv:=af fJ;clear hb0 cR fJ hgrow hown')
    refine ⟨trivial,(RH l (Gy.2 (CH 1 _))).mono ?_⟩;rintro e w' ⟨rfl,hw'⟩;obtain rfl:=hw'.symm
    gi_wp2
    refine HE.out _ ?_ (fun g hg=>dU _ _ hg) (((aA _ _).setCell (p:=⟨w.heap.size+1,0,none⟩) (jk _) _).setCell (p:=⟨w.heap.size,p1,none⟩) (ax _) _) (AW _ _ _);rw [vG.out,Fg.out];exact yK ((dU _ _ (by omega)).trans qv.out) p1 false
   ·have hA:qq 6=false:=by decide
    have Fg:Hid (sU ⟨6,p1,p2,p3,p4⟩ (jD (fR pre))=((jD (fR pre)).set p1 false).set p2 true):=by unfold Hid sU lI;simp
    have vG:=af hkeep;clear hkeep;by_cases hpa:p2=p1
    ·subst hpa
     gi_wp2_with (gi_at_builtin;refine RE _ rfl _ _ 125 rfl w.heap.size 123 inf _ 5 40 AR cJ hz cW hby rfl (by decide) _ _ _ rfl (hrow.alloc _) ⟨W.heap.size,0,none⟩ 1 1 [.int .i64 6,.int .i64 (p2:Int),.int .i64 (p2:Int),.int .i64 (p3:Int),.int .i64 (p4:Int)] rfl rfl (mP (bg W _)) (fun u hu=>by simp at hu;rcases hu with rfl | rfl | rfl | rfl | rfl<;>rfl) (by unfold cP;omega) (by omega) (by rw [aB];omega) ?_;intro v' w1 hown' hgrow _;obtain ⟨g',cap',rfl⟩:=RF hown';obtain ⟨hb0,fJ,cR⟩:=L7.out w1 g' cap' _ hown' hgrow;have y0:=(hb0 0).trans x0;have y1:=(hb0 1).trans x1;have y2:=(hb0 2).trans x2;have y3:=(hb0 3).trans x3;have hc1:w1.cell? ⟨w.heap.size+1,0,none⟩=some (.slice va (idle (fR pre)).length vc):=(hv.appended (by decide) hrow dJ.size (by omega) hown' hgrow).1.cell;have hf1:w1.frozen? ⟨w.heap.size+1,0,none⟩=false:=(hv.appended (by decide) hrow dJ.size (by omega) hown' hgrow).1.frozen;have IU:=vF fJ p2 (by rw [rR];exact d8);have IV:=xA fJ p2;have IW:=vF fJ p2 (by rw [rR];exact a8);have IX:=xA fJ p2;have HE:=af cR;have qv:=af fJ;clear hb0 cR fJ hgrow hown')
     refine ⟨trivial,(RH l (Gy.2 (CH 6 _))).mono ?_⟩;rintro e w' ⟨rfl,hw'⟩;obtain rfl:=hw'.symm
     gi_wp2
     refine HE.out _ ?_ (fun g hg=>(dU _ _ hg).trans (dU _ _ hg)) ((((aA _ _).setCell (p:=⟨w.heap.size+1,0,none⟩) (jk _) _).setCell (p:=⟨w.heap.size,p2,none⟩) (ax _) _).setCell (p:=⟨w.heap.size,p2,none⟩) (ax _) _) ((AW _ _ _).trans (AW _ _ _));rw [vG.out,Fg.out];exact yK (yK ((dU _ _ (by omega)).trans qv.out) p2 false) p2 true
    ·have apz:¬p1=p2:=fun e=>hpa e.symm
     gi_wp2_with (gi_at_builtin;refine RE _ rfl _ _ 125 rfl w.heap.size 123 inf _ 5 40 AR cJ hz cW hby rfl (by decide) _ _ _ rfl (hrow.alloc _) ⟨W.heap.size,0,none⟩ 1 1 [.int .i64 6,.int .i64 (p1:Int),.int .i64 (p2:Int),.int .i64 (p3:Int),.int .i64 (p4:Int)] rfl rfl (mP (bg W _)) (fun u hu=>by simp at hu;rcases hu with rfl | rfl | rfl | rfl | rfl<;>rfl) (by unfold cP;omega) (by omega) (by rw [aB];omega) ?_;intro v' w1 hown' hgrow _;obtain ⟨g',cap',rfl⟩:=RF hown';obtain ⟨hb0,fJ,cR⟩:=L7.out w1 g' cap' _ hown' hgrow;have y0:=(hb0 0).trans x0;have y1:=(hb0 1).trans x1;have y2:=(hb0 2).trans x2;have y3:=(hb0 3).trans x3;have hc1:w1.cell? ⟨w.heap.size+1,0,none⟩=some (.slice va (idle (fR pre)).length vc):=(hv.appended (by decide) hrow dJ.size (by omega) hown' hgrow).1.cell;have hf1:w1.frozen? ⟨w.heap.size+1,0,none⟩=false:=(hv.appended (by decide) hrow dJ.size (by omega) hown' hgrow).1.frozen;have IU:=vF fJ p1 (by rw [rR];exact d8);have IV:=xA fJ p1;have IW:=vF fJ p2 (by rw [rR];exact a8);have IX:=xA fJ p2;have HE:=af cR;have qv:=af fJ;clear hb0 cR fJ hgrow hown')
     refine ⟨trivial,(RH l (Gy.2 (CH 6 _))).mono ?_⟩;rintro e w' ⟨rfl,hw'⟩;obtain rfl:=hw'.symm
     gi_wp2
     refine HE.out _ ?_ (fun g hg=>(dU _ _ hg).trans (dU _ _ hg)) ((((aA _ _).setCell (p:=⟨w.heap.size+1,0,none⟩) (jk _) _).setCell (p:=⟨w.heap.size,p1,none⟩) (ax _) _).setCell (p:=⟨w.heap.size,p2,none⟩) (ax _) _) ((AW _ _ _).trans (AW _ _ _));rw [vG.out,Fg.out];exact yK (yK ((dU _ _ (by omega)).trans qv.out) p1 false) p2 true
   ·have hA:qq (p0:Int)=true:=by unfold qq;rw [decide_eq_true_eq];omega
    have hk1:((p0:Int) == 1)=false:=by rw [beq_eq_false_iff_ne];omega
    have Fg:Hid (sU ⟨p0,p1,p2,p3,p4⟩ (jD (fR pre))=(((jD (fR pre)).set p1 false).set p2 true).set p3 true):=by
     unfold Hid sU lI;rw [if_pos (decide_eq_true ⟨h2,h5⟩),if_neg (show ¬p0=1 by omega)]
    have vG:=af hkeep;clear hkeep;by_cases hpa:p2=p1
    ·subst hpa
     gi_wp2_with (gi_at_builtin;refine RE _ rfl _ _ 125 rfl w.heap.size 123 inf _ 5 40 AR cJ hz cW hby rfl (by decide) _ _ _ rfl (hrow.alloc _) ⟨W.heap.size,0,none⟩ 1 1 [.int .i64 (p0:Int),.int .i64 (p2:Int),.int .i64 (p2:Int),.int .i64 (p3:Int),.int .i64 (p4:Int)] rfl rfl (mP (bg W _)) (fun u hu=>by simp at hu;rcases hu with rfl | rfl | rfl | rfl | rfl<;>rfl) (by unfold cP;omega) (by omega) (by rw [aB];omega) ?_;intro v' w1 hown' hgrow _;obtain ⟨g',cap',rfl⟩:=RF hown';obtain ⟨hb0,fJ,cR⟩:=L7.out w1 g' cap' _ hown' hgrow;have y0:=(hb0 0).trans x0;have y1:=(hb0 1).trans x1;have y2:=(hb0 2).trans x2;have y3:=(hb0 3).trans x3;have hc1:w1.cell? ⟨w.heap.size+1,0,none⟩=some (.slice va (idle (fR pre)).length vc):=(hv.appended (by decide) hrow dJ.size (by omega) hown' hgrow).1.cell;have hf1:w1.frozen? ⟨w.heap.size+1,0,none⟩=false:=(hv.appended (by decide) hrow dJ.size (by omega) hown' hgrow).1.frozen;have IU:=vF fJ p2 (by rw [rR];exact d8);have IV:=xA fJ p2;have IW:=vF fJ p2 (by rw [rR];exact a8);have IX:=xA fJ p2;have HE:=af cR;have qv:=af fJ;clear hb0 cR fJ hgrow hown')
     refine ⟨trivial,(RH l (Gy.2 (CH (p0:Int) _))).mono ?_⟩;rintro e W3 ⟨rfl,eY⟩;have jE:W3.heap[w.heap.size]? =some (.cells (uF (((jD (fR pre)).set p2 false).set p2 true)) 304 (0,0)):=by rw [eY];exact yK (yK ((dU _ _ (by omega)).trans qv.out) p2 false) p2 true
     have z3:W3.cell? ⟨Bx,3,none⟩=some (.int .i64 (p3:Int)):=by rw [eY];exact (Hh 3 ((dU _ _ n1).trans ((dU _ _ n1).trans (dU _ _ n2)))).trans y3
     have cn3:=vF jE p3 (by rw [lU,lU,rR];exact b8);have fn3:=xA jE p3;have uk:=af eY;have Vr:=af jE;clear eY jE y0 y1 y2 y3 IU IV IW IX hc1 hf1
     gi_wp2
     refine HE.out _ ?_ (fun g hg=>(dU _ _ hg).trans (by rw [uk.out];exact (dU _ _ hg).trans (dU _ _ hg))) (Below.setCell (p:=⟨w.heap.size,p3,none⟩) (by rw [uk.out];exact (((aA _ _).setCell (p:=⟨w.heap.size+1,0,none⟩) (jk _) _).setCell (p:=⟨w.heap.size,p2,none⟩) (ax _) _).setCell (p:=⟨w.heap.size,p2,none⟩) (ax _) _) (ax _) _) ((by rw [uk.out];exact (AW _ _ _).trans (AW _ _ _):KeepsOthers _ W3).trans (AW _ _ _));rw [vG.out,Fg.out];exact yK Vr.out p3 true
    ·have apz:¬p1=p2:=fun e=>hpa e.symm
     gi_wp2_with (gi_at_builtin;refine RE _ rfl _ _ 125 rfl w.heap.size 123 inf _ 5 40 AR cJ hz cW hby rfl (by decide) _ _ _ rfl (hrow.alloc _) ⟨W.heap.size,0,none⟩ 1 1 [.int .i64 (p0:Int),.int .i64 (p1:Int),.int .i64 (p2:Int),.int .i64 (p3:Int),.int .i64 (p4:Int)] rfl rfl (mP (bg W _)) (fun u hu=>by simp at hu;rcases hu with rfl | rfl | rfl | rfl | rfl<;>rfl) (by unfold cP;omega) (by omega) (by rw [aB];omega) ?_;intro v' w1 hown' hgrow _;obtain ⟨g',cap',rfl⟩:=RF hown';obtain ⟨hb0,fJ,cR⟩:=L7.out w1 g' cap' _ hown' hgrow;have y0:=(hb0 0).trans x0;have y1:=(hb0 1).trans x1;have y2:=(hb0 2).trans x2;have y3:=(hb0 3).trans x3;have hc1:w1.cell? ⟨w.heap.size+1,0,none⟩=some (.slice va (idle (fR pre)).length vc):=(hv.appended (by decide) hrow dJ.size (by omega) hown' hgrow).1.cell;have hf1:w1.frozen? ⟨w.heap.size+1,0,none⟩=false:=(hv.appended (by decide) hrow dJ.size (by omega) hown' hgrow).1.frozen;have IU:=vF fJ p1 (by rw [rR];exact d8);have IV:=xA fJ p1;have IW:=vF fJ p2 (by rw [rR];exact a8);have IX:=xA fJ p2;have HE:=af cR;have qv:=af fJ;clear hb0 cR fJ hgrow hown')
     refine ⟨trivial,(RH l (Gy.2 (CH (p0:Int) _))).mono ?_⟩;rintro e W3 ⟨rfl,eY⟩;have jE:W3.heap[w.heap.size]? =some (.cells (uF (((jD (fR pre)).set p1 false).set p2 true)) 304 (0,0)):=by rw [eY];exact yK (yK ((dU _ _ (by omega)).trans qv.out) p1 false) p2 true
     have z3:W3.cell? ⟨Bx,3,none⟩=some (.int .i64 (p3:Int)):=by rw [eY];exact (Hh 3 ((dU _ _ n1).trans ((dU _ _ n1).trans (dU _ _ n2)))).trans y3
     have cn3:=vF jE p3 (by rw [lU,lU,rR];exact b8);have fn3:=xA jE p3;have uk:=af eY;have Vr:=af jE;clear eY jE y0 y1 y2 y3 IU IV IW IX hc1 hf1
     gi_wp2
     refine HE.out _ ?_ (fun g hg=>(dU _ _ hg).trans (by rw [uk.out];exact (dU _ _ hg).trans (dU _ _ hg))) (Below.setCell (p:=⟨w.heap.size,p3,none⟩) (by rw [uk.out];exact (((aA _ _).setCell (p:=⟨w.heap.size+1,0,none⟩) (jk _) _).setCell (p:=⟨w.heap.size,p1,none⟩) (ax _) _).setCell (p:=⟨w.heap.size,p2,none⟩) (ax _) _) (ax _) _) ((by rw [uk.out];exact (AW _ _ _).trans (AW _ _ _):KeepsOthers _ W3).trans (AW _ _ _));rw [vG.out,Fg.out];exact yK Vr.out p3 true
 case done=>
  rintro D ys W hD rfl ⟨⟨⟨⟨v,hv,hrow,_⟩,hnd⟩,hbs⟩,dJ⟩ hK;have Vs:fR (yJ ps ps.length)=ps:=by rw [apm hw _ (ax _),Nat.sub_self,List.drop_zero]
  rw [Vs] at hrow;have hc:=hv.cell;have hll:(idle ps).length<=8:=aT (NK ps) hl;obtain ⟨va,vc,rfl⟩:=bA hrow;have hlr:(idle ps).reverse.length=(idle ps).length:=List.length_reverse;by_cases h0:(idle ps).length=0
  ·rw [h0] at hc hv hrow;have hi0:idle ps=[]:=Nq.1 h0;rw [hi0] at hrow;have H8:=af hi0;have l5:=af hrow;clear h0 hlr hll hi0 Vs hrow
   gi_wp2
   refine ⟨trivial,(Gy.2 (reverse_nil va vc _)).mono ?_⟩;rintro e w' ⟨rfl,hw'⟩;obtain rfl:=hw'.symm
   gi_wp2
   refine ⟨by simp,.inl ?_⟩;refine ⟨_,_,rfl,run_takeDeferred hK,?_⟩;refine ⟨_,results_tmp rfl _ _ _,?_⟩;have Vt:w.heap.size<=D:=by omega
   have P7:ak w.heap.size w (W.putObj D (.deferred none)):=dJ.trans (belowK_b (w:=w) (ax _) W D _ _ Vt hK rfl rfl);refine ⟨P7,_,rfl,?_⟩;rw [H8.out];exact ownsRow_putObj l5.out _ hK rfl
  ·obtain ⟨g,cap,hform,hBg,hgl⟩:=hrow.form (by omega);cases hform;have hRv:=aov w.heap.size g vc (idle ps).reverse W (by rw [hlr];exact hrow) (by rw [hlr];exact hll);rw [List.reverse_reverse,hlr] at hRv;have hgc:∃cur,W.heap[g]? =some (.cells cur 123 (0,0)):=wK hrow g rfl;obtain ⟨cur,hcur⟩:=hgc;have nD:D≠g:=fun e=>by rw [e,hcur] at hK;cases hK
   have nB:w.heap.size+1≠g:=fun e=>by
    have:=hv;unfold Gx at this;rw [e,hcur] at this;cases this
   have HRv:=af hRv;have l5:=af hrow;have Vt:w.heap.size<=D:=by omega
   generalize hn:(idle ps).length=n at *;have eB:=af hn;clear h0 hlr hll Vs hrow hRv hn hBg hgl hcur
   gi_wp2
   refine ⟨trivial,(Gy.2 HRv.out).mono ?_⟩;rintro e w' ⟨rfl,r1,r2,r3⟩;have hc':w'.cell? ⟨w.heap.size+1,0,none⟩=some (.slice (some ⟨g,0,none⟩) n vc):=(Hh 0 (r2 _ nB)).trans hc;have hK':=(r2 D nD).trans hK;have dm:=af r1;have P7:ak w.heap.size w (w'.putObj D (.deferred none)):=(dJ.trans r3).trans (belowK_b (w:=w) (ax _) w' D _ _ Vt hK' rfl rfl);have Vu:=af P7;clear r1 r2 r3 hc hK P7
   gi_wp2
   refine ⟨by simp,.inl ?_⟩;refine ⟨_,_,rfl,run_takeDeferred hK',?_⟩;refine ⟨_,results_tmp rfl _ _ _,?_⟩;refine ⟨Vu.out,_,rfl,?_⟩;rw [eB.out];exact ownsRow_putObj dm.out _ hK' rfl
 case stop=>
  rintro D c pre W _ _ h _;exact h.elim
end
end Go.Proofs.YtmmflekajbeamaaGreatDoor
