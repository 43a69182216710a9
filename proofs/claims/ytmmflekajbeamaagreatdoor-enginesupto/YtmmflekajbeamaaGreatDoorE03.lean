/- Texts of ours, joined, in few bytes. -/
import Derived.Test.YtmmflekajbeamaaGreatDoorE02
import Derived.StillTailTactics
import Derived.OrdersHeld
import Derived.Deep.AppendLies
open Array renaming getElem?_eq_some_iff->iD,length_toList->Jv
open BitVec renaming ofInt->sM,ofInt_natCast->QX,toNat_ofNat->QY
open Bool renaming and_eq_true->gG,or_eq_true->Cg
open Go.Act renaming put->xN
open Go.Code renaming region->Gi
open Go renaming Exit->lF,Oper->bI,Program->mM,TypeId->cE,Value->aj,cell_of_row->Np,heap_alloc_new->bg,heap_setCell_same->Q7,mem_ready->Cf,ready_mono->zn,setRow_heap->uO,undef->fQ,wpList->nA,wpOp->vQ,wpOp_mono->AK
open Go.IntKind renaming wrap_i64->AJ
open Go.Proofs.Tryz renaming prog->au,underlying28->jO
open Go.Region renaming Mode->pN,binds->xL,free_spec->Gk,lexHead->XM,noSelect->vR,noSelect_spec->Gj,ready->oL,seqB->Jz,waitsFor->XL,waitsFor_spec->XN,wanted->xM
open Go.Result renaming andThen->kN
open Go.RowKit renaming Below->ak
open Go.RowKit.Below renaming refl->aA
open Go.Utf8 renaming decode->sN,valid->XP
open Int renaming eq_ofNat_of_zero_le->j4
open List renaming all_eq_true->oh,getElem?_drop->Ch,length_cons->jM,length_nil->vT,mem_range->mL,range->jL
open Nat renaming add_assoc->Ju,add_comm->DR,le_refl->ax,lt_or_ge->oM,mod_eq_of_lt->Gd
open Option.some renaming inj->oN
open Prod.mk renaming injEq->vU
open UInt8 renaming toNat_inj->XO
namespace Go.Proofs.YtmmflekajbeamaaGreatDoor
set_option maxRecDepth 20000
section
open Go.RowKit


def NT (s:ByteArray):Nat->Nat->Nat->Option Nat
 | 0,_,c=>some c
 | f+1,p,c=>if p<s.size then
    (if Zu (sN s p).1 || (decide (0<c) && decide (48<=(sN s p).1∧(sN s p).1<=57)) then NT s f (p+(sN s p).2) (c+1) else none)
   else some c
def preB (l:List UInt8):Bool:=l.take 3 == [239,191,189]
theorem ahK (x y:Int) (i:Nat) (hx0:0<=x) (hx1:x<4294967296) (hy0:0<=y) (hy1:y<(2 ^ i:Nat)) (hi:i<=32) (hm:x % (2 ^ i:Nat)=0):bits .or .i64 x y=x+y:=by
 obtain ⟨a,rfl⟩:=j4 hx0;obtain ⟨b,rfl⟩:=j4 hy0;have hp:2 ^ i<=2 ^ 32:=Nat.pow_le_pow_right (by decide) hi;have hb:b<2 ^ i:=by omega
 have hj:a ||| b=a+b:=nat_join i a b (by omega) hb
 have h1:(sM 64 (a:Int)).toNat=a:=by
  rw [QX,QY];exact Gd (by omega)
 have h2:(sM 64 (b:Int)).toNat=b:=by
  rw [QX,QY];exact Gd (by omega)
 show IntKind.i64.wrap ((sM 64 (a:Int) ||| sM 64 (b:Int)).toNat:Int)=_
 rw [BitVec.toNat_or,h1,h2,AJ,hj];omega
theorem iZ (w:World):(zeroValue 28).run au w= .ok (.agg (S bT)) w:=by kernel_rfl
theorem mD:(Tryz.prog.info? 28).map (·.size)=some 138:=by kernel_rfl
theorem Cv {w:World} {n k:Nat} (h:bf w n k=true):∃t,w.heap[n]? =some (.cells (bW w n) t (0,0))∧(bW w n).size=k:=by
 unfold bf at h;unfold bW;cases hg:w.heap[n]? with
 | none=>rw [hg] at h;cases h
 | some o=>
   cases o with
   | cells c t fr=>
     rw [hg] at h;simp only [gG,beq_iff_eq] at h;obtain ⟨h2,rfl⟩:=h;exact ⟨t,rfl,h2⟩
   | _=>rw [hg] at h;cases h
theorem fH {ops:Array bI} {rest:List bI} {o:bI} {a:Act} {w:World} {Q:lF->Act->World->Prop} (hgd:o.guard=none) (x:Operand) (ho:o.op= .load 28 x)
 (n:Nat) (hx:a.eval x= .pointer (some ⟨n,0,none⟩)) (hr:bf w n 138=true) (c:Array aj) (hc:bW w n=c)
 (h:nA au ops Q rest (a.put o.dst (.agg c)) w):nA au ops Q (o :: rest) a w:=by
 subst hc;obtain ⟨t,hg,hs⟩:=Cv hr;exact wpList_load_row hgd 28 x ho n hx t _ (0,0) _ hg jO rfl (by rw [mD,hs]) h
theorem ja {ops:Array bI} {rest:List bI} {o:bI} {a:Act} {w:World} {Q:lF->Act->World->Prop} (hgd:o.guard=none) (x y:Operand) (ho:o.op= .store 28 x y)
 (n:Nat) (hx:a.eval x= .pointer (some ⟨n,0,none⟩)) (z:List Int) (hy:a.eval y= .agg (S z)) (hz:z.length=138) (hr:bf w n 138=true) (w':World) (hw:w.setRow n (S z)=w')
 (h:nA au ops Q rest (a.put o.dst fQ) w'):nA au ops Q (o :: rest) a w:=by
 subst hw;obtain ⟨t,hg,hs⟩:=Cv hr;exact wpList_store_row hgd 28 x y ho n (S z) hx hy t _ hg (by rw [mD,bQ,hz]) (by rw [hs,bQ,hz]) (zE z) h
section
variable (w:World) (c:Array aj) (t:cE) (o1 o2:Obj)
theorem J4:bW (((w.alloc (.cells c t)).alloc o1).alloc o2) w.heap.size=c:=by
 rw [A5 _ _ _ (by simp;omega),A5 _ _ _ (by simp),zF _ _ _ _ rfl]
theorem J5 (k:Nat) (h:c.size=k):bf (((w.alloc (.cells c t)).alloc o1).alloc o2) w.heap.size k=true:=by
 rw [xQ _ _ _ _ (by simp;omega),xQ _ _ _ _ (by simp),kV _ _ _ _ _ rfl];simpa using h
theorem J6 (k:Nat) (h:c.size=k):bf (((w.alloc o1).alloc o2).alloc (.cells c t)) (w.heap.size+1+1) k=true:=by
 rw [kV _ _ _ _ _ (by simp)];simpa using h
theorem J7 (c':Array aj):(((w.alloc o1).alloc o2).alloc (.cells c t)).setRow (w.heap.size+1+1) c'=((w.alloc o1).alloc o2).alloc (.cells c' t):=
 sQ _ _ _ _ _ (by simp)
theorem Cw:bW (((w.alloc (.cells c t)).alloc o1).alloc o2).drew w.heap.size=c:=J4 w c t o1 o2
theorem Cx (k:Nat) (h:c.size=k):bf (((w.alloc (.cells c t)).alloc o1).alloc o2).drew w.heap.size k=true:=J5 w c t o1 o2 k h
theorem Cy (k:Nat) (h:c.size=k):bf (((w.alloc o1).alloc o2).alloc (.cells c t)).drew (w.heap.size+1+1) k=true:=J6 w c t o1 o2 k h
theorem Cz (c':Array aj):(((w.alloc o1).alloc o2).alloc (.cells c t)).drew.setRow (w.heap.size+1+1) c'=(((w.alloc o1).alloc o2).alloc (.cells c' t)).drew:=by
 rw [Y8,J7]
theorem CA (o:Obj):ak w.heap.size w (((w.alloc o1).alloc o2).alloc o).drew:=
 ((((aA _ _).alloc (ax _) _).alloc (by simp) _).alloc (by simp;omega) _).drew
theorem wJ (o:Obj):(((w.alloc o1).alloc o2).alloc o).heap[w.heap.size+1+1]? =some o:=by
 have:=bg ((w.alloc o1).alloc o2) o;simpa using this
theorem GM (o:Obj):ak w.heap.size w (((w.alloc o1).alloc o2).alloc o):=
 (((aA _ _).alloc (ax _) _).alloc (by simp) _).alloc (by simp;omega) _
end
theorem qp {P:mM} {id:Nat} {Q:lF->Act->World->Prop} {a:Act} {w:World} {l:List bI} (n:Nat) (hm:P.follows .mixedOrders=true) (hB:Region.lexTailB .any l.toArray n=true)
 (h:wpStill P l.toArray w.drew (fun a'=>nA P l.toArray Q (l.drop n) a' w.drew) (l.take n) a):(Gi id l.toArray true).wp P Q a w:=
 wp_region_still_tail n hm hB h
theorem xV {P:mM} {id:Nat} {Q:lF->Act->World->Prop} {a:Act} {w:World} {l:List bI} (hm:P.follows .mixedOrders=true) (hB:Region.lexB .any l.toArray=true)
 (h:wpStill P l.toArray w.drew (fun a'=>Q .normal a' w.drew) l a):(Gi id l.toArray true).wp P Q a w:=
 wp_region_still_lit hm hB h
theorem aB (w:World) (o:Obj):(w.alloc o).heap.size=w.heap.size+1:=by simp
theorem gZ {B:Nat} {W w1:World} (hb:ak B W w1) {n:Nat} (hn:n<B) (k:Nat):bf w1 n k=bf W n k:=by
 unfold bf;rw [hb.block n hn]
theorem qQ {B:Nat} {W w1:World} (hb:ak B W w1) {n:Nat} (hn:n<B):bW w1 n=bW W n:=by
 unfold bW;rw [hb.block n hn]
theorem sV {w:World} {n k:Nat} (h:bf w n k=true) (i:Nat) (v:aj):bW (w.setCell ⟨n,i,none⟩ v) n=(bW w n).setIfInBounds i v:=by
 obtain ⟨t,hg,_⟩:=Cv h;unfold bW;rw [Q7 w n i _ t v hg];rfl
theorem sW {w:World} {n k:Nat} (h:bf w n k=true) (i:Nat) (v:aj):bf (w.setCell ⟨n,i,none⟩ v) n k=true:=by
 obtain ⟨t,hg,hs⟩:=Cv h;unfold bf;rw [Q7 w n i _ t v hg];simp [hs]
theorem sX {w:World} {n k:Nat} (h:bf w n k=true) (m i:Nat) (hm:n≠m) (v:aj):bf (w.setCell ⟨m,i,none⟩ v) n k=true:=by
 unfold bf;rw [heap_setCell_other w ⟨m,i,none⟩ n v hm];exact h
theorem pS {w:World} {n:Nat} (h:bf w n 138=true) (c:Array aj):∃t,(w.setRow n c).heap[n]? =some (.cells c t (0,0)):=by
 obtain ⟨t,hg,_⟩:=Cv h;exact ⟨t,uO w n _ c t (0,0) hg⟩
theorem iI {B:Nat} {W w1:World} (hb:ak B W w1) {n:Nat} (hn:B<=n) (c:Array aj):ak B W (w1.setRow n c):=
 ⟨hb.os,hb.tape,hb.output,by rw [size_setRow];exact hb.size,fun k hk=>(setRow_other w1 n k c (by omega)).trans (hb.block k hk)⟩
theorem zO {w:World} (o:Obj):ak w.heap.size w (w.alloc o):=(aA _ _).alloc (ax _) _
theorem rW {fn:Func} {p u:Tmp} (h:fn.results=#[.cell p 28,.tmp u]) (tmps:Array aj) (w:World) (g:Nat) (t:cE) (z:List Int) (hz:z.length=138)
 (hp:tmps.getD p fQ= .pointer (some ⟨g,0,none⟩)) (hg:w.heap[g]? =some (.cells (S z) t (0,0))) (e:Int) (hu:tmps.getD u fQ= .int .i64 e):
 (results fn tmps).run au w= .ok (.tuple #[.agg (S z),.int .i64 e]) w:=by
 rw [results_cell_tmp h,hp,hu];simp only [asAddr,Sem.run_pure,kN];rw [run_loadVar_row w g t 28 (S z) (0,0) _ hg jO rfl (by rw [mD,bQ,hz])]
end
section
open Go
section
variable {P:mM} {ops:Array bI} {Q:lF->Act->World->Prop} {md:pN} {S:World->Prop} {q:Nat}
def wpAnyQ (P:mM) (md:pN) (ops:Array bI) (Q:lF->Act->World->Prop) (S:World->Prop) (q:Nat):Nat->Array Bool->Act->World->Prop
 | 0,listed,a,w=>oL md ops listed=[]∧Q .normal a w
 | fuel+1,listed,a,w=>
   (oL md ops listed=[]->Q .normal a w)∧
   ∀i∈oL md ops listed,vQ P ops Q i (fun a' w'=>(i<q->S w')∧wpAnyQ P md ops Q S q fuel (listed.setIfInBounds i true) a' w') a w
theorem Eg:∀(fuel:Nat) (listed:Array Bool) (a:Act) (w:World),wpAnyQ P md ops Q S q fuel listed a w->wpAny P md ops Q fuel listed a w
 | 0,_,_,_,h=>h
 | fuel+1,_,_,_,h=>⟨h.1,fun i hi=>AK (fun a' w' h'=>Eg fuel _ a' w' h'.2) (h.2 i hi)⟩
theorem wpAnyQ_first {i:Nat} {oi:bI} {v:aj} (hi:ops[i]? =some oi) (hsel:∀(j:Nat) (o:bI) cs b,ops[j]? =some o->o.op≠.select cs b)
 (hQ:∀c a w,Q (.panic c) (a.put oi.dst v) w->Q (.panic c) a w)
 (hlast:∀j oj,q<=j->ops[j]? =some oj->∃e∈oj.after,xL md e=true∧e.on=i) (CB:i<q):
 ∀(fuel:Nat) (listed:Array Bool) (a:Act) (w:World),
  (∀j oj,ops[j]? =some oj->j≠i->listed.getD j true=false->(∀e∈oj.after,xL md e=true->e.on≠i)->oi.apart ops oj=true)->
  i∈oL md ops listed->YieldsIf P ops S oi v a->S w->
  wpAnyQ P md ops Q S q fuel (listed.setIfInBounds i true) (a.put oi.dst v) w->wpAnyQ P md ops Q S q (fuel+1) listed a w:=by
 intro fuel
 induction fuel with
 | zero=>
   intro listed a w _ hr hy hS H;refine ⟨fun h=>(by rw [h] at hr;cases hr),fun j hj=>?_⟩;by_cases hji:j=i
   ·subst hji;exact hy.wpOp hi hS ⟨fun _=>hS,H⟩
   ·have:=zn hj hji;rw [H.1] at this;cases this
 | succ fuel ih=>
   intro listed a w hfree hr hy hS H;refine ⟨fun h=>(by rw [h] at hr;cases hr),fun j hj=>?_⟩;by_cases hji:j=i
   ·subst hji;exact hy.wpOp hi hS ⟨fun _=>hS,H⟩
   ·have h1:=H.2 j (zn hj hji);obtain ⟨hjun,oj,hoj,hall⟩:=Cf.1 hj;have hnot:∀e∈oj.after,xL md e=true->e.on≠i:=fun e he hb heq=>by
     have h1:=hall e he hb;have h0:=(Cf.1 hr).1;rw [heq] at h1;rcases oM i listed.size with h' | h'
     ·simp [h'] at h0 h1;rw [h0] at h1;cases h1
     ·simp [Array.getElem?_eq_none h'] at h1
    have Sg:j<q:=by
     rcases oM j q with h | h
     ·exact h
     ·obtain ⟨e,he,hb,hon⟩:=hlast j oj h hoj;exact absurd hon (hnot e he hb)
    have h2:=wpOp_putIf hoj (hfree j oj hoj hji hjun hnot) (fun cs b=>hsel i oi cs b hi) (fun cs b=>hsel j oj cs b hoj) hQ hy h1;have hfree':∀k ok,ops[k]? =some ok->k≠i->(listed.setIfInBounds j true).getD k true=false->
     (∀e∈ok.after,xL md e=true->e.on≠i)->oi.apart ops ok=true:=fun k ok hk hki hun hno=>by
     refine hfree k ok hk hki ?_ hno;by_cases hjk:j=k
     ·subst hjk;exact hjun
     ·rw [getD_set_ne true hjk] at hun;exact hun
    refine AK (fun a' w' h3=>⟨h3.2.1,ih (listed.setIfInBounds j true) a' w' hfree' (zn hr (Ne.symm hji)) h3.1 (h3.2.1 Sg) ?_⟩) h2;rw [Array.setIfInBounds_comm _ _ hji];exact h3.2.2
def GN (P:mM) (ops:Array bI) (S:World->Prop) (Lq:Act->Prop):List bI->Act->Prop
 | [],a=>Lq a
 | o :: rest,a=>∃v,YieldsIf P ops S o v a∧GN P ops S Lq rest (a.put o.dst v)
theorem uf {Lq:Act->Prop} {a:Act} (h:Lq a):GN P ops S Lq [] a:=h
theorem mT {Lq:Act->Prop} {a:Act} {o:bI} {rest:List bI} (v:aj) (hw:xM o (yielded ops a.tmps)=true) (hv:∀w,S w->(execOp a.eval o).run P w= .ok (.value v) w)
 (h:GN P ops S Lq rest (a.put o.dst v)):GN P ops S Lq (o :: rest) a:=⟨v,.inl ⟨hw,hv⟩,h⟩
def oy (P:mM) (ops:Array bI) (Q:lF->Act->World->Prop) (S:World->Prop):Nat->List bI->Act->World->Prop
 | 0,rest,a,w=>nA P ops Q rest a w
 | _+1,[],a,w=>Q .normal a w
 | m+1,o :: rest,a,w=>∀K:Act->World->Prop,(∀a' w',S w'->oy P ops Q S m rest a' w'->K a' w')->if xM o (yielded ops a.tmps) then o.wp P a w K Q else K (a.put o.dst fQ) w
theorem iQ {m:Nat} {o:bI} {rest:List bI} {a:Act} {w:World} (hg:o.guard=none) (h:∀K:Act->World->Prop,(∀a' w',S w'->oy P ops Q S m rest a' w'->K a' w')->o.wp P a w K Q):oy P ops Q S (m+1) (o :: rest) a w:=fun K hK=>by
 rw [if_pos (by simp [xM,hg])];exact h K hK
theorem Zy:∀(l:List bI) (k:Nat) (listed:Array Bool) (a:Act) (w:World),(∀j,l[j]? =ops[k+j]?)->q<=k->
 Jz md ops l.length k listed=true->nA P ops Q l a w->wpAnyQ P md ops Q S q l.length listed a w
 | [],_,_,_,_,_,_,hB,h=>⟨by simpa [Jz] using hB,h⟩
 | o :: l,k,listed,a,w,hl,hq,hB,h=>by
   have h0:ops[k]? =some o:=by simpa using (hl 0).symm
   simp only [jM,Jz,gG,decide_eq_true_eq] at hB;refine ⟨fun h1=>(by rw [hB.1] at h1;cases h1),fun i hi=>?_⟩;rw [hB.1] at hi;have hik:i=k:=by simpa using hi
   subst hik;have hw:vQ P ops Q i (nA P ops Q l) a w:=by unfold vQ;simp only [h0];exact h
   exact AK (fun a' w' h'=>⟨fun hlt=>absurd hlt (by omega),Zy l (i+1) _ a' w' (fun j=>by have:=hl (j+1);simpa [Ju,DR 1 j] using this) (by omega) hB.2 h'⟩) hw
theorem Zz:∀(m:Nat) (l:List bI) (k:Nat) (listed:Array Bool) (a:Act) (w:World),(∀j,l[j]? =ops[k+j]?)->k+m=q->
 Jz md ops l.length k listed=true->oy P ops Q S m l a w->wpAnyQ P md ops Q S q l.length listed a w
 | 0,l,k,listed,a,w,hl,hq,hB,h=>Zy l k listed a w hl (by omega) hB h
 | _+1,[],_,_,_,_,_,_,hB,h=>⟨by simpa [Jz] using hB,h⟩
 | m+1,o :: l,k,listed,a,w,hl,hq,hB,h=>by
   have h0:ops[k]? =some o:=by simpa using (hl 0).symm
   simp only [jM,Jz,gG,decide_eq_true_eq] at hB;refine ⟨fun h1=>(by rw [hB.1] at h1;cases h1),fun i hi=>?_⟩;rw [hB.1] at hi;have hik:i=k:=by simpa using hi
   subst hik;have h2:=h (fun a' w'=>S w'∧oy P ops Q S m l a' w') (fun _ _ h1 h2=>⟨h1,h2⟩);have hw:vQ P ops Q i (fun a' w'=>S w'∧oy P ops Q S m l a' w') a w:=by
    unfold vQ;simp only [h0];split
    ·rename_i hq;rw [if_pos hq] at h2;exact .inl h2
    ·rename_i hq;rw [if_neg hq] at h2;exact h2
   exact AK (fun a' w' h'=>⟨fun _=>h'.1,Zz m l (i+1) _ a' w' (fun j=>by have:=hl (j+1);simpa [Ju,DR 1 j] using this) (by omega) hB.2 h'.2⟩) hw
def ZA (md:pN) (ops:Array bI) (n q:Nat):Bool:=
 (jL ops.size).all fun j=>decide (j<q) || (jL n).all fun i=>XL md ops j i
def ZB (ops:Array bI) (n q:Nat):Bool:=
 vR ops && decide (n<=q∧q<=ops.size) && ZA .any ops n q && XM .any ops (ops.size - n) n 0 (Array.replicate ops.size false)
theorem wpAnyQ_lex {n g:Nat} {w:World} {Lq:Act->Prop} (hsel:vR ops=true) (CC:n<=q) (hlast:ZA md ops n q=true) (hQ:∀d v c a w,Q (.panic c) (xN a d v) w->Q (.panic c) a w) (hS:S w)
 (hL:∀listed a,Jz md ops g n listed=true->Lq a->wpAnyQ P md ops Q S q g listed a w):
 ∀(l:List bI) (k:Nat) (listed:Array Bool) (a:Act),(∀j,j<l.length->l[j]? =ops[k+j]?)->k+l.length=n->
 XM md ops g l.length k listed=true->GN P ops S Lq l a->wpAnyQ P md ops Q S q (l.length+g) listed a w
 | [],k,listed,a,_,hk,hB,h=>by
   have:k=n:=by simpa using hk
   subst this;rw [vT,Nat.zero_add];exact hL listed a (by simpa [XM] using hB) h
 | o :: l,k,listed,a,hl,hk,hB,h=>by
   have h0:ops[k]? =some o:=by simpa using (hl 0 (by simp)).symm
   simp only [jM,XM,gG] at hB;obtain ⟨⟨hr,hf⟩,hB'⟩:=hB;have hkn:k<n:=by simp only [jM] at hk;omega
   have hr':k∈oL md ops listed:=by simpa using hr
   obtain ⟨v,hy,hK⟩:=h;rw [jM,show l.length+1+g=(l.length+g)+1 by omega];refine wpAnyQ_first h0 (Gj hsel) (hQ o.dst v) (fun j oj hj hoj=>?_) (by omega) (l.length+g) listed a w (Gk h0 hf) hr' hy hS
    (wpAnyQ_lex hsel CC hlast hQ hS hL l (k+1) _ _ (fun j hj=>by have:=hl (j+1) (by simp;omega);simpa [Ju,DR 1 j] using this) (by simp only [jM] at hk;omega) hB' hK)
   have hjs:j<ops.size:=(iD.1 hoj).1;have h1:=oh.1 hlast j (mL.2 hjs);simp only [Cg,decide_eq_true_eq] at h1;rcases h1 with h1 | h1
   ·omega
   ·have h2:=oh.1 h1 k (mL.2 hkn);obtain ⟨J8,J9,e,he,hb,hon⟩:=XN h2;have:J8=oj:=oN (J9.symm.trans hoj);subst this;exact ⟨e,he,hb,hon⟩
theorem ug {id:Nat} {a:Act} {w:World} {l:List bI} (n m:Nat) (S:World->Prop) (hm:P.follows .mixedOrders=true) (hB:ZB l.toArray n (n+m)=true)
 (hQ:∀d v c a w,Q (.panic c) (xN a d v) w->Q (.panic c) a w) (hS:S w.drew)
 (h:GN P l.toArray S (fun a'=>oy P l.toArray Q S m (l.drop n) a' w.drew) (l.take n) a):(Gi id l.toArray true).wp P Q a w:=by
 simp only [ZB,gG,decide_eq_true_eq] at hB;obtain ⟨⟨⟨hsel,CC,Eh⟩,hlast⟩,hlex⟩:=hB;have hn:n<=l.length:=by simp at Eh;omega
 have htl:(l.take n).length=n:=by simp;omega
 have hdl:(l.drop n).length=l.toArray.size - n:=by simp
 have H:=wpAnyQ_lex (P:=P) (md:=.any) (Q:=Q) (S:=S) (g:=l.toArray.size - n) (w:=w.drew) hsel CC hlast hQ hS (fun listed a' hs hL=>by
  have:=Zz (P:=P) (md:=.any) (Q:=Q) (S:=S) m (l.drop n) n listed a' w.drew (fun j=>by simp [Ch]) rfl (by rw [hdl];exact hs) hL
  rwa [hdl] at this) (l.take n) 0 _ a (fun j hj=>by
  have hj':j<n:=by rw [htl] at hj;exact hj
  simp [hj']) (by simpa using htl) (by rw [htl];exact hlex) h
 refine wp_region_any hm ?_;have H2:=Eg _ _ _ _ H;rw [htl,show n+(l.toArray.size - n)=l.toArray.size by simp;omega] at H2;exact H2
end
end
section
open Go.RowKit
structure Tok where
 text:ByteArray
 fl:Int
 fc:Int
 bl:Int
 bc:Int
structure CS where
 ln:Int
 col:Int
 eC:Int
 fl:Int
 fc:Int
 rem:Bool
 line:List Tok
 lines:List (List Tok)
theorem dz {w w':World} {B:Nat} {e:cE} {k:Nat} {v:aj} {n:Nat} {xs:List aj} (h:w.ownsRow B e k v n xs) (hk:∀g,v.ownBlock=some g->w'.heap[g]? =w.heap[g]?):w'.ownsRow B e k v n xs:=by
 refine ⟨h.1,?_⟩;rcases h.2 with h0 | ⟨g,cap,cur,rfl,hb,hg,h1,h2,h3,h4⟩
 ·exact .inl h0
 ·exact .inr ⟨g,cap,cur,rfl,hb,by rw [hk g rfl];exact hg,h1,h2,h3,h4⟩
def fe (s:ByteArray) (i:Nat) (st:CS):CS:=
 if 0<=st.eC then {st with line:=st.line ++ [⟨s.extract st.eC.toNat i,st.fl,st.fc,st.ln,st.col⟩],eC:=-1} else st
theorem Ka (w:World) (o:Obj) {N:Nat} (hN:N<w.heap.size) (j:Nat):((w.alloc o).drew).cell? ⟨N,j,none⟩=w.cell? ⟨N,j,none⟩:=World.cell?_of_block (Below.heap_alloc w o N hN)
theorem GP {w:World} {B:Nat} {e:cE} {k:Nat} {v:aj} {n:Nat} {xs:List aj} (h:w.ownsRow B e k v n xs):∀g,v.ownBlock=some g->B<=g∧∃cs t fr,w.heap[g]? =some (.cells cs t fr):=by
 intro g hg;rcases h.2 with ⟨rfl,_⟩ | ⟨g',cap,cur,rfl,hb,hc,_⟩
 ·cases hg
 ·cases hg;exact ⟨hb,cur,e,(0,0),hc⟩
theorem wK {w:World} {B:Nat} {e:cE} {k:Nat} {v:aj} {n:Nat} {xs:List aj} (h:w.ownsRow B e k v n xs):∀g,v.ownBlock=some g->∃cur,w.heap[g]? =some (.cells cur e (0,0)):=by
 intro g hg;rcases h.2 with ⟨rfl,_⟩ | ⟨g',cap,cur,rfl,hb,hc,_⟩
 ·cases hg
 ·cases hg;exact ⟨cur,hc⟩
theorem cells_of_cell {w:World} {n i:Nat} {v:aj} (h:w.cell? ⟨n,i,none⟩=some v):∃c t fr,w.heap[n]? =some (.cells c t fr):=by
 unfold World.cell? at h;cases hq:w.heap[n]? with
 | none=>simp [hq] at h
 | some o=>cases o<;>simp_all
theorem ZF {w:World} {N i j:Nat} {v u:aj} (hN:w.cell? ⟨N,j,none⟩=some u) (h:j≠i):(w.setCell ⟨N,i,none⟩ v).cell? ⟨N,j,none⟩=some u:=by
 obtain ⟨c,t,fr,hc⟩:=cells_of_cell hN;rw [Np w N j c t fr hc] at hN;rw [setCell_eq_setRow w N i c t fr v hc,Np _ N j _ t fr (uO w N c _ t fr hc)];rw [Array.getElem?_setIfInBounds_ne (fun e=>h e.symm)];exact hN
theorem ZG {w:World} {N i:Nat} {v u:aj} (hN:w.cell? ⟨N,i,none⟩=some u):(w.setCell ⟨N,i,none⟩ v).cell? ⟨N,i,none⟩=some v:=by
 obtain ⟨c,t,fr,hc⟩:=cells_of_cell hN;rw [Np w N i c t fr hc] at hN;rw [setCell_eq_setRow w N i c t fr v hc,Np _ N i _ t fr (uO w N c _ t fr hc)];rw [Array.getElem?_setIfInBounds_self_of_lt (iD.1 hN).1]
theorem dU (w:World) {N i g:Nat} (v:aj) (h:g≠N):(w.setCell ⟨N,i,none⟩ v).heap[g]? =w.heap[g]?:=heap_setCell_other w ⟨N,i,none⟩ g v h
def Ei (s:ByteArray) (i:Nat) (st:CS):CS:=
 {fe s i st with lines:=st.lines ++ [(fe s i st).line],line:=[],rem:=false,ln:=st.ln+1,col:=1}
def lM (s:ByteArray) (i:Nat) (r:Int) (st:CS):CS:=
 if r=10 then Ei s i st
 else if r=59 then {fe s i st with rem:=true,col:=st.col+1}
 else if st.rem=true then {st with col:=st.col+1}
 else if r=32∨r=9 then {fe s i st with col:=st.col+1}
 else if st.eC<0 then {st with eC:=i,fl:=st.ln,fc:=st.col,col:=st.col+1}
 else {st with col:=st.col+1}
def Sh (s:ByteArray) (p:Nat):Bool:=decide ((sN s p).1=65533) && !preB (s.data.toList.drop p)
def NX (s:ByteArray):Nat->Nat->CS->CS ⊕ (Int×Int)
 | 0,_,st=>.inl st
 | f+1,p,st=>if p<s.size then (if Sh s p then .inr (st.ln,st.col) else NX s f (p+(sN s p).2) (lM s p (sN s p).1 st)) else .inl st
def cs0:CS:=⟨1,1,-1,0,0,false,[],[]⟩
theorem dZ {B:Nat} {W w1:World} (hb:ak B W w1) (n i:Nat) (hn:n<B):w1.cell? ⟨n,i,none⟩=W.cell? ⟨n,i,none⟩:=hb.cell (p:=⟨n,i,none⟩) hn
end
section
open Go
def bt (s:ByteArray) (i:Nat):Nat:=(s.get! i).toNat
def CD (s:ByteArray) (i:Nat):Nat->Nat->Nat->Option Nat
 | 0,_,c=>some c
 | f+1,j,c=>if bt s (i+j)<128∨192<=bt s (i+j) then none else CD s i f (j+1) (c * 64+bt s (i+j) - 128)
def oU (s:ByteArray) (i n c least:Nat):Nat:=
 if s.size<i+n then 0 else match CD s i (n - 1) 1 c with | none=>0 | some c=>if c<least∨1114111<c∨(55296<=c∧c<57344) then 0 else n
def wid (s:ByteArray) (i:Nat):Nat:=
 if bt s i<128 then 1
 else if 192<=bt s i∧bt s i<224 then oU s i 2 (bt s i - 192) 128
 else if 224<=bt s i∧bt s i<240 then oU s i 3 (bt s i - 224) 2048
 else if 240<=bt s i∧bt s i<248 then oU s i 4 (bt s i - 240) 65536
 else 0
theorem nM (s:ByteArray) (i:Nat):bt s i<256:=(s.get! i).toNat_lt
theorem GQ (s:ByteArray) (i:Nat) (h:i<s.size):∃u:UInt8,s.data.toList[i]? =some u∧u.toNat=bt s i:=by
 have h':i<s.data.toList.length:=by rw [Jv];exact h
 refine ⟨s.data.toList[i],List.getElem?_eq_getElem h',?_⟩;have h2:i<s.data.size:=h;show _=(s.data[i]!).toNat
 rw [getElem!_pos s.data i h2,Array.getElem_toList]
theorem ahN {l:List UInt8} (h:l.take 3=[239,191,189]):l[0]? =some 239∧l[1]? =some 191∧l[2]? =some 189:=by
 match l,h with
 | a :: b :: c :: r,h=>simp at h;simp [h]
theorem ahO (s:ByteArray) (p:Nat):preB (s.data.toList.drop p)=true↔p+2<s.size∧bt s p=239∧bt s (p+1)=191∧bt s (p+2)=189:=by
 unfold preB;rw [beq_iff_eq];constructor
 ·intro h;obtain ⟨h0,h1,h2⟩:=ahN h;rw [Ch] at h0 h1 h2;have hl:p+2<s.size:=by
   have:=(List.getElem?_eq_some_iff.1 h2).1;rw [Jv] at this;exact this
  obtain ⟨u0,e0,f0⟩:=GQ s p (by omega);obtain ⟨u1,e1,f1⟩:=GQ s (p+1) (by omega);obtain ⟨u2,e2,f2⟩:=GQ s (p+2) hl;rw [Nat.add_zero] at h0;rw [e0] at h0;rw [e1] at h1;rw [e2] at h2;cases h0;cases h1;cases h2;exact ⟨hl,f0.symm,f1.symm,f2.symm⟩
 ·rintro ⟨hl,h0,h1,h2⟩;obtain ⟨u0,e0,f0⟩:=GQ s p (by omega);obtain ⟨u1,e1,f1⟩:=GQ s (p+1) (by omega);obtain ⟨u2,e2,f2⟩:=GQ s (p+2) hl;have g0:u0=239:=XO.1 (f0.trans h0);have g1:u1=191:=XO.1 (f1.trans h1);have g2:u2=189:=XO.1 (f2.trans h2);subst g0 g1 g2;apply List.ext_getElem?;intro k
  match k with
  | 0=>simp [e0]
  | 1=>simp [e1]
  | 2=>simp [e2]
  | k+3=>simp only [jM,vT,Nat.le_add_left,List.getElem?_eq_none,List.length_take,List.length_drop,List.getElem?_eq_none_iff];omega
theorem ahP (s:ByteArray) (i:Nat):sN s i=
 if bt s i<128 then (bt s i,1)
 else if bt s i / 32=6∧(i+1<s.size∧bt s (i+1) / 64=2) then
  (if 128<=bt s i % 32 * 64+bt s (i+1) % 64 then (bt s i % 32 * 64+bt s (i+1) % 64,2) else (65533,1))
 else if bt s i / 16=14∧(i+1<s.size∧bt s (i+1) / 64=2)∧(i+2<s.size∧bt s (i+2) / 64=2) then
  (if 2048<=bt s i % 16 * 4096+bt s (i+1) % 64 * 64+bt s (i+2) % 64∧(bt s i % 16 * 4096+bt s (i+1) % 64 * 64+bt s (i+2) % 64<55296∨57344<=bt s i % 16 * 4096+bt s (i+1) % 64 * 64+bt s (i+2) % 64) then (bt s i % 16 * 4096+bt s (i+1) % 64 * 64+bt s (i+2) % 64,3) else (65533,1))
 else if bt s i / 8=30∧(i+1<s.size∧bt s (i+1) / 64=2)∧(i+2<s.size∧bt s (i+2) / 64=2)∧(i+3<s.size∧bt s (i+3) / 64=2) then
  (if 65536<=bt s i % 8 * 262144+bt s (i+1) % 64 * 4096+bt s (i+2) % 64 * 64+bt s (i+3) % 64∧bt s i % 8 * 262144+bt s (i+1) % 64 * 4096+bt s (i+2) % 64 * 64+bt s (i+3) % 64<=1114111 then (bt s i % 8 * 262144+bt s (i+1) % 64 * 4096+bt s (i+2) % 64 * 64+bt s (i+3) % 64,4) else (65533,1))
 else (65533,1):=by
 have e0:sN s i=
  if bt s i<128 then (bt s i,1)
  else if (bt s i / 32 == 6 && (decide (i+1<s.size) && bt s (i+1) / 64 == 2)) then
   (if 128<=bt s i % 32 * 64+bt s (i+1) % 64 then (bt s i % 32 * 64+bt s (i+1) % 64,2) else (65533,1))
  else if (bt s i / 16 == 14 && (decide (i+1<s.size) && bt s (i+1) / 64 == 2) && (decide (i+2<s.size) && bt s (i+2) / 64 == 2)) then
   (if (decide (2048<=bt s i % 16 * 4096+bt s (i+1) % 64 * 64+bt s (i+2) % 64) && XP ((bt s i % 16 * 4096+bt s (i+1) % 64 * 64+bt s (i+2) % 64:Nat):Int)) then (bt s i % 16 * 4096+bt s (i+1) % 64 * 64+bt s (i+2) % 64,3) else (65533,1))
  else if (bt s i / 8 == 30 && (decide (i+1<s.size) && bt s (i+1) / 64 == 2) && (decide (i+2<s.size) && bt s (i+2) / 64 == 2) && (decide (i+3<s.size) && bt s (i+3) / 64 == 2)) then
   (if (decide (65536<=bt s i % 8 * 262144+bt s (i+1) % 64 * 4096+bt s (i+2) % 64 * 64+bt s (i+3) % 64) && XP ((bt s i % 8 * 262144+bt s (i+1) % 64 * 4096+bt s (i+2) % 64 * 64+bt s (i+3) % 64:Nat):Int)) then (bt s i % 8 * 262144+bt s (i+1) % 64 * 4096+bt s (i+2) % 64 * 64+bt s (i+3) % 64,4) else (65533,1))
  else (65533,1):=rfl
 rw [e0];have hv:∀n:Nat,XP (n:Int)=true↔(n<55296∨(57344<=n∧n<=1114111)):=fun n=>by
  unfold XP;rw [Cg,gG,gG,decide_eq_true_eq,decide_eq_true_eq,decide_eq_true_eq,decide_eq_true_eq];omega
 have hb:=nM s i;simp only [gG,beq_iff_eq,decide_eq_true_eq,hv,and_assoc];congr 1;congr 1;congr 1
 ·congr 1;rw [eq_iff_iff];omega
 ·congr 1;congr 1;rw [eq_iff_iff];omega
theorem ahQ (s:ByteArray) (i c:Nat):CD s i 1 1 c=if bt s (i+1)<128∨192<=bt s (i+1) then none else some (c * 64+bt s (i+1) - 128):=rfl
theorem ahR (s:ByteArray) (i c:Nat):CD s i 2 1 c=if bt s (i+1)<128∨192<=bt s (i+1) then none else if bt s (i+2)<128∨192<=bt s (i+2) then none else some ((c * 64+bt s (i+1) - 128) * 64+bt s (i+2) - 128):=rfl
theorem ahS (s:ByteArray) (i c:Nat):CD s i 3 1 c=if bt s (i+1)<128∨192<=bt s (i+1) then none else if bt s (i+2)<128∨192<=bt s (i+2) then none else if bt s (i+3)<128∨192<=bt s (i+3) then none else some (((c * 64+bt s (i+1) - 128) * 64+bt s (i+2) - 128) * 64+bt s (i+3) - 128):=rfl
theorem ZI (s:ByteArray) (i:Nat) (h:i<s.size) (hw:wid s i≠0):
 (sN s i).2=wid s i∧Sh s i=false∧i+wid s i<=s.size∧(bt s i<128->(sN s i).1=bt s i∧wid s i=1)∧(128<=bt s i->128<=(sN s i).1)∧∀j,0<j->j<wid s i->128<=bt s (i+j):=by
 have b0:=nM s i;have b1:=nM s (i+1);have b2:=nM s (i+2);have b3:=nM s (i+3);have hpre:=ahO s i;have ZJ:Sh s i=(decide ((sN s i).1=65533) && !preB (s.data.toList.drop i)):=rfl;rw [ZJ];clear ZJ;rw [ahP];have e:∀n,wid s i=n->∀j,0<j->j<n->(n=2->128<=bt s (i+1))->(n=3->128<=bt s (i+1)∧128<=bt s (i+2))->(n=4->128<=bt s (i+1)∧128<=bt s (i+2)∧128<=bt s (i+3))->n<=4->128<=bt s (i+j):=by
  intro n hn j hj hjn q2 q3 q4 hn4
  match j,hj with
  | 1,_=>match n,hjn with
    | 2,_=>exact q2 rfl
    | 3,_=>exact (q3 rfl).1
    | 4,_=>exact (q4 rfl).1
    | k+5,_=>omega
  | 2,_=>match n,hjn with
    | 3,_=>exact (q3 rfl).2
    | 4,_=>exact (q4 rfl).2.1
    | k+5,_=>omega
  | 3,_=>match n,hjn with
    | 4,_=>exact (q4 rfl).2.2
    | k+5,_=>omega
  | k+4,_=>omega
 by_cases h1:bt s i<128
 ·have hw1:wid s i=1:=by unfold wid;rw [if_pos h1]
  rw [if_pos h1,hw1];refine ⟨rfl,?_,by omega,fun _=>⟨rfl,rfl⟩,fun h=>by omega,fun j _ _=>by omega⟩;rw [decide_eq_false (show ¬bt s i=65533 by omega)];rfl
 ·rw [if_neg h1];by_cases h2:192<=bt s i∧bt s i<224
  ·have hw1:wid s i=oU s i 2 (bt s i - 192) 128:=by unfold wid;rw [if_neg h1,if_pos h2]
   have hq:i+2<=s.size∧128<=bt s (i+1)∧bt s (i+1)<192∧128<=(bt s i - 192) * 64+bt s (i+1) - 128∧wid s i=2:=by
    rw [hw1] at hw⊢;unfold oU at hw⊢;rw [ahQ] at hw⊢;by_cases q1:s.size<i+2
    ·rw [if_pos q1] at hw;omega
    rw [if_neg q1] at hw⊢;by_cases q2:bt s (i+1)<128∨192<=bt s (i+1)
    ·rw [if_pos q2] at hw;exact absurd rfl hw
    rw [if_neg q2] at hw⊢;simp only at hw⊢;split at hw
    ·omega
    ·rw [if_neg (by assumption)];omega
   obtain ⟨q1,q2,q3,q4,q5⟩:=hq;rw [if_pos (by omega),if_pos (by omega),q5];refine ⟨rfl,?_,by omega,fun h=>by omega,fun h=>by simp only;omega,fun j a b=>e _ q5 j a b (fun _=>q2) (fun h=>by omega) (fun h=>by omega) (by omega)⟩;rw [decide_eq_false (by simp only;omega)];rfl
  ·rw [if_neg (c:=bt s i / 32=6∧_) (by omega)];by_cases h3:224<=bt s i∧bt s i<240
   ·have hw1:wid s i=oU s i 3 (bt s i - 224) 2048:=by unfold wid;rw [if_neg h1,if_neg h2,if_pos h3]
    have hq:i+3<=s.size∧128<=bt s (i+1)∧bt s (i+1)<192∧128<=bt s (i+2)∧bt s (i+2)<192∧(2048<=((bt s i - 224) * 64+bt s (i+1) - 128) * 64+bt s (i+2) - 128∧¬(55296<=((bt s i - 224) * 64+bt s (i+1) - 128) * 64+bt s (i+2) - 128∧((bt s i - 224) * 64+bt s (i+1) - 128) * 64+bt s (i+2) - 128<57344))∧wid s i=3:=by
     rw [hw1] at hw⊢;unfold oU at hw⊢;rw [ahR] at hw⊢;by_cases q1:s.size<i+3
     ·rw [if_pos q1] at hw;omega
     rw [if_neg q1] at hw⊢;by_cases q2:bt s (i+1)<128∨192<=bt s (i+1)
     ·rw [if_pos q2] at hw;exact absurd rfl hw
     rw [if_neg q2] at hw⊢;by_cases q3:bt s (i+2)<128∨192<=bt s (i+2)
     ·rw [if_pos q3] at hw;exact absurd rfl hw
     rw [if_neg q3] at hw⊢;simp only at hw⊢;split at hw
     ·omega
     ·rw [if_neg (by assumption)];omega
    obtain ⟨q1,q2,q3,q4,q5,q6,q7⟩:=hq;rw [if_pos (by omega),if_pos (by omega),q7];refine ⟨rfl,?_,by omega,fun h=>by omega,fun h=>by simp only;omega,fun j a b=>e _ q7 j a b (fun h=>by omega) (fun _=>⟨q2,q4⟩) (fun h=>by omega) (by omega)⟩;by_cases hc:bt s i % 16 * 4096+bt s (i+1) % 64 * 64+bt s (i+2) % 64=65533
    ·rw [hpre.2 ⟨by omega,by omega,by omega,by omega⟩,Bool.and_comm];rfl
    ·rw [decide_eq_false (by simp only;omega)];rfl
   ·rw [if_neg (c:=bt s i / 16=14∧_) (by omega)];by_cases h4:240<=bt s i∧bt s i<248
    ·have hw1:wid s i=oU s i 4 (bt s i - 240) 65536:=by unfold wid;rw [if_neg h1,if_neg h2,if_neg h3,if_pos h4]
     have hq:i+4<=s.size∧128<=bt s (i+1)∧bt s (i+1)<192∧128<=bt s (i+2)∧bt s (i+2)<192∧128<=bt s (i+3)∧bt s (i+3)<192∧(65536<=(((bt s i - 240) * 64+bt s (i+1) - 128) * 64+bt s (i+2) - 128) * 64+bt s (i+3) - 128∧(((bt s i - 240) * 64+bt s (i+1) - 128) * 64+bt s (i+2) - 128) * 64+bt s (i+3) - 128<=1114111)∧wid s i=4:=by
      rw [hw1] at hw⊢;unfold oU at hw⊢;rw [ahS] at hw⊢;by_cases q1:s.size<i+4
      ·rw [if_pos q1] at hw;omega
      rw [if_neg q1] at hw⊢;by_cases q2:bt s (i+1)<128∨192<=bt s (i+1)
      ·rw [if_pos q2] at hw;exact absurd rfl hw
      rw [if_neg q2] at hw⊢;by_cases q3:bt s (i+2)<128∨192<=bt s (i+2)
      ·rw [if_pos q3] at hw;exact absurd rfl hw
      rw [if_neg q3] at hw⊢;by_cases q4:bt s (i+3)<128∨192<=bt s (i+3)
      ·rw [if_pos q4] at hw;exact absurd rfl hw
      rw [if_neg q4] at hw⊢;simp only at hw⊢;split at hw
      ·omega
      ·rw [if_neg (by assumption)];omega
     obtain ⟨q1,q2,q3,q4,q5,q6,q7,q8,q9⟩:=hq;rw [if_pos (by omega),if_pos (by omega),q9];refine ⟨rfl,?_,by omega,fun h=>by omega,fun h=>by simp only;omega,fun j a b=>e _ q9 j a b (fun h=>by omega) (fun h=>by omega) (fun _=>⟨q2,q4,q6⟩) (by omega)⟩;rw [decide_eq_false (by simp only;omega)];rfl
    ·exact absurd (by unfold wid;rw [if_neg h1,if_neg h2,if_neg h3,if_neg h4]) hw
def NZ (s:ByteArray):Nat->Nat->Int->Int->Option (Int×Int)
 | 0,_,_,_=>none
 | f+1,i,ln,col=>if i<s.size then (if wid s i=0 then some (ln,col) else if bt s i=10 then NZ s f (i+wid s i) (ln+1) 1 else NZ s f (i+wid s i) ln (col+1)) else none
theorem ahT (s:ByteArray) (i:Nat) (r:Int) (st:CS):(lM s i r st).ln=(if r=10 then st.ln+1 else st.ln)∧(lM s i r st).col=(if r=10 then 1 else st.col+1):=by
 have e1:(fe s i st).ln=st.ln:=by unfold fe;split<;>rfl
 unfold lM;by_cases h:r=10
 ·simp only [if_pos h];exact ⟨rfl,rfl⟩
 ·simp only [if_neg h];split
  ·exact ⟨e1,rfl⟩
  ·split
   ·exact ⟨rfl,rfl⟩
   ·split
    ·exact ⟨e1,rfl⟩
    ·split<;>exact ⟨rfl,rfl⟩
theorem N5 (s:ByteArray) (p:Nat) (h:p<s.size) (hw:wid s p≠0) (k:Int) (hk:k<128):((sN s p).1:Int)=k↔(bt s p:Int)=k:=by
 obtain ⟨_,_,_,h1,h2,_⟩:=ZI s p h hw;by_cases hb:bt s p<128
 ·have:=(h1 hb).1;omega
 ·have:=h2 (by omega);omega
structure DS where
 l:List (ByteArray×Int)
 e:Int
 col:Int
 Ek:Int
def d0:DS:=⟨[],1,1,-1⟩
def setLast (l:List (ByteArray×Int)) (x:ByteArray):List (ByteArray×Int):=match l.getLast? with | some (_,c)=>l.dropLast ++ [(x,c)] | none=>l
theorem ahU (l:List (ByteArray×Int)) (y x:ByteArray) (c:Int):setLast (l ++ [(y,c)]) x=l ++ [(x,c)]:=by simp [setLast]
def Si (t:ByteArray) (i:Nat) (d:DS):DS:=
 if bt t i=32∨bt t i=9 then {d with Ek:=-1,col:=d.col+1}
 else if d.Ek<0 then ⟨d.l ++ [(t.extract i (i+wid t i),d.col)],d.col+1,d.col+1,i⟩
 else ⟨setLast d.l (t.extract d.Ek.toNat (i+wid t i)),d.col+1,d.col+1,d.Ek⟩
def fin (d:DS):List (ByteArray×Int)×Int:=(d.l,d.e)
def GR (s:ByteArray):Nat->Nat->Bool->DS->List (List (ByteArray×Int)×Int)
 | 0,_,_,d=>[fin d]
 | f+1,p,stop,d=>if p<s.size then (if bt s p=10 then fin d :: GR s f (p+1) false d0 else if stop=true∨bt s p=59 then GR s f (p+wid s p) true d else GR s f (p+wid s p) false (Si s p d)) else [fin d]
def tm (L:List Tok):List (ByteArray×Int):=L.map fun t=>(t.text,t.fc)
def CF (L:List Tok):Int:=match L.getLast? with | some t=>t.bc | none=>1
theorem ahV (L:List Tok) (t:Tok):tm (L ++ [t])=tm L ++ [(t.text,t.fc)]:=by simp [tm]
theorem ahW (L:List Tok) (t:Tok):CF (L ++ [t])=t.bc:=by simp [CF]
structure Rel (s:ByteArray) (p:Nat) (st:CS) (stop:Bool) (d:DS):Prop where
 rem:st.rem=stop
 col:stop=false->d.col=st.col
 no:st.eC<0->d.l=tm st.line∧d.e=CF st.line∧(stop=false->d.Ek<0)
 yes:0<=st.eC->stop=false∧d.Ek=st.eC∧d.l=tm st.line ++ [(s.extract st.eC.toNat p,st.fc)]∧d.e=st.col∧st.fl=st.ln
 place:∀t∈st.line,t.fl=st.ln∧t.bl=st.ln
theorem Sj {s:ByteArray} {p:Nat} {st:CS} {stop:Bool} {d:DS} (h:Rel s p st stop d):fin d=(tm (fe s p st).line,CF (fe s p st).line)∧(∀t∈(fe s p st).line,t.fl=st.ln∧t.bl=st.ln)∧(fe s p st).eC<0:=by
 unfold fe fin;by_cases hb:0<=st.eC
 ·obtain ⟨_,_,h1,h2,h3⟩:=h.yes hb;rw [if_pos hb];refine ⟨?_,?_,by show (-1:Int)<0;omega⟩
  ·simp only [ahV,ahW,h1,h2]
  ·intro t ht;rcases List.mem_append.1 ht with ht | ht
   ·exact h.place t ht
   ·rw [List.mem_singleton.1 ht];exact ⟨h3,rfl⟩
 ·obtain ⟨h1,h2,_⟩:=h.no (by omega);rw [if_neg hb];exact ⟨by rw [h1,h2],h.place,by omega⟩
theorem ahX (s:ByteArray) (p:Nat) (st:CS) (h0:st.rem=false) (h1:st.col=1) (h2:st.eC<0) (h3:st.line=[]):Rel s p st false d0:=
 ⟨h0,fun _=>h1.symm,fun _=>by rw [h3];exact ⟨rfl,rfl,fun _=>by decide⟩,fun h=>by omega,fun t ht=>by rw [h3] at ht;cases ht⟩
theorem oV (s:ByteArray):∀(f p:Nat) (st:CS) (stop:Bool) (d:DS) (st':CS),p<=s.size->s.size<=p+f->Rel s p st stop d->NZ s f p st.ln st.col=none->NX s f p st= .inl st'->
 ∃Ls,(Ei s s.size st').lines=st.lines ++ Ls∧Ls.map (fun L=>(tm L,CF L))=GR s f p stop d∧∀(i:Nat) (L:List Tok),Ls[i]? =some L->∀t∈L,t.fl=st.ln+i∧t.bl=st.ln+i:=by
 have ZK:∀(p:Nat) (st:CS) (stop:Bool) (d:DS),p=s.size->Rel s p st stop d->
  ∃Ls,(Ei s s.size st).lines=st.lines ++ Ls∧Ls.map (fun L=>(tm L,CF L))=[fin d]∧∀(i:Nat) (L:List Tok),Ls[i]? =some L->∀t∈L,t.fl=st.ln+i∧t.bl=st.ln+i:=by
  intro p st stop d hp h;subst hp;obtain ⟨h1,h2,_⟩:=Sj h;refine ⟨[(fe s s.size st).line],rfl,by rw [h1];rfl,fun i L hi t ht=>?_⟩
  match i,hi with
  | 0,hi=>
    simp at hi;subst hi;have:=h2 t ht;simpa using this
  | i+1,hi=>simp at hi
 intro f
 induction f with
 | zero=>
   intro p st stop d st' hp hf hr _ hc;cases hc;exact ZK p st stop d (by omega) hr
 | succ f ih=>
   intro p st stop d st' hp hf hr hv hc;unfold NX at hc;unfold GR;unfold NZ at hv;by_cases hlt:p<s.size
   ·rw [if_pos hlt] at hc hv⊢;by_cases hw:wid s p=0
    ·rw [if_pos hw] at hv;cases hv
    rw [if_neg hw] at hv;obtain ⟨hw2,hb,hle,ha,hna,_⟩:=ZI s p hlt hw;rw [hb,hw2] at hc;have N6:=(N5 s p hlt hw 10 (by decide)).trans (by omega:((bt s p:Int)=10)↔bt s p=10);have ZL:=(N5 s p hlt hw 59 (by decide)).trans (by omega:((bt s p:Int)=59)↔bt s p=59);have r32:=(N5 s p hlt hw 32 (by decide)).trans (by omega:((bt s p:Int)=32)↔bt s p=32);have r9:=(N5 s p hlt hw 9 (by decide)).trans (by omega:((bt s p:Int)=9)↔bt s p=9);obtain ⟨t1,t2⟩:=ahT s p (sN s p).1 st;generalize ((sN s p).1:Int)=r at *;have hc':NX s f (p+wid s p) (lM s p r st)= .inl st':=hc;by_cases h10:bt s p=10
    ·rw [if_pos h10] at hv⊢;have zP:=N6.2 h10;have hw1:wid s p=1:=(ha (by omega)).2;rw [if_pos zP] at t1 t2;have et:lM s p r st=Ei s p st:=by unfold lM;rw [if_pos zP]
     obtain ⟨e1,e2,e3⟩:=Sj hr;obtain ⟨Ls,l1,l2,l3⟩:=ih (p+wid s p) (lM s p r st) false d0 st' hle (by omega) (ahX s _ _ (by rw [et];rfl) (by rw [t2]) (by rw [et];exact e3) (by rw [et];rfl)) (by rw [t1,t2];exact hv) hc';refine ⟨(fe s p st).line :: Ls,?_,?_,?_⟩
     ·rw [l1,et];show (st.lines ++ [(fe s p st).line]) ++ Ls=_
      simp
     ·rw [List.map_cons,l2,e1,hw1]
     ·intro i L hi t ht
      match i,hi with
      | 0,hi=>
        simp at hi;subst hi;have:=e2 t ht;simpa using this
      | i+1,hi=>
        simp at hi;have:=l3 i L hi t ht;rw [t1] at this;omega
    ·rw [if_neg h10] at hv⊢;have zP:¬r=10:=fun e=>h10 (N6.1 e);rw [if_neg zP] at t1 t2;have ahY:(lM s p r st).lines=st.lines:=by
      have q:(fe s p st).lines=st.lines:=by unfold fe;split<;>rfl
      unfold lM;rw [if_neg zP];split
      ·exact q
      ·split
       ·rfl
       ·split
        ·exact q
        ·split<;>rfl
     have go:∀(El:Bool) (d2:DS),Rel s (p+wid s p) (lM s p r st) El d2->∃Ls,(Ei s s.size st').lines=st.lines ++ Ls∧Ls.map (fun L=>(tm L,CF L))=GR s f (p+wid s p) El d2∧∀(i:Nat) (L:List Tok),Ls[i]? =some L->∀t∈L,t.fl=st.ln+i∧t.bl=st.ln+i:=by
      intro El d2 h2;have:=ih (p+wid s p) (lM s p r st) El d2 st' hle (by omega) h2 (by rw [t1,t2];exact hv) hc';rw [ahY,t1] at this;exact this
     obtain ⟨e1,e2,e3⟩:=Sj hr;have ZM:(fe s p st).ln=st.ln:=by unfold fe;split<;>rfl
     have ahZ:(fe s p st).rem=st.rem:=by unfold fe;split<;>rfl
     have ef:(d.l,d.e)=(tm (fe s p st).line,CF (fe s p st).line):=e1;simp only [vU] at ef;by_cases N7:bt s p=59
     ·rw [if_pos (.inr N7)];have et:lM s p r st= {fe s p st with rem:=true,col:=st.col+1}:=by unfold lM;rw [if_neg zP,if_pos (ZL.2 N7)]
      refine go true d ?_;rw [et]
      exact ⟨rfl,(fun h=>by cases h),fun _=>⟨ef.1,ef.2,(fun h=>by cases h)⟩,(fun h=>by have h':0<=(fe s p st).eC:=h;omega),fun t ht=>by
       have:=e2 t ht;show t.fl=(fe s p st).ln∧t.bl=(fe s p st).ln
       rw [ZM];exact this⟩
     ·have N8:¬r=59:=fun e=>N7 (ZL.1 e);cases hstop:stop
      ·subst hstop;rw [if_neg (by simp [N7])];have Kb:¬st.rem=true:=by rw [hr.rem];decide
       refine go false _ ?_;by_cases hsp:bt s p=32∨bt s p=9
       ·have N9:r=32∨r=9:=by rcases hsp with h | h;exact .inl (r32.2 h);exact .inr (r9.2 h)
        have et:lM s p r st= {fe s p st with col:=st.col+1}:=by unfold lM;rw [if_neg zP,if_neg N8,if_neg Kb,if_pos N9]
        rw [et];unfold Si;rw [if_pos hsp];refine ⟨by show (fe s p st).rem=_;rw [ahZ];exact hr.rem,fun _=>by show d.col+1=st.col+1;rw [hr.col rfl],fun _=>⟨ef.1,ef.2,fun _=>by show (-1:Int)<0;omega⟩,(fun h=>by have h':0<=(fe s p st).eC:=h;omega),fun t ht=>?_⟩;have:=e2 t ht;show t.fl=(fe s p st).ln∧t.bl=(fe s p st).ln
        rw [ZM];exact this
       ·have N9:¬(r=32∨r=9):=fun h=>hsp (by rcases h with h | h;exact .inl (r32.1 h);exact .inr (r9.1 h));unfold Si;rw [if_neg hsp];by_cases hbg:st.eC<0
        ·have et:lM s p r st= {st with eC:=p,fl:=st.ln,fc:=st.col,col:=st.col+1}:=by unfold lM;rw [if_neg zP,if_neg N8,if_neg Kb,if_neg N9,if_pos hbg]
         obtain ⟨n1,n2,n3⟩:=hr.no hbg;rw [et,if_pos (n3 rfl)];refine ⟨hr.rem,fun _=>by show d.col+1=st.col+1;rw [hr.col rfl],fun h=>?_,fun h=>⟨rfl,rfl,?_,?_,rfl⟩,hr.place⟩
         ·have h':(p:Int)<0:=h;omega
         ·show d.l ++ [(s.extract p (p+wid s p),d.col)]=tm st.line ++ [(s.extract (p:Int).toNat (p+wid s p),st.col)]
          rw [n1,hr.col rfl,Int.toNat_natCast]
         ·show d.col+1=st.col+1
          rw [hr.col rfl]
        ·have et:lM s p r st= {st with col:=st.col+1}:=by unfold lM;rw [if_neg zP,if_neg N8,if_neg Kb,if_neg N9,if_neg hbg]
         obtain ⟨y1,y2,y3,y4,y5⟩:=hr.yes (by omega);rw [et,if_neg (by omega)];refine ⟨hr.rem,fun _=>by show d.col+1=st.col+1;rw [hr.col rfl],fun h=>absurd h hbg,fun h=>⟨rfl,y2,?_,?_,y5⟩,hr.place⟩
         ·show setLast d.l (s.extract d.Ek.toNat (p+wid s p))=tm st.line ++ [(s.extract st.eC.toNat (p+wid s p),st.fc)]
          rw [y3,ahU,y2]
         ·show d.col+1=st.col+1
          rw [hr.col rfl]
      ·subst hstop;rw [if_pos (.inl rfl)];have Kb:st.rem=true:=hr.rem;have et:lM s p r st= {st with col:=st.col+1}:=by unfold lM;rw [if_neg zP,if_neg N8,if_pos Kb]
       refine go true d ?_;rw [et];have hbg:st.eC<0:=by
        rcases Int.lt_or_le st.eC 0 with h | h
        ·exact h
        ·have:=(hr.yes h).1;cases this
       obtain ⟨n1,n2,n3⟩:=hr.no hbg;exact ⟨hr.rem,(fun h=>by cases h),fun _=>⟨n1,n2,(fun h=>by cases h)⟩,(fun h=>by have h':0<=st.eC:=h;omega),hr.place⟩
   ·rw [if_neg hlt] at hc⊢;cases hc;exact ZK p st stop d (by omega) hr
end
end Go.Proofs.YtmmflekajbeamaaGreatDoor
