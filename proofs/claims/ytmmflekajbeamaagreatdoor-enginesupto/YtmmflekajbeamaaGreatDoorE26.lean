/- Texts of ours, joined, in few bytes. -/
import Derived.Test.YtmmflekajbeamaaGreatDoorE25
open Array renaming replicate->Nl
open Bool renaming and_eq_true->gG
open Go.Act renaming put->xN
open Go.Code renaming region->Gi
open Go.Instr renaming loadAt->kR
open Go.IntKind renaming wrap_i64->AJ
open Go renaming Oper->bI,Program->mM,Value->aj,execOp->kF,heap_alloc_new->bg,mem_ready->Cf,ready_mono->zn,wpOp_mono->AK,wp_region_any->Nn
open Go.Proofs.Tryz renaming prog->au,underlying187->nE
open Go.Region renaming Mode->pN,binds->xL,free->JI,free_spec->Gk,noSelect->vR,noSelect_spec->Gj,ready->oL,wanted->xM
open Go.Result renaming andThen->kN
open Go.RowKit renaming Below->ak
open Go.RowKit.Below renaming refl->aA
open Go.Sem renaming run->qi,run_bind->kB
open Go.Value renaming int->cI
open Go.World renaming cell?_of_block->aP
open List renaming all_eq_true->oh,getD_eq_getElem?_getD->bP,getElem?_eq_getElem->bE,getElem?_map->iX,getElem_cons_succ->xO,getElem_cons_zero->vY,getElem_toArray->vX,length_cons->jM,length_map->jV,length_nil->vT,length_take->ny,mem_of_getElem?->oK,mem_range->mL
open Nat renaming le_refl->ax,le_trans->aT,lt_or_ge->oM,zero_add->ol
namespace Go.Proofs.YtmmflekajbeamaaGreatDoor
set_option maxRecDepth 100000
set_option maxHeartbeats 8000000
section
open Go
section
variable {P:mM} {ops:Array bI} {Q:Exit->Act->World->Prop} {md:pN} {S:World->Prop} {q:Nat}
theorem aqq {i:Nat} {oi:bI} {v:aj} (hi:ops[i]? =some oi) (hsel:∀(j:Nat) (o:bI) cs b,ops[j]? =some o->o.op≠.select cs b)
 (hQ:∀c a w,Q (.panic c) (a.put oi.dst v) w->Q (.panic c) a w):
 ∀(fuel:Nat) (listed:Array Bool) (a:Act) (w:World),
  (∀j oj,ops[j]? =some oj->j≠i->listed.getD j true=false->(∀e∈oj.after,xL md e=true->e.on≠i)->oi.apart ops oj=true)->
  i∈oL md ops listed->YieldsIf P ops (fun _=>True) oi v a->
  wpAny P md ops Q fuel (listed.setIfInBounds i true) (a.put oi.dst v) w->wpAny P md ops Q (fuel+1) listed a w:=by
 intro fuel
 induction fuel with
 | zero=>
   intro listed a w _ hr hy H;refine ⟨fun h=>(by rw [h] at hr;cases hr),fun j hj=>?_⟩;by_cases hji:j=i
   ·subst hji;exact hy.wpOp hi trivial H
   ·have:=zn hj hji;rw [H.1] at this;cases this
 | succ fuel ih=>
   intro listed a w hfree hr hy H;refine ⟨fun h=>(by rw [h] at hr;cases hr),fun j hj=>?_⟩;by_cases hji:j=i
   ·subst hji;exact hy.wpOp hi trivial H
   ·have h1:=H.2 j (zn hj hji);obtain ⟨hjun,oj,hoj,hall⟩:=Cf.1 hj;have h0:listed.getD i true=false:=(Cf.1 hr).1;have hnot:∀e∈oj.after,xL md e=true->e.on≠i:=fun e he hb heq=>by
     have h1:=hall e he hb;rw [heq] at h1;rcases oM i listed.size with h' | h'
     ·simp [h'] at h0 h1;rw [h0] at h1;cases h1
     ·simp [Array.getElem?_eq_none h'] at h1
    have h2:=wpOp_putIf hoj (hfree j oj hoj hji hjun hnot) (fun cs b=>hsel i oi cs b hi) (fun cs b=>hsel j oj cs b hoj) hQ hy h1;have hfree':∀k ok,ops[k]? =some ok->k≠i->(listed.setIfInBounds j true).getD k true=false->
     (∀e∈ok.after,xL md e=true->e.on≠i)->oi.apart ops ok=true:=fun k ok hk hki hun hno=>by
     refine hfree k ok hk hki ?_ hno;by_cases hjk:j=k
     ·subst hjk;exact hjun
     ·rw [getD_set_ne true hjk] at hun;exact hun
    refine AK (fun a' w' h3=>ih (listed.setIfInBounds j true) a' w' hfree' (zn hr (Ne.symm hji)) h3.1 ?_) h2;rw [Array.setIfInBounds_comm _ _ hji];exact h3.2
def I0 (P:mM) (ops:Array bI) (L:Act->Prop):List Nat->Act->Prop
 | [],a=>L a
 | i :: ps,a=>∃o v,ops[i]? =some o∧YieldsIf P ops (fun _=>True) o v a∧I0 P ops L ps (a.put o.dst v)
theorem yO {L:Act->Prop} {a:Act} (h:L a):I0 P ops L [] a:=h
theorem yP {L:Act->Prop} {a:Act} {i:Nat} {o:bI} {ps:List Nat} (v:aj) (hi:ops[i]? =some o) (hw:xM o (yielded ops a.tmps)=true) (hv:∀w,(kF a.eval o).run P w= .ok (.value v) w)
 (h:I0 P ops L ps (a.put o.dst v)):I0 P ops L (i :: ps) a:=⟨o,v,hi,.inl ⟨hw,fun w _=>hv w⟩,h⟩
def Qg (md:pN) (ops:Array bI) (F q:Nat) (pl:List (Option Bool×Nat)):List Nat->Array Bool->Bool
 | [],listed=>BS md ops F q pl listed
 | i :: ps,listed=>(oL md ops listed).contains i && JI md ops listed i && Qg md ops F q pl ps (listed.setIfInBounds i true)
theorem ad5 {F:Nat} {pl:List (Option Bool×Nat)} {w:World} (hsel:vR ops=true) (hQ:∀d v c a w,Q (.panic c) (xN a d v) w->Q (.panic c) a w) (hS:S w):∀(ps:List Nat) (listed:Array Bool) (a:Act),Qg md ops F q pl ps listed=true->I0 P ops (fun a'=>tL P ops Q S q pl a' w) ps a->wpAny P md ops Q (ps.length+pl.length) listed a w
 | [],listed,a,hB,h=>by
   rw [vT,ol];exact Eg _ _ _ _ (Qf hsel hQ pl listed a w (fun _=>hS) hB h)
 | i :: ps,listed,a,hB,h=>by
   simp only [Qg,gG] at hB;obtain ⟨⟨hr,hf⟩,hB'⟩:=hB;obtain ⟨o,v,h0,hy,hK⟩:=h;rw [jM,show ps.length+1+pl.length=ps.length+pl.length+1 by omega];exact aqq h0 (Gj hsel) (hQ o.dst v) _ listed a w (Gk h0 hf) (by simpa using hr) hy (ad5 hsel hQ hS ps _ _ hB' hK)
def ad6 (ops:Array bI) (F:Nat) (ps:List Nat) (pl:List (Option Bool×Nat)) (q:Nat):Bool:=vR ops && decide (ps.length+pl.length=ops.size) && Qg .any ops F q pl ps (Nl ops.size false)
theorem yQ {id:Nat} {a:Act} {w:World} (F:Nat) (ps:List Nat) (pl:List (Option Bool×Nat)) (q:Nat) (S:World->Prop) (hm:P.follows .mixedOrders=true) (hB:ad6 ops F ps pl q=true)
 (hQ:∀d v c a w,Q (.panic c) (xN a d v) w->Q (.panic c) a w) (hS:S w.drew)
 (h:I0 P ops (fun a'=>tL P ops Q S q pl a' w.drew) ps a):(Gi id ops true).wp P Q a w:=by
 simp only [ad6,gG,decide_eq_true_eq] at hB;obtain ⟨⟨hsel,hlen⟩,hpl⟩:=hB;refine Nn hm ?_;have H:=ad5 (P:=P) (md:=.any) (Q:=Q) (S:=S) (q:=q) (F:=F) (pl:=pl) (w:=w.drew) hsel hQ hS ps _ a hpl h;rw [hlen] at H;exact H
end
end
section
open Go.RowKit Go.Maps Go.WideMaps
theorem ad7:(Tryz.prog.info? 25).map (·.size)=some 8:=by kernel_rfl
theorem aqr:(Tryz.prog.info? 26).map (·.size)=some 128:=by kernel_rfl
theorem aqs (w:World) (E o:Nat) (z:List Int) (hz:z.length=8) (h:w.rangeAt E o (z.map (cI .i64))):(kR 25 (.pointer (some ⟨E,o,none⟩))).run au w= .ok (.agg (S z)) w:=
 run_loadAt_mid w E o 25 (z.map (cI .i64)) _ h Tryz.underlying25 rfl (by rw [ad7,jV,hz])
theorem ad8 (w:World) (E o:Nat) (z:List Int) (hz:z.length=128) (h:w.rangeAt E o (z.map (cI .i64))):(kR 26 (.pointer (some ⟨E,o,none⟩))).run au w= .ok (.agg (S z)) w:=
 run_loadAt_mid w E o 26 (z.map (cI .i64)) _ h Tryz.underlying26 rfl (by rw [aqr,jV,hz])
theorem ad9 {n:Nat} {l:List Int} (h:WL n l):kU (gz l) n=true:=by
 unfold kU;rw [oh];intro i hi;exact (wu _).2 (h.at (mL.1 hi))
def I1 (g:ay):Prop:=∀k∈g.b 2,tD (ah (aQ k.1)) (ah k.2) 0
theorem aea {ws:List Nat} (h:gi (ah (aQ ws))):tD (ah (aQ ws)) (ah (dw ws)) 0:=by
 have hb:=aj0 h;have hl:(xR (ah (aQ ws))).length<=10:=by
  have:=(NL h).2;have h1:=uS (ah (aQ ws));have h2:=h.2.1;omega
 refine .inr (.inr (.inl ⟨h,ajT hb hl,?_,rfl⟩));unfold dw;rw [ajS (fun p hp=>(hb p hp).1.bd (hb p hp).2)];exact ajq h
theorem VE (ws:List Nat) (h:gi (ah (aQ ws))):(dw ws).length<=80:=by
 unfold dw;rw [JX];have:=(NL h).2;have h1:=uS (ah (aQ ws));have h2:=h.2.1;omega
theorem I2 (g:ay) (ws:List Nat):(dS g ws).1.z=g.z:=by
 unfold dS;split
 ·rfl
 ·show (cB g ws).1.z=g.z
  unfold cB
  repeat' split
  all_goals rfl
theorem aeb {g:ay} {ws:List Nat} (h:I1 g) (hb:gi (ah (aQ ws))):tD (ah (aQ ws)) (ah (dS g ws).2) 0:=by
 unfold dS;cases hq:fB (g.b 2) ws with
 | some p=>
   obtain ⟨n,hn,_⟩:=IP hq;exact h (ws,p) (oK hn)
 | none=>
   show tD _ (ah (cB g ws).2) 0
   unfold cB;cases hk:fB (g.b 0) ws with
   | some p=>
     simp only;split
     ·rename_i ha;exact (LX _ _).1 ha
     ·exact aea hb
   | none=>exact aea hb
theorem aqt {z:List Int} (h:lu z) (hs:gz z 137=0) (r:List Int):r ++ z.drop 8=jF r (iW z) (kP z:Int) 0:=by
 have h1:=SN h.len;have h2:z.drop 8=iW z ++ [gz z 136,gz z 137]:=by
  unfold iW
  conv=>lhs;rw [h1]
  unfold jF;rw [List.drop_append_of_le_length (by rw [ny,h.len];decide),List.drop_of_length_le (by rw [ny];omega),List.nil_append]
 rw [h2,h.pc.2,hs];rfl
theorem bH.VF {E D:Nat} {g:ay} {m v:Nat->aj} {w:World} (h:bH E D g m v w) {r mem:List Int} {pc st:Int} (hr:r.length=8) (hm:mem.length=128) (hz:g.z=jF r mem pc st):w.cell? ⟨E,139,none⟩=some (.int .i64 pc):=by
 have hl:(jF r mem pc st).length=138:=aaF hr hm;have e:=Oz (pc:=pc) (st:=st) hr hm;refine h.st 136 (.int .i64 pc) ?_;rw [hz,iX];unfold gz at e;rw [bP,bE (by rw [hl];decide)] at e;rw [bE (by rw [hl];decide)];have e':(jF r mem pc st)[136]=pc:=e;rw [e'];rfl
theorem aec {z:List Int} (h:lu z) (hs:gz z 137=0):jF (((dD (ah (aQ (aO z)))).take (jo (ah (aQ (aO z))))).foldl (rD (iW z)) (z.take 8)) (iW z) (((kP z+iw (aO z)) % 128:Nat):Int) 0=fO (iw (aO z)) z∧(iw (aO z)<(aO z).length->(gH (fO (iw (aO z)) z)).1=fO (aO z).length z)∧(¬iw (aO z)<(aO z).length->fO (iw (aO z)) z=fO (aO z).length z):=by
 have hn:=VC h;refine ⟨?_,fun hl=>?_,fun hl=>?_⟩
 ·rw [hn,adR h hs _ (ax _)];unfold yg;rw [VA];congr 1
 ·have:(aO z).length=iw (aO z)+1:=by
   unfold iw at hl⊢;split at hl
   ·rename_i hc;rw [if_pos hc];omega
   ·omega
  rw [this,Qa];rfl
 ·have:(aO z).length=iw (aO z):=by
   unfold iw at hl⊢;split at hl
   ·rename_i hc;omega
   ·rename_i hc;rw [if_neg hc]
  rw [<-this]
def xD (g:ay):ay:={(dS g (aO g.z)).1 with z:=fO (aO g.z).length g.z}
theorem aqu (E D:Nat) (g:ay) (m v:Nat->aj) (w:World) (kk:Nat) (h:bH E D g m v w) (ht:bF w) (hE:0<E) (hz:lu g.z) (hs:gz g.z 137=0) (hrd:I1 g) (mz:qd g kk) (hkk:kk<=100000000000) (hpl:∀k∈g.b 0,k.2.length<=1000000):
 Calls au 141 #[.pointer (some ⟨E,0,none⟩),.agg (S (aD (aO g.z)))] w fun e' w'=>e'= .returned (.tuple #[])∧gD E D m v w (xD g) w':=by
 have hU:=hz.Fk;have hblk:=hz.blk;obtain ⟨W0,bq⟩:∃W0,W0=w.alloc (.cells (S (aD (aO g.z))) 187):=⟨_,rfl⟩;have hb0:ak w.heap.size w W0:=by rw [bq];exact (aA _ _).alloc (ax _) _
 have rX:aK W0 w.heap.size 187 (aD (aO g.z)):=by rw [bq];exact bg w _
 have mX:=nT hU.1;have hr8:(g.z.take 8).length=8:=hz.parts.1.1;have Av:(iW g.z).length=128:=hz.parts.2.1;have nY:=af (fun w' x=>Vm w' x (aD (aO g.z)) mX);have HLr:=af (fun w'=>aqs w' E 3 (g.z.take 8) hr8);have I3:=af (fun w'=>ad8 w' E 11 (iW g.z) Av);have HH:=af h;have HZ:=af hz;have HS:=af hs;have mq:=af ht;have mg:=af hE;have k0:bH E D g m v W0.drew:=h.kept (fun x q=>hb0.block x (h.has q).2);have HPf:=af (apK E D g m v (aO g.z) W0.drew kk k0 (ht.below ht.pos hb0.drew) hE hU hblk mz hkk hpl);have hacc:=aeb (ws:=aO g.z) hrd hblk;obtain ⟨vp,hdo⟩:=apN hz hacc;have hps:(ah (dS g (aO g.z)).2).size<=maxLen:=by have:=vp.2.1;unfold maxLen;omega
 have HDo:=af (fun w'=>ajK (ah (dS g (aO g.z)).2) (g.z.take 8) (iW g.z) w' hr8 Av hps);have EI:Bm (g.z.take 8) (iW g.z):=⟨ad9 hz.parts.1,ad9 hz.parts.2⟩;have gu:=af (fun w' (ht':bF w')=>SF (aO g.z) w' ht' hU.1 hU.2);have bM:=af hb0;have fV:=af bq;have pY:=af vp;have tA:=af hdo;have SS:=af EI;have c1:=k0.aF;have c2:=k0.Qd;clear h ht hE hz hs hrd mz hkk hpl hb0 bq k0 hU hblk hacc vp hdo hps EI;generalize hRG:g.z.take 8=RG at *;have Mh:=af hRG;clear hRG;go_enter Tryz.func141,Tryz.ntmps141;go_upto_region 2 with fail
 rw [<-fV.out];refine yQ 8 [0,1,4,5,6,8,9,10] [(some true,2),(some true,7),(some true,11),(some false,3),(some false,12),(some false,13),(none,14),(none,15),(some false,16),(some false,17),(some false,18)] 14 (fun w'=>aK w' w.heap.size 187 (aD (aO g.z))∧w'.rangeAt E 3 (RG.map (cI .i64))∧w'.rangeAt E 11 ((iW g.z).map (cI .i64))) (by kernel_rfl) (by kernel_rfl) (fun d _ _ _ _ h=>by cases d<;>exact h) ⟨rX,c1,c2⟩ ?_
 iterate 8
  refine yP ?_ rfl rfl ?_ ?_
  rotate_left
  ·intro w';go_simp;rfl
  go_simp
 refine yO ?_;refine qK (.agg (S (aD (aO g.z)))) rfl rfl ?_ ?_
 ·rintro w' ⟨d0,d1,d2⟩;have hl:=nY.out w' _ d0;simp only [kF,vX,xO,vY,kB];show kN (qi au (kR 187 (.pointer (some ⟨w.heap.size,0,none⟩))) w') _=_
  rw [hl];rfl
 go_simp;refine qK (.agg (S RG)) rfl rfl ?_ ?_
 ·rintro w' ⟨d0,d1,d2⟩;have hl:=HLr.out w' d1;simp only [kF,vX,xO,vY,kB];show kN (qi au (kR 25 (.pointer (some ⟨E,3,none⟩))) w') _=_
  rw [hl];rfl
 go_simp;refine qK (.agg (S (iW g.z))) rfl rfl ?_ ?_
 ·rintro w' ⟨d0,d1,d2⟩;have hl:=I3.out w' d2;simp only [kF,vX,xO,vY,kB];show kN (qi au (kR 26 (.pointer (some ⟨E,11,none⟩))) w') _=_
  rw [hl];rfl
 go_simp;refine jI rfl rfl (fun K hK=>?_);go_simp;refine (aq HPf).mono ?_;rintro e w1 ⟨rfl,m1,v1,k1,VG,o1⟩;have VH:¬dc E m v w.heap.size:=fun q=>by have:=(HH.out.has q).2;omega
 have Qh:aK w1 w.heap.size 187 (aD (aO g.z)):=rX.keep (VG.other _ rX.lt VH);have BT:¬dc E m1 v1 w.heap.size:=fun q=>by
  rcases o1 _ q with a | a
  ·exact VH a
  ·have:=rX.lt;have:W0.drew.heap.size=W0.heap.size:=rfl;omega
 have d1:=k1.aF;have d2:=k1.Qd;rw [I2,Mh.out] at d1;rw [I2] at d2;go_simp;refine hK _ _ (fun _=>⟨Qh,d1,d2⟩) ?_;clear hK K;refine jI rfl rfl (fun K hK=>?_);go_simp;refine (aq HDo _).mono ?_;rintro e w2 ⟨hb2,hres⟩;have hres':e= .returned (.tuple #[.agg (S ((uT (iW g.z) (dO (ah (dS g (aO g.z)).2) ((ah (dS g (aO g.z)).2).size / 8)) (gj RG)).take 8)),.int .i64 0]):=by
  rcases hres with ⟨a,_⟩ | ⟨_,a,_⟩ | ⟨_,_,a⟩
  ·exact absurd SS.out a
  ·exact absurd pY.out a
  ·exact a
 rw [tA.out] at hres';subst hres';generalize Du:((dD (ah (aQ (aO g.z)))).take (jo (ah (aQ (aO g.z))))).foldl (rD (iW g.z)) RG=R2 at *;have dW:=af Du;have Qi:aK w2 w.heap.size 187 (aD (aO g.z)):=Qh.keep (hb2.block _ Qh.lt);have k2:bH E D (dS g (aO g.z)).1 m1 v1 w2:=k1.kept (fun x q=>hb2.block x (k1.has q).2);have e1:=k2.aF;have e2:=k2.Qd;rw [I2,Mh.out] at e1;rw [I2] at e2;clear Du hres;go_simp;refine hK _ _ (fun _=>⟨Qi,e1,e2⟩) ?_;clear hK K;refine jI rfl rfl (fun K hK=>?_);go_simp;refine hK _ _ (fun _=>⟨Qi,e1,e2⟩) ?_;clear hK K
 iterate 2
  refine Qe ?_ rfl rfl ?_ ?_
  rotate_left
  ·intro w';go_simp;rfl
  go_simp
 iterate 2
  refine jI rfl rfl (fun K hK=>?_);go_simp;refine hK _ _ (fun h=>absurd h (by decide)) ?_;clear hK K
 have Mi:R2.length=8:=by
  rw [<-dW.out,<-Mh.out];exact (KF HZ.out.parts.1 HZ.out.parts.2 HZ.out.pc.1 _).1
 have xC:w2.there E 3 (S R2).size:=fun j hj=>⟨k2.st.isSome j (by rw [jV,k2.zl];rw [bQ,Mi] at hj;omega),k2.fz _⟩;refine jI rfl rfl (fun K hK=>?_);refine wp_store_mid 25 _ _ rfl E 3 (S R2) rfl rfl xC (by rw [ad7,bQ,Mi]) (zE R2) ?_;refine hK _ _ (fun h=>absurd h (by decide)) ?_;clear hK K;refine uH ?_;obtain ⟨W3,eY⟩:∃W3,W3=w2.setCells E 3 (S R2).toList:=⟨_,rfl⟩;rw [<-eY];have k3:bH E D {(dS g (aO g.z)).1 with z:=R2 ++ (dS g (aO g.z)).1.z.drop 8} m1 v1 W3:=by rw [eY];exact k2.aqn R2 Mi
 rw [I2] at k3;have VJ:aM (dc E m v) w W3:=by
  refine (aM.bh bM.out.drew).trans (fun x q=>.inl q) ?_;refine VG.trans (F1:=dc E m1 v1) o1 ?_;refine (aM.bh hb2).trans (fun x q=>.inl q) ?_;rw [eY];exact (aM.setCells w2 E 3 _).weak (fun x q=>.inl (.inl q))
 have hO3:∀x,dc E m1 v1 x->dc E m v x∨w.heap.size<=x:=fun x q=>(o1 x q).imp id (fun a=>aT bM.out.size a);have Qj:aK W3 w.heap.size 187 (aD (aO g.z)):=Qi.keep (by rw [eY];exact heap_setCells_other E _ 3 w2 _ (fun e=>BT (.inl e)));have zY:kP g.z<128:=HZ.out.pc.1;have hzf:=aqt HZ.out HS.out R2;rw [hzf] at k3;have ael:=k3.VF Mi Av rfl;have Qk:bF W3:=mq.out.bD HH.out mg.out VJ;have fM:=af k3;have I4:=af VJ;have iR:=af hO3;have Aq:=af Qk;have HR8:=af Mi;have uk:=af eY;have VK:iw (aO g.z)<=8:=by rw [VC HZ.out];have h1:=uS (ah (aQ (aO g.z)));have h2:=HZ.out.blk.2.1;omega
 have f139:=k3.fz 139;have VL:=BT;have aen:w.heap.size<W3.heap.size:=Qj.lt;have aqv:w.heap.size≠E:=fun e=>BT (.inl e);clear k1 k2 k3 VJ hO3 hzf VG o1 Qh Qi rX d1 d2 e1 e2 c1 c2 hb2 eY Qk xC VH BT HDo HPf HLr I3 bM fV VL;have cR:Hid (∀N,N=iw (aO g.z)->jF R2 (iW g.z) (((kP g.z+N) % 128:Nat):Int) 0=fO N g.z∧(N<(aO g.z).length->(gH (fO N g.z)).1=fO (aO g.z).length g.z)∧(¬N<(aO g.z).length->fO N g.z=fO (aO g.z).length g.z)):=fun N hN=>by
  rw [hN,<-dW.out,<-Mh.out];exact aec HZ.out HS.out
 have qT:Hid (gz (aD (aO g.z)) 0=((aO g.z).length:Int)):=CO _;have hL8:(aO g.z).length<=8:=HZ.out.Fk.1;generalize hN:iw (aO g.z)=N at *;have gL:=af (cR.out N rfl);have Aw:IntKind.i64.wrap ((kP g.z:Int)+(N:Int))=((kP g.z+N:Nat):Int):=by rw [AJ];omega
 have vJ:((kP g.z+N:Nat):Int).tmod 128=(((kP g.z+N) % 128:Nat):Int):=by rw [Int.tmod_eq_emod_of_nonneg (by omega)];omega
 have hP2:IntKind.i64.wrap (((kP g.z+N) % 128:Nat):Int)=(((kP g.z+N) % 128:Nat):Int):=by rw [AJ];omega
 generalize hPc:(kP g.z+N) % 128=PC at *;generalize hPs:kP g.z+N=PS at *;clear hN cR dW Mh VK zY hPc hPs pY SS;go_upto_region 3 with fail
 refine yQ 8 [0,1,2,3] [(some true,4),(some true,5),(some false,6),(some false,7),(some false,8),(some false,9),(some false,10),(some false,11)] 7 (fun w'=>aK w' w.heap.size 187 (aD (aO g.z))∧w'.cell? ⟨E,139,none⟩=some (.int .i64 (kP g.z:Int))) (by kernel_rfl) (by kernel_rfl) (fun d _ _ _ _ h=>by cases d<;>exact h) ⟨Qj,ael⟩ ?_
 iterate 4
  refine yP ?_ rfl rfl ?_ ?_
  rotate_left
  ·intro w';go_simp;rfl
  go_simp
 refine yO ?_;refine qK ?_ rfl rfl ?_ ?_
 rotate_left
 ·rintro w' ⟨d0,d1⟩;go_simp;rfl
 go_simp;refine qK (.agg (S (aD (aO g.z)))) rfl rfl ?_ ?_
 ·rintro w' ⟨d0,d1⟩;have hl:=nY.out w' _ d0;simp only [kF,vX,xO,vY,kB];show kN (qi au (kR 187 (.pointer (some ⟨w.heap.size,0,none⟩))) w') _=_
  rw [hl];rfl
 go_simp;refine jI rfl rfl (fun K hK=>?_);go_simp;refine (aq gu _ (Aq.out.below Aq.out.pos ((aA _ _).drew))).mono ?_;rintro e w4 ⟨rfl,aeo⟩;have fZ:ak W3.heap.size W3 w4:=((aA _ _).drew).trans aeo;have VM:aK w4 w.heap.size 187 (aD (aO g.z)):=Qj.keep (fZ.block _ aen);have k4:=fM.out.kept (w':=w4) (fun x q=>fZ.block x (fM.out.has q).2);have aep:=k4.VF HR8.out Av rfl;have f4:=k4.fz 139;go_simp;refine hK _ _ (fun _=>⟨VM,aep⟩) ?_;clear hK K
 iterate 5
  refine jI rfl rfl (fun K hK=>?_);go_simp;refine hK _ _ (fun h=>absurd h (by decide)) ?_;clear hK K
 refine uH ?_;obtain ⟨W5,gE⟩:∃W5,W5=w4.setCell ⟨E,139,none⟩ (.int .i64 (PC:Int)):=⟨_,rfl⟩;rw [<-gE];have k5:bH E D {(dS g (aO g.z)).1 with z:=fO N g.z} m1 v1 W5:=by
  have:=k4.aqo (PC:Int);rw [<-gE] at this;have e:(jF R2 (iW g.z) (kP g.z:Int) 0).set 136 (PC:Int)=fO N g.z:=by rw [OA HR8.out Av,gL.out.1]
  simp only [e] at this;exact this
 have I5:aM (dc E m v) w W5:=by
  refine I4.out.trans (F1:=dc E m1 v1) iR.out ((aM.bh fZ).trans (fun x q=>.inl q) ?_);rw [gE];exact (aM.set w4 E _ _).weak (fun x q=>.inl (.inl q))
 have rz:aK W5 w.heap.size 187 (aD (aO g.z)):=VM.keep (by rw [gE];exact bB aqv);have y0:W5.cell? ⟨w.heap.size,0,none⟩=some (.int .i64 ((aO g.z).length:Int)):=by have:=rz.cell 0 (by rw [mX];decide);rw [qT.out] at this;exact this
 have hT5:bF W5:=mq.out.bD HH.out mg.out I5;have aes:w.heap.size<W5.heap.size:=rz.lt;have gV:=af k5;have Mj:=af I5;have IL:=af hT5;have HW5:=af gE;have hm1:I4=I4:=rfl;clear k4 k5 I5 hT5 gE fZ aeo Qj VM ael aep f4 f139 Aw vJ hP2 hm1 fM tA uk Aq aen;go_upto_region 4 with fail
 refine yQ 8 [2] [(some true,0),(some true,3),(some false,1),(some false,4)] 4 (fun w'=>aK w' w.heap.size 187 (aD (aO g.z))∧w'.cell? ⟨w.heap.size,0,none⟩=some (.int .i64 ((aO g.z).length:Int))) (by kernel_rfl) (by kernel_rfl) (fun d _ _ _ _ h=>by cases d<;>exact h) ⟨rz,y0⟩ ?_;refine yP ?_ rfl rfl ?_ ?_
 rotate_left
 ·intro w';go_simp;rfl
 go_simp;refine yO ?_;refine qK (.agg (S (aD (aO g.z)))) rfl rfl ?_ ?_
 ·rintro w' ⟨d0,d1⟩;have hl:=nY.out w' _ d0;simp only [kF,vX,vY,kB];show kN (qi au (kR 187 (.pointer (some ⟨w.heap.size,0,none⟩))) w') _=_
  rw [hl];rfl
 go_simp;refine qK ?_ rfl rfl ?_ ?_
 rotate_left
 ·rintro w' ⟨d0,d1⟩;go_simp;rfl
 go_simp;refine jI rfl rfl (fun K hK=>?_);go_simp;refine (aq gu _ (IL.out.below IL.out.pos ((aA _ _).drew))).mono ?_;rintro e w6 ⟨rfl,aet⟩;have pI:ak W5.heap.size W5 w6:=((aA _ _).drew).trans aet;have uI:aK w6 w.heap.size 187 (aD (aO g.z)):=rz.keep (pI.block _ aes);have y6:w6.cell? ⟨w.heap.size,0,none⟩=some (.int .i64 ((aO g.z).length:Int)):=(aP (pI.block _ aes)).trans y0;have k6:bH E D {(dS g (aO g.z)).1 with z:=fO N g.z} m1 v1 w6:=gV.out.kept (fun x q=>pI.block x (gV.out.has q).2);have Iv:aM (dc E m v) w w6:=Mj.out.trans (fun x q=>.inl q) (aM.bh pI);have ng:=af k6;have HC6:=af Iv;have HT6:=af (mq.out.bD HH.out mg.out Iv);go_simp;refine hK _ _ (fun _=>⟨uI,y6⟩) ?_;clear hK K k6 Iv pI aet rz uI y0 y6;by_cases hlt:N<(aO g.z).length
 ·have hlt':(N:Int)<((aO g.z).length:Int):=by omega
  have cH:=af (ad4 E D _ m1 v1 w6 ng.out HT6.out);have eO:Hid (∀w7,bH E D {{(dS g (aO g.z)).1 with z:=fO N g.z} with z:=(gH (fO N g.z)).1} m1 v1 w7->aM (dc E m1 v1) w6 w7->gD E D m v w (xD g) w7):=fun w7 k7 c7=>by
   refine ⟨m1,v1,?_,HC6.out.trans (F1:=dc E m1 v1) iR.out c7,iR.out⟩;unfold xD;rw [<-gL.out.2.1 hlt];exact k7
  refine jI rfl rfl (fun K hK=>?_);go_simp;refine hK _ _ (fun h=>absurd h (by decide)) ?_;clear hK K hlt;refine uH ?_;go_wp2_with fail
  refine (aq cH).mono ?_;rintro e w7 ⟨rfl,k7,c7⟩;have oI:=af (eO.out w7 k7 c7);clear k7 c7 eO cH;go_wp2_with fail
  go_end0
  exact ⟨rfl,oI.out⟩
 ·have hlt':¬(N:Int)<((aO g.z).length:Int):=by omega
  have oI:Hid (gD E D m v w (xD g) w6):=by
   refine ⟨m1,v1,?_,HC6.out,iR.out⟩;unfold xD;rw [<-gL.out.2.2 hlt];exact ng.out
  refine jI rfl rfl (fun K hK=>?_);go_simp;refine hK _ _ (fun h=>absurd h (by decide)) ?_;clear hK K hlt;refine uH ?_;go_wp2_with fail
  go_end0
  exact ⟨rfl,oI.out⟩
end
section
open Go
section
variable {P:mM} {ops:Array bI} {Q:Exit->Act->World->Prop} {md:pN} {S:World->Prop} {q:Nat}
def Mk (md:pN) (ops:Array bI) (F q a b:Nat) (ts:List Nat):List Nat->Array Bool->Bool
 | [],listed=>decide (oL md ops listed=[a,b]) && Br md ops (b :: ts) (listed.setIfInBounds a true) && Br md ops (a :: ts) (listed.setIfInBounds b true)
 | i :: rs,listed=>(oL md ops listed).contains i && JI md ops listed i && KN md ops F i listed && (decide (i<q) && (List.range ops.size).all fun j=>decide (j<q) || tq md ops F j i) && Mk md ops F q a b ts rs (listed.setIfInBounds i true)
theorem aev {F a b:Nat} {ts:List Nat} {w:World} (hsel:vR ops=true) (hQ:∀d v c a w,Q (.panic c) (xN a d v) w->Q (.panic c) a w) (hS:S w):∀(rs:List Nat) (listed:Array Bool) (x:Act),Mk md ops F q a b ts rs listed=true->wX P ops S (fun x'=>qC P ops Q S q (a :: b :: ts) x' w∧qC P ops Q S q (b :: a :: ts) x' w) rs x->wpAnyQ P md ops Q S q (rs.length+(ts.length+2)) listed x w
 | [],listed,x,hB,h=>by
   simp only [Mk,gG,decide_eq_true_eq] at hB;obtain ⟨⟨hr,hA⟩,hC⟩:=hB;rw [vT,ol];refine ⟨fun h1=>(by rw [hr] at h1;cases h1),fun i hi=>?_⟩;rw [hr] at hi;have hik:i=a∨i=b:=by simpa using hi
   have go:∀(k:Nat) (us:List Nat),us.length=ts.length+1->Br md ops us (listed.setIfInBounds k true)=true->qC P ops Q S q (k :: us) x w->wpOp P ops Q k (fun a' w'=>(k<q->S w')∧wpAnyQ P md ops Q S q (ts.length+1) (listed.setIfInBounds k true) a' w') x w:=fun k us hlen hT hk=>by
    obtain ⟨o,h0,h2⟩:=hk;have h3:=h2 (fun a' w'=>(k<q->S w')∧qC P ops Q S q us a' w') (fun _ _ h1 h2=>⟨h1,h2⟩);have hw:wpOp P ops Q k (fun a' w'=>(k<q->S w')∧qC P ops Q S q us a' w') x w:=by
     unfold wpOp;simp only [h0];split
     ·rename_i hq;rw [if_pos hq] at h3;exact .inl h3
     ·rename_i hq;rw [if_neg hq] at h3;exact h3
    refine AK (fun a' w' h'=>⟨h'.1,?_⟩) hw;have:=O0 us _ a' w' hT h'.2;rw [hlen] at this;exact this
   rcases hik with rfl | rfl
   ·exact go i (b :: ts) rfl hA h.1
   ·exact go i (a :: ts) rfl hC h.2
 | i :: rs,listed,x,hB,h=>by
   simp only [Mk,gG,decide_eq_true_eq] at hB;obtain ⟨⟨⟨⟨hr,hf⟩,hlt⟩,CB,hlast⟩,hB'⟩:=hB;obtain ⟨o,v,h0,hy,hK⟩:=h;rw [jM,show rs.length+1+(ts.length+2)=rs.length+(ts.length+2)+1 by omega];refine O9 h0 (Gj hsel) (hQ o.dst v) (fun j hj hjs=>?_) CB _ listed x w (Gk h0 hf) (Pa hlt) (by simpa using hr) hy hS (aev hsel hQ hS rs _ _ hB' hK);have h1:=oh.1 hlast j (mL.2 hjs);simp only [Bool.or_eq_true,decide_eq_true_eq] at h1;rcases h1 with h1 | h1
   ·omega
   ·exact h1
def aew (ops:Array bI) (F:Nat) (rs:List Nat) (a b:Nat) (ts:List Nat) (q:Nat):Bool:=vR ops && decide (rs.length+(ts.length+2)=ops.size) && Mk .any ops F q a b ts rs (Nl ops.size false)
theorem aqA {id:Nat} {x:Act} {w:World} (F:Nat) (rs:List Nat) (a b:Nat) (ts:List Nat) (q:Nat) (S:World->Prop) (hm:P.follows .mixedOrders=true) (hB:aew ops F rs a b ts q=true)
 (hQ:∀d v c a w,Q (.panic c) (xN a d v) w->Q (.panic c) a w) (hS:S w.drew)
 (h:wX P ops S (fun x'=>qC P ops Q S q (a :: b :: ts) x' w.drew∧qC P ops Q S q (b :: a :: ts) x' w.drew) rs x):(Gi id ops true).wp P Q x w:=by
 simp only [aew,gG,decide_eq_true_eq] at hB;obtain ⟨⟨hsel,hlen⟩,hpl⟩:=hB;refine Nn hm ?_;have H:=Eg _ _ _ _ (aev (P:=P) (md:=.any) (Q:=Q) (S:=S) (q:=q) (F:=F) (a:=a) (b:=b) (ts:=ts) (w:=w.drew) hsel hQ hS rs _ x hpl h);rw [hlen] at H;exact H
end
end
section
open Go.RowKit Go.Maps Go.WideMaps
def eT (g:ay) (fuel:Nat):ay×Nat:=if fuel<(aO g.z).length then ({g with z:=(gH g.z).1},1) else (xD g,(aO g.z).length)
def aqB (E D:Nat) (m v:Nat->aj) (w:World) (r:ay×Nat) (e':Ending) (w':World):Prop:=e'= .returned (.int .i64 (r.2:Int))∧gD E D m v w r.1 w'
theorem aex {w:World} {X:Nat} {t:TypeId} (h:aK w X t (aD [])) (z:List Int) (hz:z.length=9):aK (w.setCells X 0 (S z).toList) X t z:=by
 obtain ⟨a0,a1,a2,a3,a4,a5,a6,a7,a8,rfl⟩:=Uq z hz;have h':w.heap[X]? =some (.cells #[.int .i64 0,.int .i64 0,.int .i64 0,.int .i64 0,.int .i64 0,.int .i64 0,.int .i64 0,.int .i64 0,.int .i64 0] t (0,0)):=h;unfold aK;simp [S,World.setCells,World.setCell,Array.getElem?_modify,h']
theorem VN {B X:Nat} {w0:World} (hB:B<=X):∀(vs:List aj) (o:Nat) (w:World),ak B w0 w->ak B w0 (w.setCells X o vs)
 | [],_,_,h=>h
 | u :: r,o,_,h=>VN hB r (o+1) _ (h.setCell (p:=⟨X,o,none⟩) hB u)
theorem aey {w:World} {X:Nat} {t:TypeId} (h:aK w X t (aD [])) (z:List Int) (hz:z.length=9):w.there X 0 (S z).size:=fun j hj=>by
 rw [bQ,hz] at hj;have h':w.heap[X]? =some (.cells (S (aD [])) t (0,0)):=h;refine ⟨?_,by simp [World.frozen?,h']⟩;have:=h.cell (0+j) (by rw [ol];exact hj);rw [this];rfl
theorem aqC (E D:Nat) (g:ay) (m v:Nat->aj) (fuel:Nat) (w:World) (kk:Nat) (h:bH E D g m v w) (ht:bF w) (hE:0<E) (hz:lu g.z) (hs:gz g.z 137=0) (hrd:I1 g) (mz:qd g kk) (hkk:kk<=100000000000) (hpl:∀k∈g.b 0,k.2.length<=1000000):
 Calls au 89 #[.pointer (some ⟨E,0,none⟩),.int .i64 (fuel:Int)] w (aqB E D m v w (eT g fuel)):=by
 have Av:(iW g.z).length=128:=hz.parts.2.1;have mX:=nT hz.Fk.1;have I3:=af (fun w'=>ad8 w' E 11 (iW g.z) Av)
 have wR:Hid (∀w',bF w'->Calls au 139 #[.agg (S (iW g.z)),.int .i64 (kP g.z:Int)] w' fun e' w''=>e'= .returned (.agg (S (aD (aO g.z))))∧ak w'.heap.size w' w''):=fun w' ht'=>ajE (iW g.z) (kP g.z) w' ht' Av (fun i=>by
  rcases oM i 128 with hi | hi
  ·exact hz.parts.2.at hi
  ·rw [bP,List.getElem?_eq_none (by rw [Av];exact hi)]
   exact ⟨Int.le_refl _,by decide⟩) hz.pc.1
 have Lr:=af (fun w' (h':bH E D g m v w') (ht':bF w')=>aqu E D g m v w' kk h' ht' hE hz hs hrd mz hkk hpl);have cH:=af (fun w' (h':bH E D g m v w') (ht':bF w')=>ad4 E D g m v w' h' ht');have HH:=af h;have mq:=af ht;have c1:=h.Qd;have c2:=h.VF (r:=g.z.take 8) (mem:=iW g.z) (pc:=(kP g.z:Int)) (st:=0) hz.parts.1.1 Av (by rw [<-hz.pc.2,<-hs];exact SN hz.len);have UR:=h.lt;have z9:=Ey;have qT:Hid (gz (aD (aO g.z)) 0=((aO g.z).length:Int)):=CO _;obtain ⟨PR,p8⟩:∃PR,PR=eT g fuel:=⟨_,rfl⟩;rw [<-p8];have vH:=af p8;have hfk:∀(W:World) (j:Nat),ak w.heap.size w W->W.cell? ⟨E,j,none⟩=w.cell? ⟨E,j,none⟩:=fun W j hb=>aP (hb.block E UR);have Dv:=af hfk;clear h ht hE hz hs hrd mz hkk hpl p8 hfk;go_enter Tryz.func89,Tryz.ntmps89;go_upto_region 1 with fail
 refine aqA 8 [0,1,2,3,4,5,6,7,8,9] 10 11 [12] 12 (fun w'=>w'.rangeAt E 11 ((iW g.z).map (cI .i64))∧w'.cell? ⟨E,139,none⟩=some (.int .i64 (kP g.z:Int))) (by kernel_rfl) (by kernel_rfl) (fun d _ _ _ _ h=>by cases d<;>exact h) ⟨c1,c2⟩ ?_
 iterate 4
  refine l7 ?_ rfl rfl ?_ ?_
  rotate_left
  ·rintro w' ⟨d0,d1⟩;go_simp;rfl
  go_simp
 refine l7 (.agg (S (iW g.z))) rfl rfl ?_ ?_
 ·rintro w' ⟨d0,d1⟩;have hl:=I3.out w' d0;simp only [kF,vX,xO,vY,kB];show kN (qi au (kR 26 (.pointer (some ⟨E,11,none⟩))) w') _=_
  rw [hl];rfl
 go_simp
 iterate 5
  refine l7 ?_ rfl rfl ?_ ?_
  rotate_left
  ·rintro w' ⟨d0,d1⟩;go_simp;rfl
  go_simp
 refine sj ?_;refine ⟨?_,?_⟩
 ·refine gA rfl rfl (fun K hK=>?_);go_simp;refine (aq wR _ (mq.out.below mq.out.pos ((aA _ _).drew))).mono ?_;rintro e w1 ⟨rfl,aeA⟩;have hb1:ak w.heap.size w w1:=((aA _ _).drew).trans aeA;go_simp;refine hK _ _ (fun _=>⟨fun j u q=>(Dv.out w1 _ hb1).trans (c1 j u q),(Dv.out w1 _ hb1).trans c2⟩) ?_;clear hK K;refine gA rfl rfl (fun K hK=>?_);go_simp;obtain ⟨wa,rB⟩:∃wa,wa=w1.alloc (.cells (S (aD [])) 187):=⟨_,rfl⟩;rw [<-rB];have hba:ak w.heap.size w wa:=by rw [rB];exact hb1.alloc hb1.size _
  refine hK _ _ (fun _=>⟨fun j u q=>(Dv.out wa _ hba).trans (c1 j u q),(Dv.out wa _ hba).trans c2⟩) ?_;clear hK K;have rx:aK wa w1.heap.size 187 (aD []):=by rw [rB];exact bg w1 _
  have VO:w.heap.size<=w1.heap.size:=hb1.size;clear rB hb1 aeA;generalize w1.heap.size=X at *;refine gA rfl rfl (fun K hK=>?_);refine wp_store_mid 187 _ _ rfl X 0 (S (aD (aO g.z))) rfl rfl (aey rx _ mX) (by rw [iT,bQ,mX]) (zE _) ?_;refine hK _ _ (fun h=>absurd h (by decide)) ?_;clear hK K;refine wY ?_;obtain ⟨W,hW⟩:∃W,W=wa.setCells X 0 (S (aD (aO g.z))).toList:=⟨_,rfl⟩;rw [<-hW];have rX:aK W X 187 (aD (aO g.z)):=by rw [hW];exact aex rx _ mX
  have hbW:ak w.heap.size w W:=by rw [hW];exact VN VO _ 0 _ hba
  have kW:bH E D g m v W:=HH.out.kept (fun x q=>hbW.block x (HH.out.has q).2);have Fm:bF W:=mq.out.below mq.out.pos hbW;have y0:W.cell? ⟨X,0,none⟩=some (.int .i64 ((aO g.z).length:Int)):=by have:=rX.cell 0 (by rw [mX];decide);rw [qT.out] at this;exact this
  have VP:¬dc E m v X:=fun q=>by have:=(HH.out.has q).2;omega
  have rI:=rX.isRow 9 mX;have rD:=rX.bW;have VQ:=af rX;have pJ:=af hbW;have qE:=af (cH.out W kW Fm);have dW:=af (Lr.out W kW Fm);clear hW rX hbW kW Fm rx hba c1 c2 I3 wR cH Lr;by_cases hlt:fuel<(aO g.z).length
  ·have hlt':(fuel:Int)<((aO g.z).length:Int):=by omega
   have ri:Hid (PR=({g with z:=(gH g.z).1},1)):=vH.out.trans (if_pos hlt);clear hlt;go_wp2_with fail
   refine (aq qE).mono ?_;rintro e w2 ⟨rfl,k2,c2⟩;have HG:Hid (gD E D m v w {g with z:=(gH g.z).1} w2):=⟨m,v,k2,(aM.bh pJ.out).trans (fun x q=>.inl q) c2,fun _ q=>.inl q⟩;clear k2 c2 qE dW;go_wp2_with fail
   go_ret;rw [ri.out];exact ⟨rfl,HG.out⟩
  ·have hlt':¬(fuel:Int)<((aO g.z).length:Int):=by omega
   have ri:Hid (PR=(xD g,(aO g.z).length)):=vH.out.trans (if_neg hlt);clear hlt;go_wp2_with (first | refine s7 rfl nE iT rfl _ rfl X rfl rI (S (aD (aO g.z))) rD ?_)
   refine (aq dW).mono ?_;rintro e w2 ⟨rfl,hg⟩;have y2:w2.cell? ⟨X,0,none⟩=some (.int .i64 ((aO g.z).length:Int)):=by
    obtain ⟨_,_,_,c,_⟩:=hg;exact (aP (c.other X VQ.out.lt VP)).trans y0
   have HG:Hid (gD E D m v w (xD g) w2):=gD.from (aM.bh pJ.out) hg;clear hg qE dW y0;go_wp2_with fail
   go_ret;rw [ri.out];exact ⟨rfl,HG.out⟩
 ·refine gA rfl rfl (fun K hK=>?_);go_simp;obtain ⟨w0,hw0⟩:∃w0,w0=(w.alloc (.cells (S (aD [])) 187)).drew:=⟨_,rfl⟩;rw [<-hw0];have hb0:ak w.heap.size w w0:=by rw [hw0];exact ((aA _ _).alloc (ax _) _).drew
  have r0:aK w0 w.heap.size 187 (aD []):=by rw [hw0];exact bg w _
  clear hw0;refine hK _ _ (fun _=>⟨fun j u q=>(Dv.out w0 _ hb0).trans (c1 j u q),(Dv.out w0 _ hb0).trans c2⟩) ?_;clear hK K;refine gA rfl rfl (fun K hK=>?_);go_simp;refine (aq wR _ (mq.out.below mq.out.pos hb0)).mono ?_;rintro e wa ⟨rfl,VR⟩;have hba:ak w.heap.size w wa:=hb0.trans (VR.mono hb0.size);go_simp;refine hK _ _ (fun _=>⟨fun j u q=>(Dv.out wa _ hba).trans (c1 j u q),(Dv.out wa _ hba).trans c2⟩) ?_;clear hK K;have rx:aK wa w.heap.size 187 (aD []):=r0.keep (VR.block _ r0.lt);have VO:w.heap.size<=w.heap.size:=ax _;clear hb0 VR r0;refine gA rfl rfl (fun K hK=>?_);refine wp_store_mid 187 _ _ rfl w.heap.size 0 (S (aD (aO g.z))) rfl rfl (aey rx _ mX) (by rw [iT,bQ,mX]) (zE _) ?_;refine hK _ _ (fun h=>absurd h (by decide)) ?_;clear hK K;refine wY ?_;obtain ⟨W,hW⟩:∃W,W=wa.setCells w.heap.size 0 (S (aD (aO g.z))).toList:=⟨_,rfl⟩;rw [<-hW];have rX:aK W w.heap.size 187 (aD (aO g.z)):=by rw [hW];exact aex rx _ mX
  have hbW:ak w.heap.size w W:=by rw [hW];exact VN VO _ 0 _ hba
  have kW:bH E D g m v W:=HH.out.kept (fun x q=>hbW.block x (HH.out.has q).2);have Fm:bF W:=mq.out.below mq.out.pos hbW;have y0:W.cell? ⟨w.heap.size,0,none⟩=some (.int .i64 ((aO g.z).length:Int)):=by have:=rX.cell 0 (by rw [mX];decide);rw [qT.out] at this;exact this
  have VP:¬dc E m v w.heap.size:=fun q=>by have:=(HH.out.has q).2;omega
  have rI:=rX.isRow 9 mX;have rD:=rX.bW;have VQ:=af rX;have pJ:=af hbW;have qE:=af (cH.out W kW Fm);have dW:=af (Lr.out W kW Fm);clear hW rX hbW kW Fm rx hba c1 c2 I3 wR cH Lr;by_cases hlt:fuel<(aO g.z).length
  ·have hlt':(fuel:Int)<((aO g.z).length:Int):=by omega
   have ri:Hid (PR=({g with z:=(gH g.z).1},1)):=vH.out.trans (if_pos hlt);clear hlt;go_wp2_with fail
   refine (aq qE).mono ?_;rintro e w2 ⟨rfl,k2,c2⟩;have HG:Hid (gD E D m v w {g with z:=(gH g.z).1} w2):=⟨m,v,k2,(aM.bh pJ.out).trans (fun x q=>.inl q) c2,fun _ q=>.inl q⟩;clear k2 c2 qE dW;go_wp2_with fail
   go_ret;rw [ri.out];exact ⟨rfl,HG.out⟩
  ·have hlt':¬(fuel:Int)<((aO g.z).length:Int):=by omega
   have ri:Hid (PR=(xD g,(aO g.z).length)):=vH.out.trans (if_neg hlt);clear hlt;go_wp2_with (first | refine s7 rfl nE iT rfl _ rfl w.heap.size rfl rI (S (aD (aO g.z))) rD ?_)
   refine (aq dW).mono ?_;rintro e w2 ⟨rfl,hg⟩;have y2:w2.cell? ⟨w.heap.size,0,none⟩=some (.int .i64 ((aO g.z).length:Int)):=by
    obtain ⟨_,_,_,c,_⟩:=hg;exact (aP (c.other w.heap.size VQ.out.lt VP)).trans y0
   have HG:Hid (gD E D m v w (xD g) w2):=gD.from (aM.bh pJ.out) hg;clear hg qE dW y0;go_wp2_with fail
   go_ret;rw [ri.out];exact ⟨rfl,HG.out⟩
structure xE (g:ay) (k:Nat):Prop where
 z:lu g.z
 rd:I1 g
 rn:qd g k
 pl:∀i,i<3->∀x∈g.b i,x.2.length<=1000000
theorem qd.more {g:ay} {k n:Nat} (h:qd g k) (hn:k<=n):qd g n:=⟨fun i hi=>aT (h.1 i hi) hn,fun i hi=>aT (h.2 i hi) hn⟩
theorem aqD {g:ay} {k:Nat} (h:qd g k) (ws:List Nat):qd (cB g ws).1 (k+3):=by
 unfold cB;split
 ·split
  ·exact (h.ct 1).more (by omega)
  ·exact ((h.ct 2).ct 3).lay 1 ws _
 ·exact (((h.ct 3).lay 1 ws _)).more (by omega)
theorem aqE {g:ay} {k:Nat} (h:qd g k) (ws:List Nat):qd (dS g ws).1 (k+4):=by
 unfold dS;split
 ·exact (h.ct 0).more (by omega)
 ·exact (aqD h ws).lay 2 ws _
theorem Fo {l:List cD} {ws:List Nat} {p:List UInt8} {x:cD} (h:x∈jG l ws p):x∈l∨x=(ws,p):=by
 unfold jG at h;split at h
 ·exact (List.mem_or_eq_of_mem_set h)
 ·rcases List.mem_append.1 h with q | q
  ·exact .inl q
  ·exact .inr (by simpa using q)
theorem Ml (g:ay) (ws:List Nat):(cB g ws).1.b 0=g.b 0∧(cB g ws).1.b 2=g.b 2∧((cB g ws).1.b 1=g.b 1∨(cB g ws).1.b 1=jG (g.b 1) ws (dw ws)):=by
 unfold cB;split
 ·split
  ·exact ⟨rfl,rfl,.inl rfl⟩
  ·exact ⟨rfl,rfl,.inr rfl⟩
 ·exact ⟨rfl,rfl,.inr rfl⟩
theorem aqF {g:ay} {ws:List Nat} (hb:gi (ah (aQ ws))) (h:∀x∈g.b 0,x.2.length<=1000000):(cB g ws).2.length<=1000000:=by
 have ho:=VE ws hb;unfold cB;cases hq:fB (g.b 0) ws with
 | some p=>
   obtain ⟨n,hn,_⟩:=IP hq;have:=h (ws,p) (oK hn);simp only;split
   ·exact this
   ·show (dw ws).length<=_;omega
 | none=>show (dw ws).length<=_;omega
theorem aqG {g:ay} {ws:List Nat} (hb:gi (ah (aQ ws))) (h:∀i,i<3->∀x∈g.b i,x.2.length<=1000000):∀i,i<3->∀x∈(dS g ws).1.b i,x.2.length<=1000000:=by
 have ho:=VE ws hb;unfold dS;cases hq:fB (g.b 2) ws with
 | some p=>exact h
 | none=>
   simp only;intro i hi x hx;obtain ⟨b0,b2,b1⟩:=Ml g ws;by_cases i2:i=2
   ·subst i2;have hx':x∈aE (cB g ws).1.b 2 (jG ((cB g ws).1.b 2) ws (cB g ws).2) 2:=hx;rw [cq,b2] at hx';rcases Fo hx' with q | q
    ·exact h 2 hi x q
    ·rw [q];exact aqF hb (h 0 (by decide))
   ·have hx':x∈aE (cB g ws).1.b 2 (jG ((cB g ws).1.b 2) ws (cB g ws).2) i:=hx;rw [bp _ _ _ _ i2] at hx';have aqH:i=0∨i=1:=by omega
    rcases aqH with rfl | rfl
    ·rw [b0] at hx';exact h 0 hi x hx'
    ·rcases b1 with b1 | b1
     ·rw [b1] at hx';exact h 1 hi x hx'
     ·rw [b1] at hx';rcases Fo hx' with q | q
      ·exact h 1 hi x q
      ·rw [q];show (dw ws).length<=_;omega
theorem aqI {g:ay} {ws:List Nat} (hb:gi (ah (aQ ws))) (h:I1 g):I1 (dS g ws).1:=by
 have ha:=aeb h hb;unfold dS at ha⊢;cases hq:fB (g.b 2) ws with
 | some p=>exact h
 | none=>
   rw [hq] at ha;simp only at ha⊢;intro x hx;have hx':x∈aE (cB g ws).1.b 2 (jG ((cB g ws).1.b 2) ws (cB g ws).2) 2:=hx;rw [cq,(Ml g ws).2.1] at hx';rcases Fo hx' with q | q
   ·exact h x q
   ·rw [q];exact ha
theorem aqJ {z:List Int} (h:lu z) (hs:gz z 137=0):lu (fO (aO z).length z):=by
 obtain ⟨e1,e2,e3⟩:=aec h hs;have hn:=VC h;have hp:=adR h hs (iw (aO z)) (by rw [hn];exact ax _);have h1:lu (fO (iw (aO z)) z):=by
  rw [hp];exact ⟨ajY h.parts.1 h.parts.2 h.pc.1 _,ajX h.parts.1 h.parts.2 h.pc.1 _⟩
 by_cases hl:iw (aO z)<(aO z).length
 ·rw [<-e2 hl];have h0:gz (fO (iw (aO z)) z) 137=0:=by
   rw [hp];unfold yg;exact SK (KF h.parts.1 h.parts.2 h.pc.1 _).1 h.parts.2.1
  exact ⟨Mg _ h1.len,(adQ h1.st h1.len h0).1⟩
 ·rw [<-e3 hl];exact h1
theorem Ql {g:ay} {k:Nat} (h:xE g k) (hs:gz g.z 137=0) (fuel:Nat):xE (eT g fuel).1 (k+4)∧1<=(eT g fuel).2∧(1<=fuel->(eT g fuel).2<=fuel):=by
 unfold eT;split
 ·refine ⟨⟨⟨Mg _ h.z.len,(adQ h.z.st h.z.len hs).1⟩,h.rd,h.rn.more (by omega),h.pl⟩,ax _,fun q=>q⟩
 ·rename_i hf;exact ⟨⟨aqJ h.z hs,aqI h.z.blk h.rd,aqE h.rn _,aqG h.z.blk h.pl⟩,h.z.pos,fun _=>by show (aO g.z).length<=fuel;omega⟩
def kM:Nat->ay->Nat->Nat->ay×Nat
 | 0,g,_,n=>(g,n)
 | f+1,g,fuel,n=>if gz g.z 137=0∧n<fuel then kM f (eT g (fuel - n)).1 fuel (n+(eT g (fuel - n)).2) else (g,n)
def vM (g:ay) (fuel:Nat):ay×Nat:=kM (fuel+1) g fuel 0
theorem VS:∀(f f':Nat) (g:ay) (k fuel n:Nat),xE g k->fuel<n+f->fuel<n+f'->n<=fuel->kM f g fuel n=kM f' g fuel n
 | 0,f',g,k,fuel,n,h,h1,h2,h3=>by omega
 | f+1,0,g,k,fuel,n,h,h1,h2,h3=>by omega
 | f+1,f'+1,g,k,fuel,n,h,h1,h2,h3=>by
   rw [kM,kM];split
   ·rename_i hc;obtain ⟨q1,q2,q3⟩:=Ql h hc.1 (fuel - n);have:=q3 (by omega);exact VS f f' _ (k+4) fuel _ q1 (by omega) (by omega) (by omega)
   ·rfl
theorem bH.stop {E D:Nat} {g:ay} {m v:Nat->aj} {w:World} (h:bH E D g m v w):w.cell? ⟨E,140,none⟩=some (.int .i64 (gz g.z 137)):=by
 refine h.st 137 (.int .i64 (gz g.z 137)) ?_;rw [iX,bE (by rw [h.zl];decide)];unfold gz;rw [bP,bE (by rw [h.zl];decide)];rfl
end
end Go.Proofs.YtmmflekajbeamaaGreatDoor
