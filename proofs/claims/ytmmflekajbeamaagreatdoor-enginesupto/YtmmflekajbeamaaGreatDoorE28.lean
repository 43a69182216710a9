/- Texts of ours, joined, in few bytes. -/
import Derived.Test.YtmmflekajbeamaaGreatDoorE27
open Bool renaming eq_iff_iff->Ck
open Go renaming Calls->av,Ending->eL,Value->aj,heap_alloc_new->bg
open Go.Proofs.Tryz renaming prog->au
open Go.RowKit renaming Below->ak
open Go.RowKit.Below renaming refl->aA
open Go.Value renaming int->cI
open Go.World renaming cell?_of_block->aP,cell?_setCell_same->qj,frozen?_of_block->fS,frozen?_setCell->oO,ownsRow->uP
open List renaming append_assoc->DK,findIdx?_eq_none_iff->NA,getElem?_eq_some_iff->fG,length_append->dK,length_map->jV,map_set->DZ,mem_cons_of_mem->xK,mem_cons_self->vO,mem_singleton->DL
open Nat renaming le_refl->ax
open Ne renaming symm->DP
namespace Go.Proofs.YtmmflekajbeamaaGreatDoor
set_option maxRecDepth 100000
set_option maxHeartbeats 8000000
section
open Go.RowKit Go.Maps Go.WideMaps
def cC:qc aN:=⟨dF,iy,bG,fq⟩
def xG (i:Nat):Nat:=if i=0 then 144 else if i=1 then 146 else 145
theorem Qo (i:Nat):144<=xG i∧xG i<=146:=by
 unfold xG;split
 ·omega
 ·split<;>omega
theorem aq8 {i j:Nat} (hi:i<3) (hj:j<3) (h:i≠j):xG i≠xG j:=by
 unfold xG;split<;>split<;>first | omega | (split<;>first | omega | (split<;>omega))
def sI (j:Nat):Prop:=j<3∨(141<=j∧j<=143)∨(147<=j∧j<=151)
def gF (R:Nat) (g:ay) (j:Nat):aj:=
 if j=0 then .pointer (some ⟨R,0,none⟩) else if j=1 then .int .i64 g.wk else if j=2 then .bool g.fl else if j=141 then .int .i64 (g.ar:Int) else if j=142 then .int .i64 (g.gn:Int) else if j=143 then .int .i64 (g.sz:Int) else if j<151 then .int .i64 (g.c (j - 147):Int) else .int .i64 0
structure dA (E R:Nat) (g:ay) (v:Nat->aj) (w:World):Prop where
 fz:∀j,w.frozen? ⟨E,j,none⟩=false
 sc:∀j,sI j->w.cell? ⟨E,j,none⟩=some (gF R g j)
 st:w.rangeAt E 3 (g.z.map (cI .i64))
 zl:g.z.length=138
 ls:∀i,i<3->w.cell? ⟨E,xG i,none⟩=some (v i)
 ow:∀i,i<3->w.ownsRow (E+1) 127 2 (v i) (g.b i).length (jj (g.b i))
 sep:∀i j,i<3->j<3->i≠j->∀x,(v i).ownBlock=some x->(v j).ownBlock≠some x
def cX (E:Nat) (v:Nat->aj) (x:Nat):Prop:=x=E∨∃i,i<3∧(v i).ownBlock=some x
theorem dA.lt {E R:Nat} {g:ay} {v:Nat->aj} {w:World} (h:dA E R g v w):E<w.heap.size:=block_lt_of_cell (h.sc 0 (.inl (by decide)))
theorem dA.has {E R:Nat} {g:ay} {v:Nat->aj} {w:World} (h:dA E R g v w) {x:Nat} (hx:cX E v x):E<=x∧x<w.heap.size:=by
 rcases hx with rfl | ⟨i,hi,q⟩
 ·exact ⟨ax _,h.lt⟩
 ·have:=aR (h.ow i hi) x q;exact ⟨by omega,this.2⟩
theorem dA.ne {E R:Nat} {g:ay} {v:Nat->aj} {w:World} (h:dA E R g v w) {i:Nat} (hi:i<3) {x:Nat} (hx:(v i).ownBlock=some x):x≠E:=by
 have:=aR (h.ow i hi) x hx;omega
theorem dA.kept {E R:Nat} {g:ay} {v:Nat->aj} {w w':World} (h:dA E R g v w) (hk:∀x,cX E v x->w'.heap[x]? =w.heap[x]?):dA E R g v w':=by
 have hE:=hk E (.inl rfl);exact ⟨fun j=>(fS hE).trans (h.fz j),fun j hj=>(aP hE).trans (h.sc j hj),fun j u q=>(aP hE).trans (h.st j u q),h.zl,fun i hi=>(aP hE).trans (h.ls i hi),fun i hi=>dz (h.ow i hi) (fun x q=>hk x (.inr ⟨i,hi,q⟩)),h.sep⟩
theorem dA.set {E R:Nat} {g:ay} {v:Nat->aj} {w:World} (h:dA E R g v w) (j:Nat) (hj:sI j) (g':ay) (hz:g'.z=g.z) (hb:g'.b=g.b) (hs:∀k,sI k->k≠j->gF R g' k=gF R g k) (u:aj) (hu:u=gF R g' j):dA E R g' v (w.setCell ⟨E,j,none⟩ u):=by
 have hj3:¬(3<=j∧j<141):=by unfold sI at hj;omega
 refine ⟨fun k=>by rw [oO];exact h.fz k,fun k hk=>?_,fun k q e=>?_,by rw [hz];exact h.zl,fun i hi=>?_,fun i hi=>?_,h.sep⟩
 ·by_cases e:k=j
  ·subst e;rw [hu];exact qj _ _ _ (h.sc k hk)
  ·rw [cZ (fun q=>e q.symm),hs k hk e];exact h.sc k hk
 ·rw [hz] at e;have hk:k<138:=by have:=(fG.1 e).1;rw [jV,h.zl] at this;exact this
  rw [cZ (by omega)];exact h.st k q e
 ·have:=Qo i;rw [cZ (by unfold sI at hj;omega)];exact h.ls i hi
 ·rw [hb];exact dz (h.ow i hi) (fun x q=>bB (h.ne hi q))
theorem dA.PJ {E R:Nat} {g:ay} {v:Nat->aj} {w:World} (h:dA E R g v w) (z:List Int) (hz:z.length=138):dA E R {g with z:=z} v (w.setCells E 3 (z.map (cI .i64))):=by
 have hl:(z.map (cI .i64)).length=138:=by rw [jV,hz]
 have hout:∀k,k<3∨141<=k->(w.setCells E 3 (z.map (cI .i64))).cell? ⟨E,k,none⟩=w.cell? ⟨E,k,none⟩:=fun k hk=>World.cell?_setCells_out E _ 3 w ⟨E,k,none⟩ (fun _ _=>by rw [hl];show k<3∨3+138<=k;omega);refine ⟨fun k=>by rw [World.frozen?_setCells];exact h.fz k,fun k hk=>(hout k (by unfold sI at hk;omega)).trans (h.sc k hk),?_,hz,fun i hi=>?_,fun i hi=>?_,h.sep⟩
 ·refine World.rangeAt_setCells_same w E 3 _ (fun k hk=>⟨?_,h.fz _⟩);exact h.st.isSome k (by rw [jV,h.zl];rw [hl] at hk;exact hk)
 ·have:=Qo i;exact (hout _ (by omega)).trans (h.ls i hi)
 ·exact dz (h.ow i hi) (fun x q=>heap_setCells_other E _ 3 w x (h.ne hi q))
theorem dA.put {E R:Nat} {g:ay} {v:Nat->aj} {w w1:World} (h:dA E R g v w) {i:Nat} (hi:i<3) {l:List cD} {u:aj} (hk:∀j,j<3->j≠i->∀x,(v j).ownBlock=some x->w1.heap[x]? =w.heap[x]?) (hE:w1.heap[E]? =w.heap[E]?) (ho:w1.ownsRow (E+1) 127 2 u l.length (jj l)) (hn:∀x,u.ownBlock=some x->∀j,j<3->j≠i->(v j).ownBlock≠some x):
 dA E R {g with b:=aE g.b i l} (aE v i u) (w1.setCell ⟨E,xG i,none⟩ u):=by
 have hc:∀k,k≠xG i->(w1.setCell ⟨E,xG i,none⟩ u).cell? ⟨E,k,none⟩=w.cell? ⟨E,k,none⟩:=fun k q=>by rw [cZ (fun e=>q e.symm)];exact aP hE
 have hb:=Qo i;refine ⟨fun k=>by rw [oO];exact (fS hE).trans (h.fz k),fun k hk'=>?_,fun k q e=>?_,h.zl,fun j hj=>?_,fun j hj=>?_,fun j k hj hk' hjk x q1 q2=>?_⟩
 ·have gN:gF R {g with b:=aE g.b i l} k=gF R g k:=rfl;rw [gN,hc k (by unfold sI at hk';omega)];exact h.sc k hk'
 ·have hk':k<138:=by have:=(fG.1 e).1;rw [jV,h.zl] at this;exact this
  rw [hc _ (by omega)];exact h.st k q e
 ·by_cases e:j=i
  ·subst e;rw [cq];exact qj _ _ _ ((aP hE).trans (h.ls j hj))
  ·rw [bp _ _ _ _ e,hc _ (aq8 hj hi e)];exact h.ls j hj
 ·by_cases e:j=i
  ·subst e;show uP _ (E+1) _ 2 (aE v j u j) (aE g.b j l j).length (jj (aE g.b j l j))
   rw [cq,cq];exact dz ho (fun x q=>bB (by have:=aR ho x q;omega))
  ·show uP _ (E+1) _ 2 (aE v i u j) (aE g.b i l j).length (jj (aE g.b i l j))
   rw [bp _ _ _ _ e,bp _ _ _ _ e];exact dz (h.ow j hj) (fun x q=>(bB (h.ne hj q)).trans (hk j hj e x q))
 ·by_cases hji:j=i<;>by_cases hki:k=i
  ·omega
  ·subst hji;rw [cq] at q1;rw [bp _ _ _ _ hki] at q2;exact hn x q1 k hk' hki q2
  ·subst hki;rw [cq] at q2;rw [bp _ _ _ _ hji] at q1;exact hn x q2 j hj hji q1
  ·rw [bp _ _ _ _ hji] at q1;rw [bp _ _ _ _ hki] at q2;exact h.sep j k hj hk' hjk x q1 q2
structure dL (E R:Nat) (g:ay) (r:aN) (v:Nat->aj) (w:World):Prop where
 eg:dA E R g v w
 dv:cO R r w
 lt:R<E
structure eK (E R:Nat) (v v':Nat->aj) (w w':World):Prop where
 bD:aM (fun x=>cX E v x∨x=R) w w'
 eo:∀x,cX E v' x->cX E v x∨w.heap.size<=x
theorem eK.refl (E R:Nat) (v:Nat->aj) (w:World):eK E R v v w w:=⟨aM.refl _ _,fun _ h=>.inl h⟩
theorem eK.bh {E R:Nat} {v:Nat->aj} {w w':World} (h:ak w.heap.size w w'):eK E R v v w w':=⟨aM.bh h,fun _ h=>.inl h⟩
theorem eK.trans {E R:Nat} {v v1 v2:Nat->aj} {w w1 w2:World} (h:eK E R v v1 w w1) (k:eK E R v1 v2 w1 w2):eK E R v v2 w w2:=by
 refine ⟨h.bD.trans (fun x q=>?_) k.bD,fun x q=>?_⟩
 ·rcases q with q | q
  ·exact (h.eo x q).imp .inl id
  ·exact .inl (.inr q)
 ·rcases k.eo x q with a | a
  ·exact h.eo x a
  ·exact .inr (Nat.le_trans h.bD.size a)
theorem dL.up {E R:Nat} {g:ay} {r:aN} {v:Nat->aj} {w w':World} (h:dL E R g r v w) (hb:ak w.heap.size w w'):dL E R g r v w':=
 ⟨h.eg.kept (fun x q=>hb.block x (h.eg.has q).2),h.dv.up hb.size (hb.block R h.dv.lt),h.lt⟩
theorem fX.bD {R:Nat} {w w':World} (h:fX R w w'):aM (fun x=>x=R) w w':=⟨h.below.os,h.below.tape,h.below.output,h.below.size,fun x _ hn=>h.other x hn⟩
theorem dL.dev {E R:Nat} {g:ay} {r r':aN} {v:Nat->aj} {w w':World} (h:dL E R g r v w) (hd:cO R r' w') (hf:fX R w w'):dL E R g r' v w'∧eK E R v v w w':=
 ⟨⟨h.eg.kept (fun x q=>hf.other x (by have:=(h.eg.has q).1;have:=h.lt;omega)),hd,h.lt⟩,⟨hf.bD.weak (fun _ q=>.inl (.inr q)),fun _ q=>.inl q⟩⟩
theorem dL.Di {E R:Nat} {g g':ay} {r:aN} {v v':Nat->aj} {w w':World} (h:dL E R g r v w) (he:dA E R g' v' w') (hc:aM (cX E v) w w') (eo:∀x,cX E v' x->cX E v x∨w.heap.size<=x):dL E R g' r v' w'∧eK E R v v' w w':=
 ⟨⟨he,h.dv.up hc.size (hc.other R h.dv.lt (fun q=>by have:=(h.eg.has q).1;have:=h.lt;omega)),h.lt⟩,⟨hc.weak (fun _ q=>.inl (.inl q)),eo⟩⟩
theorem dL.set {E R:Nat} {g:ay} {r:aN} {v:Nat->aj} {w:World} (h:dL E R g r v w) (j:Nat) (hj:sI j) (g':ay) (hz:g'.z=g.z) (hb:g'.b=g.b) (hs:∀k,sI k->k≠j->gF R g' k=gF R g k) (u:aj) (hu:u=gF R g' j):dL E R g' r v (w.setCell ⟨E,j,none⟩ u)∧eK E R v v w (w.setCell ⟨E,j,none⟩ u):=
 h.Di (h.eg.set j hj g' hz hb hs u hu) ((aM.set w E j u).weak (fun _ q=>.inl (.inl q))) (fun _ q=>.inl q)
def Dy (E R:Nat) (v:Nat->aj) (w:World) (n:Int) (g':ay) (r':aN) (e':eL) (w':World):Prop:=
 e'= .returned (.int .i64 n)∧∃v',dL E R g' r' v' w'∧eK E R v v' w w'
theorem aq9 (R:Nat) (g:ay):∀k,sI k->k≠2->gF R (dg g) k=gF R g k:=fun k _ hk=>by
 unfold gF dg;simp only [if_neg hk]
theorem aeI (E:Nat) (w:World):av au 135 #[.pointer (some ⟨E,0,none⟩),.int .i64 0] w fun e' w'=>e'= .returned (.int .i64 0)∧w'=w:=by
 go_enter Tryz.func135,Tryz.ntmps135;go_wp2_with fail
 go_ret;exact ⟨rfl,rfl⟩
theorem Mm (E R:Nat) (g:ay) (r:aN) (v:Nat->aj) (a:Int) (w:World) (h:dL E R g r v w) (ha:a≠0):av au 135 #[.pointer (some ⟨E,0,none⟩),.int .i64 a] w (Dy E R v w 15 (dg g) r):=by
 have c2:=h.eg.sc 2 (.inl (by decide));have f2:=h.eg.fz 2;have hE:gF R g 2= .bool g.fl:=rfl;rw [hE] at c2;have HP:Hid (∀W,W=w.setCell ⟨E,2,none⟩ (.bool true)->Dy E R v w 15 (dg g) r (.returned (.int .i64 15)) W):=fun W hW=>by
  have:=h.set 2 (.inl (by decide)) (dg g) rfl rfl (aq9 R g) (.bool true) rfl;rw [hW];exact ⟨rfl,v,this.1,this.2⟩
 have ha':(a == 0)=false:=by simpa using ha
 clear h;go_enter Tryz.func135,Tryz.ntmps135;go_wp2_with fail
 go_ret;exact HP.out _ rfl
theorem Ft (E R:Nat) (g:ay) (r:aN) (v:Nat->aj) (w:World) (h:dL E R g r v w):
 av au 130 #[.pointer (some ⟨E,0,none⟩)] w fun e' w'=>e'= .returned (.bool (iN g r.us))∧∃n,w'=w.drewN n:=by
 have c0:w.cell? ⟨E,0,none⟩=some (.pointer (some ⟨R,0,none⟩)):=h.eg.sc 0 (.inl (by decide));have c1:w.cell? ⟨E,1,none⟩=some (.int .i64 g.wk):=h.eg.sc 1 (.inl (by decide));have c2:w.cell? ⟨E,2,none⟩=some (.bool g.fl):=h.eg.sc 2 (.inl (by decide));have c7:=h.dv.us;cases hf:g.fl
 ·rw [hf] at c2;have he:iN g r.us= !(r.us == g.wk):=by
   unfold iN;rw [hf,Bool.false_or,Ck];simp only [Bool.not_eq_true',beq_eq_false_iff_ne];exact ⟨DP,DP⟩
  rw [he];clear h he hf;go_enter Tryz.func130,Tryz.ntmps130;go_wp2_with fail
  go_quiet (fail)
  go_wp2_with fail
  go_ret;exact ⟨rfl,_,rfl⟩
 ·rw [hf] at c2;have he:iN g r.us=true:=by unfold iN;rw [hf];rfl
  rw [he];clear h he hf;go_enter Tryz.func130,Tryz.ntmps130;go_wp2_with fail
  go_quiet (fail)
  go_wp2_with fail
  go_ret;exact ⟨rfl,_,rfl⟩
end
section
theorem V3 {t:List UInt8} (h:ox (ah t)=true):aQ (mZ t)=t:=by
 have hok:=(zN _).1 h;have hz:(ah t).size=t.length:=bZ t;have:=abU (s:=ah t) hok.2.2.1;rw [kG,hz] at this;exact this
theorem ara {a b:List Nat} (ha:gO a) (hb:gO b) (h:aQ a=aQ b):a=b:=by rw [<-VB ha,<-VB hb,h]
theorem aeJ {α:Type} {p q:α->Bool}:∀(l:List α),(∀x∈l,p x=q x)->l.findIdx? p=l.findIdx? q
 | [],_=>rfl
 | x :: l,h=>by
   rw [List.findIdx?_cons,List.findIdx?_cons,h x (vO ..),aeJ l (fun y hy=>h y (xK _ hy))]
theorem V4 {l:List cD} (hl:∀k∈l,gO k.1) {ws:List Nat} (hw:gO ws):sH (aG l) (aQ ws)=(cu l).findIdx? (·== ws):=by
 unfold sH aG cu;rw [List.map_map,List.findIdx?_map,List.findIdx?_map];refine aeJ l (fun k hk=>?_);simp only [Function.comp];rw [Ck,beq_iff_eq,beq_iff_eq];exact ⟨fun e=>ara (hl k hk) hw e,fun e=>by rw [e]⟩
theorem arb {l:List cD} (hl:∀k∈l,gO k.1) {ws:List Nat} (hw:gO ws) (p:List UInt8):Dx (aG l) (aQ ws,p)=aG (jG l ws p):=by
 unfold Dx jG;rw [V4 hl hw];cases (cu l).findIdx? (·== ws) with
 | some n=>simp [aG,DZ]
 | none=>simp [aG]
structure jZ (l:List cD):Prop where
 ok:∀k∈l,gO k.1
 blk:∀k∈l,ox (ah (aQ k.1))=true
 one:(cu l).Nodup
theorem jZ.nil:jZ []:=⟨fun _ h=>(by cases h),fun _ h=>(by cases h),List.nodup_nil⟩
theorem V5 {l:List cD} {ws:List Nat} {p:List UInt8}:cu (jG l ws p)=if ws∈cu l then cu l else cu l ++ [ws]:=by
 unfold jG;cases h:(cu l).findIdx? (·== ws) with
 | some n=>
   rw [List.findIdx?_eq_some_iff_getElem] at h;obtain ⟨hn,he,_⟩:=h;rw [beq_iff_eq] at he;rw [if_pos (by rw [<-he];exact List.getElem_mem hn)];show (l.set n (ws,p)).map (·.1)=cu l
   rw [DZ];show (cu l).set n ws=cu l
   rw [<-he,List.set_getElem_self]
 | none=>
   rw [NA] at h;rw [if_neg (fun q=>by have:=h ws q;simp at this)];simp [cu]
theorem jZ.lay {l:List cD} (h:jZ l) {ws:List Nat} (hw:gO ws) (hb:ox (ah (aQ ws))=true) (p:List UInt8):jZ (jG l ws p):=by
 refine ⟨fun k hk=>?_,fun k hk=>?_,?_⟩
 ·rcases Fo hk with q | rfl
  ·exact h.ok k q
  ·exact hw
 ·rcases Fo hk with q | rfl
  ·exact h.blk k q
  ·exact hb
 ·rw [V5];split
  ·exact h.one
  ·rename_i hn;rw [List.nodup_append];refine ⟨h.one,List.nodup_cons.2 ⟨by simp,List.nodup_nil⟩,fun a ha b hb e=>?_⟩;rw [DL] at hb;rw [<-hb,<-e] at hn;exact hn ha
theorem jZ.add {l:List cD} (h:jZ l) (x:jJ):jZ (kL l x):=by
 unfold kL;split
 ·rename_i hb;exact h.lay (US hb) (by rw [V3 hb];exact hb) _
 ·exact h
theorem jZ.fold:∀(m:List jJ) (l:List cD),jZ l->jZ (m.foldl kL l)
 | [],_,h=>h
 | x :: m,l,h=>jZ.fold m (kL l x) (h.add x)
theorem jZ.book (m:List jJ):jZ (dN m):=jZ.fold m [] jZ.nil
theorem V6:∀(m:List jJ) (l:List cD),jZ l->(∀x∈m,ox (ah x.1)=true)->yS (aG l) m=aG (m.foldl kL l)
 | [],_,_,_=>rfl
 | x :: m,l,h,hm=>by
   have hx:=hm x (vO ..);have e:Dx (aG l) x=aG (kL l x):=by
    have:=arb h.ok (US hx) x.2;rw [V3 hx] at this;unfold kL;rw [if_pos hx];exact this
   show yS (Dx (aG l) x) m=_
   rw [e];exact V6 m _ (h.add x) (fun y hy=>hm y (xK _ hy))
theorem arc {l:List cD} (h:jZ l):∀x∈aG l,ox (ah x.1)=true:=fun x hx=>by
 obtain ⟨k,hk,rfl⟩:=List.mem_map.1 hx;exact h.blk k hk
theorem aeK:∀(m l:List cD),jZ (l ++ m)->(aG m).foldl kL l=l ++ m
 | [],l,_=>by simp [aG]
 | k :: m,l,h=>by
   have hk:=h.ok k (by simp);have hb:=h.blk k (by simp);have hn:k.1∉cu l:=fun q=>by
    have:=h.one;unfold cu at this q;rw [List.map_append,List.nodup_append] at this;exact this.2.2 k.1 q k.1 (by simp) rfl
   have e:kL l (aQ k.1,k.2)=l ++ [k]:=by
    unfold kL;rw [if_pos hb];show jG l (mZ (aQ k.1)) k.2=_
    rw [VB hk];unfold jG;have:(cu l).findIdx? (·== k.1)=none:=by
     rw [NA];intro y hy;simp only [beq_eq_false_iff_ne];exact fun e=>hn (e▸hy)
    rw [this]
   show (aG m).foldl kL (kL l (aQ k.1,k.2))=_
   rw [e,aeK m (l ++ [k]) (by rw [DK];exact h),DK];rfl
theorem ard {l:List cD} (h:jZ l):dN (aG l)=l:=by
 have:=aeK l [] (by simpa using h);simpa [dN] using this
theorem aeL {g:ay} (h0:jZ (g.b 0)) (h1:jZ (g.b 1)):yS (aG (g.b 0)) (aG (g.b 1))=aG (eJ g):=by
 rw [V6 _ _ h0 (arc h1)];unfold eJ dN;rw [List.foldl_append];have:=ard h0;unfold dN at this;rw [this]
theorem Qp {m:List jJ} (h:∀x∈m,ox (ah x.1)=true):yS [] m=aG (dN m):=V6 m [] jZ.nil h
structure iO (g:ay):Prop where
 bk:∀i,i<3->jZ (g.b i)
 sub:∀ws,ws∈cu (g.b 1)->ws∈cu (g.b 2)
theorem iO.of {g g':ay} (h:iO g) (e:g'.b=g.b):iO g':=⟨by rw [e];exact h.bk,by rw [e];exact h.sub⟩
theorem iO.BV {g:ay} (h:iO g):iO (qI g):=by
 refine ⟨fun i hi=>?_,fun ws hU=>?_⟩
 ·show jZ (aE (aE g.b 0 (eJ g)) 1 [] i)
  by_cases e:i=1
  ·rw [e,cq];exact jZ.nil
  ·rw [bp _ _ _ _ e];by_cases e0:i=0
   ·rw [e0,cq];exact jZ.book _
   ·rw [bp _ _ _ _ e0];exact h.bk i hi
 ·have:cu (aE (aE g.b 0 (eJ g)) 1 [] 1)=[]:=by rw [cq];rfl
  have aeM:ws∈cu (aE (aE g.b 0 (eJ g)) 1 [] 1):=hU;rw [this] at aeM;cases aeM
theorem iO.new (k:Int) (z:List Int):iO (newG k z):=⟨fun _ _=>jZ.nil,fun _ h=>by cases h⟩
theorem iO.arf {g:ay} (h:iO g) {ws:List Nat} (hw:gO ws) (hb:ox (ah (aQ ws))=true):iO (dS g ws).1:=by
 unfold dS;cases hf:fB (g.b 2) ws with
 | some p=>exact h.of rfl
 | none=>
   simp only;obtain ⟨e0,e2,e1⟩:=Ml g ws;refine ⟨fun i hi=>?_,fun x hx=>?_⟩
   ·show jZ (aE (cB g ws).1.b 2 (jG ((cB g ws).1.b 2) ws (cB g ws).2) i)
    by_cases q:i=2
    ·rw [q,cq,e2];exact (h.bk 2 (by decide)).lay hw hb _
    ·rw [bp _ _ _ _ q];by_cases q0:i=0
     ·rw [q0,e0];exact h.bk 0 (by decide)
     ·have q1:i=1:=by omega
      rw [q1];rcases e1 with e1 | e1
      ·rw [e1];exact h.bk 1 (by decide)
      ·rw [e1];exact (h.bk 1 (by decide)).lay hw hb _
   ·show x∈cu (aE (cB g ws).1.b 2 (jG ((cB g ws).1.b 2) ws (cB g ws).2) 2)
    have hx':x∈cu (aE (cB g ws).1.b 2 (jG ((cB g ws).1.b 2) ws (cB g ws).2) 1):=hx;rw [cq,e2,V5];rw [bp _ _ _ _ (by decide)] at hx';have key:x∈cu (g.b 1)∨x=ws:=by
     rcases e1 with e1 | e1
     ·rw [e1] at hx';exact .inl hx'
     ·rw [e1,V5] at hx';split at hx'
      ·exact .inl hx'
      ·rcases List.mem_append.1 hx' with q | q
       ·exact .inl q
       ·exact .inr (DL.1 q)
    split
    ·rename_i hm;rcases key with q | q
     ·exact h.sub x q
     ·rw [q];exact hm
    ·rcases key with q | q
     ·exact List.mem_append_left _ (h.sub x q)
     ·rw [q];exact List.mem_append_right _ (DL.2 rfl)
theorem V7 {l:List cD} {ws:List Nat} (h:ws∉cu l) (p:List UInt8):jG l ws p=l ++ [(ws,p)]:=by
 unfold jG;have:(cu l).findIdx? (·== ws)=none:=by
  rw [NA];intro y hy;simp only [beq_eq_false_iff_ne];exact fun e=>h (e▸hy)
 rw [this]
end
section
open Go.RowKit Go.Maps Go.WideMaps
def lA (r:aN) (n:Nat):Prop:=sq r∧r.tu+n<=1152921504606846976
theorem lA.use {r:aN} {n:Nat} (h:lA r (n+1)):sq r∧r.tu<=1152921504606846976:=⟨h.1,by have:=h.2;omega⟩
theorem arh {r:aN} (h:sq r) (i:Int) (s:List UInt8):sq (dF r i s).2:=by
 unfold dF;split
 ·exact h
 ·split
  ·exact h
  ·split
   ·exact h
   ·rename_i hb _ hl;intro j hj;show (r.l j).length+(aE r.t i.toNat (r.t i.toNat ++ s) j).length<=1500
    by_cases e:j=i.toNat
    ·subst e;rw [cq,dK];omega
    ·rw [bp _ _ _ _ e];exact h j hj
theorem ari {r:aN} (h:sq r) (i:Int):sq (iy r i).2:=by
 unfold iy;split
 ·exact h
 ·split
  ·exact h
  ·intro j hj;show (aE r.l i.toNat [] j).length+(aE r.t i.toNat [] j).length<=1500
   by_cases e:j=i.toNat
   ·subst e;rw [cq,cq];exact Nat.zero_le _
   ·rw [bp _ _ _ _ e,bp _ _ _ _ e];exact h j hj
theorem arj {r:aN} (h:sq r) (i:Int):sq (bG r i).2:=by
 unfold bG;split
 ·exact h
 ·split
  ·exact h
  ·intro j hj;show (aE r.l i.toNat (r.l i.toNat ++ r.t i.toNat) j).length+(aE r.t i.toNat [] j).length<=1500
   by_cases e:j=i.toNat
   ·subst e;rw [cq,cq,dK];exact h _ hj
   ·rw [bp _ _ _ _ e,bp _ _ _ _ e];exact h j hj
theorem ark {r:aN} (h:sq r) (i:Int):sq (fq r i).2.2:=by
 unfold fq;split
 ·exact h
 ·split
  ·exact h
  ·exact h
theorem lA.add {r:aN} {n:Nat} (h:lA r (n+1)) (i:Int) (s:List UInt8):lA (dF r i s).2 n:=⟨arh h.1 i s,by have:=Tx r i s;have:=h.2;omega⟩
theorem lA.clear {r:aN} {n:Nat} (h:lA r (n+1)) (i:Int):lA (iy r i).2 n:=⟨ari h.1 i,by have:=Ty r i;have:=h.2;omega⟩
theorem lA.sync {r:aN} {n:Nat} (h:lA r (n+1)) (i:Int):lA (bG r i).2 n:=⟨arj h.1 i,by have:=Tz r i;have:=h.2;omega⟩
theorem lA.read {r:aN} {n:Nat} (h:lA r (n+1)) (i:Int):lA (fq r i).2.2 n:=⟨ark h.1 i,by have:=TA r i;have:=h.2;omega⟩
theorem Fu (R:Nat) (g:ay) (i:Nat):∀k,sI k->k≠141->gF R {g with ar:=i} k=gF R g k:=fun k _ hk=>by
 unfold gF;simp only [if_neg hk]
theorem Mn (R:Nat) (g:ay) (i:Nat):∀k,sI k->k≠142->gF R {g with gn:=i} k=gF R g k:=fun k _ hk=>by
 unfold gF;simp only [if_neg hk]
theorem Ja (R:Nat) (g:ay) (i:Nat):∀k,sI k->k≠143->gF R {g with sz:=i} k=gF R g k:=fun k _ hk=>by
 unfold gF;simp only [if_neg hk]
theorem dL.Dj {E R:Nat} {g:ay} {r:aN} {v:Nat->aj} {w:World} (h:dL E R g r v w) (a n s:Nat) (W:World) (hW:W=((w.setCell ⟨E,141,none⟩ (.int .i64 (a:Int))).setCell ⟨E,142,none⟩ (.int .i64 (n:Int))).setCell ⟨E,143,none⟩ (.int .i64 (s:Int))):
 dL E R {g with ar:=a,gn:=n,sz:=s} r v W∧eK E R v v w W:=by
 obtain ⟨a1,b1⟩:=h.set 141 (.inr (.inl (by decide))) {g with ar:=a} rfl rfl (Fu R g a) (.int .i64 (a:Int)) rfl;obtain ⟨a2,b2⟩:=a1.set 142 (.inr (.inl (by decide))) {g with ar:=a,gn:=n} rfl rfl (Mn R {g with ar:=a} n) (.int .i64 (n:Int)) rfl;obtain ⟨a3,b3⟩:=a2.set 143 (.inr (.inl (by decide))) {g with ar:=a,gn:=n,sz:=s} rfl rfl (Ja R {g with ar:=a,gn:=n} s) (.int .i64 (s:Int)) rfl;rw [hW];exact ⟨a3,(b1.trans b2).trans b3⟩
theorem dL.put {E R:Nat} {g:ay} {r:aN} {v:Nat->aj} {w:World} (h:dL E R g r v w) {i:Nat} (hi:i<3) {l:List cD} {u:aj} (ho:w.ownsRow (E+1) 127 2 u l.length (jj l)) (hn:∀x,u.ownBlock=some x->∀j,j<3->j≠i->(v j).ownBlock≠some x) (B:Nat) (hu:∀x,u.ownBlock=some x->B<=x) (W:World) (hW:W=w.setCell ⟨E,xG i,none⟩ u):
 dL E R {g with b:=aE g.b i l} r (aE v i u) W∧aM (cX E v) w W∧∀x,cX E (aE v i u) x->cX E v x∨B<=x:=by
 have he:=h.eg.put hi (w1:=w) (fun _ _ _ _ _=>rfl) rfl ho hn;have hc:aM (cX E v) w W:=by rw [hW];exact (aM.set w E _ u).weak (fun _ q=>.inl (.inl q))
 rw [<-hW] at he;refine ⟨⟨he,h.dv.up hc.size (hc.other R h.dv.lt (fun q=>by have:=(h.eg.has q).1;have:=h.lt;omega)),h.lt⟩,hc,fun x q=>?_⟩;rcases q with q | ⟨j,hj,q⟩
 ·exact .inl (.inl q)
 ·by_cases e:j=i
  ·subst e;rw [cq] at q;exact .inr (hu x q)
  ·rw [bp _ _ _ _ e] at q;exact .inl (.inr ⟨j,hj,q⟩)
theorem dL.BV {E R:Nat} {g:ay} {r:aN} {v:Nat->aj} {w:World} (h:dL E R g r v w) {u:aj} (ho:w.ownsRow (E+1) 127 2 u (eJ g).length (jj (eJ g))) (B:Nat) (hu:∀x,u.ownBlock=some x->B<=x) (hv:∀x,cX E v x->x<B) (W:World) (hW:W=(w.setCell ⟨E,144,none⟩ u).setCell ⟨E,146,none⟩ (.slice none 0 0)):
 ∃v',dL E R (qI g) r v' W∧aM (cX E v) w W∧∀x,cX E v' x->cX E v x∨B<=x:=by
 obtain ⟨k1,c1,o1⟩:=h.put (i:=0) (by decide) ho (fun x q j hj _ e=>by have:=hu x q;have:=hv x (.inr ⟨j,hj,e⟩);omega) B hu _ rfl;obtain ⟨k2,c2,o2⟩:=k1.put (i:=1) (l:=[]) (u:=.slice none 0 0) (by decide) (World.ownsRow_nil _ _ _ _) (fun x q=>by cases q) B (fun x q=>by cases q) W hW;refine ⟨_,k2,c1.trans (F1:=fun x=>x=E) (fun x q=>.inl (.inl q)) (by rw [hW];exact aM.set _ E _ _),fun x q=>?_⟩;rcases o2 x q with a | a
 ·exact o1 x a
 ·exact .inr a
theorem arl (g:ay):jT 1 (aS 4 (g.gn+1)) ++ aW (aG (eJ g)) ++ jT 3 []=bV g:=rfl
theorem dL.drewN {E R:Nat} {g:ay} {r:aN} {v:Nat->aj} {w:World} (h:dL E R g r v w) (n:Nat):dL E R g r v (w.drewN n):=h.up (below_drewN (aA _ _) n)
theorem Fv (E R:Nat) (g:ay) (r:aN) (v:Nat->aj) (i:Nat) (w:World) (h:dL E R g r v w) (hok:oG g) (hp:iO g) (hr:lA r 3):
 av au 134 #[.pointer (some ⟨E,0,none⟩),.int .i64 (i:Int)] w (Dy E R v w (cT cC g r i).1 (cT cC g r i).2.1 (cT cC g r i).2.2):=by
 have cg:w.cell? ⟨E,142,none⟩=some (.int .i64 (g.gn:Int)):=h.eg.sc 142 (.inr (.inl (by decide)));have wg:wrap64 ((g.gn:Int)+1)=((g.gn+1:Nat):Int):=by have:=hok.gn;unfold wrap64;omega
 have HH:=af h;have fK:=af hok;have c0:w.cell? ⟨E,144,none⟩=some (v 0):=h.eg.ls 0 (by decide);have c1:w.cell? ⟨E,146,none⟩=some (v 1):=h.eg.ls 1 (by decide);have hl0:=hok.few 0 (by decide);have hl1:=hok.few 1 (by decide);have pK:Hid (∀w',dL E R g r v w'->av au 136 #[v 0,v 1] w' (VY (aG (eJ g)) w')):=fun w' k=>by
  have:=I9 (E+1) (E+1) (v 0) (v 1) (aG (g.b 0)) (aG (g.b 1)) w' (by rw [ee];exact k.eg.ow 0 (by decide)) (by rw [ee];exact k.eg.ow 1 (by decide)) (by rw [ee,ee];omega);rw [aeL (hp.bk 0 (by decide)) (hp.bk 1 (by decide))] at this;exact this
 have Fw:Hid (∀w' B u,w'.ownsRow B 127 2 u (eJ g).length (jj (eJ g))->av au 133 #[u] w' fun e' w''=>e'= .returned (.string (ah (aW (aG (eJ g)))))∧ak w'.heap.size w' w''):=fun w' B u ho=>aeG B u (aG (eJ g)) w' (by rw [ee];exact ho) (acT hok) (by rw [ee];have:=UT hok;omega);have jR:Hid (∀w',av au 137 #[.int .i64 ((g.gn+1:Nat):Int),.int .i64 4] w' fun e' w''=>e'= .returned (.string (ah (aS 4 (g.gn+1))))∧ak w'.heap.size w' w''):=fun w'=>qu (g.gn+1) 4 w' (by decide) (by have:=hok.gn;omega);have ux:Hid (∀w',av au 124 #[.int .i64 1,.string (ah (aS 4 (g.gn+1)))] w' fun e' w''=>ak w'.heap.size w' w''∧∃n,e'= .returned (.tuple #[.string (ah (jT 1 (aS 4 (g.gn+1)))),.int .i64 n])):=fun w'=>V2 1 _ w' (by decide) (by decide);have BJ:Hid (∀w',av au 124 #[.int .i64 3,.string ⟨#[]⟩] w' fun e' w''=>ak w'.heap.size w' w''∧∃n,e'= .returned (.tuple #[.string (ah (jT 3 [])),.int .i64 n])):=fun w'=>V2 3 [] w' (by decide) (by decide);have l1:=BI 1 (aS 4 (g.gn+1));have l2:=Df (aG (eJ g));have l3:=BI 3 [];have l4:=UT hok;rw [ee] at l2;have s1:=yq (jT 1 (aS 4 (g.gn+1))) (aW (aG (eJ g))) (by omega);have s2:=yq (jT 1 (aS 4 (g.gn+1)) ++ aW (aG (eJ g))) (jT 3 []) (by rw [dK];omega);rw [arl] at s2;have qD:=af (fun w' (h':cO R r w')=>abG R r (i:Int) w' h' hr.use.1 hr.use.2);have V8:Hid (lA (iy r (i:Int)).2 2):=hr.clear (n:=2) _;have uD:=af (fun w'=>aeI E w');obtain ⟨Mq,Mr,nW⟩:=bA (h.eg.ow 0 (by decide));obtain ⟨Ms,Mt,hv1⟩:=bA (h.eg.ow 1 (by decide));clear hl0 hl1 l1 l2 l3 l4;by_cases hsp:4294967295<g.gn+1
 ·have e:cT cC g r i=(16,g,r):=if_pos hsp;rw [e];have UW:¬(g.gn:Int)<4294967295:=by omega
  clear hsp wg h hok hp hr s1 s2 c0 c1;generalize (g.gn:Int)=GI at *;go_enter Tryz.func134,Tryz.ntmps134;go_wp2_with fail
  go_ret;exact ⟨rfl,v,HH.out,eK.refl _ _ _ _⟩
 have UW:(g.gn:Int)<4294967295:=by omega
 have HA:Hid (cT cC g r i=if 1500<(bV g).length then (14,g,r) else if (iy r (i:Int)).1=0 then (if (ep cC g (iy r (i:Int)).2 (i:Int) (bV g)).1=0 then (0,newE g i (bV g).length,(ep cC g (iy r (i:Int)).2 (i:Int) (bV g)).2.2) else (15,dg g,(ep cC g (iy r (i:Int)).2 (i:Int) (bV g)).2.2)) else (15,dg g,(iy r (i:Int)).2)):=by
  unfold Hid cT;rw [if_neg hsp];rfl
 obtain ⟨AN,Jb⟩:∃AN,AN=cT cC g r i:=⟨_,rfl⟩;rw [<-Jb] at HA⊢;clear Jb;have dR:Hid ((ah (bV g)).size=(bV g).length):=bZ _;have V9:Hid (aC (ah (bV g))=bV g):=kG _;have HG:Hid (∀w',dL E R g r v w'->∀x,cX E v x->x<w'.heap.size):=fun w' k x q=>(k.eg.has q).2;clear h hok hp hr hsp;generalize hT2:ah (jT 1 (aS 4 (g.gn+1)) ++ aW (aG (eJ g)))=T2 at *;generalize BU:ah (jT 1 (aS 4 (g.gn+1)))=T1 at *;generalize fJ:ah (aS 4 (g.gn+1))=N1 at *;generalize Qk:ah (jT 3 [])=T3 at *;generalize TJ:ah (aW (aG (eJ g)))=TE at *;generalize hFR:ah (bV g)=FR at *;generalize eG:g.gn+1=g1 at *;have p7:=af eG;clear hT2 BU fJ Qk TJ hFR eG;generalize hV0:v 0=V0 at *;generalize hV1:v 1=V1 at *;have Dz:=af hV0;have rY:=af hV1;clear hV0 hV1;subst nW hv1;generalize hGI:(g.gn:Int)=GI at *;have HGI:=af hGI;clear hGI;go_enter Tryz.func134,Tryz.ntmps134;go_upto_region 3 with fail
 refine yQ 8 [0,1,2,4,5,6] [(some true,3),(some true,7),(some false,8),(some false,9)] 8 (fun w'=>w'.cell? ⟨E,144,none⟩=some (.slice Mq (g.b 0).length Mr)∧w'.cell? ⟨E,146,none⟩=some (.slice Ms (g.b 1).length Mt)) (by kernel_rfl) (by kernel_rfl) (fun d _ _ _ _ h=>by cases d<;>exact h) ⟨c0,c1⟩ ?_
 iterate 6
  refine yP ?_ rfl rfl ?_ ?_
  rotate_left
  ·intro w';go_simp;rfl
  go_simp
 refine yO ?_
 iterate 2
  refine qK ?_ rfl rfl ?_ ?_
  rotate_left
  ·rintro w' ⟨d0,d1⟩;go_simp;rfl
  go_simp
 refine jI rfl rfl (fun K hK=>?_);go_simp;have b0:ak w.heap.size w w.drew:=(aA _ _).drew;have bM:=af b0;clear b0 c0 c1;refine (aq pK _ (HH.out.up bM.out)).mono ?_;rintro e w1 ⟨u,rfl,qX,hb1⟩;have aJ:Hid (ak w.heap.size w w1):=bM.out.trans hb1;have jy:Hid (w1.ownsRow w.heap.size 127 2 u (eJ g).length (jj (eJ g))):=by have:=qX;rw [ee] at this;exact this
 obtain ⟨ua,uc,rfl⟩:=bA jy.out;clear qX hb1 pK;go_simp;refine hK _ _ (fun h=>absurd h (by decide)) ?_;clear hK K;refine jI rfl rfl (fun K hK=>?_);go_simp;refine hK _ _ (fun h=>absurd h (by decide)) ?_;clear hK K;refine uH ?_;have cg1:w1.cell? ⟨E,142,none⟩=some (.int .i64 GI):=by rw [<-HGI.out];exact (HH.out.up aJ.out).eg.sc 142 (.inr (.inl (by decide)))
 go_wp2_with fail
 refine (aq jR _).mono ?_;rintro e w2 ⟨rfl,hb2⟩;have aZ:Hid (ak w1.heap.size w1 w2):=hb2;clear hb2 jR cg1 cg;go_wp2_with fail
 refine (aq ux _).mono ?_;rintro e w3 ⟨bn,n1,rfl⟩;have iM:Hid (ak w1.heap.size w1 w3):=aZ.out.trans (bn.mono aZ.out.size);clear bn ux aZ;go_wp2_with fail
 refine (aq BJ _).mono ?_;rintro e w4 ⟨fZ,n2,rfl⟩;have mU:Hid (ak w1.heap.size w1 w4):=iM.out.trans (fZ.mono iM.out.size);clear fZ BJ iM;go_wp2_with fail
 refine (aq Fw _ _ _ (dX jy.out mU.out)).mono ?_;rintro e w5 ⟨rfl,fD⟩;have jS:Hid (ak w1.heap.size w1 w5):=mU.out.trans (fD.mono mU.out.size);clear fD Fw mU;have k5:=HH.out.up (aJ.out.trans (jS.out.mono aJ.out.size));have gV:=af k5;have sJ:Hid (eK E R v v w w5):=eK.bh (aJ.out.trans (jS.out.mono aJ.out.size));have jf:=af (dX jy.out jS.out);have d5:w5.cell? ⟨E,0,none⟩=some (.pointer (some ⟨R,0,none⟩)):=k5.eg.sc 0 (.inl (by decide));have HN5:Hid (∀x,cX E v x->x<w.heap.size):=fun x q=>(HH.out.eg.has q).2;clear k5 jy;by_cases hlo:1500<(bV g).length
 ·have HE:Hid (AN=(14,g,r)):=by unfold Hid;rw [HA.out,if_pos hlo]
  have Lj:(1500:Int)<(FR.size:Int):=by have:=dR.out;omega
  clear hlo HA;go_wp2_with fail
  go_ret;rw [HE.out];exact ⟨rfl,v,gV.out,sJ.out⟩
 have Lj:¬(1500:Int)<(FR.size:Int):=by have:=dR.out;omega
 have mG:Hid (FR.size<=140737488351232):=by have:=dR.out;unfold Hid;omega
 replace HA:Hid (AN=if (iy r (i:Int)).1=0 then (if (ep cC g (iy r (i:Int)).2 (i:Int) (bV g)).1=0 then (0,newE g i (bV g).length,(ep cC g (iy r (i:Int)).2 (i:Int) (bV g)).2.2) else (15,dg g,(ep cC g (iy r (i:Int)).2 (i:Int) (bV g)).2.2)) else (15,dg g,(iy r (i:Int)).2)):=by
  unfold Hid;rw [HA.out,if_neg hlo]
 clear hlo;generalize iy r (i:Int)=rC at *;obtain ⟨a1,r1⟩:=rC;go_wp2_with fail
 refine (aq qD _ gV.out.dv).mono ?_;rintro e w6 ⟨rfl,hd6,Wg⟩;obtain ⟨k6,f6⟩:=gV.out.dev hd6 Wg;have Ah:=af (dz jf.out (fun x q=>Wg.other x (by have:=(aR jf.out x q).1;have:=HH.out.dv.lt;omega)));have ng:=af k6;have yH:=af (sJ.out.trans f6);have d6:w6.cell? ⟨E,0,none⟩=some (.pointer (some ⟨R,0,none⟩)):=k6.eg.sc 0 (.inl (by decide));clear k6 f6 hd6 Wg s1 s2 qD d5 gV sJ jf;by_cases ha:a1=0
 rotate_left
 ·have HE:Hid (AN=(15,dg g,r1)):=by unfold Hid;rw [HA.out,if_neg ha]
  have fo:=af (Mm E R g r1 v a1 w6 ng.out ha);clear ha HA;go_wp2_with fail
  refine (aq fo).mono ?_;rintro e w7 ⟨rfl,v7,k7,f7⟩;have mK:=af k7;have oI:=af (yH.out.trans f7);clear k7 f7 fo;go_wp2_with fail
  go_ret;rw [HE.out];exact ⟨rfl,v7,mK.out,oI.out⟩
 replace HA:Hid (AN=if (ep cC g r1 (i:Int) (bV g)).1=0 then (0,newE g i (bV g).length,(ep cC g r1 (i:Int) (bV g)).2.2) else (15,dg g,(ep cC g r1 (i:Int) (bV g)).2.2)):=by
  unfold Hid;rw [HA.out,if_pos ha]
 subst ha;have Ay:Hid (∀w',cO R r1 w'->av au 69 #[.pointer (some ⟨R,0,none⟩),.int .i64 (i:Int),.string FR] w' (uo R w' (dF r1 (i:Int) (bV g)).1 (dF r1 (i:Int) (bV g)).2)):=fun w' h'=>by
  have:=Tq R r1 (i:Int) FR w' h' V8.out.use.1 V8.out.use.2 mG.out;rw [V9.out] at this;exact this
 have Jc:Hid (lA (dF r1 (i:Int) (bV g)).2 1):=V8.out.add (n:=1) _ _;replace HA:Hid (AN=if (dF r1 (i:Int) (bV g)).1=0 then (if (bG (dF r1 (i:Int) (bV g)).2 (i:Int)).1=0 then (0,newE g i (bV g).length,(bG (dF r1 (i:Int) (bV g)).2 (i:Int)).2) else (15,dg g,(bG (dF r1 (i:Int) (bV g)).2 (i:Int)).2)) else (15,dg g,(dF r1 (i:Int) (bV g)).2)):=by
  unfold Hid;rw [HA.out];unfold ep;show (if (if (dF r1 (i:Int) (bV g)).1=0 then (if (bG (dF r1 (i:Int) (bV g)).2 (i:Int)).1=0 then ((0:Int),g,(bG (dF r1 (i:Int) (bV g)).2 (i:Int)).2) else (15,dg g,(bG (dF r1 (i:Int) (bV g)).2 (i:Int)).2)) else (15,dg g,(dF r1 (i:Int) (bV g)).2)).1=0 then _ else _)=_
  by_cases q1:(dF r1 (i:Int) (bV g)).1=0
  ·by_cases q2:(bG (dF r1 (i:Int) (bV g)).2 (i:Int)).1=0
   ·simp [cC,q1,q2]
   ·simp [cC,q1,q2]
  ·simp [cC,q1]
 generalize dF r1 (i:Int) (bV g)=rA at *;obtain ⟨a2,r2⟩:=rA;go_wp2_with fail
 refine (aq uD _).mono ?_;rintro e w' ⟨rfl,hw'⟩;obtain rfl:=hw'.symm;go_wp2_with fail
 refine (aq Ay _ ng.out.dv).mono ?_;rintro e w7 ⟨rfl,hd7,Wh⟩;obtain ⟨k7,f7⟩:=ng.out.dev hd7 Wh;have BW:=af (dz Ah.out (fun x q=>Wh.other x (by have:=(aR Ah.out x q).1;have:=HH.out.dv.lt;omega)));have mK:=af k7;have oI:=af (yH.out.trans f7);have d7:w7.cell? ⟨E,0,none⟩=some (.pointer (some ⟨R,0,none⟩)):=k7.eg.sc 0 (.inl (by decide));clear k7 f7 hd7 Wh Ay d6 ng yH Ah;by_cases ha:a2=0
 rotate_left
 ·have HE:Hid (AN=(15,dg g,r2)):=by unfold Hid;rw [HA.out,if_neg ha]
  have fo:=af (Mm E R g r2 v a2 w7 mK.out ha);clear ha HA;go_wp2_with fail
  refine (aq fo).mono ?_;rintro e w8 ⟨rfl,v8,k8,f8⟩;have lT:=af k8;have rF:=af (oI.out.trans f8);clear k8 f8 fo;go_wp2_with fail
  go_ret;rw [HE.out];exact ⟨rfl,v8,lT.out,rF.out⟩
 replace HA:Hid (AN=if (bG r2 (i:Int)).1=0 then (0,newE g i (bV g).length,(bG r2 (i:Int)).2) else (15,dg g,(bG r2 (i:Int)).2)):=by
  unfold Hid;rw [HA.out,if_pos ha]
 subst ha;have xq:=af (fun w' (h':cO R r2 w')=>KO R r2 (i:Int) w' h' Jc.out.use.1 Jc.out.use.2);generalize bG r2 (i:Int)=rS at *;obtain ⟨a3,r3⟩:=rS;go_wp2_with fail
 refine (aq uD _).mono ?_;rintro e w' ⟨rfl,hw'⟩;obtain rfl:=hw'.symm;go_wp2_with fail
 refine (aq xq _ mK.out.dv).mono ?_;rintro e w8 ⟨rfl,Qq,Wi⟩;obtain ⟨k8,f8⟩:=mK.out.dev Qq Wi;have BX:=af (dz BW.out (fun x q=>Wi.other x (by have:=(aR BW.out x q).1;have:=HH.out.dv.lt;omega)));have lT:=af k8;have rF:=af (oI.out.trans f8);clear f8 Qq Wi xq d7 mK oI BW;by_cases ha:a3=0
 rotate_left
 ·have HE:Hid (AN=(15,dg g,r3)):=by unfold Hid;rw [HA.out,if_neg ha]
  have fo:=af (Mm E R g r3 v a3 w8 lT.out ha);clear ha HA k8;go_wp2_with fail
  refine (aq fo).mono ?_;rintro e w9 ⟨rfl,v9,k9,f9⟩;have HK9:=af k9;have HF9:=af (rF.out.trans f9);clear k9 f9 fo;go_wp2_with fail
  go_ret;rw [HE.out];exact ⟨rfl,v9,HK9.out,HF9.out⟩
 have HE:Hid (AN=(0,newE g i (bV g).length,r3)):=by unfold Hid;rw [HA.out,if_pos ha]
 subst ha;have e4:=k8.eg.sc 141 (.inr (.inl (by decide)));have e6:=k8.eg.sc 143 (.inr (.inl (by decide)));have e5:w8.cell? ⟨E,142,none⟩=some (.int .i64 GI):=by rw [<-HGI.out];exact k8.eg.sc 142 (.inr (.inl (by decide)))
 have e7:w8.cell? ⟨E,144,none⟩=some (v 0):=k8.eg.ls 0 (by decide);have e8:w8.cell? ⟨E,146,none⟩=some (v 1):=k8.eg.ls 1 (by decide);have z4:=k8.eg.fz 141;have z5:=k8.eg.fz 142;have z6:=k8.eg.fz 143;have z7:=k8.eg.fz 144;have z8:=k8.eg.fz 146;have BJ:=af (fun W=>lT.out.Dj i g1 FR.size W);have Ue:Hid (newE g i (bV g).length=qI {g with ar:=i,gn:=g1,sz:=FR.size}):=by unfold Hid newE;rw [dR.out,p7.out]
 have xu:Hid (eJ {g with ar:=i,gn:=g1,sz:=FR.size}=eJ g):=rfl;generalize gF R g 141=y4 at *;generalize gF R g 143=y6 at *;generalize v 0=y7 at e7;generalize v 1=y8 at e8;clear k8 HA;go_wp2_with fail
 refine (aq uD _).mono ?_;rintro e w' ⟨rfl,hw'⟩;obtain rfl:=hw'.symm;go_wp2_with fail
 go_ret;rw [HE.out,Ue.out];obtain ⟨k9,f9⟩:=BJ.out _ rfl;have awP:w.heap.size<=w8.heap.size:=rF.out.bD.size;have aru:uP (((w8.setCell ⟨E,141,none⟩ (.int .i64 (i:Int))).setCell ⟨E,142,none⟩ (.int .i64 (g1:Int))).setCell ⟨E,143,none⟩ (.int .i64 (FR.size:Int))) (E+1) 127 2 (.slice ua (eJ g).length uc) (eJ g).length (jj (eJ g)):=by
  have hE:=HH.out.eg.lt;refine dz (Al BX.out (by omega)) (fun x q=>?_);have hx:=(aR BX.out x q).1;exact ((bB (by omega)).trans (bB (by omega))).trans (bB (by omega))
 obtain ⟨v',k10,c10,Mu⟩:=k9.BV aru w.heap.size (fun x q=>(aR BX.out x q).1) (fun x q=>HN5.out x q) _ rfl;exact ⟨rfl,v',k10,⟨(rF.out.bD.trans (fun x q=>.inl q) f9.bD).trans (fun x q=>.inl (.inl q)) c10,Mu⟩⟩
theorem Jd {α:Type} (o:qc α) (g:ay) (d:α) (i a s:Nat):(cT o {g with ar:=a,sz:=s} d i).1=(cT o g d i).1∧(cT o {g with ar:=a,sz:=s} d i).2.2=(cT o g d i).2.2∧((cT o g d i).1=0->(cT o {g with ar:=a,sz:=s} d i).2.1=(cT o g d i).2.1):=by
 have hf:bV {g with ar:=a,sz:=s}=bV g:=rfl;have hn:∀k,newE {g with ar:=a,sz:=s} i k=newE g i k:=fun _=>rfl;have hl:∀d',(ep o {g with ar:=a,sz:=s} d' (i:Int) (bV g)).1=(ep o g d' (i:Int) (bV g)).1∧(ep o {g with ar:=a,sz:=s} d' (i:Int) (bV g)).2.2=(ep o g d' (i:Int) (bV g)).2.2:=fun d'=>by
  unfold ep;split
  ·split<;>exact ⟨rfl,rfl⟩
  ·exact ⟨rfl,rfl⟩
 unfold cT;rw [hf,(hl _).1,(hl _).2,hn];show (if 4294967295<g.gn+1 then _ else _:Int×ay×α).1=_∧_
 by_cases q1:4294967295<g.gn+1
 ·simp [q1]
 ·by_cases q2:1500<(bV g).length
  ·simp [q1,q2]
  ·by_cases q3:(o.clear d (i:Int)).1=0
   ·by_cases q4:(ep o g (o.clear d (i:Int)).2 (i:Int) (bV g)).1=0
    ·simp [q1,q2,q3,q4]
    ·simp [q1,q2,q3,q4]
   ·simp [q1,q2,q3]
theorem iO.cur {g:ay} (h:iO g) (c:Nat) (A:cS) (n:Nat):iO (gB g c A n):=by
 refine ⟨fun i hi=>?_,fun ws hw=>?_⟩
 ·show jZ (aE g.b 0 (dN A.list) i)
  by_cases e:i=0
  ·rw [e,cq];exact jZ.book _
  ·rw [bp _ _ _ _ e];exact h.bk i hi
 ·have hw':ws∈cu (aE g.b 0 (dN A.list) 1):=hw;show ws∈cu (aE g.b 0 (dN A.list) 2)
  rw [bp _ _ _ _ (by decide)] at hw'⊢;exact h.sub ws hw'
def DA (E R:Nat) (v:Nat->aj) (w:World) (n:Int) (g':ay) (r':aN) (e':eL) (w':World):Prop:=
 e'= .returned (.int .i64 n)∧∃v' g'',dL E R g'' r' v' w'∧eK E R v v' w w'∧(n=0->g''=g')
theorem DA.Mv {E R:Nat} {v v1:Nat->aj} {w w1:World} {g:ay} {r:aN} {i a s:Nat} {e':eL} {w':World} (f:eK E R v v1 w w1) (h:Dy E R v1 w1 (cT cC g r i).1 (cT cC g r i).2.1 (cT cC g r i).2.2 e' w'):DA E R v w (cT cC {g with ar:=a,sz:=s} r i).1 (cT cC {g with ar:=a,sz:=s} r i).2.1 (cT cC {g with ar:=a,sz:=s} r i).2.2 e' w':=by
 obtain ⟨h1,h2,h3⟩:=Jd cC g r i a s;obtain ⟨rfl,v',k,f'⟩:=h;rw [h1,h2];exact ⟨rfl,v',_,k,f.trans f',fun e=>(h3 e).symm⟩
structure tM (E R:Nat) (g:ay) (v:Nat->aj) (w:World) (t0 t1:ByteArray) (r':aN) (wr:World):Prop where
 k:dL E R g r' v wr
 f:eK E R v v w wr
 r0:wr.heap[w.heap.size]? =some (.cells (dl t0 t1) 177 (0,0))
theorem tM.lt {E R:Nat} {g:ay} {v:Nat->aj} {w:World} {t0 t1:ByteArray} {r':aN} {wr:World} (h:tM E R g v w t0 t1 r' wr):w.heap.size<wr.heap.size:=(Array.getElem?_eq_some_iff.1 h.r0).1
theorem tM.new {E R:Nat} {g:ay} {r:aN} {v:Nat->aj} {w:World} (h:dL E R g r v w) (W:World) (hW:W=w.alloc (.cells (dl ⟨#[]⟩ ⟨#[]⟩) 177)):tM E R g v w ⟨#[]⟩ ⟨#[]⟩ r W:=by
 have hb:ak w.heap.size w W:=by rw [hW];exact (aA _ _).alloc (ax _) _
 exact ⟨h.up hb,eK.bh hb,by rw [hW,bg]⟩
theorem tM.dev {E R:Nat} {g:ay} {v:Nat->aj} {w:World} {t0 t1:ByteArray} {r' r2:aN} {wr w2:World} (hR:R<w.heap.size) (h:tM E R g v w t0 t1 r' wr) (hd:cO R r2 w2) (hf:fX R wr w2):tM E R g v w t0 t1 r2 w2:=by
 obtain ⟨k2,f2⟩:=h.k.dev hd hf;exact ⟨k2,h.f.trans f2,(hf.other _ (by omega)).trans h.r0⟩
theorem dL.box {E R:Nat} {g:ay} {r:aN} {v:Nat->aj} {w:World} (h:dL E R g r v w) {X:Nat} (hX:¬cX E v X) (hR:X≠R) (j:Nat) (u:aj):dL E R g r v (w.setCell ⟨X,j,none⟩ u):=
 ⟨h.eg.kept (fun x q=>bB (fun e=>hX (e▸q))),h.dv.up (by rw [fW];exact ax _) (bB (DP hR)),h.lt⟩
theorem tM.text {E R:Nat} {g:ay} {v:Nat->aj} {w:World} {t0 t1:ByteArray} {r':aN} {wr:World} (hR:R<w.heap.size) (hE:∀x,cX E v x->x<w.heap.size) (h:tM E R g v w t0 t1 r' wr) (j:Nat) (t s0 s1:ByteArray) (hs:(dl t0 t1).setIfInBounds j (.string t)=dl s0 s1):tM E R g v w s0 s1 r' (wr.setCell ⟨w.heap.size,j,none⟩ (.string t)):=by
 refine ⟨h.k.box (fun q=>by have:=hE _ q;omega) (by omega) j _,⟨h.f.bD.trans (F1:=fun x=>x=w.heap.size) (fun x q=>.inr (by omega)) (aM.set wr _ j _),h.f.eo⟩,?_⟩;rw [<-hs];simp [World.setCell,Array.getElem?_modify,h.r0]
theorem Wj (g:ay) (r:aN):mI cC g r=if (bG r 0).1=0 then
 (if (bG (bG r 0).2 1).1=0 then
   (if (fq (bG (bG r 0).2 1).2 0).2.1=0 then
     (if (fq (fq (bG (bG r 0).2 1).2 0).2.2 1).2.1=0 then (0,g,(fq (fq (bG (bG r 0).2 1).2 0).2.2 1).2.2,(fq (bG (bG r 0).2 1).2 0).1,(fq (fq (bG (bG r 0).2 1).2 0).2.2 1).1)
      else (15,dg g,(fq (fq (bG (bG r 0).2 1).2 0).2.2 1).2.2,[],[]))
    else (15,dg g,(fq (bG (bG r 0).2 1).2 0).2.2,[],[]))
  else (15,dg g,(bG (bG r 0).2 1).2,[],[]))
 else (15,dg g,(bG r 0).2,[],[]):=rfl
end
end Go.Proofs.YtmmflekajbeamaaGreatDoor
