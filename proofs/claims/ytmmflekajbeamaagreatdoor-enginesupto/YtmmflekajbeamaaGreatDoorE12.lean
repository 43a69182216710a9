/- Texts of ours, joined, in few bytes. -/
import Derived.Test.YtmmflekajbeamaaGreatDoorE11
open Array renaming getElem?_eq_none->Jy,getElem?_eq_some_iff->iD,setIfInBounds_comm->Rb
open Bool renaming and_eq_true->gG,or_eq_true->Cg
open Go.Act renaming put->xN
open Go renaming Calls->av,Oper->bI,getD_set_ne->Nk,heap_alloc_new->bg,mem_ready->Cf,ready_mono->zn
open Go.Op renaming stringOp->Cl
open Go.Proofs.Tryz renaming func69->Yy,ntmps69->Yz,prog->au
open Go.Region renaming Mode->pN,binds->xL,free->JI,free_spec->Gk,noSelect->vR,noSelect_spec->Gj,ready->oL,waitsFor->XL,waitsFor_spec->XN
open Go.RowKit renaming intOf->aI
open Int renaming le_refl->JE,natCast_nonneg->Nd
open List renaming all_eq_true->oh,any_eq_true->avi,append_nil->Nr,length_append->dK,length_take->ny,mem_range->mL,range->jL,take_of_length_le->mO
open Nat renaming le_refl->ax,le_trans->aT,lt_or_ge->oM,min_eq_left->D6,min_eq_right->Rs,not_lt_zero->YA,sub_le->Yv,sub_self->tV,zero_le->bK
open Option.some renaming inj->oN
namespace Go.Proofs.YtmmflekajbeamaaGreatDoor
set_option maxRecDepth 100000
set_option maxHeartbeats 8000000
section
open Go
section
variable {P:Program} {ops:Array bI} {Q:Exit->Act->World->Prop} {md:pN} {S:World->Prop} {q:Nat}
def tq (md:pN) (ops:Array bI):Nat->Nat->Nat->Bool
 | 0,_,_=>false
 | f+1,j,i=>(jL ops.size).any fun k=>XL md ops j k && (decide (k=i) || tq md ops f k i)
def O8 (md:pN) (ops:Array bI) (F i:Nat) (listed:Array Bool):Prop:=∀f k,f<=F->tq md ops f k i=true->listed.getD k true=false
theorem akC {F i j:Nat} {listed:Array Bool} (hi:listed.getD i true=false) (hL:O8 md ops F i listed) (hj:j∈oL md ops listed):∀f,f<=F->tq md ops f j i=false:=by
 intro f hf;cases f with
 | zero=>rfl
 | succ f=>
   cases h:tq md ops (f+1) j i with
   | false=>rfl
   | true=>
     exfalso;simp only [tq,avi,gG,Cg,decide_eq_true_eq] at h;obtain ⟨k,_,hw,hk⟩:=h;obtain ⟨hjun,oj,hoj,hall⟩:=Cf.1 hj;obtain ⟨J8,J9,e,he,hb,hon⟩:=XN hw;have:J8=oj:=oN (J9.symm.trans hoj);subst this;have h1:=hall e he hb;rw [hon] at h1;have h0:listed.getD k true=false:=by
      rcases hk with rfl | hk
      ·exact hi
      ·exact hL f k (by omega) hk
     rcases oM k listed.size with h' | h'
     ·simp [h'] at h0 h1;rw [h0] at h1;cases h1
     ·simp [Jy h'] at h1
theorem O9 {i F:Nat} {oi:bI} {v:Value} (hi:ops[i]? =some oi) (hsel:∀(j:Nat) (o:bI) cs b,ops[j]? =some o->o.op≠.select cs b)
 (hQ:∀c a w,Q (.panic c) (a.put oi.dst v) w->Q (.panic c) a w) (hlast:∀j,q<=j->j<ops.size->tq md ops F j i=true) (CB:i<q):
 ∀(fuel:Nat) (listed:Array Bool) (a:Act) (w:World),
  (∀j oj,ops[j]? =some oj->j≠i->listed.getD j true=false->(∀e∈oj.after,xL md e=true->e.on≠i)->oi.apart ops oj=true)->O8 md ops F i listed->
  i∈oL md ops listed->YieldsIf P ops S oi v a->S w->
  wpAnyQ P md ops Q S q fuel (listed.setIfInBounds i true) (a.put oi.dst v) w->wpAnyQ P md ops Q S q (fuel+1) listed a w:=by
 intro fuel
 induction fuel with
 | zero=>
   intro listed a w _ _ hr hy hS H;refine ⟨fun h=>(by rw [h] at hr;cases hr),fun j hj=>?_⟩;by_cases hji:j=i
   ·subst hji;exact hy.wpOp hi hS ⟨fun _=>hS,H⟩
   ·have:=zn hj hji;rw [H.1] at this;cases this
 | succ fuel ih=>
   intro listed a w hfree hL hr hy hS H;refine ⟨fun h=>(by rw [h] at hr;cases hr),fun j hj=>?_⟩;by_cases hji:j=i
   ·subst hji;exact hy.wpOp hi hS ⟨fun _=>hS,H⟩
   ·have h1:=H.2 j (zn hj hji);obtain ⟨hjun,oj,hoj,hall⟩:=Cf.1 hj;have h0:listed.getD i true=false:=(Cf.1 hr).1;have hnot:∀e∈oj.after,xL md e=true->e.on≠i:=fun e he hb heq=>by
     have h1:=hall e he hb;rw [heq] at h1;rcases oM i listed.size with h' | h'
     ·simp [h'] at h0 h1;rw [h0] at h1;cases h1
     ·simp [Jy h'] at h1
    have hd:=akC h0 hL hj;have hjs:j<ops.size:=(iD.1 hoj).1;have Sg:j<q:=by
     rcases oM j q with h | h
     ·exact h
     ·have:=hlast j h hjs;rw [hd F (ax _)] at this;cases this
    have h2:=wpOp_putIf hoj (hfree j oj hoj hji hjun hnot) (fun cs b=>hsel i oi cs b hi) (fun cs b=>hsel j oj cs b hoj) hQ hy h1;have hfree':∀k ok,ops[k]? =some ok->k≠i->(listed.setIfInBounds j true).getD k true=false->
     (∀e∈ok.after,xL md e=true->e.on≠i)->oi.apart ops ok=true:=fun k ok hk hki hun hno=>by
     refine hfree k ok hk hki ?_ hno;by_cases hjk:j=k
     ·subst hjk;exact hjun
     ·rw [Nk true hjk] at hun;exact hun
    have hL':O8 md ops F i (listed.setIfInBounds j true):=fun f k hf hk=>by
     by_cases hjk:j=k
     ·subst hjk;rw [hd f hf] at hk;cases hk
     ·rw [Nk true hjk];exact hL f k hf hk
    refine wpOp_mono (fun a' w' h3=>⟨h3.2.1,ih (listed.setIfInBounds j true) a' w' hfree' hL' (zn hr (Ne.symm hji)) h3.1 (h3.2.1 Sg) ?_⟩) h2;rw [Rb _ _ hji];exact h3.2.2
def KN (md:pN) (ops:Array bI) (F i:Nat) (listed:Array Bool):Bool:=(jL (F+1)).all fun f=>(jL ops.size).all fun k=>!tq md ops f k i || !(listed.getD k true)
theorem akD {f k i:Nat} (h:tq md ops f k i=true):k<ops.size:=by
 cases f with
 | zero=>cases h
 | succ f=>
   simp only [tq,avi,gG] at h;obtain ⟨m,_,hw,_⟩:=h;obtain ⟨ok,hok,_⟩:=XN hw;exact (iD.1 hok).1
theorem Pa {F i:Nat} {listed:Array Bool} (h:KN md ops F i listed=true):O8 md ops F i listed:=fun f k hf hk=>by
 have h1:=oh.1 h f (mL.2 (by omega));have h2:=oh.1 h1 k (mL.2 (akD hk));rw [hk] at h2;simpa using h2
def Pb (md:pN) (ops:Array bI) (F:Nat) (ts:List Nat):List Nat->Array Bool->Bool
 | [],listed=>Br md ops ts listed
 | i :: rs,listed=>(oL md ops listed).contains i && JI md ops listed i && KN md ops F i listed && Pb md ops F ts rs (listed.setIfInBounds i true)
theorem abE {ts:List Nat} {w:World} {F:Nat} (hsel:vR ops=true) (hQ:∀d v c a w,Q (.panic c) (xN a d v) w->Q (.panic c) a w) (hS:S w):
 ∀(rs:List Nat) (listed:Array Bool) (a:Act),(rs.all fun i=>decide (i<q) && (jL ops.size).all fun j=>decide (j<q) || tq md ops F j i)=true->Pb md ops F ts rs listed=true->
  wX P ops S (fun a'=>qC P ops Q S q ts a' w) rs a->wpAnyQ P md ops Q S q (rs.length+ts.length) listed a w
 | [],listed,a,_,hB,h=>by
   rw [List.length_nil,Nat.zero_add];exact O0 ts listed a w hB h
 | i :: rs,listed,a,hl,hB,h=>by
   simp only [Pb,gG] at hB;simp only [List.all_cons,gG,decide_eq_true_eq] at hl;obtain ⟨⟨⟨hr,hf⟩,hlt⟩,hB'⟩:=hB;obtain ⟨o,v,h0,hy,hK⟩:=h;rw [List.length_cons,show rs.length+1+ts.length=(rs.length+ts.length)+1 by omega];refine O9 h0 (Gj hsel) (hQ o.dst v) (fun j hj hjs=>?_) hl.1.1 (rs.length+ts.length) listed a w (Gk h0 hf) (Pa hlt) (by simpa using hr) hy hS (abE hsel hQ hS rs _ _ hl.2 hB' hK);have h1:=oh.1 hl.1.2 j (mL.2 hjs);simp only [Cg,decide_eq_true_eq] at h1;rcases h1 with h1 | h1
   ·omega
   ·exact h1
def abF (ops:Array bI) (F:Nat) (rs ts:List Nat) (q:Nat):Bool:=
 vR ops && decide (rs.length+ts.length=ops.size) && (rs.all fun i=>decide (i<q) && (jL ops.size).all fun j=>decide (j<q) || tq .any ops F j i) && Pb .any ops F ts rs (Array.replicate ops.size false)
theorem EO {id:Nat} {a:Act} {w:World} (F:Nat) (rs ts:List Nat) (q:Nat) (S:World->Prop) (hm:P.follows .mixedOrders=true) (hB:abF ops F rs ts q=true)
 (hQ:∀d v c a w,Q (.panic c) (xN a d v) w->Q (.panic c) a w) (hS:S w.drew)
 (h:wX P ops S (fun a'=>qC P ops Q S q ts a' w.drew) rs a):(Code.region id ops true).wp P Q a w:=by
 simp only [abF,gG,decide_eq_true_eq] at hB;obtain ⟨⟨⟨hsel,hlen⟩,hlast⟩,hhead⟩:=hB;have H:=abE (P:=P) (md:=.any) (Q:=Q) (S:=S) (q:=q) (w:=w.drew) hsel hQ hS rs _ a hlast hhead h;refine wp_region_any hm ?_;have H2:=Eg _ _ _ _ H;rw [hlen] at H2;exact H2
end
end
section
open Go.RowKit
def dF (r:aN) (i:Int) (s:List UInt8):Int×aN:=
 if i<0∨2<=i then (13,r) else if r.tu+1=r.du then (15,r.tick) else if 1500<(r.l i.toNat).length+(r.t i.toNat).length+s.length then (14,r.tick) else (0,{r.tick with t:=aE r.t i.toNat (r.t i.toNat ++ s)})
def iy (r:aN) (i:Int):Int×aN:=
 if i<0∨2<=i then (13,r) else if r.tu+1=r.du then (15,r.tick) else (0,{r.tick with l:=aE r.l i.toNat [],t:=aE r.t i.toNat []})
def bG (r:aN) (i:Int):Int×aN:=
 if i<0∨2<=i then (13,r) else if r.tu+1=r.du then (15,r.tick) else (0,{r.tick with l:=aE r.l i.toNat (r.l i.toNat ++ r.t i.toNat),t:=aE r.t i.toNat []})
def fq (r:aN) (i:Int):List UInt8×Int×aN:=
 if i<0∨2<=i then ([],13,r) else if r.tu+1=r.du then ([],15,r.tick) else (r.l i.toNat ++ r.t i.toNat,0,r.tick)
def qF (r:aN) (k:Int):Int×aN:=if k<0 then (1,r) else if k=0 then (0,{r with du:=0}) else (0,{r with tu:=0,du:=k.toNat})
theorem yq (a b:List UInt8) (h:a.length+b.length<=140737488355328) (w:World):(Cl .add (ah a) (ah b)).run au w= .ok (.string (ah (a ++ b))) w:=by
 rw [<-mC];exact run_string_add_sum w _ _ (by rw [bZ,bZ];omega)
theorem akE (w:World) (R i j:Nat) (u v:Value) (h:¬i=j):(w.setCell ⟨R,i,none⟩ u).setCell ⟨R,j,none⟩ v=(w.setCell ⟨R,j,none⟩ v).setCell ⟨R,i,none⟩ u:=by
 unfold World.setCell;congr 1;apply Array.ext_getElem?;intro k;simp only [Array.getElem?_modify];by_cases hk:R=k
 ·subst hk;simp only [if_true,Option.map_map];cases w.heap[R]? with
  | none=>rfl
  | some o=>
    cases o<;>first | rfl | (simp [Rb _ _ h])
 ·simp [hk]
theorem Tq (R:Nat) (r:aN) (i:Int) (s:ByteArray) (w:World) (h:cO R r w) (hok:sq r) (hu:r.tu<=1152921504606846976) (hs:s.size<=140737488351232):
 av au 69 #[.pointer (some ⟨R,0,none⟩),.int .i64 i,.string s] w (uo R w (dF r i (aC s)).1 (dF r i (aC s)).2):=by
 by_cases hb:i<0∨2<=i
 ·have e:dF r i (aC s)=(13,r):=if_pos hb;rw [e];have HT:=af (O6 R i w hb);have HH:=af h;clear h hb e;go_enter Yy,Yz;go_wp2_with fail
  refine (aq HT).mono ?_;rintro e w' ⟨rfl,hw⟩;obtain rfl:=hw.symm;go_wp2_with fail
  go_ret;exact uo.same HH.out
 obtain ⟨n,rfl,hn⟩:=CW hb;have e0:dF r (n:Int) (aC s)=if r.tu+1=r.du then (15,r.tick) else if 1500<(r.l n).length+(r.t n).length+(aC s).length then (14,r.tick) else (0,{r.tick with t:=aE r.t n (r.t n ++ aC s)}):=if_neg hb
 rw [e0];clear e0 hb;by_cases ht:r.tu+1=r.du
 ·rw [if_pos ht];have HT:=af (O7 R r n w h hn hu ht);clear h;go_enter Yy,Yz;go_wp2_with fail
  refine (aq HT).mono ?_;rintro e w1 ⟨rfl,hd,hf⟩;have HD:=af hd;have HF:=af hf;clear hd hf;go_wp2_with fail
  go_ret;exact ⟨rfl,HD.out,HF.out⟩
 ·rw [if_neg ht];by_cases hl:1500<(r.l n).length+(r.t n).length+(aC s).length
  ·rw [if_pos hl];have HT:=af (KM R r n w h hn hu ht);have hlb:=hok n hn;clear h;go_enter Yy,Yz;go_wp2_with fail
   refine (aq HT).mono ?_;rintro e w1 ⟨rfl,hd,hf⟩;have HD:=af hd;have HF:=af hf;have c0:=hd.tg n hn;have c1:=hd.tj n hn;have f0:=hd.fz n;have f1:=hd.fz (2+n);have hn0:¬(n:Int)<0:=by omega
   have hn2:(n:Int)<2:=by omega
   have hl':(1500:Int)<((ah (r.l n)).size:Int)+((ah (r.t n)).size:Int)+(s.size:Int):=by rw [bZ,bZ];have:=jr s;omega
   have hz1:(ah (r.l n)).size<=1500:=by rw [bZ];omega
   have hz2:(ah (r.t n)).size<=1500:=by rw [bZ];omega
   have Hz:w1.cell? ⟨R,n,none⟩=some (.string (ah (r.l n))):=c0;have wZ:w1.cell? ⟨R,2+n,none⟩=some (.string (ah (r.t n))):=c1;clear hd hf HT hl hlb c0 c1;generalize ah (r.l n)=X0 at *;generalize ah (r.t n)=X1 at *;go_wp2_with fail
   go_quiet (fail)
   go_wp2_with fail
   go_ret;exact ⟨rfl,HD.out.drew _,HF.out.drew _⟩
  ·rw [if_neg hl];have HT:=af (KM R r n w h hn hu ht);have hlb:=hok n hn;clear h;go_enter Yy,Yz;go_wp2_with fail
   refine (aq HT).mono ?_;rintro e w1 ⟨rfl,hd,hf⟩;have HD:=af hd;have HF:=af hf;have c0:=hd.tg n hn;have c1:=hd.tj n hn;have f0:=hd.fz n;have f1:=hd.fz (2+n);have hn0:¬(n:Int)<0:=by omega
   have hn2:(n:Int)<2:=by omega
   have hl':¬(1500:Int)<((ah (r.l n)).size:Int)+((ah (r.t n)).size:Int)+(s.size:Int):=by rw [bZ,bZ];have:=jr s;omega
   have hz1:(ah (r.l n)).size<=1500:=by rw [bZ];omega
   have hz2:(ah (r.t n)).size<=1500:=by rw [bZ];omega
   have Hz:w1.cell? ⟨R,n,none⟩=some (.string (ah (r.l n))):=c0;have wZ:w1.cell? ⟨R,2+n,none⟩=some (.string (ah (r.t n))):=c1;have ca:∀w,(Cl .add (ah (r.t n)) s).run au w= .ok (.string (ah (r.t n ++ aC s))) w:=fun w=>by
    have:=yq (r.t n) (aC s) (by rw [jr];omega) w;rwa [nK] at this
   have HX:=af (fun W (hW:cO R r.tick W)=>hW.O5 hn (r.t n ++ aC s));clear hd hf HT hl hlb c0 c1;generalize ah (r.l n)=X0 at *;generalize ah (r.t n ++ aC s)=X2 at *;generalize ah (r.t n)=X1 at *;go_wp2_with fail
   go_quiet (fail)
   go_upto_region 6 with fail
   refine EO 4 [0,1,2,3,4,5,6,7,8,10,11] [9,12,13] 12 (fun w'=>w'.cell? ⟨R,2+n,none⟩=some (.string X1)) (by kernel_rfl) (by kernel_rfl) (fun d _ _ _ _ h=>by cases d<;>exact h) wZ ?_
   iterate 11
    refine l7 ?_ rfl rfl ?_ ?_
    rotate_left
    ·rintro w' d0;go_simp;rfl
    go_simp
   refine sj ?_;refine gA rfl rfl (fun K hK=>?_);go_simp;refine hK _ _ (fun _=>wZ) ?_;clear hK K
   iterate 2
    refine gA rfl rfl (fun K hK=>?_);go_simp;refine hK _ _ (fun h=>absurd h (by decide)) ?_;clear hK K
   refine wY ?_;go_wp2_with fail
   go_ret;exact ⟨rfl,HX.out _ (HD.out.drew _),(HF.out.drew _).trans (fX.set R (2+n) _ _)⟩
theorem abG (R:Nat) (r:aN) (i:Int) (w:World) (h:cO R r w) (hok:sq r) (hu:r.tu<=1152921504606846976):
 av au 70 #[.pointer (some ⟨R,0,none⟩),.int .i64 i] w (uo R w (iy r i).1 (iy r i).2):=by
 by_cases hb:i<0∨2<=i
 ·have e:iy r i=(13,r):=if_pos hb;rw [e];have HT:=af (O6 R i w hb);have HH:=af h;clear h hb e;go_enter Tryz.func70,Tryz.ntmps70;go_wp2_with fail
  refine (aq HT).mono ?_;rintro e w' ⟨rfl,hw⟩;obtain rfl:=hw.symm;go_wp2_with fail
  go_ret;exact uo.same HH.out
 obtain ⟨n,rfl,hn⟩:=CW hb;have e0:iy r (n:Int)=if r.tu+1=r.du then (15,r.tick) else (0,{r.tick with l:=aE r.l n [],t:=aE r.t n []}):=if_neg hb
 rw [e0];clear e0 hb;by_cases ht:r.tu+1=r.du
 ·rw [if_pos ht];have HT:=af (O7 R r n w h hn hu ht);clear h;go_enter Tryz.func70,Tryz.ntmps70;go_wp2_with fail
  refine (aq HT).mono ?_;rintro e w1 ⟨rfl,hd,hf⟩;have HD:=af hd;have HF:=af hf;clear hd hf;go_wp2_with fail
  go_ret;exact ⟨rfl,HD.out,HF.out⟩
 ·rw [if_neg ht];have HT:=af (KM R r n w h hn hu ht);have hlb:=hok n hn;clear h;go_enter Tryz.func70,Tryz.ntmps70;go_wp2_with fail
  refine (aq HT).mono ?_;rintro e w1 ⟨rfl,hd,hf⟩;have HD:=af hd;have HF:=af hf;have c0:=hd.tg n hn;have c1:=hd.tj n hn;have f0:=hd.fz n;have f1:=hd.fz (2+n);have hn0:¬(n:Int)<0:=by omega
  have hn2:(n:Int)<2:=by omega
  have HX:=af (hd.Tp hn []);have HU:=af (HX.out.O5 hn []);have Hz:w1.cell? ⟨R,n,none⟩=some (.string (ah (r.l n))):=c0;have wZ:w1.cell? ⟨R,2+n,none⟩=some (.string (ah (r.t n))):=c1;have hne:¬n=2+n:=by omega
  clear hd hf HT hlb c0 c1;generalize ah (r.l n)=X0 at *;generalize ah (r.t n)=X1 at *;go_wp2_with fail
  go_ret;exact ⟨rfl,HU.out,(HF.out.trans (fX.set R n _ _)).trans (fX.set R (2+n) _ _)⟩
theorem KO (R:Nat) (r:aN) (i:Int) (w:World) (h:cO R r w) (hok:sq r) (hu:r.tu<=1152921504606846976):
 av au 71 #[.pointer (some ⟨R,0,none⟩),.int .i64 i] w (uo R w (bG r i).1 (bG r i).2):=by
 by_cases hb:i<0∨2<=i
 ·have e:bG r i=(13,r):=if_pos hb;rw [e];have HT:=af (O6 R i w hb);have HH:=af h;clear h hb e;go_enter Tryz.func71,Tryz.ntmps71;go_wp2_with fail
  refine (aq HT).mono ?_;rintro e w' ⟨rfl,hw⟩;obtain rfl:=hw.symm;go_wp2_with fail
  go_ret;exact uo.same HH.out
 obtain ⟨n,rfl,hn⟩:=CW hb;have e0:bG r (n:Int)=if r.tu+1=r.du then (15,r.tick) else (0,{r.tick with l:=aE r.l n (r.l n ++ r.t n),t:=aE r.t n []}):=if_neg hb
 rw [e0];clear e0 hb;by_cases ht:r.tu+1=r.du
 ·rw [if_pos ht];have HT:=af (O7 R r n w h hn hu ht);clear h;go_enter Tryz.func71,Tryz.ntmps71;go_wp2_with fail
  refine (aq HT).mono ?_;rintro e w1 ⟨rfl,hd,hf⟩;have HD:=af hd;have HF:=af hf;clear hd hf;go_wp2_with fail
  go_ret;exact ⟨rfl,HD.out,HF.out⟩
 ·rw [if_neg ht];have HT:=af (KM R r n w h hn hu ht);have hlb:=hok n hn;clear h;go_enter Tryz.func71,Tryz.ntmps71;go_wp2_with fail
  refine (aq HT).mono ?_;rintro e w1 ⟨rfl,hd,hf⟩;have HD:=af hd;have HF:=af hf;have c0:=hd.tg n hn;have c1:=hd.tj n hn;have f0:=hd.fz n;have f1:=hd.fz (2+n);have hn0:¬(n:Int)<0:=by omega
  have hn2:(n:Int)<2:=by omega
  have Hz:w1.cell? ⟨R,n,none⟩=some (.string (ah (r.l n))):=c0;have wZ:w1.cell? ⟨R,2+n,none⟩=some (.string (ah (r.t n))):=c1;have ca:=yq (r.l n) (r.t n) (by omega);have hne:¬n=2+n:=by omega
  have HX:Hid (∀W,cO R r.tick W->cO R {r.tick with l:=aE r.l n (r.l n ++ r.t n),t:=aE r.t n []} ((W.setCell ⟨R,n,none⟩ (.string (ah (r.l n ++ r.t n)))).setCell ⟨R,2+n,none⟩ (.string (ah [])))):=fun W hW=>by
   have a1:cO R {r.tick with t:=aE r.t n []} (W.setCell ⟨R,2+n,none⟩ (.string (ah []))):=hW.O5 hn [];have a2:=a1.Tp hn (r.l n ++ r.t n);rw [akE W R n (2+n) _ _ hne];exact a2
  clear hd hf HT hlb c0 c1;generalize ah (r.l n ++ r.t n)=X2 at *;generalize ah (r.l n)=X0 at *;generalize ah (r.t n)=X1 at *;go_upto_region 3 with fail
  refine EO 4 [0,1,2,3,4,5,6,7,8,9,10,11,12,13,15,16] [14,17,18] 17 (fun w'=>w'.cell? ⟨R,n,none⟩=some (.string X0)∧w'.cell? ⟨R,2+n,none⟩=some (.string X1)) (by kernel_rfl) (by kernel_rfl) (fun d _ _ _ _ h=>by cases d<;>exact h) ⟨Hz,wZ⟩ ?_
  iterate 16
   refine l7 ?_ rfl rfl ?_ ?_
   rotate_left
   ·rintro w' ⟨d0,d1⟩;go_simp;rfl
   go_simp
  refine sj ?_;refine gA rfl rfl (fun K hK=>?_);go_simp;refine hK _ _ (fun _=>⟨Hz,wZ⟩) ?_;clear hK K
  iterate 2
   refine gA rfl rfl (fun K hK=>?_);go_simp;refine hK _ _ (fun h=>absurd h (by decide)) ?_;clear hK K
  refine wY ?_;go_wp2_with fail
  go_ret;exact ⟨rfl,HX.out _ (HD.out.drew 1),((HF.out.drew 1).trans (fX.set R n _ _)).trans (fX.set R (2+n) _ _)⟩
theorem Tr (R:Nat) (r:aN) (i:Int) (w:World) (h:cO R r w) (hok:sq r) (hu:r.tu<=1152921504606846976):
 av au 72 #[.pointer (some ⟨R,0,none⟩),.int .i64 i] w fun e' w'=>e'= .returned (.tuple #[.string (ah (fq r i).1),.int .i64 (fq r i).2.1])∧cO R (fq r i).2.2 w'∧fX R w w':=by
 by_cases hb:i<0∨2<=i
 ·have e:fq r i=([],13,r):=if_pos hb;rw [e];have HT:=af (O6 R i w hb);have HH:=af h;clear h hb e;go_enter Tryz.func72,Tryz.ntmps72;go_wp2_with fail
  refine (aq HT).mono ?_;rintro e w' ⟨rfl,hw⟩;obtain rfl:=hw.symm;go_wp2_with fail
  go_ret2
  exact ⟨rfl,HH.out,fX.refl _ _⟩
 obtain ⟨n,rfl,hn⟩:=CW hb;have e0:fq r (n:Int)=if r.tu+1=r.du then ([],15,r.tick) else (r.l n ++ r.t n,0,r.tick):=if_neg hb
 rw [e0];clear e0 hb;by_cases ht:r.tu+1=r.du
 ·rw [if_pos ht];have HT:=af (O7 R r n w h hn hu ht);clear h;go_enter Tryz.func72,Tryz.ntmps72;go_wp2_with fail
  refine (aq HT).mono ?_;rintro e w1 ⟨rfl,hd,hf⟩;have HD:=af hd;have HF:=af hf;clear hd hf;go_wp2_with fail
  go_ret2
  exact ⟨rfl,HD.out,HF.out⟩
 ·rw [if_neg ht];dsimp only;have HT:=af (KM R r n w h hn hu ht);have hlb:=hok n hn;clear h;go_enter Tryz.func72,Tryz.ntmps72;go_wp2_with fail
  refine (aq HT).mono ?_;rintro e w1 ⟨rfl,hd,hf⟩;have HD:=af hd;have HF:=af hf;have c0:=hd.tg n hn;have c1:=hd.tj n hn;have f0:=hd.fz n;have f1:=hd.fz (2+n);have hn0:¬(n:Int)<0:=by omega
  have hn2:(n:Int)<2:=by omega
  have Hz:w1.cell? ⟨R,n,none⟩=some (.string (ah (r.l n))):=c0;have wZ:w1.cell? ⟨R,2+n,none⟩=some (.string (ah (r.t n))):=c1;have ca:=yq (r.l n) (r.t n) (by omega);clear hd hf HT hlb c0 c1;generalize Pc:ah (r.l n ++ r.t n)=X2 at *;have HU:=af Pc;clear Pc;generalize ah (r.l n)=X0 at *;generalize ah (r.t n)=X1 at *;go_wp2_with fail
  go_quiet (fail)
  go_wp2_with fail
  go_ret2
  obtain rfl:=HU.out;exact ⟨rfl,HD.out.drew _,HF.out.drew _⟩
theorem akF (R:Nat) (r:aN) (k:Int) (w:World) (h:cO R r w):
 av au 74 #[.pointer (some ⟨R,0,none⟩),.int .i64 k] w (uo R w (qF r k).1 (qF r k).2):=by
 have c4:=h.tu;have f4:=h.fz 4;have c5:=h.du;have f5:=h.fz 5;by_cases hb:k<0
 ·have e:qF r k=(1,r):=if_pos hb;rw [e];have HH:=af h;clear h e;go_enter Tryz.func74,Tryz.ntmps74;go_wp2_with fail
  go_ret;exact uo.same HH.out
 by_cases h0:k=0
 ·have e:qF r k=(0,{r with du:=0}):=by unfold qF;rw [if_neg hb,if_pos h0]
  rw [e];subst h0;have HS:=af (h.O4 0);clear h e hb;go_enter Tryz.func74,Tryz.ntmps74;go_wp2_with fail
  go_ret;exact ⟨rfl,HS.out,fX.set R 5 _ w⟩
 ·have e:qF r k=(0,{r with tu:=0,du:=k.toNat}):=by unfold qF;rw [if_neg hb,if_neg h0]
  rw [e];have hp:0<k:=by omega
  have HS:=af (((h.O4 0).Tl 0).O4 k.toNat);rw [Int.toNat_of_nonneg (by omega)] at HS;clear h e hb h0;go_enter Tryz.func74,Tryz.ntmps74;go_wp2_with fail
  go_ret;exact ⟨rfl,HS.out,((fX.set R 5 _ w).trans (fX.set R 4 _ _)).trans (fX.set R 5 _ _)⟩
def ji (l t:List UInt8) (K:Nat) (j:List UInt8) (m:Nat):List UInt8:=l ++ t.take (min m K) ++ j.take (m - min m K)
theorem akG (l t:List UInt8) (K:Nat) (j:List UInt8):ji l t K j 0=l:=by simp [ji]
theorem abH (t:List UInt8) (m:Nat) (h:m<t.length):t.take (m+1)=t.take m ++ [t[m]]:=by rw [List.take_add_one,List.getElem?_eq_getElem h];rfl
theorem akH (l t:List UInt8) (K:Nat) (j:List UInt8) (m:Nat) (h:m<K) (hm:m<t.length):ji l t K j (m+1)=ji l t K j m ++ [t[m]]:=by
 unfold ji;rw [D6 (by omega),D6 (by omega),tV,tV,abH t m hm];simp
theorem akI (l t:List UInt8) (K:Nat) (j:List UInt8) (m:Nat) (h:K<=m) (hj:m - K<j.length):ji l t K j (m+1)=ji l t K j m ++ [j[m - K]]:=by
 unfold ji;rw [Rs (by omega),Rs h,show m+1 - K=m - K+1 by omega,abH j (m - K) hj];simp
theorem akJ (l t:List UInt8) (K:Nat) (j:List UInt8) (m:Nat) (h:K<=m) (hj:j.length<=m - K):ji l t K j (m+1)=ji l t K j m:=by
 unfold ji;rw [Rs (by omega),Rs h,mO (l:=j) (i:=m - K) hj,mO (l:=j) (i:=m+1 - K) (by omega)]
def jm (K J m:Nat):Nat:=min (m - min m K) J
theorem akK {K J m:Nat} (h:m<K):jm K J (m+1)=0∧jm K J m=0:=by unfold jm;omega
theorem akL {K J m:Nat} (h:K<=m) (hj:m - K<J):jm K J m=m - K∧jm K J (m+1)=m - K+1:=by unfold jm;omega
theorem akM {K J m:Nat} (h:K<=m) (hj:J<=m - K):jm K J m=J∧jm K J (m+1)=J:=by unfold jm;omega
theorem akN (l t:List UInt8) (K:Nat) (j:List UInt8) (m:Nat) (hm:m<=t.length):(ji l t K j m).length<=l.length+m:=by
 unfold ji;rw [dK,dK,ny,ny];omega
def l9 (r:aN) (keep:Int) (j:List UInt8):Nat->aN
 | 0=>r
 | k+1=>{l9 r keep j k with l:=aE (l9 r keep j k).l k (ji ((l9 r keep j k).l k) ((l9 r keep j k).t k) keep.toNat j ((l9 r keep j k).t k).length),t:=aE (l9 r keep j k).t k []}
theorem Ts (r:aN) (keep:Int) (j:List UInt8):∀k i,k<=i->(l9 r keep j k).l i=r.l i∧(l9 r keep j k).t i=r.t i
 | 0,_,_=>⟨rfl,rfl⟩
 | k+1,i,h=>by
   have q:=Ts r keep j k i (by omega);unfold l9;exact ⟨(bp _ _ _ _ (by omega)).trans q.1,(bp _ _ _ _ (by omega)).trans q.2⟩
def KP (r:aN) (keep:Int) (j:List UInt8):aN:={l9 r keep j 2 with du:=0,us:=0}
theorem akO (l:List UInt8) (a b:Nat):(ah l).extract a b=ah ((l.drop a).take (b - a)):=by
 rw [<-nK ((ah l).extract a b),s9,kG]
theorem drop_one (l:List UInt8) (m:Nat) (h:m<l.length):(l.drop m).take (m+1 - m)=[l[m]]:=by
 rw [show m+1 - m=1 by omega,List.drop_eq_getElem_cons h];rfl
theorem akP {α:Type} (f:Nat->α) (i:Nat) (x y:α):aE (aE f i x) i y=aE f i y:=by
 funext j;by_cases h:j=i
 ·subst h;rw [cq,cq]
 ·rw [bp _ _ _ _ h,bp _ _ _ _ h,bp _ _ _ _ h]
theorem akQ {α:Type} (f:Nat->α) (i:Nat):aE f i (f i)=f:=by
 funext j;by_cases h:j=i
 ·subst h;rw [cq]
 ·rw [bp _ _ _ _ h]
theorem abI {m:Nat} (h:m<=140737488351232):IntKind.i64.wrap ((m:Int)+1)=((m+1:Nat):Int):=by
 simp only [IntKind.wrap,IntKind.signed,IntKind.bits];simp;omega
theorem Tt {m:Nat} (h:m<=140737488351232):wrap64 ((m:Int)+1)=((m+1:Nat):Int):=by unfold wrap64;omega
theorem EP {k m:Nat} {x:Int} (hx:x=((m+1:Nat):Int)) (h:m<k):k - (aI (.int .i64 x)).toNat<k - (aI (.int .i64 (m:Int))).toNat:=by
 subst hx;simp only [aI];omega
theorem Pd {m:Nat} (h:m<=1500):m<=140737488351232:=by omega
theorem Pe {a b:Nat} (h:a+b<=1500):b<=1500:=by omega
theorem akR {a l m t:Nat} (h:a<=l+m) (hm:m<=t) (hl:l+t<=1500):a<=140737488351232:=by omega
theorem lt_toNat {m:Nat} {k:Int} (h:(m:Int)<k):m<k.toNat:=by omega
theorem akS {m:Nat} {k:Int} (h:¬(m:Int)<k):k.toNat<=m:=by omega
theorem abJ (L:List UInt8) (t:List UInt8) (m:Nat) (h:m<t.length) (hl:L.length<=140737488351232) (w:World):(Cl .add (ah L) ((ah t).extract m (m+1))).run au w= .ok (.string (ah (L ++ [t[m]]))) w:=by
 rw [akO,drop_one t m h];exact yq L [t[m]] (by simp;omega) w
theorem cO.more {R:Nat} {r:aN} {w:World} {i:Nat} {x y:List UInt8} (h:cO R {r with l:=aE r.l i x} w) (hi:i<2):cO R {r with l:=aE r.l i y} (w.setCell ⟨R,i,none⟩ (.string (ah y))):=by
 have:=h.Tp hi y;rw [akP] at this;exact this
theorem akT (R:Nat) (r:aN) (keep:Int) (bC:ByteArray) (w:World) (h:cO R r w) (hok:sq r) (hj:bC.size<=140737488351232):
 av au 75 #[.pointer (some ⟨R,0,none⟩),.int .i64 keep,.string bC] w fun e' w'=>e'= .returned (.tuple #[])∧cO R (KP r keep (aC bC)) w'∧fX R w w':=by
 have HH:=af h;have fK:=af hok;have HJ:=af hj;clear h hok hj;go_enter Tryz.func75,Tryz.ntmps75;go_wp2_with fail
 go_loopw [6] (fun i wr=>∃k:Nat,k<=2∧i= .int .i64 k∧Hid (cO R (l9 r keep (aC bC) k) wr∧fX R w wr)) (fun i _=>2 - (aI i).toNat)
 case atStart=>exact ⟨0,bK _,rfl,⟨HH.out,fX.refl _ _⟩⟩
 case round=>
  obtain ⟨k,hk,rfl,HI⟩:=hrel;by_cases hlt:k<2
  ·have hlt':(k:Int)<2:=by omega
   have hk0:¬(k:Int)<0:=by omega
   obtain ⟨rk,Pf⟩:∃rk,rk=l9 r keep (aC bC) k:=⟨_,rfl⟩;have hq:=Ts r keep (aC bC) k k (ax _);have hlen:(rk.l k).length+(rk.t k).length<=1500:=by rw [Pf,hq.1,hq.2];exact fK.out k hlt
   have HN:Hid (l9 r keep (aC bC) (k+1)= {rk with l:=aE rk.l k (ji (rk.l k) (rk.t k) keep.toNat (aC bC) (rk.t k).length),t:=aE rk.t k []}):=by unfold Hid;rw [Pf];rfl
   rw [<-Pf] at HI;clear Pf hq;obtain ⟨l,hl⟩:∃l,l=rk.l k:=⟨_,rfl⟩;obtain ⟨t,ht⟩:∃t,t=rk.t k:=⟨_,rfl⟩;have H8:Hid (cO R {rk with l:=aE rk.l k (ji l t keep.toNat (aC bC) 0)} wr∧fX R w wr):=by
    unfold Hid;rw [akG,hl,akQ];exact HI.out
   rw [<-hl,<-ht] at HN hlen;have HTt:=af ht;clear hl ht HI;go_wp2_with fail
   go_loopw [7,8] (fun j n wq=>∃m:Nat,m<=t.length∧n= .int .i64 m∧j= .int .i64 (jm keep.toNat bC.size m:Nat)∧Hid (cO R {rk with l:=aE rk.l k (ji l t keep.toNat (aC bC) m)} wq∧fX R w wq)) (fun _ n _=>t.length - (aI n).toNat)
   case atStart=>exact ⟨0,bK _,rfl,by simp [jm],H8⟩
   case round=>
    obtain ⟨m,hm,rfl,rfl,HM⟩:=hrel;have c0:wr.cell? ⟨R,k,none⟩=some (.string (ah (ji l t keep.toNat (aC bC) m))):=(HM.out.1.tg k hlt).trans (by show some (Value.string (ah (aE _ _ _ k)))=_;rw [cq]);have c1:wr.cell? ⟨R,2+k,none⟩=some (.string (ah t)):=by rw [HTt.out];exact HM.out.1.tj k hlt
    have f0:=HM.out.1.fz k;have f1:=HM.out.1.fz (2+k);have Tv:Hid ((ah t).size=t.length):=bZ t;by_cases hml:m<t.length
    ·have hml':(m:Int)<((ah t).size:Int):=by rw [Tv.out];exact Int.ofNat_lt.2 hml
     have hm1:((m:Int)+1)<=((ah t).size:Int):=by rw [Tv.out];exact Int.ofNat_le.2 hml
     have hm0:(0:Int)<=(m:Int)+1:=Nd (m+1);have hm2:(m:Int)<=(m:Int)+1:=Int.le_add_one (JE _);have hlm:=akN l t keep.toNat (aC bC) m hm;have hwI:=abI (m:=m) (Pd (aT hm (Pe hlen)));have hwJ:=Tt (m:=m) (Pd (aT hm (Pe hlen)));have KQ:(ji l t keep.toNat (aC bC) m).length<=140737488351232:=akR hlm hm hlen;by_cases hmk:(m:Int)<keep
     ·have hK:m<keep.toNat:=lt_toNat hmk;have HR:=af (akH l t keep.toNat (aC bC) m hK hml);have Ac:=af (akK (J:=bC.size) hK);have ca:=abJ (ji l t keep.toNat (aC bC) m) t m hml KQ;rw [<-HR.out] at ca;have HX:Hid (∀W,W=(wr.setCell ⟨R,k,none⟩ (.string (ah (ji l t keep.toNat (aC bC) (m+1))))).drew->cO R {rk with l:=aE rk.l k (ji l t keep.toNat (aC bC) (m+1))} W∧fX R w W):=fun W e=>by
       rw [e];exact ⟨(HM.out.1.more hlt).drew 1,(HM.out.2.trans (fX.set R k _ _)).drew 1⟩
      have gL:Hid (jm keep.toNat bC.size m=jm keep.toNat bC.size (m+1)):=by unfold Hid;rw [Ac.out.1,Ac.out.2]
      clear HM hlm KQ;generalize vq:ah (ji l t keep.toNat (aC bC) m)=A0 at *;generalize H9:ah (ji l t keep.toNat (aC bC) (m+1))=A1 at *;generalize EQ:ah t=TT at *;clear vq H9 EQ;go_wp2_with fail
      go_upto_region 8 with fail
      refine EO 4 [0,1,2,3,4,5,6,7,8,9,10,11,12,13,14,15,16,17,19,20] [18,21,22] 21 (fun w'=>w'.cell? ⟨R,k,none⟩=some (.string A0)∧w'.cell? ⟨R,2+k,none⟩=some (.string TT)) (by kernel_rfl) (by kernel_rfl) (fun d _ _ _ _ h=>by cases d<;>exact h) ⟨c0,c1⟩ ?_
      iterate 20
       refine l7 ?_ rfl rfl ?_ ?_
       rotate_left
       ·rintro w' ⟨d0,d1⟩;go_simp;rfl
       go_simp
      refine sj ?_;refine gA rfl rfl (fun K hK=>?_);go_simp;refine hK _ _ (fun _=>⟨c0,c1⟩) ?_;clear hK K
      iterate 2
       refine gA rfl rfl (fun K hK=>?_);go_simp;refine hK _ _ (fun h=>absurd h (by decide)) ?_;clear hK K
      refine wY ?_;go_wp2_with fail
      exact ⟨⟨m+1,hml,rfl,by rw [gL.out],HX.out _ rfl⟩,EP rfl hml⟩
     ·have hK:keep.toNat<=m:=akS hmk;by_cases hjl:m - keep.toNat<bC.size
      ·have Ia:m - keep.toNat<(aC bC).length:=by rw [jr];exact hjl
       have HR:=af (akI l t keep.toNat (aC bC) m hK Ia);have Ac:=af (akL (J:=bC.size) hK hjl);have ca:=abJ (ji l t keep.toNat (aC bC) m) (aC bC) (m - keep.toNat) Ia KQ;rw [<-HR.out,nK] at ca;have HX:Hid (∀W,W=(wr.setCell ⟨R,k,none⟩ (.string (ah (ji l t keep.toNat (aC bC) (m+1))))).drew->cO R {rk with l:=aE rk.l k (ji l t keep.toNat (aC bC) (m+1))} W∧fX R w W):=fun W e=>by
        rw [e];exact ⟨(HM.out.1.more hlt).drew 1,(HM.out.2.trans (fX.set R k _ _)).drew 1⟩
       rw [Ac.out.1];have EK:=af Ac.out.2;have hp1:=Int.ofNat_lt.2 hjl;have hp2:((m - keep.toNat:Nat):Int)+1<=(bC.size:Int):=Int.ofNat_le.2 hjl;have hwP:=abI (m:=m - keep.toNat) (aT (Yv _ _) (Pd (aT hm (Pe hlen))));have hwQ:=Tt (m:=m - keep.toNat) (aT (Yv _ _) (Pd (aT hm (Pe hlen))));clear HM hlm KQ Ac hjl Ia HR;generalize m - keep.toNat=p at *;have hp0:(0:Int)<=(p:Int)+1:=Nd (p+1);have hp3:(p:Int)<=(p:Int)+1:=Int.le_add_one (JE _);generalize vq:ah (ji l t keep.toNat (aC bC) m)=A0 at *;generalize H9:ah (ji l t keep.toNat (aC bC) (m+1))=A1 at *;generalize EQ:ah t=TT at *;clear vq H9 EQ;go_wp2_with fail
       go_upto_region 10 with fail
       refine EO 4 [0,1,2,3,4,5,6,7,8,9,10,11,12,14,15] [13,16,17] 16 (fun w'=>w'.cell? ⟨R,k,none⟩=some (.string A0)) (by kernel_rfl) (by kernel_rfl) (fun d _ _ _ _ h=>by cases d<;>exact h) c0 ?_
       iterate 15
        refine l7 ?_ rfl rfl ?_ ?_
        rotate_left
        ·rintro w' d0;go_simp;rfl
        go_simp
       refine sj ?_;refine gA rfl rfl (fun K hK=>?_);go_simp;refine hK _ _ (fun _=>c0) ?_;clear hK K
       iterate 2
        refine gA rfl rfl (fun K hK=>?_);go_simp;refine hK _ _ (fun h=>absurd h (by decide)) ?_;clear hK K
       refine wY ?_;go_wp2_with fail
       exact ⟨⟨m+1,hml,rfl,by rw [EK.out];rfl,HX.out _ rfl⟩,EP rfl hml⟩
      ·have Ia:(aC bC).length<=m - keep.toNat:=by rw [jr];exact Nat.le_of_not_lt hjl
       have HR:=af (akJ l t keep.toNat (aC bC) m hK Ia);have Ac:=af (akM (J:=bC.size) hK (Nat.le_of_not_lt hjl));rw [Ac.out.1];have HX:Hid (cO R {rk with l:=aE rk.l k (ji l t keep.toNat (aC bC) (m+1))} wr∧fX R w wr):=by unfold Hid;rw [HR.out];exact HM.out
       have EK:=af Ac.out.2;clear HM hlm KQ Ac hjl Ia HR;generalize vq:ah (ji l t keep.toNat (aC bC) m)=A0 at *;generalize EQ:ah t=TT at *;clear vq EQ;go_wp2_with fail
       exact ⟨⟨m+1,hml,rfl,by rw [EK.out],HX⟩,EP rfl hml⟩
    ·have hml':¬(m:Int)<((ah t).size:Int):=by rw [Tv.out];exact fun h=>hml (Int.ofNat_lt.1 h)
     obtain rfl:m=t.length:=Nat.le_antisymm hm (Nat.le_of_not_lt hml);have HX:Hid (cO R (l9 r keep (aC bC) (k+1)) (wr.setCell ⟨R,2+k,none⟩ (.string (ah [])))∧fX R w (wr.setCell ⟨R,2+k,none⟩ (.string (ah [])))):=by
      unfold Hid;rw [HN.out];exact ⟨HM.out.1.O5 hlt [],HM.out.2.trans (fX.set R (2+k) _ _)⟩
     clear HM;generalize vq:ah (ji l t keep.toNat (aC bC) t.length)=A0 at *;generalize EQ:ah t=TT at *;clear vq EQ;go_wp2_with fail
     exact ⟨⟨k+1,hlt,rfl,HX⟩,EP rfl hlt⟩
  ·have hlt':¬(k:Int)<2:=by omega
   obtain rfl:k=2:=by omega
   have c5:=HI.out.1.du;have c7:=HI.out.1.us;have f5:=HI.out.1.fz 5;have f7:=HI.out.1.fz 7;have HS:=af ((HI.out.1.O4 0).Tm 0);have HF:=af HI.out.2;clear HI;go_wp2_with fail
   go_end0
   exact ⟨rfl,HS.out,(HF.out.trans (fX.set R 5 _ _)).trans (fX.set R 7 _ _)⟩
structure gS (d:aL) (r:aN):Prop where
 b:∀i,i<2->d.b i=r.l i ++ r.t i
 n:∀i,i<2->d.n i=(r.l i).length
 t:(d.tr=0∧(r.du=0∨r.du<=r.tu))∨(0<d.tr∧r.du=r.tu+d.tr)
theorem gS.ok {d:aL} {r:aN} (h:gS d r):Tk d:=fun i hi=>by rw [h.b i hi,h.n i hi,dK];omega
theorem gS.CY {d:aL} {r:aN} {D:Nat} {vs:Nat->Value} {w:World} (h:gS d r) (hd:cK D d vs w):sq r:=fun i hi=>by have:=hd.len i hi;rw [h.b i hi,dK] at this;exact this
theorem gS.fails {d:aL} {r:aN} (h:gS d r):d.tr=1↔r.tu+1=r.du:=by
 rcases h.t with ⟨h0,h1 | h1⟩ | ⟨h0,h1⟩<;>omega
theorem gS.tick {d:aL} {r:aN} (h:gS d r):gS d.tick r.tick:=by
 refine ⟨h.b,h.n,?_⟩;show (d.tr - 1=0∧(r.du=0∨r.du<=r.tu+1))∨(0<d.tr - 1∧r.du=r.tu+1+(d.tr - 1))
 rcases h.t with ⟨h0,h1 | h1⟩ | ⟨h0,h1⟩
 ·exact .inl ⟨by omega,.inl h1⟩
 ·exact .inl ⟨by omega,.inr (by omega)⟩
 ·by_cases h2:d.tr=1
  ·exact .inl ⟨by omega,.inr (by omega)⟩
  ·exact .inr ⟨by omega,by omega⟩
theorem Pg {d:aL} {r:aN} (h:gS d r) (i:Int) (s:List UInt8):(jv d i s).1=(dF r i s).1∧gS (jv d i s).2 (dF r i s).2:=by
 unfold jv dF;by_cases hb:i<0∨2<=i
 ·rw [if_pos hb,if_pos hb];exact ⟨rfl,h⟩
 rw [if_neg hb,if_neg hb];by_cases ht:d.tr=1
 ·rw [if_pos ht,if_pos (h.fails.1 ht)];exact ⟨rfl,h.tick⟩
 rw [if_neg ht,if_neg (fun e=>ht (h.fails.2 e))];have hi:i.toNat<2:=by omega
 have hl:(d.b i.toNat).length=(r.l i.toNat).length+(r.t i.toNat).length:=by rw [h.b _ hi,dK]
 by_cases hf:1500<(d.b i.toNat).length+s.length
 ·rw [if_pos hf,if_pos (by omega)];exact ⟨rfl,h.tick⟩
 rw [if_neg hf,if_neg (by omega)];refine ⟨rfl,⟨fun j hj=>?_,h.n,h.tick.t⟩⟩;show aE d.b i.toNat _ j=r.l j ++ aE r.t i.toNat _ j
 by_cases hji:j=i.toNat
 ·subst hji;rw [cq,cq,h.b _ hi,List.append_assoc]
 ·rw [bp _ _ _ _ hji,bp _ _ _ _ hji];exact h.b j hj
theorem Ph {d:aL} {r:aN} (h:gS d r) (i:Int):(jw d i).1=(iy r i).1∧gS (jw d i).2 (iy r i).2:=by
 unfold jw iy;by_cases hb:i<0∨2<=i
 ·rw [if_pos hb,if_pos hb];exact ⟨rfl,h⟩
 rw [if_neg hb,if_neg hb];by_cases ht:d.tr=1
 ·rw [if_pos ht,if_pos (h.fails.1 ht)];exact ⟨rfl,h.tick⟩
 rw [if_neg ht,if_neg (fun e=>ht (h.fails.2 e))];refine ⟨rfl,⟨fun j hj=>?_,fun j hj=>?_,h.tick.t⟩⟩
 ·show aE d.b i.toNat _ j=aE r.l i.toNat _ j ++ aE r.t i.toNat _ j
  by_cases hji:j=i.toNat
  ·subst hji;rw [cq,cq,cq];rfl
  ·rw [bp _ _ _ _ hji,bp _ _ _ _ hji,bp _ _ _ _ hji];exact h.b j hj
 ·show aE d.n i.toNat _ j=(aE r.l i.toNat _ j).length
  by_cases hji:j=i.toNat
  ·subst hji;rw [cq,cq];rfl
  ·rw [bp _ _ _ _ hji,bp _ _ _ _ hji];exact h.n j hj
theorem CZ {d:aL} {r:aN} (h:gS d r) (i:Int):(cG d i).1=(bG r i).1∧gS (cG d i).2 (bG r i).2:=by
 unfold cG bG;by_cases hb:i<0∨2<=i
 ·rw [if_pos hb,if_pos hb];exact ⟨rfl,h⟩
 rw [if_neg hb,if_neg hb];by_cases ht:d.tr=1
 ·rw [if_pos ht,if_pos (h.fails.1 ht)];exact ⟨rfl,h.tick⟩
 rw [if_neg ht,if_neg (fun e=>ht (h.fails.2 e))];have hi:i.toNat<2:=by omega
 refine ⟨rfl,⟨fun j hj=>?_,fun j hj=>?_,h.tick.t⟩⟩
 ·show d.b j=aE r.l i.toNat _ j ++ aE r.t i.toNat _ j
  by_cases hji:j=i.toNat
  ·subst hji;rw [cq,cq,Nr];exact h.b _ hi
  ·rw [bp _ _ _ _ hji,bp _ _ _ _ hji];exact h.b j hj
 ·show aE d.n i.toNat _ j=(aE r.l i.toNat _ j).length
  by_cases hji:j=i.toNat
  ·subst hji;rw [cq,cq,h.b _ hi]
  ·rw [bp _ _ _ _ hji,bp _ _ _ _ hji];exact h.n j hj
theorem Ib {d:aL} {r:aN} (h:gS d r) (i:Int):(dn d i).1=(fq r i).1∧(dn d i).2.1=(fq r i).2.1∧gS (dn d i).2.2 (fq r i).2.2:=by
 unfold dn fq;by_cases hb:i<0∨2<=i
 ·rw [if_pos hb,if_pos hb];exact ⟨rfl,rfl,h⟩
 rw [if_neg hb,if_neg hb];by_cases ht:d.tr=1
 ·rw [if_pos ht,if_pos (h.fails.1 ht)];exact ⟨rfl,rfl,h.tick⟩
 rw [if_neg ht,if_neg (fun e=>ht (h.fails.2 e))];exact ⟨h.b _ (by omega),rfl,h.tick⟩
theorem abK {d:aL} {r:aN} (h:gS d r) (k:Int):(wW d k).1=(qF r k).1∧gS (wW d k).2 (qF r k).2:=by
 unfold wW qF;by_cases hb:k<0
 ·rw [if_pos hb,if_pos hb];exact ⟨rfl,h⟩
 rw [if_neg hb,if_neg hb];by_cases h0:k=0
 ·rw [if_pos h0];subst h0;exact ⟨rfl,⟨h.b,h.n,.inl ⟨rfl,.inl rfl⟩⟩⟩
 ·rw [if_neg h0];refine ⟨rfl,⟨h.b,h.n,.inr ⟨?_,?_⟩⟩⟩
  ·show 0<k.toNat;omega
  ·show k.toNat=0+k.toNat;omega
theorem abL (l t:List UInt8) (keep:Int) (j:List UInt8):tf (l ++ t) l.length keep j=ji l t keep.toNat j t.length:=by
 unfold tf ji;have e:(l ++ t).length - l.length=t.length:=by rw [dK];omega
 rw [e,Nat.min_comm t.length,List.take_append,mO (l:=l) (by omega),show l.length+min keep.toNat t.length - l.length=min keep.toNat t.length by omega]
theorem Tw (d:aL) (keep:Int) (j:List UInt8) (k:Nat):∀m i,m<=k->i<m->(oz d keep j m).b i=tf (d.b i) (d.n i) keep j∧(oz d keep j m).n i=(tf (d.b i) (d.n i) keep j).length
 | 0,_,_,h=>absurd h (YA _)
 | m+1,i,hm,h=>by
   unfold oz;by_cases he:i=m
   ·subst he;obtain ⟨q1,q2⟩:=O2 d keep j i i (ax _);show aE _ _ _ i=_∧aE _ _ _ i=_
    rw [cq,cq,q1,q2];exact ⟨rfl,rfl⟩
   ·have q:=Tw d keep j k m i (by omega) (by omega);show aE _ _ _ i=_∧aE _ _ _ i=_
    rw [bp _ _ _ _ he,bp _ _ _ _ he];exact q
theorem Pj (r:aN) (keep:Int) (j:List UInt8):∀m i,i<m->(l9 r keep j m).l i=ji (r.l i) (r.t i) keep.toNat j (r.t i).length∧(l9 r keep j m).t i=[]
 | 0,_,h=>absurd h (YA _)
 | m+1,i,h=>by
   unfold l9;by_cases he:i=m
   ·subst he;obtain ⟨q1,q2⟩:=Ts r keep j i i (ax _);show aE _ _ _ i=_∧aE _ _ _ i=_
    rw [cq,cq,q1,q2];exact ⟨rfl,rfl⟩
   ·have q:=Pj r keep j m i (by omega);show aE _ _ _ i=_∧aE _ _ _ i=_
    rw [bp _ _ _ _ he,bp _ _ _ _ he];exact q
theorem abM {d:aL} {r:aN} (h:gS d r) (keep:Int) (j:List UInt8):gS (O3 d keep j) (KP r keep j):=by
 refine ⟨fun i hi=>?_,fun i hi=>?_,.inl ⟨rfl,.inl rfl⟩⟩
 ·show (oz d keep j 2).b i=(l9 r keep j 2).l i ++ (l9 r keep j 2).t i
  rw [(Tw d keep j 2 2 i (ax _) hi).1,(Pj r keep j 2 i hi).1,(Pj r keep j 2 i hi).2,Nr,h.b i hi,h.n i hi,abL]
 ·show (oz d keep j 2).n i=((l9 r keep j 2).l i).length
  rw [(Tw d keep j 2 2 i (ax _) hi).2,(Pj r keep j 2 i hi).1,h.b i hi,h.n i hi,abL]
theorem Tx (r:aN) (i:Int) (s:List UInt8):(dF r i s).2.tu<=r.tu+1:=by unfold dF;(repeat' split)<;>simp [aN.tick]
theorem Ty (r:aN) (i:Int):(iy r i).2.tu<=r.tu+1:=by unfold iy;(repeat' split)<;>simp [aN.tick]
theorem Tz (r:aN) (i:Int):(bG r i).2.tu<=r.tu+1:=by unfold bG;(repeat' split)<;>simp [aN.tick]
theorem TA (r:aN) (i:Int):(fq r i).2.2.tu<=r.tu+1:=by unfold fq;(repeat' split)<;>simp [aN.tick]
theorem akV (r:aN) (k:Int):(qF r k).2.tu<=r.tu+1:=by unfold qF;(repeat' split)<;>simp
theorem akW (r:aN) (keep:Int) (j:List UInt8):(KP r keep j).tu<=r.tu+1:=by
 have:∀k,(l9 r keep j k).tu=r.tu:=fun k=>by induction k with
  | zero=>rfl
  | succ k ih=>exact ih
 show (l9 r keep j 2).tu<=_
 rw [this];omega
def Pk:aN:=⟨fun _=>[],fun _=>[],0,0,0,0,0⟩
theorem akX:gS KL Pk:=⟨fun _ _=>rfl,fun _ _=>rfl,.inl ⟨rfl,.inl rfl⟩⟩
theorem akY (w:World):
 av au 68 #[] w fun e' w'=>e'= .returned (.pointer (some ⟨w.heap.size,0,none⟩))∧cO w.heap.size Pk w'∧w'.heap.size=w.heap.size+1∧Below w.heap.size w w':=by
 have HW:Hid (∀W,W=w.alloc (.cells #[.string ⟨#[]⟩,.string ⟨#[]⟩,.string ⟨#[]⟩,.string ⟨#[]⟩,.int .i64 0,.int .i64 0,.int .i64 0,.int .i64 0,.int .i64 0] 179)->cO w.heap.size Pk W∧W.heap.size=w.heap.size+1∧Below w.heap.size w W):=fun W e=>by
  have r1:W.heap[w.heap.size]? =some (.cells #[.string ⟨#[]⟩,.string ⟨#[]⟩,.string ⟨#[]⟩,.string ⟨#[]⟩,.int .i64 0,.int .i64 0,.int .i64 0,.int .i64 0,.int .i64 0] 179 (0,0)):=by rw [e,bg]
  have hs:W.heap.size=w.heap.size+1:=by rw [e,aB]
  refine ⟨⟨by omega,fun j=>by unfold World.frozen?;rw [r1];simp,fun i hi=>?_,fun i hi=>?_,cF r1 4,cF r1 5,cF r1 6,cF r1 7,cF r1 8⟩,hs,by rw [e];exact (Below.refl _ _).alloc (ax _) _⟩
  ·have:i=0∨i=1:=by omega
   rcases this with rfl | rfl
   ·exact cF r1 0
   ·exact cF r1 1
  ·have:i=0∨i=1:=by omega
   rcases this with rfl | rfl
   ·exact cF r1 2
   ·exact cF r1 3
 go_enter Tryz.func68,Tryz.ntmps68;go_wp2_with fail
 go_ret;exact ⟨rfl,HW.out _ rfl⟩
end
end Go.Proofs.YtmmflekajbeamaaGreatDoor
