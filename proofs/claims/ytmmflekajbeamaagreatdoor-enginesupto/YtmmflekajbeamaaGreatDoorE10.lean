/- Texts of ours, joined, in few bytes. -/
import Derived.Test.YtmmflekajbeamaaGreatDoorE09
import Derived.Test.YtmmflekajbeamaaGreatDoorE08
open Array renaming getElem?_eq_some_iff->iD
open ByteArray renaming size_extract->rP
open Go.Builtin renaming append_->Rn
open Go.ByteArray renaming toList_eq->Cm
open Go renaming Calls->av,Oper->bI,Operand->vP,TypeId->cE,TypeInfo->Rm,Value->aj,below_drewN->dH,bodyPost_ret->cL,heap_alloc_new->bg,maxLen->cP,run_underlying->Ro,setRow_heap->uO,wpList->nA
open Go.IntKind renaming wrap_i64->AJ
open Go.Proofs.Tryz renaming func223->avg,func224->Yo,ntmps223->avh,ntmps224->Yp,prog->au,results187->Rk
open Go.Result renaming andThen->kN,andThen_ok->DI
open Go.RowKit renaming Below->ak
open Go.RowKit.Below renaming refl->aA
open Go.Sem renaming run_pure->zk
open Go.Value renaming int->cI
open Go.World renaming cell?_of_block->aP,cell?_setCell_same->qj,frozen?_of_block->fS,frozen?_setCell->oO,ownsRow->uP
open Int renaming toNat_natCast->qM
open List renaming drop_zero->iE,getD_cons_succ->Gp,getD_cons_zero->JG,getD_eq_getElem?_getD->bP,getElem?_eq_getElem->bE,getElem?_eq_none->lE,getElem?_map->iX,getElem?_range->uN,getElem_mem->lC
open Nat renaming add_comm->DR,add_zero->DJ,le_of_lt->iP,le_refl->ax,lt_of_lt_of_le->dB
open Option renaming map_some->AO
open UInt8 renaming toNat_ofNat'->Gf
namespace Go.Proofs.YtmmflekajbeamaaGreatDoor
set_option maxRecDepth 100000
set_option maxHeartbeats 4000000
section
open Go.RowKit

theorem ajR (mem:List Int):∀(f p:Nat),iq mem f p<=f:=by
 intro f
 induction f with
 | zero=>intro p;exact ax _
 | succ f ih=>
   intro p;rw [iq];have:=ih (p+1);split
   ·split<;>omega
   ·omega
end
section
theorem CU (l:List UInt8) (i:Nat):(ah l).get! i=l.getD i 0:=by
 show l.toArray[i]! =_
 rw [List.getElem!_toArray,bP,getElem!_def];cases l[i]?<;>rfl
theorem aa1 {l:List UInt8} {i v:Nat} (hv:v<4294967296) (h:∀j,j<4->l.getD (i+j) 0=(aS 4 v).getD j 0):aU (ah l) i 4=v:=by
 have h0:=h 0 (by decide);have h1:=h 1 (by decide);have h2:=h 2 (by decide);have h3:=h 3 (by decide);simp only [aS,JG,Gp,Nat.reducePow,Nat.div_one] at h0 h1 h2 h3;simp only [aU,CU,h0,h1,h2,h3,Gf];omega
theorem OL {n:Nat} (h:n<256):(UInt8.ofNat n).toNat=n:=by rw [Gf];omega
def S0 (p:aH):Prop:=p.kind<256∧p.d<256∧p.a<256∧p.b<256∧p.k<4294967296
theorem iY.bd {p:aH} (h:iY p) (hk:p.k<4294967296):S0 p:=by
 obtain ⟨h1,h2,h3,h4⟩:=h;exact ⟨by omega,by omega,by omega,by omega,hk⟩
theorem aa2 {ps:List aH} {j:Nat} {p:aH} (h:ps[j]? =some p) (hb:S0 p):putAt (ah (gQ ps)) (8 * j)=p:=by
 have key:∀i,i<8->(gQ ps).getD (8 * j+i) 0=(rT p).getD i 0:=fun i hi=>by
  rw [bP,bP,Nat.mul_comm 8 j];rw [show (gQ ps)[j * 8+i]? =(rT p)[i]? from Hj rT 8 R5 ps j p h i hi]
 obtain ⟨b0,b1,b2,b3,b4⟩:=hb;obtain ⟨k,d,a,b,c⟩:=p;simp only at b0 b1 b2 b3 b4;unfold putAt;have e0:=key 0 (by decide);have e1:=key 1 (by decide);have e2:=key 2 (by decide);have e3:=key 3 (by decide);simp only [rT,JG,Gp,DJ] at e0 e1 e2 e3;rw [CU,CU,CU,CU,e0,e1,e2,e3,OL b0,OL b1,OL b2,OL b3]
 rw [aa1 b4 (fun i hi=>by
  have:=key (4+i) (by omega);rw [<-Nat.add_assoc] at this;rw [this];simp only [rT];rw [DR 4 i]
  simp only [Gp])]
theorem aa3 (ps:List aH):(ah (gQ ps)).size / 8=ps.length:=by rw [bZ,JX];omega
theorem ajS {ps:List aH} (hb:∀p∈ps,S0 p):dO (ah (gQ ps)) ((ah (gQ ps)).size / 8)=ps:=by
 rw [aa3];apply List.ext_getElem?;intro j;unfold dO;rw [iX];by_cases hj:j<ps.length
 ·rw [uN hj,bE hj];simp only [AO];rw [aa2 (bE hj) (hb _ (lC _))]
 ·rw [lE (by simp;omega),lE (by omega)];rfl
theorem ajT {ps:List aH} (hb:∀p∈ps,iY p∧p.k<4294967296) (hl:ps.length<=10):oP (ah (gQ ps)):=by
 refine ⟨by rw [bZ,JX];omega,by rw [bZ,JX];omega,fun j hj=>?_⟩;rw [aa3] at hj;have hm:=hb _ (lC hj);rw [aa2 (bE hj) (hm.1.bd hm.2)];exact hm.1
theorem aa4 {ws:List Nat} {j:Nat} {v:Nat} (h:ws[j]? =some v) (hv:v<4294967296):aX (ah (aQ ws)) j=v:=by
 unfold aX;refine aa1 hv (fun i hi=>?_);rw [bP,bP,Nat.mul_comm 4 j];rw [show (aQ ws)[j * 4+i]? =(aS 4 v)[i]? from Hj (aS 4) 4 (fun a=>iF 4 a) ws j v h i hi]
theorem aa5 (mem:List Int):∀(f p j:Nat),j+1<iq mem f p->eV (mem.getD (p+j) 0)=true
 | 0,p,j,h=>by simp [iq] at h
 | f+1,p,j,h=>by
   rw [iq] at h;split at h
   ·split at h
    ·rename_i h1 h2;cases j with
     | zero=>exact h2
     | succ j=>
       have:=aa5 mem f (p+1) j (by omega);rw [show p+(j+1)=p+1+j by omega];exact this
    ·omega
   ·omega
theorem S4 (mem:List Int):∀(f p:Nat),p<=128->p+iq mem f p<=128
 | 0,p,h=>by simpa [iq] using h
 | f+1,p,h=>by
   rw [iq];split
   ·split
    ·have:=S4 mem f (p+1) (by omega);omega
    ·omega
   ·omega
theorem aa6 (mem:List Int) (f p:Nat) (h:p<128):1<=iq mem (f+1) p:=by
 rw [iq,if_pos h];split<;>omega
theorem aa7 (mem:List Int) (pc:Nat):(ah (mB mem pc)).size=4 * iq mem 8 pc:=by rw [bZ,mB,Ct,gq,List.length_map,List.length_range]
section
variable {mem:List Int} {pc:Nat}
theorem S5 (hm:WL 128 mem) (hp:pc<128) {j:Nat} (hj:j<iq mem 8 pc):((aX (ah (mB mem pc)) j:Nat):Int)=mem.getD (pc+j) 0:=by
 have he:=S4 mem 8 pc (by omega)
 have hw:=hm.2 (mem.getD (pc+j) 0) (by
  rw [bP,bE (by rw [hm.1];omega)]
  exact lC _)
 unfold mB
 rw [aa4 (ws:=gq mem pc (iq mem 8 pc)) (v:=(mem.getD (pc+j) 0).toNat) (by
  unfold gq
  rw [iX,uN hj];rfl) (by omega)]
 omega
theorem OM (hm:WL 128 mem) (hp:pc<128):gi (ah (mB mem pc)):=by
 have hs:=aa7 mem pc;have h8:=ajR mem 8 pc;have h1:1<=iq mem 8 pc:=aa6 mem 7 pc hp;refine ⟨by omega,by omega,by omega,fun j hj=>?_⟩;rw [S5 hm hp (by omega)];exact aa5 mem 8 pc j (by omega)
theorem aa8 (hm:WL 128 mem) (hp:pc<128) {j:Nat} (hj:j<jo (ah (mB mem pc))):j<iq mem 8 pc∧eV (mem.getD (pc+j) 0)=true:=by
 have hs:=aa7 mem pc;have hb:=OM hm hp;have hn:=uS (ah (mB mem pc));have hj':j<iq mem 8 pc:=by omega
 have:=JV hb hj;rw [S5 hm hp hj'] at this;exact ⟨hj',this⟩
theorem ajU (hm:WL 128 mem) (hp:pc<128) {j:Nat} (hj:j<jo (ah (mB mem pc))):(dD (ah (mB mem pc)))[j]? =some (dI (mem.getD (pc+j) 0)):=by
 unfold dD;rw [iX,uN hj];simp only [AO];rw [S5 hm hp (aa8 hm hp hj).1]
end
def yg (aF mem:List Int) (pc k:Nat):List Int:=jF (((dD (ah (mB mem pc))).take k).foldl (rD mem) aF) mem (((pc+k:Nat):Int) % 128) 0
theorem aa9 {mem:List Int} (hm:WL 128 mem):∀(ps:List aH) {aF:List Int},WL 8 aF->(∀p∈ps,okB p)->WL 8 (ps.foldl (rD mem) aF)
 | [],_,h,_=>h
 | p :: ps,_,h,hk=>aa9 hm ps (ajv h hm (hk p List.mem_cons_self)) (fun q hq=>hk q (List.mem_cons_of_mem _ hq))
theorem KF {aF mem:List Int} {pc:Nat} (hr:WL 8 aF) (hm:WL 128 mem) (hp:pc<128) (k:Nat):WL 8 (((dD (ah (mB mem pc))).take k).foldl (rD mem) aF):=
 aa9 hm _ hr (fun p h=>Cr (OM hm hp) p (List.mem_of_mem_take h))
theorem ajV {aF mem:List Int} {pc:Nat} (hp:pc<128):yg aF mem pc 0=jF aF mem pc 0:=by
 unfold yg;rw [List.take_zero,List.foldl_nil];congr 1;omega
theorem ajW {aF mem:List Int} {pc k:Nat} (hr:WL 8 aF) (hm:WL 128 mem) (hp:pc<128) (hk:k<jo (ah (mB mem pc))):gH (yg aF mem pc k)=(yg aF mem pc (k+1),0):=by
 obtain ⟨h1,h2⟩:=aa8 hm hp hk;have he:=S4 mem 8 pc (by omega);have e:(((pc+k:Nat):Int) % 128)=((pc+k:Nat):Int):=by omega
 unfold yg;rw [e,ajx (KF hr hm hp k) hm (by omega) h2,wC _ _ _ _ _ (ajU hm hp hk)];congr 2
theorem ajX {aF mem:List Int} {pc:Nat} (hr:WL 8 aF) (hm:WL 128 mem) (hp:pc<128) (k:Nat):cV (yg aF mem pc k)=true:=
 aaG (KF hr hm hp k) hm (by omega) (by omega) (by decide) (by decide)
theorem ajY {aF mem:List Int} {pc:Nat} (hr:WL 8 aF) (hm:WL 128 mem) (hp:pc<128) (k:Nat):(yg aF mem pc k).length=138:=aaF (KF hr hm hp k).1 hm.1
theorem ajZ {aF mem:List Int} {pc:Nat} (hr:WL 8 aF) (hm:WL 128 mem) (hp:pc<128) {qs:List aH} (hq:∀p∈qs,iY p∧p.k<4294967296) (h:(gI (dD (ah (mB mem pc)))).take 8=(gI qs).take 8):
 (uT mem qs (gj aF)).take 8=((dD (ah (mB mem pc))).take (jo (ah (mB mem pc)))).foldl (rD mem) aF:=by
 have hk:=Cr (OM hm hp);rw [<-ajl (fun p hp'=>⟨(hk p hp').2.2.2.2.2.2,(hk p hp').2.2.2.2.2.1⟩) hq h mem hr.1,aju hr.1 hk,List.take_of_length_le (by rw [Eb];exact ax _)]
theorem aj0 {s:ByteArray} (h:gi s):∀p∈xR s,iY p∧p.k<4294967296:=fun p hp=>by
 have:=(NL h).1 p hp;exact ⟨this.2.2.2.2.2.2,this.2.2.2.2.2.1⟩
end
section
open Go.RowKit
theorem aba (s:ByteArray) (i n:Nat) (w:World) (hn:n<=4) (hi:i+n<=s.size) (hs:s.size<=2000000):
 av au 169 #[.string s,.int .i64 i,.int .i64 n] w fun e' w'=>e'= .returned (.int .i64 (aU s i n))∧w'=w:=by
 go_enter Tryz.func169,Tryz.ntmps169;go_wp2_with fail
 go_loop [7,8] (fun v j=>∃k:Nat,k<=n∧j= .int .i64 ((i+k:Nat):Int)∧v= .int .i64 (aU s i k)) (fun _ j=>i+n - (intOf j).toNat)
 case atStart=>exact ⟨0,Nat.zero_le _,by simp,rfl⟩
 case round=>
  obtain ⟨k,hk,rfl,rfl⟩:=hrel;by_cases hlt:k<n
  ·have hlt':((i+k:Nat):Int)<(i:Int)+(n:Int):=by omega
   have hin:i+k<s.size:=by omega
   have hgb:=oW s (i+k) hin;have hbl:=nM s (i+k);have hv:=So s i k (by omega);have HS:Hid (aU s i (k+1)=aU s i k * 256+bt s (i+k)):=by unfold Hid;rw [Ke]
   generalize aU s i k=v at *;have Sq:((i+k:Nat):Int)<(s.size:Int):=by omega
   have HJ:Hid (((i+k:Nat):Int)+1=((i+(k+1):Nat):Int)):=by unfold Hid;omega
   have HM:Hid (i+n - (i+(k+1))<i+n - (i+k)):=by unfold Hid;omega
   generalize i+k=j at *;go_wp2_with fail
   refine ⟨⟨k+1,by omega,by rw [HJ.out],?_⟩,?_⟩
   ·rw [HS.out];go_num
   ·rw [HJ.out];simp only [intOf,qM];exact HM.out
  ·have hkn:k=n:=by omega
   subst hkn;have hlt':¬((i+k:Nat):Int)<(i:Int)+(k:Int):=by omega
   go_wp2_with fail
   go_ret;exact ⟨rfl,rfl⟩
theorem S6 (s:ByteArray) (i:Nat):(aC s).getD i 0=s.get! i:=by
 rw [<-CU,nK]
theorem abb (s:ByteArray):zM (aC s)=aU s 2 2:=by
 unfold zM;rw [S6,S6];simp only [aU,DJ,Nat.reduceAdd];omega
theorem s9 (s:ByteArray) (a b:Nat):aC (s.extract a b)=((aC s).drop a).take (b - a):=by
 unfold aC;rw [ByteArray.data_extract,Array.toList_extract,List.extract_eq_take_drop]
theorem OO {s t:ByteArray}:aC s=aC t↔s=t:=⟨fun h=>by rw [<-nK s,h,nK],fun h=>by rw [h]⟩
theorem abc {s t:ByteArray} (h:¬s=t):(s.toList == t.toList)=false:=by
 rw [beq_eq_false_iff_ne];intro e;rw [Cm,Cm] at e;exact h (OO.1 e)
theorem S7 (s:ByteArray) (h8:8<=s.size) (hn:aU s 2 2+8<=s.size):
 ((s8 (bt s 1:Nat) (s.extract 4 (4+aU s 2 2))∧s.extract 0 (8+aU s 2 2)=ah (lf (bt s 1) (aC (s.extract 4 (4+aU s 2 2)))))->mS (aC s)=some (bt s 1,aC (s.extract 4 (4+aU s 2 2))))∧(¬(s8 (bt s 1:Nat) (s.extract 4 (4+aU s 2 2))∧s.extract 0 (8+aU s 2 2)=ah (lf (bt s 1) (aC (s.extract 4 (4+aU s 2 2)))))->mS (aC s)=none):=by
 have e1:((aC s).getD 1 0).toNat=bt s 1:=by rw [S6];rfl
 have e4:aC (s.extract 4 (4+aU s 2 2))=((aC s).drop 4).take (aU s 2 2):=by rw [s9,show 4+aU s 2 2 - 4=aU s 2 2 by omega]
 have e0:aC (s.extract 0 (8+aU s 2 2))=(aC s).take (aU s 2 2+8):=by rw [s9,iE,show 8+aU s 2 2 - 0=aU s 2 2+8 by omega]
 have ez:(s.extract 4 (4+aU s 2 2)).size=aU s 2 2:=by rw [rP];omega
 unfold mS;rw [if_neg (by rw [jr];omega),abb,if_neg (by rw [jr];omega),e1,<-e4,<-e0];unfold s8;rw [ez];have hiff:(1<=bt s 1∧bt s 1<=3∧aU s 2 2<=200∧aC (s.extract 0 (8+aU s 2 2))=lf (bt s 1) (aC (s.extract 4 (4+aU s 2 2))))↔((1<=((bt s 1:Nat):Int)∧((bt s 1:Nat):Int)<=3∧aU s 2 2<=200)∧s.extract 0 (8+aU s 2 2)=ah (lf (bt s 1) (aC (s.extract 4 (4+aU s 2 2))))):=by
  rw [<-OO,kG];constructor
  ·rintro ⟨a,b,c,d⟩;exact ⟨⟨by omega,by omega,c⟩,d⟩
  ·rintro ⟨⟨a,b,c⟩,d⟩;exact ⟨by omega,by omega,c,d⟩
 exact ⟨fun h=>by rw [if_pos (hiff.2 h)],fun h=>by rw [if_neg (fun hc=>h (hiff.1 hc))]⟩
theorem Ht (s:ByteArray) (h:s.size<8∨s.size<aU s 2 2+8):mS (aC s)=none:=by
 unfold mS;by_cases h8:s.size<8
 ·rw [if_pos (by rw [jr];exact h8)]
 ·rw [if_neg (by rw [jr];exact h8),abb,if_pos (by rw [jr];omega)]
def abd (s:ByteArray) (k:Int) (p:ByteArray):Prop:=(mS (aC s)=none∧k=0∧p=ah [])∨∃(K:Nat) (q:List UInt8),mS (aC s)=some (K,q)∧k=K∧p=ah q
theorem aj1 (s:ByteArray) (w:World) (hs:s.size<=2000000):
 av au 178 #[.string s] w fun e' w'=>ak w.heap.size w w'∧∃k p,e'= .returned (.tuple #[.int .i64 k,.string p])∧abd s k p:=by
 by_cases h8:s.size<8
 ·have HN:=af (Ht s (.inl h8));have h8':(s.size:Int)<8:=by omega
  go_enter Tryz.func178,Tryz.ntmps178;go_wp2_with fail
  go_ret2
  exact ⟨aA _ _,_,_,rfl,.inl ⟨HN.out,rfl,rfl⟩⟩
 have h8':¬(s.size:Int)<8:=by omega
 have HV:=af (fun w'=>aba s 2 2 w' (by decide) (by omega) hs);by_cases hn:s.size<aU s 2 2+8
 ·have HN:=af (Ht s (.inr hn));have hb:aU s 2 2<65536:=zG s 2 2;have hn':(s.size:Int)<(aU s 2 2:Int)+8:=by omega
  generalize aU s 2 2=n at *;go_enter Tryz.func178,Tryz.ntmps178;go_wp2_with fail
  refine (aq HV _).mono ?_;rintro e w' ⟨rfl,hw⟩;obtain rfl:=hw.symm;go_wp2_with fail
  go_ret2
  exact ⟨aA _ _,_,_,rfl,.inl ⟨HN.out,rfl,rfl⟩⟩
 have HE:=af (S7 s (by omega) (by omega));have hb:aU s 2 2<65536:=zG s 2 2;have hn':¬(s.size:Int)<(aU s 2 2:Int)+8:=by omega
 have eG:=oW s 1 (by omega);have hbl:=nM s 1;have pZ:=af (fun w'=>aax (bt s 1:Nat) (s.extract 4 (4+aU s 2 2)) w');have v1:IntKind.i64.wrap (4+(aU s 2 2:Int))=4+(aU s 2 2:Int):=by rw [AJ];omega
 have v2:(4:Int)<=4+(aU s 2 2:Int):=by omega
 have v3:4+(aU s 2 2:Int)<=(s.size:Int):=by omega
 have v4:(0:Int)<=4+(aU s 2 2:Int):=by omega
 have v5:(4+(aU s 2 2:Int)).toNat=4+aU s 2 2:=by omega
 have v6:(8+(aU s 2 2:Int)).toNat=8+aU s 2 2:=by omega
 have v7:8+(aU s 2 2:Int)<=(s.size:Int):=by omega
 have v8:(0:Int)<=8+(aU s 2 2:Int):=by omega
 have v9:IntKind.i64.wrap (bt s 1:Int)=(bt s 1:Int):=by rw [AJ];omega
 generalize aU s 2 2=n at *;generalize bt s 1=K at *;go_enter Tryz.func178,Tryz.ntmps178;go_wp2_with fail
 refine (aq HV _).mono ?_;rintro e w' ⟨rfl,hw⟩;obtain rfl:=hw.symm;go_upto_region 6 with fail
 go_region_held3 (fun _=>True) (trivial) ((go_at_call 124;refine (aq pZ _).mono ?_;intro e w1 hpost;obtain ⟨D,m,rfl⟩:=hpost.form;have S8:=af hpost;clear hpost))
 obtain ⟨hb1,⟨hok,heq⟩ | ⟨hno,heq⟩⟩:=S8.out
 ·simp only [qM,Ending.returned.injEq,Value.tuple.injEq] at heq;obtain ⟨rfl,rfl⟩:D=ah (lf K (aC (s.extract 4 (4+n))))∧m=0:=by simpa using heq
  have aJ:Hid (ak w.heap.size w w1):=(show ak w.heap.size w w.drew from (aA _ w).drew).trans hb1;have fK:=af hok;have HP:Hid (ah (aC (s.extract 4 (4+n)))=s.extract 4 (4+n)):=nK _;clear hb1 hok heq S8 pZ;by_cases hq:s.extract 0 (8+n)=ah (lf K (aC (s.extract 4 (4+n))))
  ·have HR:=af (HE.out.1 ⟨fK.out,hq⟩);rw [<-hq];clear hq;go_upto_region 9 with fail
   go_quiet (fail)
   go_wp2_with fail
   go_ret2
   exact ⟨dH aJ.out nq,_,_,rfl,.inr ⟨_,_,HR.out,rfl,HP.out.symm⟩⟩
  ·have HR:=af (HE.out.2 (fun h=>hq h.2));obtain ⟨D,hD⟩:∃D,D=ah (lf K (aC (s.extract 4 (4+n)))):=⟨_,rfl⟩;rw [<-hD] at hq;rw [<-hD];have CV:=abc hq;clear hD hq;go_wp2_with fail
   go_ret2
   exact ⟨aJ.out,_,_,rfl,.inl ⟨HR.out,rfl,rfl⟩⟩
 ·obtain ⟨rfl,rfl⟩:D=ah []∧m=1:=by simpa using heq
  have aJ:Hid (ak w.heap.size w w1):=(show ak w.heap.size w w.drew from (aA _ w).drew).trans hb1;have HR:=af (HE.out.2 (fun h=>hno h.1));clear hb1 hno heq S8 pZ;go_wp2_with fail
  go_ret2
  exact ⟨aJ.out,_,_,rfl,.inl ⟨HR.out,rfl,rfl⟩⟩
def yh (s t:ByteArray):Bool:=decide (t.size<=s.size) && ((s.extract 0 t.size).toList == t.toList)
theorem abe {s t:ByteArray}:yh s t=true↔t.size<=s.size∧s.extract 0 t.size=t:=by
 unfold yh;rw [Bool.and_eq_true,decide_eq_true_eq,beq_iff_eq,Cm,Cm];exact ⟨fun h=>⟨h.1,OO.1 h.2⟩,fun h=>⟨h.1,by rw [h.2]⟩⟩
theorem aj2 (s t:ByteArray) (w:World):
 av au 223 #[.string s,.string t] w fun e' w'=>e'= .returned (.bool (yh s t))∧w'=w:=by
 by_cases h:t.size<=s.size
 ·have HP:Hid (((s.extract 0 t.size).toList == t.toList)=yh s t):=by unfold Hid yh;rw [decide_eq_true h,Bool.true_and]
  go_enter avg,avh;go_wp2
  go_ret;exact ⟨iv HP.out,rfl⟩
 ·have HP:Hid (false=yh s t):=by unfold Hid yh;rw [decide_eq_false h,Bool.false_and]
  go_enter avg,avh;go_wp2
  go_ret;exact ⟨iv HP.out,rfl⟩
theorem aj3 (s:ByteArray) (n:Nat) (h:4+n<=s.size):(s.extract 4 s.size).extract 0 n=s.extract 4 (4+n):=by
 rw [<-OO,s9,s9,s9,iE,Nat.sub_zero,List.take_take,Nat.min_eq_left (by omega),show 4+n - 4=n by omega]
def lg (k:Int) (p:ByteArray) (n:Int):Array aj:=#[.int .i64 k,.string p,.int .i64 n]
def abf (s:ByteArray) (e':Ending):Prop:=
 (mS (aC s)=none∧e'= .returned (.tuple #[.agg (lg 0 (ah []) 0),.bool false]))∨∃(K:Nat) (q:List UInt8),mS (aC s)=some (K,q)∧e'= .returned (.tuple #[.agg (lg K (ah q) ((q.length+8:Nat):Int)),.bool true])
theorem aj4 (k:Int) (p:ByteArray) (n:Int):(lg k p n).all (·.oneCell')=true:=by simp [lg,Value.oneCell']
theorem Hu {ops:Array bI} {rest:List bI} {o:bI} {a:Act} {w:World} {Q:Exit->Act->World->Prop} (hgd:o.guard=none) (x y:vP) (ho:o.op= .store 236 x y)
 (g:Nat) (k:Int) (p:ByteArray) (n:Int) (hx:a.eval x= .pointer (some ⟨g,0,none⟩)) (hy:a.eval y= .agg (lg k p n)) (old:Array aj) (hg:w.heap[g]? =some (.cells old 236 (0,0))) (hold:old.size=3)
 (h:nA au ops Q rest (a.put o.dst undef) (w.setRow g (lg k p n))):nA au ops Q (o :: rest) a w:=
 wpList_store_row hgd 236 x y ho g (lg k p n) hx hy 236 old hg (show (Tryz.prog.info? 236).map (·.size)=some 3 by kernel_rfl) hold (aj4 k p n) h
theorem aj5:(Tryz.prog.info? 236).map (·.size)=some 3:=by kernel_rfl
theorem aj6 (w:World):(Instr.build 236 #[]).run au w= .ok (.agg (lg 0 (ah []) 0)) w:=by kernel_rfl
theorem abg (w:World):(zeroValue 236).run au w= .ok (.agg (lg 0 (ah []) 0)) w:=by kernel_rfl
theorem KH {fn:Func} {p u:Tmp} (h:fn.results=#[.cell p 236,.tmp u]) (tmps:Array aj) (w:World) (g:Nat) (c:Array aj) (hz:c.size=3)
 (hp:tmps.getD p undef= .pointer (some ⟨g,0,none⟩)) (hg:w.heap[g]? =some (.cells c 236 (0,0))) (x:aj) (hu:tmps.getD u undef=x):
 (results fn tmps).run au w= .ok (.tuple #[.agg c,x]) w:=by
 rw [results_cell_tmp h,hp,hu];simp only [asAddr,zk,kN];rw [run_loadVar_row w g 236 236 c (0,0) _ hg Tryz.underlying236 rfl (by rw [aj5,hz])]
theorem aj7 (s:ByteArray) (w:World) (hs:s.size<=4611686018427387904):
 av au 187 #[.string s] w fun e' w'=>ak w.heap.size w w'∧abf s e':=by
 have bz:=aj6;have zz:=abg;have fV:Hid ((w.alloc (.cells (lg 0 (ah []) 0) 236)).heap[w.heap.size]? =some (.cells (lg 0 (ah []) 0) 236 (0,0))):=bg w _;have bM:=af ((aA w.heap.size w).alloc (ax _) (.cells (lg 0 (ah []) 0) 236));by_cases h4:s.size<4
 ·have HN:=af (Ht s (.inl (by omega)));have h4':(s.size:Int)<4:=by omega
  go_enter Tryz.func187,Tryz.ntmps187;go_wp2_with (refine Hu rfl _ _ rfl w.heap.size 0 (ah []) 0 rfl rfl _ fV.out rfl ?_)
  exact cL (v:=.tuple #[.agg (lg 0 (ah []) 0),.bool false]) (KH Rk _ _ w.heap.size _ rfl rfl (uO _ _ _ _ _ (0,0) fV.out) _ rfl) rfl ⟨iI bM.out (ax _) _,.inl ⟨HN.out,rfl⟩⟩
 have h4':¬(s.size:Int)<4:=by omega
 have eG:=oW s 1 (by omega);have hbl:=nM s 1;have j9:=af (fun w'=>Oe (s.extract 2 4) w' (by rw [rP];omega));rw [show (s.extract 2 4).size=2 by rw [rP];omega,show s.extract 2 4=s.extract 2 (2+2) from rfl,Og s 2 2 0 (by omega) 2 (by omega)] at j9;have ez:(s.extract 4 s.size).size=s.size - 4:=by rw [rP];omega
 have hb:aU s 2 2<65536:=zG s 2 2;have hNm:(s.extract 4 s.size).size<aU s 2 2->mS (aC s)=none:=fun h=>Ht s (by omega);have e0:(aU s 2 2:Int)<=(s.size:Int) - 4∨(s.size:Int) - 4<(aU s 2 2:Int):=by omega
 by_cases hgt:s.size - 4<aU s 2 2
 ·have HN:=af (Ht s (by omega));have abj:(((s.extract 4 s.size).size:Nat):Int)<(aU s 2 2:Int):=by omega
  clear hNm e0;generalize aU s 2 2=n at *;generalize bt s 1=K at *;go_enter Tryz.func187,Tryz.ntmps187;go_upto_region 3 with fail
  go_quiet (fail)
  have aJ:=af (dH bM.out nq);have yj:Hid (((w.alloc (.cells (lg 0 (ah []) 0) 236)).drewN nq).heap[w.heap.size]? =some (.cells (lg 0 (ah []) 0) 236 (0,0))):=fV.out;generalize (w.alloc (.cells (lg 0 (ah []) 0) 236)).drewN nq=w1 at *;go_wp2_with fail
  refine (aq j9 _).mono ?_;rintro e w' ⟨rfl,hw⟩;obtain rfl:=hw.symm;go_wp2_with (refine Hu rfl _ _ rfl w.heap.size 0 (ah []) 0 rfl rfl _ yj.out rfl ?_)
  exact cL (v:=.tuple #[.agg (lg 0 (ah []) 0),.bool false]) (KH Rk _ _ w.heap.size _ rfl rfl (uO _ _ _ _ _ (0,0) yj.out) _ rfl) rfl ⟨iI aJ.out (ax _) _,.inl ⟨HN.out,rfl⟩⟩
 have hle':¬(((s.extract 4 s.size).size:Nat):Int)<(aU s 2 2:Int):=by omega
 have EN:(aU s 2 2:Int)<=(((s.extract 4 s.size).size:Nat):Int):=by omega
 have abk:=aj3 s (aU s 2 2) (by omega);have pZ:=af (fun w'=>aay (bt s 1:Nat) (s.extract 4 (4+aU s 2 2)) w');have HPy:=af abk;have OP:(s.extract 4 (4+aU s 2 2)).size=aU s 2 2:=by rw [rP];omega
 have HY:Hid (s8 (bt s 1:Nat) (s.extract 4 (4+aU s 2 2))->yh s (ah (lf (bt s 1) (aC (s.extract 4 (4+aU s 2 2)))))=true->mS (aC s)=some (bt s 1,aC (s.extract 4 (4+aU s 2 2)))):=fun hok hp=>by
  obtain ⟨h1,h2⟩:=abe.1 hp;have hz:(ah (lf (bt s 1) (aC (s.extract 4 (4+aU s 2 2))))).size=aU s 2 2+8:=by rw [bZ,JZ,jr,OP]
  rw [hz] at h1 h2;refine (S7 s (by omega) (by omega)).1 ⟨hok,?_⟩;rw [DR 8 (aU s 2 2)];exact h2
 have fo:Hid ((¬s8 (bt s 1:Nat) (s.extract 4 (4+aU s 2 2))∨yh s (ah (lf (bt s 1) (aC (s.extract 4 (4+aU s 2 2)))))=false)->mS (aC s)=none):=fun h=>by
  by_cases h8:aU s 2 2+8<=s.size
  ·refine (S7 s (by omega) h8).2 (fun hh=>?_);rcases h with h | h
   ·exact h hh.1
   ·have hz:(ah (lf (bt s 1) (aC (s.extract 4 (4+aU s 2 2))))).size=aU s 2 2+8:=by rw [bZ,JZ,jr,OP]
    have:yh s (ah (lf (bt s 1) (aC (s.extract 4 (4+aU s 2 2)))))=true:=abe.2 ⟨by rw [hz];exact h8,by rw [hz,DR (aU s 2 2) 8];exact hh.2⟩;rw [this] at h;cases h
  ·exact Ht s (.inr (by omega))
 have HPz:=af OP;have pE:=af (fun t w'=>aj2 s t w');clear hNm e0 abk OP;generalize aU s 2 2=n at *;generalize bt s 1=K at *;go_enter Tryz.func187,Tryz.ntmps187;go_upto_region 3 with fail
 go_quiet (fail)
 have aJ:=af (dH bM.out nq);have yj:Hid (((w.alloc (.cells (lg 0 (ah []) 0) 236)).drewN nq).heap[w.heap.size]? =some (.cells (lg 0 (ah []) 0) 236 (0,0))):=fV.out;generalize (w.alloc (.cells (lg 0 (ah []) 0) 236)).drewN nq=w1 at *;go_wp2_with fail
 refine (aq j9 _).mono ?_;rintro e w' ⟨rfl,hw⟩;obtain rfl:=hw.symm;go_wp2_with fail
 rw [HPy.out];refine (aq pZ _).mono ?_;rintro e w2 ⟨hb2,⟨hok,rfl⟩ | ⟨hno,rfl⟩⟩
 ·have aZ:Hid (ak w.heap.size w w2):=aJ.out.trans (hb2.mono (by have:=aJ.out.size;omega));have l6:Hid (w2.heap[w.heap.size]? =some (.cells (lg 0 (ah []) 0) 236 (0,0))):=(hb2.block _ (iD.1 yj.out).1).trans yj.out;have fK:=af hok;rw [qM];have HDs:Hid ((ah (lf K (aC (s.extract 4 (4+n))))).size=(aC (s.extract 4 (4+n))).length+8):=by unfold Hid;rw [bZ,JZ]
  have HP:=af (pE.out (ah (lf K (aC (s.extract 4 (4+n))))));have OQ:Hid (ah (aC (s.extract 4 (4+n)))=s.extract 4 (4+n)):=nK _;cases hp:yh s (ah (lf K (aC (s.extract 4 (4+n)))))
  ·rw [hp] at HP;have HN:=af (fo.out (.inr hp));clear hp hb2 hok pZ HY fo;generalize ah (lf K (aC (s.extract 4 (4+n))))=D at *;go_wp2_with fail
   refine (aq HP _).mono ?_;rintro e w' ⟨rfl,hw⟩;obtain rfl:=hw.symm;go_wp2_with (refine Hu rfl _ _ rfl w.heap.size 0 (ah []) 0 rfl rfl _ l6.out rfl ?_)
   exact cL (v:=.tuple #[.agg (lg 0 (ah []) 0),.bool false]) (KH Rk _ _ w.heap.size _ rfl rfl (uO _ _ _ _ _ (0,0) l6.out) _ rfl) rfl ⟨iI aZ.out (ax _) _,.inl ⟨HN.out,rfl⟩⟩
  ·rw [hp] at HP;have HN:=af (HY.out fK.out hp);clear hp hb2 hok pZ HY fo;generalize ah (lf K (aC (s.extract 4 (4+n))))=D at *;go_wp2_with fail
   refine (aq HP _).mono ?_;rintro e w' ⟨rfl,hw⟩;obtain rfl:=hw.symm;go_wp2_with (refine Hu rfl _ _ rfl w.heap.size K (s.extract 4 (4+n)) (D.size:Int) rfl rfl _ l6.out rfl ?_)
   refine cL (v:=.tuple #[.agg (lg K (s.extract 4 (4+n)) (D.size:Int)),.bool true]) (KH Rk _ _ w.heap.size _ rfl rfl (uO _ _ _ _ _ (0,0) l6.out) _ rfl) rfl ⟨iI aZ.out (ax _) _,.inr ⟨_,_,HN.out,?_⟩⟩;rw [OQ.out,HDs.out]
 ·have aZ:Hid (ak w.heap.size w w2):=aJ.out.trans (hb2.mono (by have:=aJ.out.size;omega));have l6:Hid (w2.heap[w.heap.size]? =some (.cells (lg 0 (ah []) 0) 236 (0,0))):=(hb2.block _ (iD.1 yj.out).1).trans yj.out;have HN:=af (fo.out (.inl hno));clear hb2 hno pZ HY fo;go_wp2_with (refine Hu rfl _ _ rfl w.heap.size 0 (ah []) 0 rfl rfl _ l6.out rfl ?_)
  exact cL (v:=.tuple #[.agg (lg 0 (ah []) 0),.bool false]) (KH Rk _ _ w.heap.size _ rfl rfl (uO _ _ _ _ _ (0,0) l6.out) _ rfl) rfl ⟨iI aZ.out (ax _) _,.inl ⟨HN.out,rfl⟩⟩
def bR (l:List (List UInt8×List UInt8)):List aj:=l.flatMap fun x=>[.string (ah x.1),.string (ah x.2)]
theorem Ta (l:List (List UInt8×List UInt8)) (x:List UInt8×List UInt8):bR (l ++ [x])=bR l ++ [.string (ah x.1),.string (ah x.2)]:=by simp [bR]
def bJ (gen:Nat) (whole:Bool) (good:Nat) (v:aj):Array aj:=#[.int .i64 (gen:Int),.bool whole,.int .i64 (good:Int),v]
structure gM (A:Nat) (a:cS) (v:aj) (w:World):Prop where
 cells:w.heap[A]? =some (.cells (bJ a.gen a.whole a.good v) 175 (0,0))
 list:w.ownsRow (A+1) 127 2 v a.list.length (bR a.list)
def qz (A:Nat) (v:aj) (w w':World):Prop:=ak A w w'∧∀g,g<w.heap.size->g≠A->v.ownBlock≠some g->w'.heap[g]? =w.heap[g]?
theorem gM.lt {A:Nat} {a:cS} {v:aj} {w:World} (h:gM A a v w):A<w.heap.size:=(iD.1 h.cells).1
theorem gM.cell {A:Nat} {a:cS} {v:aj} {w:World} (h:gM A a v w) (i:Nat):w.cell? ⟨A,i,none⟩=(bJ a.gen a.whole a.good v)[i]?:=cF h.cells i
theorem gM.frozen {A:Nat} {a:cS} {v:aj} {w:World} (h:gM A a v w) (i:Nat):w.frozen? ⟨A,i,none⟩=false:=by simp [World.frozen?,h.cells]
theorem gM.own {A:Nat} {a:cS} {v:aj} {w:World} (h:gM A a v w):v.ownBlock≠some A:=fun e=>by
 have:=(aR h.list A e).1;omega
theorem gM.above {A:Nat} {a:cS} {v:aj} {w w':World} (h:gM A a v w) (hb:ak w.heap.size w w'):gM A a v w':=
 ⟨(hb.block _ h.lt).trans h.cells,dX h.list hb⟩
theorem qz.abl {A:Nat} {v:aj} {w w':World} (hA:A<w.heap.size) (hb:ak w.heap.size w w'):qz A v w w':=
 ⟨hb.mono (iP hA),fun g hg _ _=>hb.block g hg⟩
theorem gM.turn {A:Nat} {a a':cS} {v:aj} {w:World} (h:gM A a v w) (i:Nat) (x:aj) (hl:a'.list=a.list) (hx:(bJ a.gen a.whole a.good v).setIfInBounds i x=bJ a'.gen a'.whole a'.good v):gM A a' v (w.setCell ⟨A,i,none⟩ x):=by
 refine ⟨?_,?_⟩
 ·obtain ⟨hlt,hk⟩:=iD.1 h.cells;show (w.heap.modify A _)[A]? =_
  rw [Array.getElem?_eq_getElem (by rw [Array.size_modify];exact hlt),Array.getElem_modify_self,hk,<-hx];rfl
 ·rw [hl];refine dz h.list (fun g hg=>dU _ _ (fun e=>?_));subst e;exact h.own hg
theorem qz.turn {A:Nat} {v:aj} {w w':World} (h:qz A v w w') (i:Nat) (x:aj):qz A v w (w'.setCell ⟨A,i,none⟩ x):=
 ⟨h.1.setCell (p:=⟨A,i,none⟩) (ax _) _,fun g hg hn ho=>(dU _ _ hn).trans (h.2 g hg hn ho)⟩
theorem qz.refl (A:Nat) (v:aj) (w:World):qz A v w w:=⟨aA _ _,fun _ _ _ _=>rfl⟩
theorem qz.alloc {A:Nat} {v:aj} {w w':World} (h:qz A v w w') (hA:A<w.heap.size) (o:Obj):qz A v w (w'.alloc o):=
 ⟨h.1.alloc (by have:=h.1.size;omega) o,fun g hg hn ho=>(Below.heap_alloc w' _ _ (by have:=h.1.size;omega)).trans (h.2 g hg hn ho)⟩
theorem gM.alloc {A:Nat} {a:cS} {v:aj} {w:World} (h:gM A a v w) (o:Obj):gM A a v (w.alloc o):=h.above ((aA _ _).alloc (ax _) o)
def qA (A:Nat) (a:cS) (v:aj) (r:Option cS) (w:World) (e':Ending) (w':World):Prop:=
 qz A v w w'∧((∃a' v',r=some a'∧e'= .returned (.bool true)∧gM A ⟨a'.gen,a'.whole,a.good,a'.list⟩ v' w'∧(∀g,v'.ownBlock=some g->v.ownBlock=some g∨w.heap.size<=g))∨(r=none∧e'= .returned (.bool false)∧gM A a v w'))
def Aa (a:cS) (K:Nat) (q:List UInt8):Option cS:=if K=1∧q.length=4∧aU (ah q) 0 4≠0 then some ⟨aU (ah q) 0 4,a.whole,a.good+(q.length+8),a.list⟩ else none
def Bq (a:cS) (q:List UInt8):Option cS:=if a.whole=false∧q=[] then some ⟨a.gen,true,a.good+(q.length+8),a.list⟩ else none
theorem aka (A:Nat) (a:cS) (v:aj) (K:Nat) (q:List UInt8) (n:Int) (w:World) (h:gM A a v w) (hg:a.gen=0):
 av au 224 #[.pointer (some ⟨A,0,none⟩),.agg #[.int .i64 (K:Int),.string (ah q),.int .i64 n]] w (qA A a v (Aa a K q) w):=by
 have HZ:Hid ((ah q).size=q.length):=bZ q;have hA:=h.lt;have hne:¬A=w.heap.size:=by omega
 have g0:w.cell? ⟨A,0,none⟩=some (.int .i64 (a.gen:Int)):=h.cell 0;have f0:=h.frozen 0;have fo:Hid (∀o,Aa a K q=none->qA A a v (Aa a K q) w (.returned (.bool false)) (w.alloc o)):=fun o hr=>⟨(qz.refl A v w).alloc hA o,.inr ⟨hr,rfl,h.alloc o⟩⟩;have akb:Hid (∀o,Aa a K q=none->qA A a v (Aa a K q) w (.returned (.bool false)) ((w.setCell ⟨A,0,none⟩ (.int .i64 0)).alloc o)):=fun o hr=>by
  refine ⟨((qz.refl A v w).turn 0 _).alloc hA o,.inr ⟨hr,rfl,?_⟩⟩;refine (h.turn (a':=a) 0 (.int .i64 0) rfl ?_).alloc o;rw [hg];rfl
 have Tc:Hid (∀o,(K=1∧q.length=4∧aU (ah q) 0 4≠0)->qA A a v (Aa a K q) w (.returned (.bool true)) ((w.setCell ⟨A,0,none⟩ (.int .i64 (aU (ah q) 0 4:Int))).alloc o)):=fun o hr=>
  ⟨((qz.refl A v w).turn 0 _).alloc hA o,.inl ⟨_,v,if_pos hr,rfl,(h.turn (a':=⟨aU (ah q) 0 4,a.whole,a.good,a.list⟩) 0 _ rfl rfl).alloc o,fun g hg=>.inl hg⟩⟩
 have HR:Hid (¬(K=1∧q.length=4∧aU (ah q) 0 4≠0)->Aa a K q=none):=fun hc=>if_neg hc;clear h;generalize Aa a K q=R at *;generalize ah q=D at *;by_cases hc:K=1∧q.length=4
 ·obtain ⟨rfl,hl⟩:=hc;have hz':(D.size:Int)=4:=by have:=HZ.out;omega
  have j9:=af (fun w'=>Oe D w' (by omega));rw [show D.size=4 by omega] at j9;have HL:=af hl;clear hl;have hbl:aU D 0 4<4294967296:=zG D 0 4;generalize aU D 0 4=X at *;by_cases hx0:X=0
  ·subst hx0;have HN:=af (HR.out (fun hh=>hh.2.2 rfl));go_enter Yo,Yp;go_wp2_with fail
   refine (aq j9 _).mono ?_;rintro e w' ⟨rfl,hw⟩;obtain rfl:=hw.symm;go_wp2_with fail
   go_ret;exact akb.out _ HN.out
  ·have hx1:(0:Int)<(X:Int):=by omega
   have hx2:decide (0<X)=true:=by rw [decide_eq_true_eq];omega
   have HY:=af (fun o=>Tc.out o ⟨rfl,HL.out,hx0⟩);go_enter Yo,Yp;go_wp2_with fail
   refine (aq j9 _).mono ?_;rintro e w' ⟨rfl,hw⟩;obtain rfl:=hw.symm;go_wp2_with fail
   go_ret;exact HY.out _
 ·have HN:=af (HR.out (fun hh=>hc ⟨hh.1,hh.2.1⟩));by_cases hk:K=1
  ·subst hk;have hz':((D.size:Int) == 4)=false:=by have:=HZ.out;rw [beq_eq_false_iff_ne];intro e;exact hc ⟨rfl,by omega⟩
   clear hc;go_enter Yo,Yp;go_wp2_with fail
   go_ret;exact fo.out _ HN.out
  ·have hk':((K:Int) == 1)=false:=by rw [beq_eq_false_iff_ne];omega
   clear hc;go_enter Yo,Yp;go_wp2_with fail
   go_ret;exact fo.out _ HN.out
theorem Td {q:List UInt8} (h:q≠[]):((ah q).toList == ([]:List UInt8))=false:=by
 rw [beq_eq_false_iff_ne,Cm];intro e;apply h;rw [<-GL q];exact e
theorem akc (A:Nat) (a:cS) (v:aj) (K:Nat) (q:List UInt8) (n:Int) (w:World) (h:gM A a v w):
 av au 226 #[.pointer (some ⟨A,0,none⟩),.agg #[.int .i64 (K:Int),.string (ah q),.int .i64 n]] w (qA A a v (Bq a q) w):=by
 have hA:=h.lt;have hne:¬A=w.heap.size:=by omega
 have g1:w.cell? ⟨A,1,none⟩=some (.bool a.whole):=h.cell 1;have f1:=h.frozen 1;have fo:Hid (∀o,Bq a q=none->qA A a v (Bq a q) w (.returned (.bool false)) (w.alloc o)):=fun o hr=>⟨(qz.refl A v w).alloc hA o,.inr ⟨hr,rfl,h.alloc o⟩⟩;have Tc:Hid (∀o,(a.whole=false∧q=[])->qA A a v (Bq a q) w (.returned (.bool true)) ((w.setCell ⟨A,1,none⟩ (.bool true)).alloc o)):=fun o hr=>
  ⟨((qz.refl A v w).turn 1 _).alloc hA o,.inl ⟨_,v,if_pos hr,rfl,(h.turn (a':=⟨a.gen,true,a.good,a.list⟩) 1 _ rfl rfl).alloc o,fun g hg=>.inl hg⟩⟩
 have HR:Hid (¬(a.whole=false∧q=[])->Bq a q=none):=fun hc=>if_neg hc;clear h;generalize Bq a q=R at *;cases yo:a.whole
 ·rw [yo] at g1;by_cases hq:q=[]
  ·have HY:=af (fun o=>Tc.out o ⟨yo,hq⟩);subst hq;have CV:((ah []).toList == ([]:List UInt8))=true:=by rw [Cm,GL];rfl
   go_enter Tryz.func226,Tryz.ntmps226;go_wp2_with fail
   go_ret;exact HY.out _
  ·have CV:=Td hq;have HN:=af (HR.out (fun hh=>hq hh.2));clear hq;go_enter Tryz.func226,Tryz.ntmps226;go_wp2_with fail
   go_ret;exact fo.out _ HN.out
 ·rw [yo] at g1;have HN:=af (HR.out (fun hh=>by rw [yo] at hh;cases hh.1));go_enter Tryz.func226,Tryz.ntmps226;go_wp2_with fail
  go_ret;exact fo.out _ HN.out
section
variable {P:Program} (w:World)
theorem akd (base:Nat) (t u ty e:cE) (i:Rm) (ht:P.underlying t=some (.slice e)) (hu:P.underlying u=some .string) (hi:P.info? e=some i) (hz:i.zero=some (.int .u8 0))
 (hsize:i.size=1) (hby:i.bytes=1) (v:aj) (n:Nat) (xs:List aj) (hown:w.ownsRow base e 1 v n xs) (s:ByteArray) (h63:n+s.size<=cP) (hbytes:n+s.size<=140737488355328)
 (v':aj) (w':World) (hr:(Rn #[t,u] ty #[v,.string s]).run P w= .ok v' w'):v'.ownBlock=v.ownBlock∨v'.ownBlock=some w.heap.size:=by
 have hsmall:n+s.size<=9223372036854775807:=by simp only [cP] at h63;omega
 have hxl:xs.length=n:=by simpa using hown.1
 rcases hown.2 with ⟨rfl,rfl⟩ | ⟨g,cap,cur,rfl,hbg,hg,hnc,hcm,hcs,htake⟩
 ·by_cases hm:s.size=0
  ·have hf:=Lib.run_firstCells_string (P:=P) w 1 s;rw [hm] at hf;have eS:(Rn #[t,u] ty #[.slice none 0 0,.string s]).run P w= .ok (.slice none 0 0) w:=by
    simp [Rn,Ro ht,Ro hu,sizeOf,typeInfo,hi,hsize,Builtin.lenOf,hm,hf]
   rw [eS] at hr;cases hr;exact .inl rfl
  ·have eS:=run_append_nil_string (P:=P) w t u ty e i (.int .u8 0) ht hu hi hz s (by omega) (by omega) (by rw [hby];omega);rw [eS] at hr;cases hr;exact .inr rfl
 ·by_cases hroom:n+s.size<=cap
  ·have hcs':cur.size=cap:=by simpa using hcs
   have eS:=Lib.run_append_room_string (P:=P) w t u ty e i ht hu hi hsize g n cap cur hg s hroom (by omega);rw [eS] at hr;cases hr;exact .inl rfl
  ·have holds:∀j u,xs[j]? =some u->w.cell? ((⟨g,0,none⟩:Addr).add j)=some u:=hown.cells (g:=g) rfl;have eS:=Lib.run_append_grow_string (P:=P) w t u ty e i (.int .u8 0) ht hu hi hz ⟨g,0,none⟩ n cap xs (by rw [hsize];simpa using hxl) holds s (by omega) (by omega) (by rw [hby];exact growslice_fits (by omega) (by omega));rw [eS] at hr;cases hr;exact .inr rfl
theorem abm {o:bI} {a:Act} {K:Act->World->Prop} {Q:Exit->Act->World->Prop} (sl x:vP) (t u:cE)
 (ho:o.op= .call {callee:=.builtin .append,args:=#[sl,x],argTypes:=#[t,u]})
 (base:Nat) (e:cE) (i:Rm) (ht:P.underlying t=some (.slice e)) (hu:P.underlying u=some .string) (hi:P.info? e=some i) (hz:i.zero=some (.int .u8 0))
 (hsize:i.size=1) (hby:i.bytes=1)
 (v:aj) (n:Nat) (xs:List aj) (hs:a.eval sl=v) (hown:w.ownsRow base e 1 v n xs) (s:ByteArray) (hx:a.eval x= .string s)
 (h63:n+s.size<=cP) (hbytes:n+s.size<=140737488355328) (hbase:base<=w.heap.size)
 (h:∀v' w',w'.ownsRow base e 1 v' (n+s.size) (xs ++ Lib.strCells s)->w.grownBy w' v.ownBlock->(v'.ownBlock=v.ownBlock∨v'.ownBlock=some w.heap.size)->K (a.put o.dst v') w'):o.wp P a w K Q:=by
 obtain ⟨v',w',hr,h2,h3,_⟩:=Lib.run_append_own_string (P:=P) w base t u o.type e i ht hu hi hz hsize hby v n xs hown s h63 hbytes hbase;have h4:=akd (P:=P) w base t u o.type e i ht hu hi hz hsize hby v n xs hown s h63 hbytes v' w' hr;unfold Oper.wp execOp;simp only [ho,resolve,invoke,builtin,Sem.run_bind,zk,DI,List.map_toArray,List.map_cons,List.map_nil,hs,hx,hr];exact h v' w' h2 h3 h4
theorem ake {ops:Array bI} {rest:List bI} {o:bI} {a:Act} {Q:Exit->Act->World->Prop} (hgd:o.guard=none) (sl x:vP) (t u:cE)
 (ho:o.op= .call {callee:=.builtin .append,args:=#[sl,x],argTypes:=#[t,u]})
 (base:Nat) (e:cE) (i:Rm) (ht:P.underlying t=some (.slice e)) (hu:P.underlying u=some .string) (hi:P.info? e=some i) (hz:i.zero=some (.int .u8 0))
 (hsize:i.size=1) (hby:i.bytes=1)
 (v:aj) (n:Nat) (xs:List aj) (hs:a.eval sl=v) (hown:w.ownsRow base e 1 v n xs) (s:ByteArray) (hx:a.eval x= .string s)
 (h63:n+s.size<=cP) (hbytes:n+s.size<=140737488355328) (hbase:base<=w.heap.size)
 (h:∀v' w',w'.ownsRow base e 1 v' (n+s.size) (xs ++ Lib.strCells s)->w.grownBy w' v.ownBlock->(v'.ownBlock=v.ownBlock∨v'.ownBlock=some w.heap.size)->nA P ops Q rest (a.put o.dst v') w'):nA P ops Q (o :: rest) a w:=
 wpList_plain hgd fun _ hK=>abm w sl x t u ho base e i ht hu hi hz hsize hby v n xs hs hown s hx h63 hbytes hbase fun v' w' h2 h3 h4=>hK _ _ (h v' w' h2 h3 h4)
end
def aE {α:Type} (f:Nat->α) (i:Nat) (x:α):Nat->α:=fun j=>if j=i then x else f j
theorem cq {α:Type} (f:Nat->α) (i:Nat) (x:α):aE f i x i=x:=by simp [aE]
theorem bp {α:Type} (f:Nat->α) (i j:Nat) (x:α) (h:j≠i):aE f i x j=f j:=by simp [aE,h]
structure aL where
 b:Nat->List UInt8
 n:Nat->Nat
 tr:Nat
 wk:Int
def aL.tick (d:aL):aL:={d with tr:=d.tr - 1}
structure cK (D:Nat) (d:aL) (vs:Nat->aj) (w:World):Prop where
 lt:D<w.heap.size
 fz:∀j,w.frozen? ⟨D,j,none⟩=false
 bytes:∀i,i<2->w.cell? ⟨D,i * 2,none⟩=some (vs i)
 last:∀i,i<2->w.cell? ⟨D,i * 2+1,none⟩=some (.int .i64 (d.n i:Int))
 tr:w.cell? ⟨D,4,none⟩=some (.int .i64 (d.tr:Int))
 wk:w.cell? ⟨D,5,none⟩=some (.int .i64 d.wk)
 own:∀i,i<2->w.ownsRow (D+1) 5 1 (vs i) (d.b i).length (eW (d.b i))
 len:∀i,i<2->(d.b i).length<=1500
 sep:∀i j,i<2->j<2->i≠j->∀g,(vs i).ownBlock=some g->(vs j).ownBlock≠some g
 Hv:(d.tr:Int)<=9223372036854775807
structure jh (D:Nat) (vs vs':Nat->aj) (w w':World):Prop where
 below:ak D w w'
 other:∀g,g<w.heap.size->g≠D->(∀i,i<2->(vs i).ownBlock≠some g)->w'.heap[g]? =w.heap[g]?
 own:∀i,i<2->∀g,(vs' i).ownBlock=some g->(vs i).ownBlock=some g∨w.heap.size<=g
theorem jh.refl (D:Nat) (vs:Nat->aj) (w:World):jh D vs vs w w:=⟨aA _ _,fun _ _ _ _=>rfl,fun _ _ _ h=>.inl h⟩
theorem jh.trans {D:Nat} {v0 v1 v2:Nat->aj} {a b c:World} (h:jh D v0 v1 a b) (k:jh D v1 v2 b c):jh D v0 v2 a c:=by
 refine ⟨h.below.trans k.below,fun g hg hn hv=>?_,fun i hi g hg=>?_⟩
 ·refine (k.other g (dB hg h.below.size) hn (fun i hi e=>?_)).trans (h.other g hg hn hv);rcases h.own i hi g e with q | q
  ·exact hv i hi q
  ·omega
 ·rcases k.own i hi g hg with q | q
  ·exact h.own i hi g q
  ·exact .inr (Nat.le_trans h.below.size q)
theorem cK.up {D:Nat} {d:aL} {vs:Nat->aj} {w w':World} (h:cK D d vs w) (hs:w.heap.size<=w'.heap.size) (hD:w'.heap[D]? =w.heap[D]?) (hv:∀i,i<2->∀g,(vs i).ownBlock=some g->w'.heap[g]? =w.heap[g]?):cK D d vs w':=
 ⟨dB h.lt hs,fun j=>(fS hD).trans (h.fz j),fun i hi=>(aP hD).trans (h.bytes i hi),fun i hi=>(aP hD).trans (h.last i hi),(aP hD).trans h.tr,(aP hD).trans h.wk,fun i hi=>dz (h.own i hi) (hv i hi),h.len,h.sep,h.Hv⟩
theorem cZ {w:World} {D j k:Nat} {x:aj} (h:j≠k):(w.setCell ⟨D,j,none⟩ x).cell? ⟨D,k,none⟩=w.cell? ⟨D,k,none⟩:=
 World.cell?_setCell_other w ⟨D,j,none⟩ ⟨D,k,none⟩ x (fun q=>h (by cases q;rfl))
theorem bB {w:World} {D g j:Nat} {x:aj} (h:g≠D):(w.setCell ⟨D,j,none⟩ x).heap[g]? =w.heap[g]?:=dU _ _ h
theorem fW {w:World} {D j:Nat} {x:aj}:(w.setCell ⟨D,j,none⟩ x).heap.size=w.heap.size:=by simp [World.setCell]
theorem Ab {D:Nat} {d:aL} {vs:Nat->aj} {w:World} (h:cK D d vs w) {i:Nat} (hi:i<2) {g:Nat} (hg:(vs i).ownBlock=some g):g≠D∧g<w.heap.size:=by
 have:=aR (h.own i hi) g hg;omega
theorem cK.OT {D:Nat} {d:aL} {vs:Nat->aj} {w:World} (h:cK D d vs w) (t:Nat) (ht:(t:Int)<=9223372036854775807):cK D {d with tr:=t} vs (w.setCell ⟨D,4,none⟩ (.int .i64 (t:Int)))∧jh D vs vs w (w.setCell ⟨D,4,none⟩ (.int .i64 (t:Int))):=by
 refine ⟨⟨by rw [fW];exact h.lt,fun j=>by rw [oO];exact h.fz j,fun i hi=>(cZ (by omega)).trans (h.bytes i hi),fun i hi=>(cZ (by omega)).trans (h.last i hi),qj _ _ _ h.tr,(cZ (by decide)).trans h.wk,fun i hi=>dz (h.own i hi) (fun g hg=>bB (Ab h hi hg).1),h.len,h.sep,ht⟩,⟨(aA _ _).setCell (p:=⟨D,4,none⟩) (ax _) _,fun g _ hn _=>bB hn,fun _ _ _ hg=>.inl hg⟩⟩
theorem abn {v u:aj} {k:Nat} (h:v.ownBlock=u.ownBlock∨v.ownBlock=some k):∀g,v.ownBlock=some g->u.ownBlock=some g∨k<=g:=fun g e=>by
 rcases h with q | q
 ·exact .inl (q▸e)
 ·rw [q] at e;cases e;exact .inr (ax _)
theorem cK.Te {D:Nat} {d:aL} {vs:Nat->aj} {w w3:World} (h:cK D d vs w) {i:Nat} (hi:i<2) {v:aj} {b:List UInt8} (ho:w3.ownsRow (D+1) 5 1 v b.length (eW b)) (hg:w.grownBy w3 (vs i).ownBlock)
 (hw:∀g,v.ownBlock=some g->(vs i).ownBlock=some g∨w.heap.size<=g) (hl:b.length<=1500):
 cK D {d with b:=aE d.b i b} (aE vs i v) (w3.setCell ⟨D,i * 2,none⟩ v)∧jh D vs (aE vs i v) w (w3.setCell ⟨D,i * 2,none⟩ v):=by
 have hD:w3.heap[D]? =w.heap[D]?:=hg.block D h.lt (fun e=>(Ab h hi e.symm).1 rfl);have hv:∀j,j<2->j≠i->∀g,(vs j).ownBlock=some g->w3.heap[g]? =w.heap[g]?:=fun j hj hji g hgj=>hg.block g (Ab h hj hgj).2 (fun e=>h.sep j i hj hi hji g hgj e.symm);have hvD:∀g,v.ownBlock=some g->g≠D:=fun g e=>by have:=(aR ho g e).1;omega
 have hfr:∀j,j<2->∀g,(aE vs i v j).ownBlock=some g->(vs j).ownBlock=some g∨w.heap.size<=g:=fun j hj g e=>by
  by_cases hji:j=i
  ·subst hji;rw [cq] at e;exact hw g e
  ·rw [bp _ _ _ _ hji] at e;exact .inl e
 refine ⟨⟨by rw [fW];exact dB h.lt hg.size,fun j=>by rw [oO];exact (fS hD).trans (h.fz j),fun j hj=>?_,fun j hj=>(cZ (by omega)).trans ((aP hD).trans (h.last j hj)),(cZ (by omega)).trans ((aP hD).trans h.tr),(cZ (by omega)).trans ((aP hD).trans h.wk),fun j hj=>?_,fun j hj=>?_,fun j k hj hk hjk g e1 e2=>?_,h.Hv⟩,
  ⟨?_,fun g hgl hn2 hv2=>(bB hn2).trans (hg.block g hgl (fun e=>hv2 i hi e.symm)),hfr⟩⟩
 ·by_cases hji:j=i
  ·subst hji;rw [cq];exact qj _ _ _ ((aP hD).trans (h.bytes j hj))
  ·rw [bp _ _ _ _ hji];exact (cZ (by omega)).trans ((aP hD).trans (h.bytes j hj))
 ·by_cases hji:j=i
  ·subst hji;show uP _ _ _ _ (aE vs j v j) (aE d.b j b j).length (eW (aE d.b j b j))
   rw [cq,cq];exact dz ho (fun g e=>bB (hvD g e))
  ·show uP _ _ _ _ (aE vs i v j) (aE d.b i b j).length (eW (aE d.b i b j))
   rw [bp _ _ _ _ hji,bp _ _ _ _ hji];exact dz (h.own j hj) (fun g e=>(bB (Ab h hj e).1).trans (hv j hj hji g e))
 ·by_cases hji:j=i
  ·subst hji;show (aE d.b j b j).length<=1500
   rw [cq];exact hl
  ·show (aE d.b i b j).length<=1500
   rw [bp _ _ _ _ hji];exact h.len j hj
 ·by_cases hji:j=i
  ·subst hji;rw [cq] at e1;rw [bp _ _ _ _ (Ne.symm hjk)] at e2;rcases hw g e1 with q | q
   ·exact h.sep j k hj hk hjk g q e2
   ·have:=(Ab h hk e2).2;omega
  ·rw [bp _ _ _ _ hji] at e1;by_cases hki:k=i
   ·subst hki;rw [cq] at e2;rcases hw g e2 with q | q
    ·exact h.sep j k hj hk hjk g e1 q
    ·have:=(Ab h hj e1).2;omega
   ·rw [bp _ _ _ _ hki] at e2;exact h.sep j k hj hk hjk g e1 e2
 ·refine (((aA D w).grown hg (iP h.lt) (fun q hq=>by have:=(Ab h hi hq).1;have:=(aR (h.own i hi) q hq).1;omega))).setCell (p:=⟨D,i * 2,none⟩) (ax _) _
theorem cK.Tf {D:Nat} {d:aL} {vs:Nat->aj} {w:World} (h:cK D d vs w) {i:Nat} (hi:i<2) (n:Nat):cK D {d with n:=aE d.n i n} vs (w.setCell ⟨D,i * 2+1,none⟩ (.int .i64 (n:Int)))∧jh D vs vs w (w.setCell ⟨D,i * 2+1,none⟩ (.int .i64 (n:Int))):=by
 refine ⟨⟨by rw [fW];exact h.lt,fun j=>by rw [oO];exact h.fz j,fun j hj=>(cZ (by omega)).trans (h.bytes j hj),fun j hj=>?_,(cZ (by omega)).trans h.tr,(cZ (by omega)).trans h.wk,fun j hj=>dz (h.own j hj) (fun g hg=>bB (Ab h hj hg).1),h.len,h.sep,h.Hv⟩,⟨(aA _ _).setCell (p:=⟨D,i * 2+1,none⟩) (ax _) _,fun g _ hn _=>bB hn,fun _ _ _ hg=>.inl hg⟩⟩
 ·by_cases hji:j=i
  ·subst hji;show _=some (cI .i64 ((aE d.n j n j:Nat):Int))
   rw [cq];exact qj _ _ _ (h.last j hj)
  ·show _=some (cI .i64 ((aE d.n i n j:Nat):Int))
   rw [bp _ _ _ _ hji];exact (cZ (by omega)).trans (h.last j hj)
end
end Go.Proofs.YtmmflekajbeamaaGreatDoor
