/- Texts of ours, joined, in few bytes. -/
import Derived.Test.YtmmflekajbeamaaGreatDoorE14
open ByteArray renaming size_extract->rP
open Go.ByteArray renaming toList_eq->Cm
open Go renaming Calls->av,TypeId->cE,Value->aj,below_drewN->dH,heap_alloc_new->bg,maxLen->cP
open Go.IntKind renaming wrap_i64->AJ
open Go.Proofs.Tryz renaming prog->au
open Go.RowKit renaming Below->ak
open Go.RowKit.Below renaming heap_alloc->cM,refl->aA
open Go.Value renaming int->cI,slice->mQ
open Go.World renaming cell?_of_block->aP,frozen?_of_block->fS,news_of_block->mP
open Int renaming le_refl->JE,natCast_nonneg->Nd
open List renaming drop_drop->Ns,drop_zero->iE,getElem?_append_left->jN,getElem?_append_right->lD,getElem?_eq_none->lE,getElem?_map->iX,getElem?_set->rN,length_append->dK,length_cons->jM,length_drop->om,length_map->jV,length_take->ny,mem_of_getElem?->oK,set_append_right->tY,take_of_length_le->mO
open Nat renaming le_of_lt->iP,le_refl->ax,le_trans->aT,lt_of_lt_of_le->dB,lt_or_ge->oM,sub_self->tV,zero_le->bK
open Option renaming map_some->AO
open Option.some renaming injEq->Ci
open Prod.mk renaming injEq->vU
namespace Go.Proofs.YtmmflekajbeamaaGreatDoor
set_option maxRecDepth 100000
set_option maxHeartbeats 4000000
open Go.RowKit
theorem alV (s p:ByteArray) (w:World) (hs:s.size<=cP) (hp:p.size<=cP):
 av au 119 #[.string s,.string p] w fun e' w'=>ak w.heap.size w w'∧∃n,e'= .returned (.int .i64 n)∧tD s p n:=by
 by_cases hok:gi s
 ·have uw:=af (TN s w hok);have jt:=af (ajQ p w hp);have vg:=af (fun w'=>alG s w' hok);have fK:=af hok;clear hok;go_enter Tryz.func119,Tryz.ntmps119;go_wp2_with fail
  refine (aq uw).mono ?_;rintro e w' ⟨rfl,hw⟩;obtain rfl:=hw.symm;go_wp2_with fail
  refine (aq jt).mono ?_;rintro e w1 ⟨hb1,⟨hpk,pv,rfl,vp⟩ | ⟨zY,rfl⟩⟩
  ·have aJ:=af hb1;have fj:=af hpk;have pY:=af vp;have hz1:=hb1.size;clear hb1 hpk vp jt uw;go_wp2_with fail
   refine (aq vg _).mono ?_;rintro e w2 ⟨hb2,v2,rfl,Af⟩;have Ii:w2.ownsRow w.heap.size 123 5 pv (dO p (p.size / 8)).length (dM (dO p (p.size / 8))):=by rw [GA];exact dX pY.out hb2
   have Bn:=af (alB w.heap.size pv (dO p (p.size / 8)) w2 Ii (GB fj.out) (by rw [GA];have:=fj.out.2.1;omega));have aZ:=af hb2;have nN:=af Af;have hz2:=hb2.size;clear hb2 Af Ii vg;go_wp2_with fail
   refine (aq Bn).mono ?_;rintro e w3 ⟨bn,v3,rfl,oX⟩;have iM:Hid (ak w.heap.size w w3):=(aJ.out.trans (aZ.out.mono hz1)).trans (bn.mono (aT hz1 hz2));have T8:=dX nN.out bn;obtain ⟨g2,c2,rfl,_,jx⟩:=T8.form (by decide);obtain ⟨g3,c3,rfl,_,qw⟩:=oX.form (by decide);have HX:=af (fun (i:Nat) (hi:i<16)=>(T8.cellAt i (by omega)).trans (TM (gI (dD s)) i (by rw [zH];exact hi)));have HY:=af (fun (i:Nat) (hi:i<16)=>(oX.cellAt i (by omega)).trans (TM (gI (dO p (p.size / 8))) i (by rw [zH];exact hi)));clear bn oX T8 Bn nN;go_wp2_with fail
   go_loopw [10] (fun i wr=>∃k:Nat,k<=8∧i= .int .i64 k∧ak w3.heap.size w3 wr∧Hid (∀q,q<k->(gI (dD s)).getD q []=(gI (dO p (p.size / 8))).getD q [])) (fun i _=>8 - (intOf i).toNat)
   case atStart=>exact ⟨0,bK _,rfl,aA _ _,fun q hq=>by omega⟩
   case round=>
    obtain ⟨k,hk,rfl,hbl,HG⟩:=hrel;have bU:=af hbl;by_cases hlt:k<8
    ·have hlt':(k:Int)<8:=by omega
     have av0:(k:Int)<16:=by omega
     have x0:=(dZ hbl g2 k jx).trans (HX.out k (by omega));have y0:=(dZ hbl g3 k qw).trans (HY.out k (by omega));by_cases he:(gI (dD s)).getD k []=(gI (dO p (p.size / 8))).getD k []
     ·rw [<-he] at y0;have TQ:Hid (∀q,q<k+1->(gI (dD s)).getD q []=(gI (dO p (p.size / 8))).getD q []):=fun q hq=>by
       by_cases hqk:q=k
       ·rw [hqk];exact he
       ·exact HG.out q (by omega)
      generalize ah ((gI (dD s)).getD k [])=D at *;clear he HG hbl;go_wp2_with fail
      go_quiet (fail)
      go_wp2_with fail
      exact ⟨⟨k+1,by omega,by go_num,dH bU.out nq,TQ⟩,by simp [intOf];omega⟩
     ·have HN:Hid (¬(gI (dD s)).take 8=(gI (dO p (p.size / 8))).take 8):=fun h=>he ((Ea [] (by rw [zH];decide) (by rw [zH];decide)).1 h k hlt);have hne:((ah ((gI (dD s)).getD k [])).toList == (ah ((gI (dO p (p.size / 8))).getD k [])).toList)=false:=by
       rw [Cm,Cm,GL,GL];exact beq_eq_false_iff_ne.2 he
      generalize ah ((gI (dD s)).getD k [])=D at *;generalize ah ((gI (dO p (p.size / 8))).getD k [])=D' at *;clear he HG hbl;go_wp2_with fail
      go_quiet (fail)
      go_wp2_with fail
      go_ret;exact ⟨iM.out.trans ((dH bU.out nq).mono iM.out.size),_,rfl,.inr (.inr (.inr ⟨fK.out,fj.out,HN.out,rfl⟩))⟩
    ·have hkn:k=8:=by omega
     have hlt':¬(k:Int)<8:=by omega
     have HY':Hid ((gI (dD s)).take 8=(gI (dO p (p.size / 8))).take 8):=(Ea [] (by rw [zH];decide) (by rw [zH];decide)).2 (fun i hi=>HG.out i (by omega));clear hbl hkn;go_wp2_with fail
     go_ret;exact ⟨iM.out.trans (bU.out.mono iM.out.size),_,rfl,.inr (.inr (.inl ⟨fK.out,fj.out,HY'.out,rfl⟩))⟩
  ·have aJ:=af hb1;have HN:=af zY;clear hb1 zY jt uw;go_wp2_with fail
   go_ret;exact ⟨aJ.out,_,rfl,.inr (.inl ⟨fK.out,HN.out,rfl⟩)⟩
 ·have uw:=af (TP s w hok hs);have HN:=af hok;clear hok;go_enter Tryz.func119,Tryz.ntmps119;go_wp2_with fail
  refine (aq uw).mono ?_;rintro e w' ⟨rfl,hw⟩;obtain rfl:=hw.symm;go_wp2_with fail
  go_ret;exact ⟨aA _ _,_,rfl,.inl ⟨HN.out,rfl⟩⟩
theorem ab8 (off:Nat):∀(l:List aj) (i:Nat) (cs:Array aj),off+i+l.length<=cs.size->((l.zipIdx i).foldl (fun cs x=>cs.setIfInBounds (off+x.2) x.1) cs).size=cs.size∧∀j:Nat,((l.zipIdx i).foldl (fun cs x=>cs.setIfInBounds (off+x.2) x.1) cs)[j]? =if off+i<=j∧j<off+i+l.length then l[j - (off+i)]? else cs[j]?:=by
 intro l
 induction l with
 | nil=>intro i cs _;exact ⟨rfl,fun j=>by rw [if_neg (by simp only [List.length_nil];omega)];rfl⟩
 | cons v l ih=>
   intro i cs h;rw [jM] at h;obtain ⟨h1,h2⟩:=ih (i+1) (cs.setIfInBounds (off+i) v) (by rw [Array.size_setIfInBounds];omega);rw [List.zipIdx_cons,List.foldl_cons];refine ⟨by rw [h1,Array.size_setIfInBounds],fun j=>?_⟩;rw [h2,jM];by_cases hj:j=off+i
   ·subst hj;rw [if_neg (by omega),if_pos (by omega),tV,Array.getElem?_setIfInBounds,if_pos rfl,if_pos (by omega)];rfl
   ·by_cases hj2:off+(i+1)<=j∧j<off+(i+1)+l.length
    ·rw [if_pos hj2,if_pos (by omega),show j - (off+i)=(j - (off+(i+1)))+1 by omega,List.getElem?_cons_succ]
    ·rw [if_neg hj2,if_neg (by omega),Array.getElem?_setIfInBounds,if_neg (fun e=>hj e.symm)]
def mV (off:Nat) (v cs:Array aj):Array aj:=v.zipIdx.foldl (fun cs x=>cs.setIfInBounds (off+x.2) x.1) cs
theorem ab9 (off:Nat) (v cs:Array aj):mV off v cs=(v.toList.zipIdx 0).foldl (fun cs x=>cs.setIfInBounds (off+x.2) x.1) cs:=by
 unfold mV;rw [<-Array.foldl_toList,Array.toList_zipIdx]
theorem Ag (off:Nat) (v cs:Array aj) (h:off+v.size<=cs.size):(mV off v cs).size=cs.size:=by
 rw [ab9];exact (ab8 off v.toList 0 cs (by simpa using h)).1
theorem Ij (off:Nat) (v cs:Array aj) (h:off+v.size<=cs.size) (j:Nat):(mV off v cs)[j]? =if off<=j∧j<off+v.size then v[j - off]? else cs[j]?:=by
 rw [ab9,(ab8 off v.toList 0 cs (by simpa using h)).2 j];simp



theorem alX (N:Nat) (w:World) (c0:w.cell? ⟨N,0,none⟩=some (.slice none 0 0)):
 av au 38 #[.pointer (some ⟨N,0,none⟩)] w fun e' w'=>e'= .returned (.bool true)∧w'=w:=by
 go_enter Tryz.func38,Tryz.ntmps38;go_wp2_with fail
 go_loop [3] (fun i=>i= .int .i64 0) (fun _=>0)
 case atStart=>rfl
 case round=>
  subst hrel;go_wp2_with fail
  go_ret;exact ⟨rfl,rfl⟩
theorem alY {w:World} {g:Nat} {t:cE} {z:List Int} (h:aK w g t z) (o k:Nat) (ho:o+k<=z.length):w.rangeAt g o (((z.drop o).take k).map (cI .i64)):=by
 intro j v hj;have hlt:=(List.getElem?_eq_some_iff.1 hj).1;simp only [jV,ny,om] at hlt;rw [h.cell (o+j) (by omega)];rw [iX,List.getElem?_take,if_pos (by omega),List.getElem?_drop] at hj;unfold gz;rw [List.getD_eq_getElem?_getD];cases hq:z[o+j]? with
 | none=>rw [hq] at hj;cases hj
 | some y=>rw [hq] at hj;exact hj
def Bv (a:cS) (q:List UInt8):Option cS:=if q≠[]∧1+4 * (q.getD 0 0).toNat<=q.length∧ox (ah ((q.drop 1).take (4 * (q.getD 0 0).toNat)))=true then some ⟨a.gen,a.whole,a.good+(q.length+8),a.list ++ [((q.drop 1).take (4 * (q.getD 0 0).toNat),q.drop (1+4 * (q.getD 0 0).toNat))]⟩ else none
theorem EU:∃i,Tryz.prog.info? 127=some i∧i.zero=some (.agg #[.string ⟨#[]⟩,.string ⟨#[]⟩])∧i.size=2∧i.bytes=32:=by
 have h:(Tryz.prog.info? 127).map (fun i=>(i.zero,i.size,i.bytes))=some (some (.agg #[.string ⟨#[]⟩,.string ⟨#[]⟩]),2,32):=by kernel_rfl
 cases hq:Tryz.prog.info? 127 with
 | none=>rw [hq] at h;cases h
 | some i=>
   rw [hq] at h;simp only [AO,Ci,vU] at h;exact ⟨i,rfl,h.1,h.2.1,h.2.2⟩
theorem alZ (D:ByteArray) (c:Nat) (h:1+c<=D.size):aC ((D.extract 1 D.size).extract 0 c)=((aC D).drop 1).take c∧aC ((D.extract 1 D.size).extract c (D.extract 1 D.size).size)=(aC D).drop (1+c):=by
 have hz:(D.extract 1 D.size).size=D.size - 1:=by rw [rP];omega
 refine ⟨?_,?_⟩
 ·rw [s9,s9,iE,Nat.sub_zero,List.take_take,Nat.min_eq_left (by omega)]
 ·rw [s9,s9,hz,List.drop_take,Ns,mO (by rw [ny,om,jr];omega),mO (by rw [om,jr];omega)]
theorem al0 (A:Nat) (a:cS) (v:aj) (K:Nat) (q:List UInt8) (n:Int) (w:World) (h:gM A a v w) (ht:bF w) (qn:q.length<=200) (hal:a.list.length<=2000000):
 av au 225 #[.pointer (some ⟨A,0,none⟩),.agg #[.int .i64 (K:Int),.string (ah q),.int .i64 n]] w (qA A a v (Bv a q) w):=by
 obtain ⟨inf,cJ,yx,cW,hby⟩:=EU;have gJ:=af cJ;have EV:=af yx;have dR:=af cW;have gK:=af hby;clear cJ yx cW hby;have hA:=h.lt;have fo:Hid (∀w',ak w.heap.size w w'->Bv a q=none->qA A a v (Bv a q) w (.returned (.bool false)) w'):=fun w' hb hr=>⟨qz.abl hA hb,.inr ⟨hr,rfl,h.above hb⟩⟩;have HR:Hid (¬(q≠[]∧1+4 * (q.getD 0 0).toNat<=q.length∧ox (ah ((q.drop 1).take (4 * (q.getD 0 0).toNat)))=true)->Bv a q=none):=fun hc=>if_neg hc;have HY:Hid ((q≠[]∧1+4 * (q.getD 0 0).toNat<=q.length∧ox (ah ((q.drop 1).take (4 * (q.getD 0 0).toNat)))=true)->Bv a q=some ⟨a.gen,a.whole,a.good+(q.length+8),a.list ++ [((q.drop 1).take (4 * (q.getD 0 0).toNat),q.drop (1+4 * (q.getD 0 0).toNat))]⟩):=fun hc=>if_pos hc;have KX:(ah q).size=q.length:=bZ q;have hc0:(q.getD 0 0).toNat=bt (ah q) 0:=by rw [<-CU];rfl
 have Pp:aC (ah q)=q:=kG q;have qG:q=[]->((ah q).toList == ([]:List UInt8))=true:=fun e=>by rw [e,Cm,GL];rfl
 have qH:q≠[]->((ah q).toList == ([]:List UInt8))=false:=Td;rw [hc0] at HR HY;generalize ah q=D at *;generalize Bv a q=R at *;have bM:=af ((aA w.heap.size w).alloc (ax _) (.cells #[.int .i64 (K:Int),.string D,.int .i64 n] 236));by_cases mW:q=[]
 ·have HN:=af (HR.out (fun hh=>hh.1 mW));have CV:=qG mW;clear Pp KX;go_enter Tryz.func225,Tryz.ntmps225;go_wp2_with fail
  go_ret;exact fo.out _ bM.out HN.out
 have CV:=qH mW;have uj:1<=q.length:=by cases q with | nil=>exact absurd rfl mW | cons _ _=>simp
 have hD0:0<D.size:=by omega
 have yw:=oW D 0 hD0;have hbl:=nM D 0;have hbz:(D.extract 1 D.size).size=q.length - 1:=by rw [rP];omega
 have v1:IntKind.i64.wrap (bt D 0:Int)=(bt D 0:Int):=by rw [AJ];omega
 have Hw:(1:Int)<=(D.size:Int):=by omega
 by_cases hcl:q.length<1+4 * bt D 0
 ·have HN:=af (HR.out (fun hh=>by have:=hh.2.1;omega));have hgt:(((D.extract 1 D.size).size:Nat):Int)<(bt D 0:Int) * 4:=by omega
  have HZ:=af hbz;have HZq:=af KX;clear hbz KX hc0 Pp qG qH HY;generalize bt D 0=c at *;go_enter Tryz.func225,Tryz.ntmps225;go_upto_region 3 with fail
  go_quiet (fail)
  have aJ:=af (dH bM.out nq);generalize (w.alloc (.cells #[.int .i64 (K:Int),.string D,.int .i64 n] 236)).drewN nq=w1 at *;generalize D.extract 1 D.size=Bh at *;go_wp2_with fail
  go_ret;exact fo.out _ aJ.out HN.out
 have hle:¬(((D.extract 1 D.size).size:Nat):Int)<(bt D 0:Int) * 4:=by omega
 have EN:(bt D 0:Int) * 4<=(((D.extract 1 D.size).size:Nat):Int):=by omega
 have v2:((bt D 0:Int) * 4).toNat=4 * bt D 0:=by omega
 have v3:(0:Int)<=(bt D 0:Int) * 4:=by omega
 obtain ⟨x1,x2⟩:=alZ D (4 * bt D 0) (by omega);rw [Pp] at x1 x2;have C6:((D.extract 1 D.size).extract 0 (4 * bt D 0)).size<=cP:=by rw [rP];unfold cP;omega
 have j9:=af (fun w' (hb:ak w.heap.size w w')=>Ow ((D.extract 1 D.size).extract 0 (4 * bt D 0)) w' (ht.below ht.pos hb) C6);have hPz:((D.extract 1 D.size).extract (4 * bt D 0) (D.extract 1 D.size).size).size<=2000000:=by rw [rP];omega
 have qD:=af (fun w'=>alo ((D.extract 1 D.size).extract (4 * bt D 0) (D.extract 1 D.size).size) w' hPz);have HZ:=af hbz;have HZq:=af KX;have Ik:=af x1;have HU:=af x2;have HQe:=af mW;have al5:=af hcl;clear hbz KX hc0 Pp qG qH x1 x2 mW hcl;generalize bt D 0=c at *;go_enter Tryz.func225,Tryz.ntmps225;go_upto_region 3 with fail
 go_quiet (fail)
 have aJ:=af (dH bM.out nq);generalize (w.alloc (.cells #[.int .i64 (K:Int),.string D,.int .i64 n] 236)).drewN nq=w1 at *;generalize D.extract 1 D.size=Bh at *;go_wp2_with fail
 refine (aq j9 _ aJ.out).mono ?_;rintro e w2 ⟨hb2,⟨hok,rfl⟩ | ⟨hno,rfl⟩⟩
 rotate_left
 ·have HN:Hid (R=none):=HR.out (fun hh=>hno (by
   have:=(zN _).1 hh.2.2;rw [<-Ik.out,nK] at this
   exact this))
  have aZ:Hid (ak w.heap.size w w2):=aJ.out.trans (hb2.mono aJ.out.size);have iM:Hid (ak w.heap.size w (w2.alloc (.cells (S (aD [])) 187))):=aZ.out.alloc aZ.out.size _;have z9:=Ey;clear hb2 hno j9 qD;go_wp2_with (refine pU iT rfl _ _ rfl w2.heap.size rfl (aD []) rfl rfl (by rw [kV _ _ _ _ _ rfl];rfl) _ (sQ _ _ _ _ _ rfl) ?_)
  go_ret;exact fo.out _ iM.out HN.out
 have lQ:(dV (Bh.extract 0 (4 * c)) ((Bh.extract 0 (4 * c)).size / 4)).length<=8:=by rw [qx];have:=hok.2.1;omega
 have je:=G8 (Bh.extract 0 (4 * c)) ((Bh.extract 0 (4 * c)).size / 4);have vv:=af (fun w'=>OE (dV (Bh.extract 0 (4 * c)) ((Bh.extract 0 (4 * c)).size / 4)) w' lQ je);rw [abU hok.2.2.1] at vv;have hzl:=nT lQ;have HRs:Hid (R=some ⟨a.gen,a.whole,a.good+(q.length+8),a.list ++ [(aC (Bh.extract 0 (4 * c)),aC (Bh.extract (4 * c) Bh.size))]⟩):=by
  unfold Hid;rw [Ik.out,HU.out];refine HY.out ⟨HQe.out,by have:=al5.out;omega,(zN _).2 ?_⟩;rw [<-Ik.out,nK];exact hok
 have aZ:Hid (ak w.heap.size w w2):=aJ.out.trans (hb2.mono aJ.out.size);have iM:Hid (ak w.heap.size w (w2.alloc (.cells (S (aD (dV (Bh.extract 0 (4 * c)) ((Bh.extract 0 (4 * c)).size / 4)))) 187))):=aZ.out.alloc aZ.out.size _;have Bj:Hid (aK (w2.alloc (.cells (S (aD (dV (Bh.extract 0 (4 * c)) ((Bh.extract 0 (4 * c)).size / 4)))) 187)) w2.heap.size 187 (aD (dV (Bh.extract 0 (4 * c)) ((Bh.extract 0 (4 * c)).size / 4)))):=bg w2 _;have z9:=Ey;have hz2:=aZ.out.size;clear hb2 hok j9 HR HY Ik HU lQ je;generalize aD (dV (Bh.extract 0 (4 * c)) ((Bh.extract 0 (4 * c)).size / 4))=zw at *;go_wp2_with (refine pU iT rfl _ _ rfl w2.heap.size rfl zw rfl hzl (by rw [kV _ _ _ _ _ rfl];rfl) _ (sQ _ _ _ _ _ rfl) ?_)
 refine (aq qD _).mono ?_;rintro e w4 ⟨rfl,fZ⟩;have uh:=fZ.size;rw [aB] at uh;have mU:Hid (ak w.heap.size w w4):=iM.out.trans (fZ.mono (by rw [aB];omega));have a4:=h.above mU.out;have r4:=Bj.out.keep (fZ.block _ (by rw [aB];omega));have Pq:=af r4;have c3:w4.cell? ⟨A,3,none⟩=some v:=a4.cell 3;have CR:=af a4;clear fZ a4 r4 qD;go_upto_region 10 with fail
 refine Ti [0,1,2,3,4,5,7] [6,8,9,10,11,12,13] 11 (fun w'=>w'.cell? ⟨A,3,none⟩=some v∧aK w' w2.heap.size 187 zw) (by kernel_rfl) (by kernel_rfl) (fun d _ _ _ _ h=>by cases d<;>exact h) ⟨c3,Pq.out⟩ ?_
 iterate 5
  refine l7 ?_ rfl rfl ?_ ?_
  rotate_left
  ·rintro w' ⟨d0,d1⟩;go_simp;rfl
  go_simp
 refine ⟨_,.agg (S zw),rfl,yieldsIf_load_mid rfl 187 _ rfl w2.heap.size 0 rfl (zw.map (cI .i64)) _ (fun w' hS=>by have:=alY hS.2 0 9 (by omega);rw [iE,mO (by omega)] at this;exact this) Tryz.underlying187 rfl (by rw [iT,jV,hzl]),?_⟩;go_simp;refine l7 ?_ rfl rfl ?_ ?_
 rotate_left
 ·rintro w' ⟨d0,d1⟩;go_simp;rfl
 go_simp;refine sj ?_;refine gA rfl rfl (fun K hK=>?_);go_simp;refine (aq vv _).mono ?_;rintro e w5 ⟨rfl,fD⟩;rw [nK];have jS:Hid (ak w4.heap.size w4 w5):=(show ak w4.heap.size w4 w4.drew from (aA _ w4).drew).trans fD;have hA4:A<w4.heap.size:=by have:=mU.out.size;omega
 have a5:=CR.out.above jS.out;have EW:=af a5;have c5:w5.cell? ⟨A,3,none⟩=some v:=a5.cell 3;have Pt:=af (Pq.out.keep (jS.out.block _ (by omega)));refine hK _ _ (fun _=>⟨c5,Pt.out⟩) ?_;clear hK K fD a5 vv;refine gA rfl rfl (fun K hK=>?_);go_simp;refine hK _ _ (fun _=>⟨c5,Pt.out⟩) ?_;clear hK K;have xj:=jS.out.size;have C8:=af h.list;refine gA rfl rfl (fun K hK=>?_);go_simp;refine hK _ _ (fun _=>⟨(aP (cM w5 _ A (by omega))).trans c5,Pt.out.keep (cM w5 _ _ (by omega))⟩) ?_;clear hK K;refine gA rfl rfl (fun K hK=>?_);refine wp_append_lies _ _ _ 57 rfl (A+1) 127 inf _ 2 32 Tryz.underlying57 gJ.out EV.out dR.out gK.out rfl (by decide) v a.list.length (bR a.list) rfl (EW.out.list.alloc _) ⟨w5.heap.size,0,none⟩ 1 1 [.string (Bh.extract 0 (4 * c)),.string (Bh.extract (4 * c) Bh.size)] rfl rfl (mP (bg w5 _)) (fun u hu=>by simp at hu;rcases hu with rfl | rfl<;>rfl) (by decide) (by unfold cP;omega) (by omega) (by show A+1<=(w5.alloc _).heap.size;rw [aB];omega) (w5.heap.size+1) (by show (w5.alloc _).heap.size=_;rw [aB]) ?_;intro g cap w6 Il hgr hat Pv;have yA:w6.heap[A]? =w5.heap[A]?:=(hgr.block A (by show A<(w5.alloc _).heap.size;rw [aB];omega) (fun e=>by have:=(aR C8.out A e.symm).1;omega)).trans (cM w5 _ A (by omega));have iU:w6.heap[w2.heap.size]? =w5.heap[w2.heap.size]?:=(hgr.block _ (by show w2.heap.size<(w5.alloc _).heap.size;rw [aB];omega) (fun e=>by have:=(aR C8.out _ e.symm).2;omega)).trans (cM w5 _ _ (by omega));have c6:w6.cell? ⟨A,3,none⟩=some v:=(aP yA).trans c5;have f6:w6.frozen? ⟨A,3,none⟩=false:=(fS yA).trans (EW.out.frozen 3);refine hK _ _ (fun _=>⟨c6,Pt.out.keep iU⟩) ?_;have Ah:=af Il;have j8:=af hgr;have wR:=af hat;have T9:=af yA;have HLt:=af Pv;clear Il hgr hat hK K yA iU Pv;refine gA rfl rfl (fun K hK=>?_);go_simp;refine hK _ _ (fun h=>absurd h (by decide)) ?_;clear hK K;refine gA rfl rfl (fun K hK=>?_);go_simp;refine hK _ _ (fun h=>absurd h (by decide)) ?_;clear hK K;refine gA rfl rfl (fun K hK=>?_);go_simp;refine hK _ _ (fun h=>absurd h (by decide)) ?_;clear hK K;refine wY ?_;go_wp2_with fail
 go_ret;have hzz:w.heap.size<=w4.heap.size:=mU.out.size;have B5:ak w.heap.size w w5:=mU.out.trans (jS.out.mono hzz);have BA:ak A w w6:=((B5.mono (iP hA)).alloc (by omega) _).grown j8.out (by rw [aB];omega) (fun q hq=>by have:=(aR C8.out q hq).1;omega);refine ⟨⟨BA.setCell (p:=⟨A,3,none⟩) (ax _) _,fun g' hg hn ho=>?_⟩,.inl ⟨_,.slice (some ⟨g,0,none⟩) (a.list.length+1) cap,HRs.out,rfl,⟨?_,?_⟩,fun g' hg'=>?_⟩⟩
 ·refine (dU _ _ hn).trans (((j8.out.block g' (by rw [aB];omega) (fun e=>ho e.symm)).trans (cM w5 _ _ (by omega))).trans (B5.block g' hg))
 ·have Ua:w6.heap[A]? =some (.cells (bJ a.gen a.whole a.good v) 175 (0,0)):=T9.out.trans EW.out.cells;obtain ⟨hlt,hk⟩:=Array.getElem?_eq_some_iff.1 Ua;show (w6.heap.modify A _)[A]? =_
  rw [Array.getElem?_eq_getElem (by rw [Array.size_modify];exact hlt),Array.getElem_modify_self,hk];rfl
 ·have e:bR (a.list ++ [(aC (Bh.extract 0 (4 * c)),aC (Bh.extract (4 * c) Bh.size))])=bR a.list ++ [.string (Bh.extract 0 (4 * c)),.string (Bh.extract (4 * c) Bh.size)]:=by rw [Ta,nK,nK]
  show World.ownsRow _ _ _ _ _ (a.list ++ [_]).length (bR (a.list ++ [_]))
  rw [e,dK];refine dz Ah.out (fun g' hg'=>dU _ _ (fun e=>?_));have:=(aR Ah.out g' hg').1;omega
 ·have hgg:g=g':=by simpa [Value.ownBlock] using hg'
  subst hgg;rcases wR.out with h | h
  ·exact .inl h
  ·exact .inr (by omega)
def gT (D:ByteArray):List aj:=[.string MARK,.string D]
theorem Ub (D:ByteArray):∀u∈gT D,u.oneCell'=true:=fun u hu=>by simp [gT] at hu;rcases hu with rfl | rfl<;>rfl
theorem al7 (D:ByteArray) (xs:List aj) (n k:Nat) (hl:xs.length=n * 2) (hk:k<n):
 ((fu (gT D) k ++ xs.drop (k * 2)).set (k * 2) (.string MARK)).set (k * 2+1) (.string D)=fu (gT D) (k+1) ++ xs.drop ((k+1) * 2):=by
 have hg:(fu (gT D) k).length=k * 2:=KS rfl k;obtain ⟨a,b,r,hr⟩:∃a b r,xs.drop (k * 2)=a :: b :: r:=by
  have h5:2<=(xs.drop (k * 2)).length:=by rw [om];omega
  match xs.drop (k * 2),h5 with
  | a :: b :: r,_=>exact ⟨a,b,r,rfl⟩
 have eS:xs.drop ((k+1) * 2)=r:=by
  rw [show (k+1) * 2=k * 2+2 by omega,<-Ns,hr];rfl
 rw [hr,eS,<-TB k 1,show fu (gT D) 1=gT D from by simp [fu]];generalize fu (gT D) k=G at hg⊢
 subst_vars
 rw [<-hg];rw [tY _ _ (by omega),tY _ _ (by omega),List.append_assoc];simp only [tV,Nat.add_sub_cancel_left];rfl
theorem al8:∃i,Tryz.prog.info? 57=some i∧i.zero=some (.slice none 0 0)∧i.size=1∧i.bytes=24:=by
 have h:(Tryz.prog.info? 57).map (fun i=>(i.zero,i.size,i.bytes))=some (some (.slice none 0 0),1,24):=by kernel_rfl
 cases hq:Tryz.prog.info? 57 with
 | none=>rw [hq] at h;cases h
 | some i=>
   rw [hq] at h;simp only [AO,Ci,vU] at h;exact ⟨i,rfl,h.1,h.2.1,h.2.2⟩
theorem Pw {D:ByteArray} {w:World} {b:Nat} (h:uq 127 (gT D) w b):w.cell? ⟨b,0,none⟩=some (.string MARK)∧w.cell? ⟨b,1,none⟩=some (.string D):=⟨h.cell 0,h.cell 1⟩
abbrev C9 (N:Nat) (vs:List aj) (vi:aj) (w:World):Prop:=Ad 2 57 127 2 Ig N vs vi w
theorem al9 (N:Nat) (w:World) (c1:w.cell? ⟨N,1,none⟩=some (.slice none 0 0)):
 av au 39 #[.pointer (some ⟨N,0,none⟩)] w fun e' w'=>e'= .returned (.bool true)∧w'=w:=by
 go_enter Tryz.func39,Tryz.ntmps39;go_wp2_with fail
 go_loop [3] (fun i=>i= .int .i64 0) (fun _=>0)
 case atStart=>rfl
 case round=>
  subst hrel;go_wp2_with fail
  go_ret;exact ⟨rfl,rfl⟩
theorem ama (p:Pr) (m:Nat) (k on a b:Int) (s t:ByteArray) (z:List Int) (w:World) (h:eH p m w) (hm:m<=1152921504606846976) (hs:s.size<=140737488351232) (ha:a<=9223372036854775807):
 av au 34 #[.agg (fI p),.agg (aV k on a b s t z)] w (C4 k s p m w):=by
 by_cases h1:k=21
 ·subst h1;exact ak9 p m on a b s t z w h hm hs
 by_cases h2:k=22
 ·subst h2;exact ala p m on a b s t z w h hm
 by_cases h3:k=23
 ·subst h3;exact alb p m on a b s t z w h hm
 by_cases h4:k=24
 ·subst h4;exact alc p m on a b s t z w h hm
 by_cases h5:k=25
 ·subst h5;exact ald p m on a b s t z w h hm ha
 by_cases h6:k=26
 ·subst h6;exact ale p m on a b s t z w h hm hs
 exact alf p m k on a b s t z w h (by omega)
def vz (ps:List Pr):List aj:=(ps.map fun p=>(fI p).toList).flatten
theorem amb (ps qs:List Pr):vz (ps ++ qs)=vz ps ++ vz qs:=by simp [vz]
structure ko (N:Nat) (cv:Nat->aj) (ps:List Pr) (sv:aj) (m:Nat) (w:World):Prop where
 lt:N<w.heap.size
 fz:∀j,w.frozen? ⟨N,j,none⟩=false
 bk:∀j,j<5->j≠3->w.cell? ⟨N,j,none⟩=some (cv j)
 st:w.cell? ⟨N,3,none⟩=some sv
 own:w.ownsRow (N+1) 83 2 sv ps.length (vz ps)
 pr:∀(i:Nat) (p:Pr),ps[i]? =some p->eH p m w∧N<p.D
 sep:∀(i j:Nat) (p q:Pr),ps[i]? =some p->ps[j]? =some q->i≠j->∀g,p.has g->¬q.has g
 row:∀(i:Nat) (p:Pr),ps[i]? =some p->∀g,p.has g->sv.ownBlock≠some g
 nt:∃cur,w.heap[N]? =some (.cells cur 49 (0,0))
theorem acd {w:World} {N j:Nat} {v:aj} {t:cE} (h:∃cur,w.heap[N]? =some (.cells cur t (0,0))):∃cur,(w.setCell ⟨N,j,none⟩ v).heap[N]? =some (.cells cur t (0,0)):=by
 obtain ⟨c,q⟩:=h;exact ⟨_,by simp [World.setCell,Array.getElem?_modify,q];rfl⟩
theorem KY {w w':World} {N:Nat} {t:cE} (e:w'.heap[N]? =w.heap[N]?) (h:∃cur,w.heap[N]? =some (.cells cur t (0,0))):∃cur,w'.heap[N]? =some (.cells cur t (0,0)):=by
 obtain ⟨c,q⟩:=h;exact ⟨c,e.trans q⟩
structure Ai (N:Nat) (ps ps':List Pr) (sv eZ:aj) (w w':World):Prop where
 below:ak N w w'
 other:∀g,g<w.heap.size->g≠N->sv.ownBlock≠some g->(∀(i:Nat) (p:Pr),ps[i]? =some p->¬p.has g)->w'.heap[g]? =w.heap[g]?
 row:∀g,eZ.ownBlock=some g->sv.ownBlock=some g∨w.heap.size<=g
 Uc:∀(i:Nat) (p':Pr),ps'[i]? =some p'->(∃p,ps[i]? =some p∧p'.X=p.X∧p'.D=p.D∧p'.R=p.R∧Lk p p'∧∀g,p'.has g->p.has g∨w.heap.size<=g)∨(ps[i]? =none∧∀g,p'.has g->w.heap.size<=g)
theorem Lk.refl (p:Pr):Lk p p:=.inl ⟨rfl,rfl,rfl⟩
theorem Ai.refl (N:Nat) (ps:List Pr) (sv:aj) (w:World):Ai N ps ps sv sv w w:=⟨aA _ _,fun _ _ _ _ _=>rfl,fun _ h=>.inl h,fun _ p h=>.inl ⟨p,h,rfl,rfl,rfl,Lk.refl p,fun _ q=>.inl q⟩⟩
theorem Ai.from {N:Nat} {ps ps':List Pr} {sv eZ:aj} {w w1 w2:World} (hN:N<w.heap.size) (hb:ak w.heap.size w w1) (k:Ai N ps ps' sv eZ w1 w2):Ai N ps ps' sv eZ w w2:=by
 refine ⟨(hb.mono (iP hN)).trans k.below,fun g hg h1 h2 h3=>(k.other g (dB hg hb.size) h1 h2 h3).trans (hb.block g hg),fun g hg=>(k.row g hg).imp id (aT hb.size),fun i p' hp=>?_⟩;rcases k.Uc i p' hp with ⟨p,a1,a2,a3,a4,a5,a6⟩ | ⟨a1,a2⟩
 ·exact .inl ⟨p,a1,a2,a3,a4,a5,fun g q=>(a6 g q).imp id (aT hb.size)⟩
 ·exact .inr ⟨a1,fun g q=>aT hb.size (a2 g q)⟩
theorem amc:∃i,Tryz.prog.info? 83=some i∧i.zero=some (.agg #[.pointer none,.pointer none])∧i.size=2∧i.bytes=16:=by
 have h:(Tryz.prog.info? 83).map (fun i=>(i.zero,i.size,i.bytes))=some (some (.agg #[.pointer none,.pointer none]),2,16):=by kernel_rfl
 cases hq:Tryz.prog.info? 83 with
 | none=>rw [hq] at h;cases h
 | some i=>
   rw [hq] at h;simp at h;exact ⟨i,rfl,h.1,h.2.1,h.2.2⟩
theorem ko.up {N:Nat} {cv:Nat->aj} {ps:List Pr} {sv:aj} {m:Nat} {w w':World} (h:ko N cv ps sv m w) (hb:ak w.heap.size w w'):ko N cv ps sv m w':=by
 have hN:=hb.block N h.lt;exact ⟨dB h.lt hb.size,fun j=>(fS hN).trans (h.fz j),fun j hj hj3=>(aP hN).trans (h.bk j hj hj3),(aP hN).trans h.st,dX h.own hb,fun i p hp=>⟨(h.pr i p hp).1.up hb.size (fun g hg=>hb.block g ((h.pr i p hp).1.lt g hg)),(h.pr i p hp).2⟩,h.sep,h.row,KY hN h.nt⟩
theorem ko.push {N:Nat} {cv:Nat->aj} {ps:List Pr} {sv v:aj} {m:Nat} {w w3:World} {p:Pr} {n:Nat} (h:ko N cv ps sv m w) (hn:w.heap.size=n) (hp:eH p m w) (Px:N<p.D) (hf:∀q∈ps,∀g,q.has g->¬p.has g) (hfr:∀g,p.has g->sv.ownBlock≠some g)
 (ho:w3.ownsRow (N+1) 83 2 v (ps.length+1) (vz ps ++ (fI p).toList)) (hg:w.grownBy w3 sv.ownBlock) (hv:sv.ownBlock=v.ownBlock∨v.ownBlock=some n):
 ko N cv (ps ++ [p]) v m (w3.setCell ⟨N,3,none⟩ v)∧ak N w (w3.setCell ⟨N,3,none⟩ v):=by
 have hN:w3.heap[N]? =w.heap[N]?:=hg.block N h.lt (fun e=>by have:=(aR h.own N e.symm).1;omega);have hall:∀(i:Nat) (q:Pr),(ps ++ [p])[i]? =some q->eH q m w∧N<q.D∧∀g,q.has g->sv.ownBlock≠some g:=fun i q hq=>by
  rcases oM i ps.length with hi | hi
  ·rw [jN hi] at hq;exact ⟨(h.pr i q hq).1,(h.pr i q hq).2,h.row i q hq⟩
  ·rw [lD hi] at hq;have:q=p:=by
    cases hk:i - ps.length with
    | zero=>rw [hk] at hq;simpa using hq.symm
    | succ k=>rw [hk] at hq;simp at hq
   subst this;exact ⟨hp,Px,hfr⟩
 have hkeep:∀(i:Nat) (q:Pr),(ps ++ [p])[i]? =some q->∀g,q.has g->(w3.setCell ⟨N,3,none⟩ v).heap[g]? =w.heap[g]?:=fun i q hq g xk=>by
  obtain ⟨a1,a2,a3⟩:=hall i q hq;have h1:=a1.ge g xk;exact (bB (by omega)).trans (hg.block g (a1.lt g xk) (fun e=>a3 g xk e.symm))
 refine ⟨⟨by rw [fW];exact dB h.lt hg.size,fun j=>by rw [World.frozen?_setCell];exact (fS hN).trans (h.fz j),fun j hj hj3=>(cZ (fun e=>hj3 e.symm)).trans ((aP hN).trans (h.bk j hj hj3)),World.cell?_setCell_same _ _ _ ((aP hN).trans h.st),?_,fun i q hq=>⟨(hall i q hq).1.up (by rw [fW];exact hg.size) (hkeep i q hq),(hall i q hq).2.1⟩,fun i j q q' hq dQ hij g eG jx=>?_,fun i q hq g xk e=>?_,acd (KY hN h.nt)⟩,?_⟩
 ·rw [dK,amb];have e1:vz [p]=(fI p).toList:=by simp [vz]
  rw [e1];exact dz ho (fun g e=>bB (by have:=(aR ho g e).1;omega))
 ·have key:∀(i:Nat) (q:Pr),(ps ++ [p])[i]? =some q->(i<ps.length∧ps[i]? =some q)∨(i=ps.length∧q=p):=fun i q hq=>by
   rcases oM i ps.length with hi | hi
   ·rw [jN hi] at hq;exact .inl ⟨hi,hq⟩
   ·rw [lD hi] at hq;cases hk:i - ps.length with
    | zero=>rw [hk] at hq;exact .inr ⟨by omega,by simpa using hq.symm⟩
    | succ k=>rw [hk] at hq;simp at hq
  rcases key i q hq with ⟨l1,k1⟩ | ⟨l1,rfl⟩<;>rcases key j q' dQ with ⟨l2,k2⟩ | ⟨l2,rfl⟩
  ·exact h.sep i j q q' k1 k2 hij g eG jx
  ·exact hf q (oK k1) g eG jx
  ·exact hf q' (oK k2) g jx eG
  ·omega
 ·obtain ⟨a1,_,a3⟩:=hall i q hq;rcases hv with k | k
  ·exact a3 g xk (k.trans e)
  ·rw [k] at e;cases e;have:=a1.lt _ xk;omega
 ·exact ((aA N w).grown hg (iP h.lt) (fun q hq=>by have:=(aR h.own q hq).1;omega)).setCell (p:=⟨N,3,none⟩) (ax _) _
theorem amd (N:Nat) (cv:Nat->aj) (ps:List Pr) (sv:aj) (m:Nat) (w:World) (h:ko N cv ps sv m w) (hl:ps.length<=1000000000000):
 av au 33 #[.pointer (some ⟨N,0,none⟩)] w fun e' w'=>e'= .returned (.bool true)∧∃p eZ,ko N cv (ps ++ [p]) eZ m w'∧Ai N ps (ps ++ [p]) sv eZ w w'∧Calm p 0 w':=by
 have HH:=af h;have HL:=af hl;have HX:=af (akv w);have HR:=af (fun w'=>akY w');have hN:=h.lt;clear h hl;go_enter Tryz.func33,Tryz.ntmps33;go_wp2_with fail
 refine (aq HX).mono ?_;rintro e w1 ⟨rfl,hd1,hx1,hs1,hb1⟩;have sw:=af hd1;have Ik:=af hx1;have ux:=af hs1;have aJ:=af hb1;clear hd1 hx1 hs1 hb1 HX;go_wp2_with fail
 refine (aq HR _).mono ?_;rintro e w2 ⟨rfl,eS,oA,hb2⟩;rw [ux.out] at eS oA⊢;have fY:ak (w.heap.size+2) w1 w2:=by rw [<-ux.out];exact hb2
 obtain ⟨p,hp⟩:∃p:Pr,p=⟨w.heap.size+1,w.heap.size,w.heap.size+2,um,0,0,0⟩:=⟨_,rfl⟩;have vg:Hid (ak w.heap.size w w2):=aJ.out.trans (fY.mono (by omega));have pE:Hid (eH p m w2):=by
  unfold Hid;rw [hp];have e1:∀g,g<w.heap.size+2->w2.heap[g]? =w1.heap[g]?:=fun g hg=>fY.block g hg;refine ⟨⟨KL,Pk,sw.out.up fY.size (e1 _ (by show w.heap.size<_;omega)) (fun i hi g e=>by cases e),eS,akX,bK _,⟨rfl,rfl,rfl⟩⟩,⟨JE 0,Nd _,JE 0,Nd _⟩,(aP (e1 _ (by show w.heap.size+1<_;omega))).trans Ik.out,by show w.heap.size+1<_;omega,by show w.heap.size<w.heap.size+1;omega,by show w.heap.size<w.heap.size+2;omega,by show w.heap.size+1≠w.heap.size+2;omega,fun i hi g e=>by cases e⟩
 have Ud:Hid (Calm p 0 w2):=by
  unfold Hid;rw [hp];exact (Pm (p:=⟨w.heap.size+1,w.heap.size,w.heap.size+2,um,0,0,0⟩) (d:=KL) (sw.out.up fY.size (fY.block _ (by show w.heap.size<_;omega)) (fun i hi g e=>by cases e))).2 ⟨rfl,fun i hi=>ax _⟩
 have Px:p.D=w.heap.size:=by rw [hp]
 have HPD:=af Px;clear Px;have l6:=af (HH.out.up vg.out);have c3:=l6.out.st;have f3:=l6.out.fz 3;obtain ⟨sa,sc,gN⟩:=bA l6.out.own;have HSv:=af gN;rw [gN] at c3;have hO:=l6.out.own;rw [gN] at hO;have HO:=af hO;have cH:Hid ((fI p).toList=[.pointer (some ⟨w.heap.size+1,0,none⟩),.pointer (some ⟨w.heap.size+2,0,none⟩)]):=by unfold Hid;rw [hp];rfl
 have HP:=af hp;obtain ⟨inf,cJ,yx,cW,hby⟩:=amc;have gJ:=af cJ;have EV:=af yx;have dR:=af cW;have gK:=af hby;clear cJ yx cW hby eS hb2 fY hO gN hp HR;generalize hle:ps.length=L at *;have kr:=af hle;clear hle;have hz2:w2.heap.size=w.heap.size+3:=oA;have Ue:=af hz2;have Aj:N+1<=w2.heap.size:=by omega
 clear oA hz2
 go_wp2_with (at_builtin;refine wpList_append_lies _ rfl _ _ 46 rfl (N+1) 83 inf _ 2 16 Tryz.underlying46 gJ.out EV.out dR.out gK.out rfl (by decide) (.slice sa L sc) L (vz ps) rfl (HO.out.alloc _) ⟨w2.heap.size,0,none⟩ 1 1 [.pointer (some ⟨w.heap.size+1,0,none⟩),.pointer (some ⟨w.heap.size+2,0,none⟩)] rfl rfl (mP (bg w2 _)) (fun u hu=>by simp at hu;rcases hu with rfl | rfl<;>rfl) (by decide) (by have:=HL.out;unfold cP;omega) (by have:=HL.out;omega) (by rw [aB];omega) (w2.heap.size+1) (by rw [aB]) ?_
              intro g1 c1 w3 qX eG ha1 hl1;have hD:w3.heap[N]? =w2.heap[N]?:=(eG.block N (by rw [aB];omega) (fun e=>by have:=(aR HO.out N e.symm).1;omega)).trans (cM w2 _ N (by omega));have c4:=(aP (a:=⟨N,3,none⟩) hD).trans c3;have f4:=(fS (a:=⟨N,3,none⟩) hD).trans f3;have jy:=af qX;have p7:=af eG;have jW:=af ha1
              clear qX eG ha1 hl1 hD c3 f3)
 go_ret;have hb0:ak w2.heap.size w2 (w2.alloc (.cells #[.pointer (some ⟨w.heap.size+1,0,none⟩),.pointer (some ⟨w.heap.size+2,0,none⟩)] 83)):=(aA _ _).alloc (ax _) _;have hpb:∀g,p.has g->w.heap.size<=g:=fun g hg=>by
  rw [HP.out] at hg;rcases hg with rfl | rfl | rfl | ⟨i,_,e⟩
  ·show w.heap.size<=w.heap.size+1;omega
  ·exact ax _
  ·show w.heap.size<=w.heap.size+2;omega
  ·cases e
 have ho:=jy.out;rw [<-cH.out] at ho;have gN:=HSv.out;have hv1:sv.ownBlock=(mQ (some ⟨g1,0,none⟩) (L+1) c1).ownBlock∨(mQ (some ⟨g1,0,none⟩) (L+1) c1).ownBlock=some (w2.heap.size+1):=by
  rw [gN];rcases jW.out with a | a
  ·exact .inl a
  ·exact .inr (congrArg some a)
 have k:=(l6.out.up hb0).push (p:=p) (v:=.slice (some ⟨g1,0,none⟩) (L+1) c1) (n:=w2.heap.size+1) (aB _ _) (pE.out.up hb0.size (fun g hg=>hb0.block g (pE.out.lt g hg))) (by rw [HP.out];exact hN)
  (fun q hq g h1 h2=>by
    obtain ⟨i,hi⟩:=List.getElem?_of_mem hq;have:=(HH.out.pr i q hi).1.lt g h1;have:=hpb g h2
    omega)
  (fun g hg e=>by have:=(aR HH.out.own g e).2;have:=hpb g hg;omega)
  (by rw [kr.out];exact ho) (by rw [gN];exact p7.out) hv1
 have hcl:(w3.setCell ⟨N,3,none⟩ (.slice (some ⟨g1,0,none⟩) (L+1) c1)).heap[p.D]? =w2.heap[p.D]?:=by
  rw [HPD.out];have hsz:=vg.out.size;have hz:=Ue.out;refine (bB (by omega)).trans ((p7.out.block _ (by rw [aB];omega) (fun e=>?_)).trans (hb0.block _ (by omega)));have:=(aR HH.out.own w.heap.size (by rw [gN];exact e.symm)).2;omega
 refine ⟨rfl,p,_,k.1,⟨((vg.out.mono (iP hN)).alloc (by have:=vg.out.size;omega) _).trans k.2,fun g hg g1' g2 g3=>?_,fun g hg=>?_,fun i q hq=>?_⟩,Ud.out.up hcl⟩
 ·refine (bB g1').trans ((p7.out.block g (by rw [aB];have:=vg.out.size;omega) (fun e=>g2 (by rw [gN];exact e.symm))).trans ((hb0.block g (dB hg vg.out.size)).trans (vg.out.block g hg)))
 ·rcases hv1 with a | a
  ·exact .inl (a.trans hg)
  ·rw [a] at hg;cases hg;have:=vg.out.size;exact .inr (by omega)
 ·rcases oM i ps.length with hi | hi
  ·rw [jN hi] at hq;exact .inl ⟨q,hq,rfl,rfl,rfl,Lk.refl q,fun g e=>.inl e⟩
  ·have hn:ps[i]? =none:=lE hi;rw [lD hi] at hq;cases hk:i - ps.length with
   | zero=>
     rw [hk] at hq;have:q=p:=by simpa using hq.symm
     rw [this];exact .inr ⟨hn,hpb⟩
   | succ k'=>rw [hk] at hq;simp at hq
theorem ace (ps:List Pr) (i:Nat) (p p':Pr) (hi:ps[i]? =some p) (he:fI p'=fI p):vz (ps.set i p')=vz ps:=by
 unfold vz;rw [List.map_set];congr 1;apply List.ext_getElem?;intro j;rw [rN];split
 ·rename_i h;subst h;split
  ·rw [iX,hi,he];rfl
  ·rename_i h1;rw [lE (by omega)]
 ·rfl
theorem ko.set {N:Nat} {cv:Nat->aj} {ps:List Pr} {sv:aj} {m:Nat} {w w':World} (h:ko N cv ps sv m w) {i:Nat} {p p':Pr} (hi:ps[i]? =some p) (hp:eH p' (m+1) w') (hf:yt p p' w w'):ko N cv (ps.set i p') sv (m+1) w'∧Ai N ps (ps.set i p') sv sv w w':=by
 obtain ⟨yB,KZ⟩:=h.pr i p hi;obtain ⟨eX,eD,eR⟩:=hf.same;have hb:ak N w w':=hf.below.mono (iP KZ);have hN:w'.heap[N]? =w.heap[N]?:=hf.below.block N KZ;have key:∀(j:Nat) (q:Pr),(ps.set i p')[j]? =some q->(j=i∧q=p')∨(j≠i∧ps[j]? =some q):=fun j q hq=>by
  rw [rN] at hq;split at hq
  ·rename_i e;split at hq
   ·exact .inl ⟨e.symm,by simpa using hq.symm⟩
   ·cases hq
  ·rename_i e;exact .inr ⟨fun x=>e x.symm,hq⟩
 refine ⟨⟨dB h.lt hb.size,fun j=>(fS hN).trans (h.fz j),fun j hj hj3=>(aP hN).trans (h.bk j hj hj3),(aP hN).trans h.st,?_,fun j q hq=>?_,fun j l q r hq hr hjl g h1 h2=>?_,fun j q hq g xk e=>?_,KY hN h.nt⟩,⟨hb,fun g hg h1 h2 h3=>hf.other g hg (h3 i p hi),fun g e=>.inl e,fun j q hq=>?_⟩⟩
 ·rw [List.length_set,ace ps i p p' hi (by unfold fI;rw [eX,eR])];exact dz h.own (fun g e=>hf.other g (aR h.own g e).2 (fun hh=>h.row i p hi g hh e))
 ·rcases key j q hq with ⟨_,rfl⟩ | ⟨hji,dQ⟩
  ·exact ⟨hp,by rw [eD];exact KZ⟩
  ·refine ⟨((h.pr j q dQ).1.up hb.size (fun g hg=>hf.other g ((h.pr j q dQ).1.lt g hg) (fun hh=>h.sep j i q p dQ hi hji g hg hh))).more (Nat.le_succ m),(h.pr j q dQ).2⟩
 ·rcases key j q hq with ⟨e1,rfl⟩ | ⟨hji,dQ⟩<;>rcases key l r hr with ⟨e2,rfl⟩ | ⟨Uf,hr'⟩
  ·omega
  ·rcases hf.own g h1 with k | k
   ·exact h.sep l i r p hr' hi Uf g h2 k
   ·have:=(h.pr l r hr').1.lt g h2;omega
  ·rcases hf.own g h2 with k | k
   ·exact h.sep j i q p dQ hi hji g h1 k
   ·have:=(h.pr j q dQ).1.lt g h1;omega
  ·exact h.sep j l q r dQ hr' hjl g h1 h2
 ·rcases key j q hq with ⟨_,rfl⟩ | ⟨_,dQ⟩
  ·rcases hf.own g xk with k | k
   ·exact h.row i p hi g k e
   ·have:=(aR h.own g e).2;omega
  ·exact h.row j q dQ g xk e
 ·rcases key j q hq with ⟨e1,rfl⟩ | ⟨_,dQ⟩
  ·exact .inl ⟨p,by rw [e1];exact hi,eX,eD,eR,hf.lk,hf.own⟩
  ·exact .inl ⟨q,dQ,rfl,rfl,rfl,Lk.refl q,fun g e=>.inl e⟩
def sx (ps:List Pr) (n:Nat) (w:World):Prop:=∀(i:Nat) (p:Pr),ps[i]? =some p->Calm p n w
theorem sx.up {N:Nat} {cv:Nat->aj} {ps:List Pr} {sv:aj} {m n:Nat} {w w':World} (h:ko N cv ps sv m w) (hb:ak w.heap.size w w') (hc:sx ps n w):sx ps n w':=fun i p hp=>(hc i p hp).up (hb.block _ ((h.pr i p hp).1.lt _ (.inr (.inl rfl))))
theorem ko.calm {N:Nat} {cv:Nat->aj} {ps:List Pr} {sv:aj} {m:Nat} {w w':World} (h:ko N cv ps sv m w) {i L:Nat} {p p':Pr} (hi:ps[i]? =some p) (hf:yt p p' w w') (hc:∀n,Calm p n w->Calm p' (n+L) w') (n:Nat) (ha:sx ps n w):sx (ps.set i p') (n+L) w':=by
 intro j q hq;rw [rN] at hq;split at hq
 ·split at hq
  ·cases hq;exact hc n (ha i p hi)
  ·cases hq
 ·rename_i e;obtain ⟨c1,c2⟩:=(ha j q hq).up (hf.other q.D ((h.pr j q hq).1.lt _ (.inr (.inl rfl))) (fun hh=>h.sep j i q p hq hi (fun x=>e x.symm) _ (.inr (.inl rfl)) hh));refine ⟨c1,fun i hi=>?_⟩;obtain ⟨a,l,c,e,hl⟩:=c2 i hi;exact ⟨a,l,c,e,aT hl (Nat.le_add_right _ _)⟩
end Go.Proofs.YtmmflekajbeamaaGreatDoor
