/- Texts of ours, joined, in few bytes. -/
import Derived.Test.YtmmflekajbeamaaGreatDoorE24
open Bool renaming and_eq_true->gG,or_eq_true->Cg
open Go renaming Calls->av,Oper->bI,Program->mM,Value->aj,YieldsIf->DN,bodyPost_ret->cL,isAgg->JN,mem_ready->Cf,part->nF,ready_mono->zn,run_equalIn_int->Ry,wpOp_mono->AK,wpStill_nil->jC,yielded->DQ
open Go.Ending renaming returned->kS
open Go.IntKind renaming wrap_i64->AJ
open Go.Op renaming eqItems->Nw,equalIn->Gr
open Go.Proofs.Tryz renaming func109->zB,ntmps109->zC,prog->au,results109->zD,underlying28->jO,underlying3->pO
open Go.Region renaming Mode->pN,binds->xL,free->JI,free_spec->Gk,noSelect->vR,noSelect_spec->Gj,ready->oL,wanted->xM
open Go.Result renaming andThen->kN,andThen_ok->DI
open Go.RowKit renaming Below->ak
open Go.Sem renaming run_bind->kB
open Go.Value renaming int->cI
open Int renaming eq_ofNat_of_zero_le->j4
open List renaming drop_succ_cons->j6,drop_zero->iE,getElem?_drop->Ch,getElem?_eq_some_iff->fG,getElem?_map->iX,getElem?_take->tW,length_cons->jM,length_map->jV,length_take->ny,map_append->YB,take_succ_cons->j5,take_zero->jU
open Nat renaming le_refl->ax,lt_or_ge->oM,mul_one->Nv
namespace Go.Proofs.YtmmflekajbeamaaGreatDoor
set_option maxRecDepth 100000
set_option maxHeartbeats 2000000
section
open Go.RowKit
set_option linter.unusedVariables false
theorem aqe (z:List Int) (w:World) (hl:z.length=138) (hs:cV z=true) (hp:gz z 137=0) (P:Nat) (hP:gz z 136=P) (vJ:P<128) (v:Int) (hv:gz z (8+P)=v) (v0:0<=v) (v1:v<4294967296) (hkn:gW (bu v) (fa v) (fb v) (fc v)=true) (A B C K:Nat) (ea:fa v=A) (eb:fb v=B) (ec:fc v=C) (ek:fk v=K) (k1:K<4096) (eo:bu v=7) (ha:A<8) (qW:B<8) (m:Nat) (hm:(gz z B+(K:Int)) % 128=m) (hm1:m<128) (r0:0<=gz z B) (r1:gz z B<4294967296):
 av au 109 #[.agg (S z)] w fun e' w'=>e'= .returned (.tuple #[.agg (S (cQ z 7 A B C K)),.int .i64 0])∧ak w.heap.size w w':=by
 have zz:=iZ;have bb:=sC;have HI:=af (ue z (W2 z w) hl);rw [hs] at HI;have R0:=sD z w hl;have D0:=sE z w;have HN:Hid (kS (.tuple #[.agg (S ((z.set (8+m) (gz z A)).set 136 (((P:Int)+1) % 128))),.int .i64 0])= .returned (.tuple #[.agg (S (cQ z 7 A B C K)),.int .i64 0])):=by simp [Hid,cQ,hP,hm]
 have hP':(P:Int)<128:=by omega
 have jg:=af (fun w=>zK v w v0 v1);have HO:=af (fun w=>uX v w v0 v1);have HA:=af (fun w=>uY v w v0 v1);have lq:=af (fun w=>uZ v w v0 v1);have HK:=af (fun w=>xT v w v0 v1);have ku:=af (fun w=>wI v w v0 v1);rw [hkn] at jg;rw [eo] at HO;rw [ea] at HA;rw [eb] at lq;rw [ec] at ku;rw [ek] at HK;clear eo ea eb ec ek hkn;have ha':(A:Int)<8:=by omega
 have hb':(B:Int)<8:=by omega
 have hm':(m:Int)<128:=by omega
 go_enter zB,zC;go_wp2_with (refine fH rfl _ rfl _ rfl R0 _ D0 ?_)
 refine (aq HI).mono ?_;rintro e w1 ⟨rfl,hb⟩;rw [kQ] at hb;have R1:bf w1 (w.heap.size+1) 138=true:=by rw [gZ hb (by omega)];exact sF z w
 have HB:Hid (ak w.heap.size w w1):=(sG z w).trans (hb.mono (by omega));have hc1:∀i,i<138->w1.cell? ⟨w.heap.size,i,none⟩=some (.int .i64 (gz z i)):=fun i hi=>by rw [yN hb _ _ (by omega)];exact uG z w hl i hi
 have q0:bf w1 w.heap.size 138=true:=by rw [gZ hb (by omega)];exact R0
 have d0:bW w1 w.heap.size=S z:=by rw [qQ hb (by omega)];exact D0
 have hz1:w.heap.size+1<w1.heap.size:=by have:=hb.size;rw [kQ] at this;omega
 have tK:∀i,w1.frozen? ⟨w.heap.size,i,none⟩=false:=fun i=>by rw [Au hb _ _ (by omega)];exact xB z w i
 have ru:=hc1 137 (by omega);have vL:=hc1 136 (by omega);have cw:w1.cell? ⟨w.heap.size,8+P,none⟩=some (.int .i64 v):=by rw [<-hv];exact hc1 (8+P) (by omega)
 have IY:=hc1 (A) (by omega);have Qc:=hc1 (B) (by omega);have c_m:=hc1 (8+m) (by omega);have HC:=af hc1;clear hb R0 D0 hc1;go_wp2_with fail
 refine (aq jg _).mono ?_;rintro e w' ⟨rfl,hw⟩;obtain rfl:=hw.symm;go_wp2_with fail
 refine (aq HO _).mono ?_;rintro e w' ⟨rfl,hw⟩;obtain rfl:=hw.symm;go_wp2_with fail
 refine (aq HA _).mono ?_;rintro e w' ⟨rfl,hw⟩;obtain rfl:=hw.symm;go_wp2_with fail
 refine (aq lq _).mono ?_;rintro e w' ⟨rfl,hw⟩;obtain rfl:=hw.symm;go_wp2_with fail
 refine (aq HK _).mono ?_;rintro e w' ⟨rfl,hw⟩;obtain rfl:=hw.symm;have r2:bf (w1.setCell ⟨w.heap.size,8+m,none⟩ (.int .i64 (gz z A))) (w.heap.size+1) 138=true:=sX R1 _ _ (by omega) _;have p2:bf (w1.setCell ⟨w.heap.size,8+m,none⟩ (.int .i64 (gz z A))) w.heap.size 138=true:=sW q0 _ _;have e2:bW (w1.setCell ⟨w.heap.size,8+m,none⟩ (.int .i64 (gz z A))) w.heap.size=S (z.set (8+m) (gz z A)):=by rw [sV q0,d0,jP]
 have c2:(w1.setCell ⟨w.heap.size,8+m,none⟩ (.int .i64 (gz z A))).cell? ⟨w.heap.size,136,none⟩=some (.int .i64 (gz (z.set (8+m) (gz z A)) 136)):=by rw [Qb q0,d0,jP,gP _ _ (by simp [hl])]
 have HX:Hid (ak w.heap.size w (w1.setCell ⟨w.heap.size,8+m,none⟩ (.int .i64 (gz z A)))):=HB.out.setCell (ax _) _;have HB:Hid (ak w.heap.size w ((w1.setCell ⟨w.heap.size,8+m,none⟩ (.int .i64 (gz z A))).setCell ⟨w.heap.size,136,none⟩ (.int .i64 (((P:Int)+1) % 128))).drew):=(HX.out.setCell (ax _) _).drew;have R2:bf ((w1.setCell ⟨w.heap.size,8+m,none⟩ (.int .i64 (gz z A))).setCell ⟨w.heap.size,136,none⟩ (.int .i64 (((P:Int)+1) % 128))).drew (w.heap.size+1) 138=true:=sX r2 _ _ (by omega) _;have q2:bf ((w1.setCell ⟨w.heap.size,8+m,none⟩ (.int .i64 (gz z A))).setCell ⟨w.heap.size,136,none⟩ (.int .i64 (((P:Int)+1) % 128))).drew w.heap.size 138=true:=sW p2 _ _;have d2:bW ((w1.setCell ⟨w.heap.size,8+m,none⟩ (.int .i64 (gz z A))).setCell ⟨w.heap.size,136,none⟩ (.int .i64 (((P:Int)+1) % 128))).drew w.heap.size=S ((z.set (8+m) (gz z A)).set 136 (((P:Int)+1) % 128)):=by rw [NG];rw [sV p2,e2,jP]
 obtain ⟨t,hg⟩:=pS R2 (S ((z.set (8+m) (gz z A)).set 136 (((P:Int)+1) % 128)));have HG:=af hg;clear hg;go_wp2_with fail
 have CK:IntKind.i64.wrap (gz z B+(K:Int))=gz z B+(K:Int):=by rw [AJ];omega
 have htm:(gz z B+(K:Int)).tmod 128=(m:Int):=by rw [Int.tmod_eq_emod_of_nonneg (by omega)];exact hm
 refine qp 13 (by kernel_rfl) (by kernel_rfl) ?_;simp only [j5,jU,j6,iE]
 repeat still_step
 refine jC ?_;go_wp2_with (first | (refine fH rfl _ rfl _ rfl q2 _ d2 ?_) | (refine ja rfl _ _ rfl _ rfl _ rfl (by simp [hl]) R2 _ rfl ?_))
 exact cL (v:=.tuple #[.agg (S ((z.set (8+m) (gz z A)).set 136 (((P:Int)+1) % 128))),.int .i64 0]) (rW zD _ _ _ t ((z.set (8+m) (gz z A)).set 136 (((P:Int)+1) % 128)) (by simp [hl]) rfl HG.out 0 rfl) rfl ⟨HN.out,iI HB.out (by omega) _⟩
theorem aqf (z:List Int) (w:World) (hl:z.length=138) (hs:cV z=true) (hp:gz z 137=0) (P:Nat) (hP:gz z 136=P) (vJ:P<128) (v:Int) (hv:gz z (8+P)=v) (v0:0<=v) (v1:v<4294967296) (hkn:gW (bu v) (fa v) (fb v) (fc v)=true) (A B C K:Nat) (ea:fa v=A) (eb:fb v=B) (ec:fc v=C) (ek:fk v=K) (k1:K<4096) (eo:bu v=8) (ha:A<8) (qW:B<8) (hq:gz z A=gz z B):
 av au 109 #[.agg (S z)] w fun e' w'=>e'= .returned (.tuple #[.agg (S (cQ z 8 A B C K)),.int .i64 0])∧ak w.heap.size w w':=by
 have zz:=iZ;have bb:=sC;have HI:=af (ue z (W2 z w) hl);rw [hs] at HI;have R0:=sD z w hl;have D0:=sE z w;have HN:Hid (kS (.tuple #[.agg (S (z.set 136 ((K:Int) % 128))),.int .i64 0])= .returned (.tuple #[.agg (S (cQ z 8 A B C K)),.int .i64 0])):=by simp [Hid,cQ,hq]
 have hP':(P:Int)<128:=by omega
 have jg:=af (fun w=>zK v w v0 v1);have HO:=af (fun w=>uX v w v0 v1);have HA:=af (fun w=>uY v w v0 v1);have lq:=af (fun w=>uZ v w v0 v1);have HK:=af (fun w=>xT v w v0 v1);have ku:=af (fun w=>wI v w v0 v1);rw [hkn] at jg;rw [eo] at HO;rw [ea] at HA;rw [eb] at lq;rw [ec] at ku;rw [ek] at HK;clear eo ea eb ec ek hkn;have ha':(A:Int)<8:=by omega
 have hb':(B:Int)<8:=by omega
 have dQ:(gz z A == gz z B)=true:=by simpa using hq
 clear hq;go_enter zB,zC;go_wp2_with (refine fH rfl _ rfl _ rfl R0 _ D0 ?_)
 refine (aq HI).mono ?_;rintro e w1 ⟨rfl,hb⟩;rw [kQ] at hb;have R1:bf w1 (w.heap.size+1) 138=true:=by rw [gZ hb (by omega)];exact sF z w
 have HB:Hid (ak w.heap.size w w1):=(sG z w).trans (hb.mono (by omega));have hc1:∀i,i<138->w1.cell? ⟨w.heap.size,i,none⟩=some (.int .i64 (gz z i)):=fun i hi=>by rw [yN hb _ _ (by omega)];exact uG z w hl i hi
 have q0:bf w1 w.heap.size 138=true:=by rw [gZ hb (by omega)];exact R0
 have d0:bW w1 w.heap.size=S z:=by rw [qQ hb (by omega)];exact D0
 have hz1:w.heap.size+1<w1.heap.size:=by have:=hb.size;rw [kQ] at this;omega
 have tK:∀i,w1.frozen? ⟨w.heap.size,i,none⟩=false:=fun i=>by rw [Au hb _ _ (by omega)];exact xB z w i
 have ru:=hc1 137 (by omega);have vL:=hc1 136 (by omega);have cw:w1.cell? ⟨w.heap.size,8+P,none⟩=some (.int .i64 v):=by rw [<-hv];exact hc1 (8+P) (by omega)
 have IY:=hc1 (A) (by omega);have Qc:=hc1 (B) (by omega);have HC:=af hc1;clear hb R0 D0 hc1;go_wp2_with fail
 refine (aq jg _).mono ?_;rintro e w' ⟨rfl,hw⟩;obtain rfl:=hw.symm;go_wp2_with fail
 refine (aq HO _).mono ?_;rintro e w' ⟨rfl,hw⟩;obtain rfl:=hw.symm;go_wp2_with fail
 refine (aq HA _).mono ?_;rintro e w' ⟨rfl,hw⟩;obtain rfl:=hw.symm;go_wp2_with fail
 refine (aq lq _).mono ?_;rintro e w' ⟨rfl,hw⟩;obtain rfl:=hw.symm;go_wp2_with fail
 refine (aq HK _).mono ?_;rintro e w' ⟨rfl,hw⟩;obtain rfl:=hw.symm;have HB:Hid (ak w.heap.size w (w1.setCell ⟨w.heap.size,136,none⟩ (.int .i64 ((K:Int) % 128))).drew):=(HB.out.setCell (ax _) _).drew;have R2:bf (w1.setCell ⟨w.heap.size,136,none⟩ (.int .i64 ((K:Int) % 128))).drew (w.heap.size+1) 138=true:=sX R1 _ _ (by omega) _;have q2:bf (w1.setCell ⟨w.heap.size,136,none⟩ (.int .i64 ((K:Int) % 128))).drew w.heap.size 138=true:=sW q0 _ _;have d2:bW (w1.setCell ⟨w.heap.size,136,none⟩ (.int .i64 ((K:Int) % 128))).drew w.heap.size=S (z.set 136 ((K:Int) % 128)):=by rw [NG];rw [sV q0,d0,jP]
 obtain ⟨t,hg⟩:=pS R2 (S (z.set 136 ((K:Int) % 128)));have HG:=af hg;clear hg;go_wp2_with fail
 refine xV (by kernel_rfl) (by kernel_rfl) ?_
 repeat still_step
 refine jC ?_;go_wp2_with (first | (refine fH rfl _ rfl _ rfl q2 _ d2 ?_) | (refine ja rfl _ _ rfl _ rfl _ rfl (by simp [hl]) R2 _ rfl ?_))
 exact cL (v:=.tuple #[.agg (S (z.set 136 ((K:Int) % 128))),.int .i64 0]) (rW zD _ _ _ t (z.set 136 ((K:Int) % 128)) (by simp [hl]) rfl HG.out 0 rfl) rfl ⟨HN.out,iI HB.out (by omega) _⟩
theorem aqg (z:List Int) (w:World) (hl:z.length=138) (hs:cV z=true) (hp:gz z 137=0) (P:Nat) (hP:gz z 136=P) (vJ:P<128) (v:Int) (hv:gz z (8+P)=v) (v0:0<=v) (v1:v<4294967296) (hkn:gW (bu v) (fa v) (fb v) (fc v)=true) (A B C K:Nat) (ea:fa v=A) (eb:fb v=B) (ec:fc v=C) (ek:fk v=K) (k1:K<4096) (eo:bu v=8) (ha:A<8) (qW:B<8) (hq:¬gz z A=gz z B):
 av au 109 #[.agg (S z)] w fun e' w'=>e'= .returned (.tuple #[.agg (S (cQ z 8 A B C K)),.int .i64 0])∧ak w.heap.size w w':=by
 have zz:=iZ;have bb:=sC;have HI:=af (ue z (W2 z w) hl);rw [hs] at HI;have R0:=sD z w hl;have D0:=sE z w;have HN:Hid (kS (.tuple #[.agg (S (z.set 136 (((P:Int)+1) % 128))),.int .i64 0])= .returned (.tuple #[.agg (S (cQ z 8 A B C K)),.int .i64 0])):=by simp [Hid,cQ,hq,hP]
 have hP':(P:Int)<128:=by omega
 have jg:=af (fun w=>zK v w v0 v1);have HO:=af (fun w=>uX v w v0 v1);have HA:=af (fun w=>uY v w v0 v1);have lq:=af (fun w=>uZ v w v0 v1);have HK:=af (fun w=>xT v w v0 v1);have ku:=af (fun w=>wI v w v0 v1);rw [hkn] at jg;rw [eo] at HO;rw [ea] at HA;rw [eb] at lq;rw [ec] at ku;rw [ek] at HK;clear eo ea eb ec ek hkn;have ha':(A:Int)<8:=by omega
 have hb':(B:Int)<8:=by omega
 have dQ:(gz z A == gz z B)=false:=by simpa using hq
 clear hq;go_enter zB,zC;go_wp2_with (refine fH rfl _ rfl _ rfl R0 _ D0 ?_)
 refine (aq HI).mono ?_;rintro e w1 ⟨rfl,hb⟩;rw [kQ] at hb;have R1:bf w1 (w.heap.size+1) 138=true:=by rw [gZ hb (by omega)];exact sF z w
 have HB:Hid (ak w.heap.size w w1):=(sG z w).trans (hb.mono (by omega));have hc1:∀i,i<138->w1.cell? ⟨w.heap.size,i,none⟩=some (.int .i64 (gz z i)):=fun i hi=>by rw [yN hb _ _ (by omega)];exact uG z w hl i hi
 have q0:bf w1 w.heap.size 138=true:=by rw [gZ hb (by omega)];exact R0
 have d0:bW w1 w.heap.size=S z:=by rw [qQ hb (by omega)];exact D0
 have hz1:w.heap.size+1<w1.heap.size:=by have:=hb.size;rw [kQ] at this;omega
 have tK:∀i,w1.frozen? ⟨w.heap.size,i,none⟩=false:=fun i=>by rw [Au hb _ _ (by omega)];exact xB z w i
 have ru:=hc1 137 (by omega);have vL:=hc1 136 (by omega);have cw:w1.cell? ⟨w.heap.size,8+P,none⟩=some (.int .i64 v):=by rw [<-hv];exact hc1 (8+P) (by omega)
 have IY:=hc1 (A) (by omega);have Qc:=hc1 (B) (by omega);have HC:=af hc1;clear hb R0 D0 hc1;go_wp2_with fail
 refine (aq jg _).mono ?_;rintro e w' ⟨rfl,hw⟩;obtain rfl:=hw.symm;go_wp2_with fail
 refine (aq HO _).mono ?_;rintro e w' ⟨rfl,hw⟩;obtain rfl:=hw.symm;go_wp2_with fail
 refine (aq HA _).mono ?_;rintro e w' ⟨rfl,hw⟩;obtain rfl:=hw.symm;go_wp2_with fail
 refine (aq lq _).mono ?_;rintro e w' ⟨rfl,hw⟩;obtain rfl:=hw.symm;go_wp2_with fail
 refine (aq HK _).mono ?_;rintro e w' ⟨rfl,hw⟩;obtain rfl:=hw.symm;have HB:Hid (ak w.heap.size w (w1.setCell ⟨w.heap.size,136,none⟩ (.int .i64 (((P:Int)+1) % 128))).drew):=(HB.out.setCell (ax _) _).drew;have R2:bf (w1.setCell ⟨w.heap.size,136,none⟩ (.int .i64 (((P:Int)+1) % 128))).drew (w.heap.size+1) 138=true:=sX R1 _ _ (by omega) _;have q2:bf (w1.setCell ⟨w.heap.size,136,none⟩ (.int .i64 (((P:Int)+1) % 128))).drew w.heap.size 138=true:=sW q0 _ _;have d2:bW (w1.setCell ⟨w.heap.size,136,none⟩ (.int .i64 (((P:Int)+1) % 128))).drew w.heap.size=S (z.set 136 (((P:Int)+1) % 128)):=by rw [NG];rw [sV q0,d0,jP]
 obtain ⟨t,hg⟩:=pS R2 (S (z.set 136 (((P:Int)+1) % 128)));have HG:=af hg;clear hg;go_wp2_with fail
 refine xV (by kernel_rfl) (by kernel_rfl) ?_
 repeat still_step
 refine jC ?_;go_wp2_with (first | (refine fH rfl _ rfl _ rfl q2 _ d2 ?_) | (refine ja rfl _ _ rfl _ rfl _ rfl (by simp [hl]) R2 _ rfl ?_))
 exact cL (v:=.tuple #[.agg (S (z.set 136 (((P:Int)+1) % 128))),.int .i64 0]) (rW zD _ _ _ t (z.set 136 (((P:Int)+1) % 128)) (by simp [hl]) rfl HG.out 0 rfl) rfl ⟨HN.out,iI HB.out (by omega) _⟩
theorem aqh (z:List Int) (w:World) (hl:z.length=138) (hs:cV z=true) (hp:gz z 137=0) (P:Nat) (hP:gz z 136=P) (vJ:P<128) (v:Int) (hv:gz z (8+P)=v) (v0:0<=v) (v1:v<4294967296) (hkn:gW (bu v) (fa v) (fb v) (fc v)=true) (A B C K:Nat) (ea:fa v=A) (eb:fb v=B) (ec:fc v=C) (ek:fk v=K) (k1:K<4096) (op:Int) (o2:2<=op) (o5:op<=5) (eo:bu v=op) (ha:A<8) (qW:B<8) (hc8:C<8) (r0:0<=gz z B) (r1:gz z B<4294967296) (s0:0<=gz z C) (s1:gz z C<4294967296) (r:Int) (hrr:wk op (gz z B) (gz z C)=r):
 av au 109 #[.agg (S z)] w fun e' w'=>e'= .returned (.tuple #[.agg (S (cQ z op A B C K)),.int .i64 0])∧ak w.heap.size w w':=by
 have zz:=iZ;have bb:=sC;have HI:=af (ue z (W2 z w) hl);rw [hs] at HI;have R0:=sD z w hl;have D0:=sE z w;have HN:Hid (kS (.tuple #[.agg (S ((z.set (A) (r)).set 136 (((P:Int)+1) % 128))),.int .i64 0])= .returned (.tuple #[.agg (S (cQ z op A B C K)),.int .i64 0])):=by simp [Hid,cQ,hP,hrr,show ¬op=0 by omega,show ¬op=1 by omega,o2,o5]
 have hP':(P:Int)<128:=by omega
 have jg:=af (fun w=>zK v w v0 v1);have HO:=af (fun w=>uX v w v0 v1);have HA:=af (fun w=>uY v w v0 v1);have lq:=af (fun w=>uZ v w v0 v1);have HK:=af (fun w=>xT v w v0 v1);have ku:=af (fun w=>wI v w v0 v1);rw [hkn] at jg;rw [eo] at HO;rw [ea] at HA;rw [eb] at lq;rw [ec] at ku;rw [ek] at HK;clear eo ea eb ec ek hkn;have ha':(A:Int)<8:=by omega
 have hb':(B:Int)<8:=by omega
 have hc':(C:Int)<8:=by omega
 have HW:=af (fun w'=>Sc op (gz z B) (gz z C) w' r0 r1 s0 s1 o2 o5);rw [hrr] at HW;clear hrr;have o_0:(op == 0)=false:=by simp;omega
 have o_1:(op == 1)=false:=by simp;omega
 have o_6:(op == 6)=false:=by simp;omega
 have o_7:(op == 7)=false:=by simp;omega
 have o_8:(op == 8)=false:=by simp;omega
 have o_9:(op == 9)=false:=by simp;omega
 have awH:(op == 10)=false:=by simp;omega
 go_enter zB,zC;go_wp2_with (refine fH rfl _ rfl _ rfl R0 _ D0 ?_)
 refine (aq HI).mono ?_;rintro e w1 ⟨rfl,hb⟩;rw [kQ] at hb;have R1:bf w1 (w.heap.size+1) 138=true:=by rw [gZ hb (by omega)];exact sF z w
 have HB:Hid (ak w.heap.size w w1):=(sG z w).trans (hb.mono (by omega));have hc1:∀i,i<138->w1.cell? ⟨w.heap.size,i,none⟩=some (.int .i64 (gz z i)):=fun i hi=>by rw [yN hb _ _ (by omega)];exact uG z w hl i hi
 have q0:bf w1 w.heap.size 138=true:=by rw [gZ hb (by omega)];exact R0
 have d0:bW w1 w.heap.size=S z:=by rw [qQ hb (by omega)];exact D0
 have hz1:w.heap.size+1<w1.heap.size:=by have:=hb.size;rw [kQ] at this;omega
 have tK:∀i,w1.frozen? ⟨w.heap.size,i,none⟩=false:=fun i=>by rw [Au hb _ _ (by omega)];exact xB z w i
 have ru:=hc1 137 (by omega);have vL:=hc1 136 (by omega);have cw:w1.cell? ⟨w.heap.size,8+P,none⟩=some (.int .i64 v):=by rw [<-hv];exact hc1 (8+P) (by omega)
 have IY:=hc1 (A) (by omega);have Qc:=hc1 (B) (by omega);have c_c:=hc1 (C) (by omega);have HC:=af hc1;clear hb R0 D0 hc1;go_wp2_with fail
 refine (aq jg _).mono ?_;rintro e w' ⟨rfl,hw⟩;obtain rfl:=hw.symm;go_wp2_with fail
 refine (aq HO _).mono ?_;rintro e w' ⟨rfl,hw⟩;obtain rfl:=hw.symm;go_wp2_with fail
 refine (aq HA _).mono ?_;rintro e w' ⟨rfl,hw⟩;obtain rfl:=hw.symm;go_wp2_with fail
 refine (aq lq _).mono ?_;rintro e w' ⟨rfl,hw⟩;obtain rfl:=hw.symm;go_wp2_with fail
 refine (aq HK _).mono ?_;rintro e w' ⟨rfl,hw⟩;obtain rfl:=hw.symm;have r2:bf (w1.setCell ⟨w.heap.size,A,none⟩ (.int .i64 (r))) (w.heap.size+1) 138=true:=sX R1 _ _ (by omega) _;have p2:bf (w1.setCell ⟨w.heap.size,A,none⟩ (.int .i64 (r))) w.heap.size 138=true:=sW q0 _ _;have e2:bW (w1.setCell ⟨w.heap.size,A,none⟩ (.int .i64 (r))) w.heap.size=S (z.set (A) (r)):=by rw [sV q0,d0,jP]
 have c2:(w1.setCell ⟨w.heap.size,A,none⟩ (.int .i64 (r))).cell? ⟨w.heap.size,136,none⟩=some (.int .i64 (gz (z.set (A) (r)) 136)):=by rw [Qb q0,d0,jP,gP _ _ (by simp [hl])]
 have HX:Hid (ak w.heap.size w (w1.setCell ⟨w.heap.size,A,none⟩ (.int .i64 (r)))):=HB.out.setCell (ax _) _;have HB:Hid (ak w.heap.size w ((w1.setCell ⟨w.heap.size,A,none⟩ (.int .i64 (r))).setCell ⟨w.heap.size,136,none⟩ (.int .i64 (((P:Int)+1) % 128))).drew):=(HX.out.setCell (ax _) _).drew;have R2:bf ((w1.setCell ⟨w.heap.size,A,none⟩ (.int .i64 (r))).setCell ⟨w.heap.size,136,none⟩ (.int .i64 (((P:Int)+1) % 128))).drew (w.heap.size+1) 138=true:=sX r2 _ _ (by omega) _;have q2:bf ((w1.setCell ⟨w.heap.size,A,none⟩ (.int .i64 (r))).setCell ⟨w.heap.size,136,none⟩ (.int .i64 (((P:Int)+1) % 128))).drew w.heap.size 138=true:=sW p2 _ _;have d2:bW ((w1.setCell ⟨w.heap.size,A,none⟩ (.int .i64 (r))).setCell ⟨w.heap.size,136,none⟩ (.int .i64 (((P:Int)+1) % 128))).drew w.heap.size=S ((z.set (A) (r)).set 136 (((P:Int)+1) % 128)):=by rw [NG];rw [sV p2,e2,jP]
 obtain ⟨t,hg⟩:=pS R2 (S ((z.set (A) (r)).set 136 (((P:Int)+1) % 128)));have HG:=af hg;clear hg;go_wp2_with fail
 refine (aq ku _).mono ?_;rintro e w' ⟨rfl,hw⟩;obtain rfl:=hw.symm;go_wp2_with fail
 refine qp 13 (by kernel_rfl) (by kernel_rfl) ?_;simp only [j5,jU,j6,iE]
 repeat still_step
 still_call (aq HW _)
 repeat still_step
 refine jC ?_;go_wp2_with (first | (refine fH rfl _ rfl _ rfl q2 _ d2 ?_) | (refine ja rfl _ _ rfl _ rfl _ rfl (by simp [hl]) R2 _ rfl ?_))
 exact cL (v:=.tuple #[.agg (S ((z.set (A) (r)).set 136 (((P:Int)+1) % 128))),.int .i64 0]) (rW zD _ _ _ t ((z.set (A) (r)).set 136 (((P:Int)+1) % 128)) (by simp [hl]) rfl HG.out 0 rfl) rfl ⟨HN.out,iI HB.out (by omega) _⟩
theorem adX {P:mM} (d:Nat) {e:TypeId} (he:P.underlying e=some (.int .i64)) (xs:Array aj) (w:World):∀(is:List Nat),(∀i∈is,∃n,xs[i * 1]? =some (.int .i64 n))->
 (Nw (d+1) e 1 xs xs is).run P w= .ok true w
 | [],_=>by simp [Nw]
 | i :: is,h=>by
   obtain ⟨n,hn⟩:=h i (by simp);have px:(nF e xs (i * 1)).run P w= .ok (.int .i64 n) w:=by
    rw [Nv] at hn⊢;simp [nF,JN,run_underlying he,hn]
   have pe:(Gr (d+1) e (.int .i64 n) (.int .i64 n)).run P w= .ok true w:=by
    rw [Ry w d e .i64 .i64 n n he];simp
   simp only [Nw,kB,px,pe,DI];simpa using adX d he xs w is (fun j hj=>h j (by simp [hj]))
theorem aqi:Tryz.prog.cellsOf 3=1:=by kernel_rfl
theorem aqj:∃i,Tryz.prog.info? 3=some i:=by
 cases h:Tryz.prog.info? 3 with
 | none=>exact absurd (show (Tryz.prog.info? 3).isSome=true by kernel_rfl) (by rw [h];decide)
 | some i=>exact ⟨i,rfl⟩
theorem adY (d:Nat) {t:TypeId} {n:Nat} (hu:Tryz.prog.underlying t=some (.array n 3)) (xs:Array aj) (hx:∀i,i<n->∃m,xs[i]? =some (.int .i64 m)) (w:World):
 (Gr (d+2) t (.agg xs) (.agg xs)).run au w= .ok true w:=by
 obtain ⟨i,hi⟩:=aqj;rw [run_equalIn_array w (d+1) xs xs hu hi,aqi];refine adX d pO xs w _ (fun j hj=>?_);rw [Nv];exact hx j (by simpa using hj)
theorem eqS (r:List Int) (hl:r.length=138) (w:World):(binOp .eql 28 (.agg (S r)) (.agg (S r))).run au w= .ok (.bool true) w:=by
 have g:=fun i hi=>gP r i (show i<r.length from hi);have hs:Tryz.prog.underlying 28=some (.struct (Tryz.prog.fieldsOf 28)):=by kernel_rfl
 have hp:Tryz.prog.stoodInHeld 28=false:=by kernel_rfl
 rw [run_eql_struct,run_equalIn_struct w 9999 28 (S r) (S r) hs hp];have a31:(JN 25).run au w= .ok true w:=by kernel_rfl
 have a32:(JN 26).run au w= .ok true w:=by kernel_rfl
 have a3:(JN 3).run au w= .ok false w:=by kernel_rfl
 have p0:(nF 25 (S r) 0).run au w= .ok (.agg ((S r).extract 0 8)) w:=by simp [nF,a31]
 have p1:(nF 26 (S r) 8).run au w= .ok (.agg ((S r).extract 8 136)) w:=by simp [nF,a32]
 have p2:(nF 3 (S r) 136).run au w= .ok (.int .i64 (gz r 136)) w:=by simp [nF,a3,g 136 (by omega)]
 have p3:(nF 3 (S r) 137).run au w= .ok (.int .i64 (gz r 137)) w:=by simp [nF,a3,g 137 (by omega)]
 have e0:(Gr 9999 25 (.agg ((S r).extract 0 8)) (.agg ((S r).extract 0 8))).run au w= .ok true w:=adY 9997 Tryz.underlying25 _ (fun i hi=>⟨gz r i,by
  rw [Array.getElem?_extract,if_pos (by simp [bQ,hl];omega),Nat.zero_add];exact g i (by omega)⟩) w
 have e1:(Gr 9999 26 (.agg ((S r).extract 8 136)) (.agg ((S r).extract 8 136))).run au w= .ok true w:=adY 9997 Tryz.underlying26 _ (fun i hi=>⟨gz r (8+i),by
  rw [Array.getElem?_extract,if_pos (by simp [bQ,hl];omega)];exact g (8+i) (by omega)⟩) w
 have e2:(Gr 9999 3 (.int .i64 (gz r 136)) (.int .i64 (gz r 136))).run au w= .ok true w:=by rw [Ry w 9998 3 .i64 .i64 _ _ pO];simp
 have e3:(Gr 9999 3 (.int .i64 (gz r 137)) (.int .i64 (gz r 137))).run au w= .ok true w:=by rw [Ry w 9998 3 .i64 .i64 _ _ pO];simp
 simp [Program.fieldsOf,jO,Op.eqFields,kB,p0,p1,p2,p3,e0,e1,e2,e3,kN]
theorem IZ {z:List Int} {P:Nat} (hP:gz z 136=P):kT z=gz z (8+P):=by unfold kT;rw [hP,Int.toNat_natCast]
theorem adZ {z:List Int} (hs:cV z=false):gH z=(bT,8):=by simp [gH,hs]
theorem ad0 {z:List Int} (hs:cV z=true) (hp:gz z 137≠0):gH z=(bT,9):=by simp [gH,hs,hp]
theorem ad1 {z:List Int} (hs:cV z=true) (hp:gz z 137=0) (hk:AZ z=false):gH z=(z.set 137 2,0):=by simp [gH,hs,hp,hk]
theorem ad2 {z:List Int} (hs:cV z=true) (hp:gz z 137=0) (hk:AZ z=true):
 gH z=(cQ z (bu (kT z)) (fa (kT z)) (fb (kT z)) (fc (kT z)) (fk (kT z)),0):=by simp [gH,hs,hp,hk]
theorem Mg (z:List Int) (hl:z.length=138):(gH z).1.length=138:=by
 unfold gH
 repeat' split
 all_goals first | (simp [bT];done) | (simp [hl];done) | exact adU _ _ _ _ _ _ hl
theorem aqm (z:List Int) (w:World) (hl:z.length=138) (ht:bF w):
 av au 104 #[.agg (S z)] w fun e' w'=>e'= .returned (.tuple #[.agg (S (gH z).1),.int .i64 (gH z).2])∧ak w.heap.size w w':=by
 cases hs:cV z
 ·rw [adZ hs];exact ap1 z w hl hs
 ·by_cases hp:gz z 137=0
  ·obtain ⟨p0,p1,_,_⟩:=Cq hs;obtain ⟨P,hP⟩:=j4 p0;have hv:=sP hs (8+P) (by omega);cases hk:AZ z
   ·rw [ad1 hs hp hk];refine ap3 z w hl hs hp P hP (by omega) (gz z (8+P)) rfl hv.1 hv.2 ?_ ht;rw [<-IZ hP];exact hk
   ·rw [ad2 hs hp hk,IZ hP];refine ap4 z w hl hs hp P hP (by omega) (gz z (8+P)) rfl hv.1 hv.2 ?_ ht;rw [<-IZ hP];exact hk
  ·rw [ad0 hs hp];exact ap2 z w hl hs hp
theorem ad3 (z:List Int) (w:World) (hl:z.length=138):
 av au 109 #[.agg (S z)] w fun e' w'=>e'= .returned (.tuple #[.agg (S (gH z).1),.int .i64 (gH z).2])∧ak w.heap.size w w':=by
 cases hs:cV z
 ·rw [adZ hs];exact ap5 z w hl hs
 ·by_cases hp:gz z 137=0
  ·obtain ⟨p0,p1,_,_⟩:=Cq hs;obtain ⟨P,hP⟩:=j4 p0;have hv:=sP hs (8+P) (by omega);cases hk:AZ z
   ·rw [ad1 hs hp hk];refine ap7 z w hl hs hp P hP (by omega) (gz z (8+P)) rfl hv.1 hv.2 ?_;rw [<-IZ hP];exact hk
   ·rw [ad2 hs hp hk,IZ hP];have hkn:gW (bu (gz z (8+P))) (fa (gz z (8+P))) (fb (gz z (8+P))) (fc (gz z (8+P)))=true:=by rw [<-IZ hP];exact hk
    clear hk;have hr:=fun i hi=>sP hs i hi;generalize hv':gz z (8+P)=v at *;obtain ⟨A,ea⟩:=j4 (uQ v).1;obtain ⟨B,eb⟩:=j4 (wj v).1;obtain ⟨C,ec⟩:=j4 (xP v).1;obtain ⟨K,ek⟩:=j4 (wm v).1;have k1:K<4096:=by have:=(wm v).2;omega
    have hop:=adT hkn (vZ v).1;have awJ:=(vZ v).1;have q:∀op,bu v=op->gW op A B C=true:=fun op h=>by rw [<-h,<-ea,<-eb,<-ec];exact hkn
    rw [ea,eb,ec,ek];have hm0:∀x:Int,0<=x % 128∧x % 128<128:=fun x=>by omega
    obtain ⟨m,hm⟩:=j4 (hm0 (gz z B+(K:Int))).1;have hm1:m<128:=by have:=(hm0 (gz z B+(K:Int))).2;omega
    have h:bu v=0∨bu v=1∨(2<=bu v∧bu v<=5)∨bu v=6∨bu v=7∨bu v=8∨bu v=9∨bu v=10:=by omega
    rcases h with h | h | ⟨h2,h5⟩ | h | h | h | h | h
    ·rw [h];exact ap8 z w hl hs hp P hP (by omega) v hv' hv.1 hv.2 hkn A B C K ea eb ec ek k1 h
    ·have ha:=tJ (q _ h) (by decide) (by decide);rw [h];exact ap9 z w hl hs hp P hP (by omega) v hv' hv.1 hv.2 hkn A B C K ea eb ec ek k1 h (by omega)
    ·have ha:=tJ (q _ rfl) (by omega) (by omega);have hb:=yM (q _ rfl) h2 (by omega);have hc:=Mf (q _ rfl) h2 h5;exact aqh z w hl hs hp P hP (by omega) v hv' hv.1 hv.2 hkn A B C K ea eb ec ek k1 (bu v) h2 h5 rfl (by omega) (by omega) (by omega) (hr B (by omega)).1 (hr B (by omega)).2 (hr C (by omega)).1 (hr C (by omega)).2 _ rfl
    ·have ha:=tJ (q _ h) (by decide) (by decide);have hb:=yM (q _ h) (by decide) (by decide);rw [h];exact aqa z w hl hs hp P hP (by omega) v hv' hv.1 hv.2 hkn A B C K ea eb ec ek k1 h (by omega) (by omega) m hm hm1 (hr B (by omega)).1 (hr B (by omega)).2
    ·have ha:=tJ (q _ h) (by decide) (by decide);have hb:=yM (q _ h) (by decide) (by decide);rw [h];exact aqe z w hl hs hp P hP (by omega) v hv' hv.1 hv.2 hkn A B C K ea eb ec ek k1 h (by omega) (by omega) m hm hm1 (hr B (by omega)).1 (hr B (by omega)).2
    ·have ha:=tJ (q _ h) (by decide) (by decide);have hb:=yM (q _ h) (by decide) (by decide);rw [h];by_cases hq:gz z A=gz z B
     ·exact aqf z w hl hs hp P hP (by omega) v hv' hv.1 hv.2 hkn A B C K ea eb ec ek k1 h (by omega) (by omega) hq
     ·exact aqg z w hl hs hp P hP (by omega) v hv' hv.1 hv.2 hkn A B C K ea eb ec ek k1 h (by omega) (by omega) hq
    ·rw [h];exact aqc z w hl hs hp P hP (by omega) v hv' hv.1 hv.2 hkn A B C K ea eb ec ek k1 h
    ·have ha:=tJ (q _ h) (by decide) (by decide);rw [h];exact aqd z w hl hs hp P hP (by omega) v hv' hv.1 hv.2 hkn A B C K ea eb ec ek k1 h (by omega) (hr A (by omega)).1 (hr A (by omega)).2
  ·rw [ad0 hs hp];exact ap6 z w hl hs hp
end
section
open Go.RowKit Go.Maps Go.WideMaps
theorem bH.aF {E D:Nat} {g:ay} {m v:Nat->aj} {w:World} (h:bH E D g m v w):w.rangeAt E 3 ((g.z.take 8).map (cI .i64)):=fun j u q=>by
 refine h.st j u ?_;have hj:j<8:=by have:=(fG.1 q).1;rw [jV,ny] at this;omega
 rw [iX,tW,if_pos hj] at q;rw [iX];exact q
theorem bH.Qd {E D:Nat} {g:ay} {m v:Nat->aj} {w:World} (h:bH E D g m v w):w.rangeAt E 11 ((iW g.z).map (cI .i64)):=fun j u q=>by
 have hj:j<128:=by have:=(fG.1 q).1;rw [jV] at this;unfold iW at this;rw [ny] at this;omega
 have:=h.st (8+j) u (by
  unfold iW at q;rw [iX,tW,if_pos hj,Ch] at q;rw [iX]
  exact q)
 rw [show 3+(8+j)=11+j by omega] at this;exact this
theorem bH.aqn {E D:Nat} {g:ay} {m v:Nat->aj} {w:World} (h:bH E D g m v w) (r:List Int) (hr:r.length=8):bH E D {g with z:=r ++ g.z.drop 8} m v (w.setCells E 3 (r.map (cI .i64))):=by
 have hl:(r.map (cI .i64)).length=8:=by rw [jV,hr]
 have hout:∀k,k<3∨11<=k->(w.setCells E 3 (r.map (cI .i64))).cell? ⟨E,k,none⟩=w.cell? ⟨E,k,none⟩:=fun k hk=>World.cell?_setCells_out E _ 3 w ⟨E,k,none⟩ (fun _ _=>by rw [hl];show k<3∨3+8<=k;omega);refine ⟨fun k=>by rw [World.frozen?_setCells];exact h.fz k,fun k hk=>(hout k (by unfold nV at hk;omega)).trans (h.sc k hk),fun j u q=>?_,?_,fun i hi=>?_,h.sep⟩
 ·have q':((r ++ g.z.drop 8).map (cI .i64))[j]? =some u:=q;rcases oM j 8 with hj | hj
  ·refine World.rangeAt_setCells_same w E 3 _ (fun k hk=>⟨?_,h.fz _⟩) j u ?_
   ·exact h.st.isSome k (by rw [jV,h.zl];rw [hl] at hk;omega)
   ·rw [YB,List.getElem?_append_left (by rw [hl];exact hj)] at q';exact q'
  ·rw [hout (3+j) (by omega)];refine h.st j u ?_;rw [YB,List.getElem?_append_right (by rw [hl];exact hj),hl,iX,Ch,show 8+(j - 8)=j by omega] at q';rw [iX];exact q'
 ·show (r ++ g.z.drop 8).length=138
  rw [List.length_append,List.length_drop,hr,h.zl]
 ·refine (h.bk i hi).kept (fun k hk=>hout k (by omega)) (fun x q=>?_);exact heap_setCells_other E _ 3 w x (h.ne hi q)
theorem bH.aqo {E D:Nat} {g:ay} {m v:Nat->aj} {w:World} (h:bH E D g m v w) (x:Int):bH E D {g with z:=g.z.set 136 x} m v (w.setCell ⟨E,139,none⟩ (.int .i64 x)):=by
 refine ⟨fun k=>by rw [World.frozen?_setCell];exact h.fz k,fun k hk=>(cZ (by unfold nV at hk;omega)).trans (h.sc k hk),fun j u q=>?_,by show (g.z.set 136 x).length=138;rw [List.length_set,h.zl],fun i hi=>(h.bk i hi).kept (fun k hk=>cZ (by omega)) (fun y q=>bB (h.ne hi q)),h.sep⟩;have q':((g.z.set 136 x).map (cI .i64))[j]? =some u:=q;rw [iX,List.getElem?_set] at q';by_cases e:136=j
 ·subst e;rw [if_pos rfl,if_pos (by rw [h.zl];decide)] at q';have hu:u= .int .i64 x:=by simpa using q'.symm
  subst hu;obtain ⟨y,hy⟩:∃y,w.cell? ⟨E,3+136,none⟩=some y:=by
   have:=h.st.isSome 136 (by rw [jV,h.zl];decide);exact Option.isSome_iff_exists.1 this
  exact World.cell?_setCell_same _ _ _ hy
 ·rw [if_neg e] at q';rw [cZ (by omega)];exact h.st j u (by rw [iX];exact q')
theorem aM.setCells (w:World) (E o:Nat) (vs:List aj):aM (fun x=>x=E) w (w.setCells E o vs):=by
 induction vs generalizing w o with
 | nil=>exact aM.refl _ _
 | cons u r ih=>exact (aM.set w E o u).trans (fun x q=>.inl q) (ih (w.setCell ⟨E,o,none⟩ u) (o+1))
theorem BR (z:List Int) (h:z.length=138):(Tryz.prog.info? 28).map (·.size)=some (z.map (cI .i64)).length:=by rw [mD,jV,h]
theorem ad4 (E D:Nat) (g:ay) (m v:Nat->aj) (w:World) (h:bH E D g m v w) (ht:bF w):
 av au 140 #[.pointer (some ⟨E,0,none⟩)] w fun e' w'=>e'= .returned (.tuple #[])∧bH E D {g with z:=(gH g.z).1} m v w'∧aM (dc E m v) w w':=by
 have cH:=af (fun w' (ht':bF w')=>aqm g.z w' h.zl ht');have HH:=af h;have hr:=h.st;have hzl:=BR g.z h.zl;have hz2:=Mg g.z h.zl;have HT:=af ht;clear h ht;go_enter Tryz.func140,Tryz.ntmps140;go_wp2_with (refine wpList_load_mid rfl 28 _ rfl E 3 rfl (g.z.map (cI .i64)) _ hr jO rfl hzl ?_)
 refine (aq cH _ HT.out).mono ?_;rintro e w1 ⟨rfl,hb1⟩;have k1:bH E D g m v w1:=HH.out.kept (fun x q=>hb1.block x (HH.out.has q).2);have vK:w1.there E 3 (S (gH g.z).1).size:=fun j hj=>⟨k1.st.isSome j (by rw [jV,k1.zl];rw [bQ,hz2] at hj;exact hj),k1.fz _⟩;have hs1:(Tryz.prog.info? 28).map (·.size)=some (S (gH g.z).1).size:=by rw [mD,bQ,hz2]
 have hone:=zE (gH g.z).1;have HE:Hid (∀W,W=w1.setCells E 3 (S (gH g.z).1).toList->bH E D {g with z:=(gH g.z).1} m v W∧aM (dc E m v) w W):=fun W hW=>by
  rw [hW];refine ⟨k1.PJ (gH g.z).1 hz2,(aM.bh hb1).trans (fun x q=>.inl q) ((aM.setCells w1 E 3 _).weak (fun x q=>.inl (.inl q)))⟩
 clear hb1 k1 cH hr;go_wp2_with (refine wpList_store_mid rfl 28 _ _ rfl E 3 (S (gH g.z).1) rfl rfl vK hs1 hone ?_)
 go_end0
 exact ⟨rfl,HE.out _ rfl⟩
end
section
open Go
section
variable {P:mM} {ops:Array bI} {Q:Exit->Act->World->Prop} {md:pN} {S:World->Prop} {q:Nat}
theorem aqp {i:Nat} {oi:bI} {v:aj} (hi:ops[i]? =some oi) (hsel:∀(j:Nat) (o:bI) cs b,ops[j]? =some o->o.op≠.select cs b)
 (hQ:∀c a w,Q (.panic c) (a.put oi.dst v) w->Q (.panic c) a w) (CB:q<=i):
 ∀(fuel:Nat) (listed:Array Bool) (a:Act) (w:World),
  (∀j oj,ops[j]? =some oj->j≠i->listed.getD j true=false->(∀e∈oj.after,xL md e=true->e.on≠i)->oi.apart ops oj=true)->
  i∈oL md ops listed->DN P ops (fun _=>True) oi v a->
  wpAnyQ P md ops Q S q fuel (listed.setIfInBounds i true) (a.put oi.dst v) w->wpAnyQ P md ops Q S q (fuel+1) listed a w:=by
 intro fuel
 induction fuel with
 | zero=>
   intro listed a w _ hr hy H;refine ⟨fun h=>(by rw [h] at hr;cases hr),fun j hj=>?_⟩;by_cases hji:j=i
   ·subst hji;exact hy.wpOp hi trivial ⟨fun h=>absurd h (by omega),H⟩
   ·have:=zn hj hji;rw [H.1] at this;cases this
 | succ fuel ih=>
   intro listed a w hfree hr hy H;refine ⟨fun h=>(by rw [h] at hr;cases hr),fun j hj=>?_⟩;by_cases hji:j=i
   ·subst hji;exact hy.wpOp hi trivial ⟨fun h=>absurd h (by omega),H⟩
   ·have h1:=H.2 j (zn hj hji);obtain ⟨hjun,oj,hoj,hall⟩:=Cf.1 hj;have h0:listed.getD i true=false:=(Cf.1 hr).1;have hnot:∀e∈oj.after,xL md e=true->e.on≠i:=fun e he hb heq=>by
     have h1:=hall e he hb;rw [heq] at h1;rcases oM i listed.size with h' | h'
     ·simp [h'] at h0 h1;rw [h0] at h1;cases h1
     ·simp [Array.getElem?_eq_none h'] at h1
    have h2:=wpOp_putIf hoj (hfree j oj hoj hji hjun hnot) (fun cs b=>hsel i oi cs b hi) (fun cs b=>hsel j oj cs b hoj) hQ hy h1;have hfree':∀k ok,ops[k]? =some ok->k≠i->(listed.setIfInBounds j true).getD k true=false->
     (∀e∈ok.after,xL md e=true->e.on≠i)->oi.apart ops ok=true:=fun k ok hk hki hun hno=>by
     refine hfree k ok hk hki ?_ hno;by_cases hjk:j=k
     ·subst hjk;exact hjun
     ·rw [getD_set_ne true hjk] at hun;exact hun
    refine AK (fun a' w' h3=>⟨h3.2.1,ih (listed.setIfInBounds j true) a' w' hfree' (zn hr (Ne.symm hji)) h3.1 ?_⟩) h2;rw [Array.setIfInBounds_comm _ _ hji];exact h3.2.2
def VD (pl:List (Option Bool×Nat)):Bool:=pl.any (fun x=>x.1 == some true)
def tL (P:mM) (ops:Array bI) (Q:Exit->Act->World->Prop) (S:World->Prop) (q:Nat):List (Option Bool×Nat)->Act->World->Prop
 | [],a,w=>Q .normal a w
 | (some true,i) :: pl,a,w=>∃o v,ops[i]? =some o∧DN P ops S o v a∧tL P ops Q S q pl (a.put o.dst v) w
 | (none,i) :: pl,a,w=>∃o v,ops[i]? =some o∧DN P ops (fun _=>True) o v a∧tL P ops Q S q pl (a.put o.dst v) w
 | (some false,k) :: pl,a,w=>∃o,ops[k]? =some o∧∀K:Act->World->Prop,(∀a' w',(k<q->S w')->tL P ops Q S q pl a' w'->K a' w')->if xM o (DQ ops a.tmps) then o.wp P a w K Q else K (a.put o.dst undef) w
theorem Qe {a:Act} {w:World} {i:Nat} {o:bI} {pl:List (Option Bool×Nat)} (v:aj) (hi:ops[i]? =some o) (hw:xM o (DQ ops a.tmps)=true) (hv:∀w,(execOp a.eval o).run P w= .ok (.value v) w)
 (h:tL P ops Q S q pl (a.put o.dst v) w):tL P ops Q S q ((none,i) :: pl) a w:=⟨o,v,hi,.inl ⟨hw,fun w _=>hv w⟩,h⟩
theorem uH {a:Act} {w:World} (h:Q .normal a w):tL P ops Q S q [] a w:=h
theorem qK {a:Act} {w:World} {i:Nat} {o:bI} {pl:List (Option Bool×Nat)} (v:aj) (hi:ops[i]? =some o) (hw:xM o (DQ ops a.tmps)=true) (hv:∀w,S w->(execOp a.eval o).run P w= .ok (.value v) w)
 (h:tL P ops Q S q pl (a.put o.dst v) w):tL P ops Q S q ((some true,i) :: pl) a w:=⟨o,v,hi,.inl ⟨hw,hv⟩,h⟩
theorem jI {k:Nat} {o:bI} {pl:List (Option Bool×Nat)} {a:Act} {w:World} (hk:ops[k]? =some o) (hg:o.guard=none) (h:∀K:Act->World->Prop,(∀a' w',(k<q->S w')->tL P ops Q S q pl a' w'->K a' w')->o.wp P a w K Q):tL P ops Q S q ((some false,k) :: pl) a w:=
 ⟨o,hk,fun K hK=>by
   rw [if_pos (by simp [xM,hg])]
   exact h K hK⟩
def BS (md:pN) (ops:Array bI) (F q:Nat):List (Option Bool×Nat)->Array Bool->Bool
 | [],listed=>decide (oL md ops listed=[])
 | (some true,i) :: pl,listed=>(oL md ops listed).contains i && JI md ops listed i && KN md ops F i listed && (decide (i<q) && (List.range ops.size).all fun j=>decide (j<q) || tq md ops F j i) && BS md ops F q pl (listed.setIfInBounds i true)
 | (none,i) :: pl,listed=>(oL md ops listed).contains i && JI md ops listed i && decide (q<=i) && BS md ops F q pl (listed.setIfInBounds i true)
 | (some false,k) :: pl,listed=>decide (oL md ops listed=[k]) && (decide (k<q) || !VD pl) && BS md ops F q pl (listed.setIfInBounds k true)
theorem Qf {F:Nat} (hsel:vR ops=true) (hQ:∀d v c a w,Q (.panic c) (Act.put a d v) w->Q (.panic c) a w):∀(pl:List (Option Bool×Nat)) (listed:Array Bool) (a:Act) (w:World),(VD pl=true->S w)->BS md ops F q pl listed=true->tL P ops Q S q pl a w->wpAnyQ P md ops Q S q pl.length listed a w
 | [],_,_,_,_,hB,h=>⟨by simpa [BS] using hB,h⟩
 | (some true,i) :: pl,listed,a,w,hS,hB,h=>by
   simp only [BS,gG,decide_eq_true_eq] at hB;obtain ⟨⟨⟨⟨hr,hf⟩,hlt⟩,CB,hlast⟩,hB'⟩:=hB;obtain ⟨o,v,h0,hy,hK⟩:=h;have hSw:S w:=hS rfl;rw [jM];refine O9 h0 (Gj hsel) (hQ o.dst v) (fun j hj hjs=>?_) CB pl.length listed a w (Gk h0 hf) (Pa hlt) (by simpa using hr) hy hSw (Qf hsel hQ pl _ _ w (fun _=>hSw) hB' hK);have h1:=List.all_eq_true.1 hlast j (List.mem_range.2 hjs);simp only [Cg,decide_eq_true_eq] at h1;rcases h1 with h1 | h1
   ·omega
   ·exact h1
 | (none,i) :: pl,listed,a,w,hS,hB,h=>by
   simp only [BS,gG,decide_eq_true_eq] at hB;obtain ⟨⟨⟨hr,hf⟩,CB⟩,hB'⟩:=hB;obtain ⟨o,v,h0,hy,hK⟩:=h;rw [jM];exact aqp h0 (Gj hsel) (hQ o.dst v) CB pl.length listed a w (Gk h0 hf) (by simpa using hr) hy (Qf hsel hQ pl _ _ w (fun q=>hS (by simpa [VD] using q)) hB' hK)
 | (some false,k) :: pl,listed,a,w,hS,hB,h=>by
   simp only [BS,gG,decide_eq_true_eq,Cg,Bool.not_eq_true'] at hB;obtain ⟨⟨hr,hl⟩,hB'⟩:=hB;obtain ⟨o,h0,h2⟩:=h;rw [jM];refine ⟨fun h1=>(by rw [hr] at h1;cases h1),fun i hi=>?_⟩;rw [hr] at hi;have hik:i=k:=by simpa using hi
   subst hik;have h3:=h2 (fun a' w'=>(i<q->S w')∧tL P ops Q S q pl a' w') (fun _ _ h1 h2=>⟨h1,h2⟩);have hw:wpOp P ops Q i (fun a' w'=>(i<q->S w')∧tL P ops Q S q pl a' w') a w:=by
    unfold wpOp;simp only [h0];split
    ·rename_i hq;rw [if_pos hq] at h3;exact .inl h3
    ·rename_i hq;rw [if_neg hq] at h3;exact h3
   refine AK (fun a' w' h'=>⟨h'.1,Qf hsel hQ pl _ a' w' (fun hlf=>?_) hB' h'.2⟩) hw;rcases hl with hl | hl
   ·exact h'.1 hl
   ·rw [hl] at hlf;cases hlf
end
end
end Go.Proofs.YtmmflekajbeamaaGreatDoor
