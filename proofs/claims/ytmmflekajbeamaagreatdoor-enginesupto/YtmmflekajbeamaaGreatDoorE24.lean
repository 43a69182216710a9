/- Texts of ours, joined, in few bytes. -/
import Derived.Test.YtmmflekajbeamaaGreatDoorE23
open Go renaming Calls->av,bodyPost_ret->cL,results_cell_row->jl,wpStill_nil->jC
open Go.Ending renaming returned->kS
open Go.Proofs.Tryz renaming func104->YN,func109->zB,func156->zx,ntmps104->YO,ntmps109->zC,ntmps156->zy,prog->au,results104->YP,results109->zD,results156->zA,underlying28->jO
open Go.RowKit renaming Below->ak
open Go.RowKit.Below renaming refl->aA
open Go.World renaming cell?_alloc_at->kC,cell?_alloc_past->agB
open Int renaming eq_ofNat_of_zero_le->j4
open List renaming drop_succ_cons->j6,drop_zero->iE,take_succ_cons->j5,take_zero->jU
open Nat renaming le_refl->ax
namespace Go.Proofs.YtmmflekajbeamaaGreatDoor
set_option maxRecDepth 100000
set_option maxHeartbeats 2000000
open Go.RowKit
theorem apW (z:List Int) (a b c k:Nat) (w:World) (hl:z.length=138) (ha:a<8) (hb:b<8) (hk:k<4096) (r0:0<=gz z b) (r1:gz z b<4294967296) (p0:0<=gz z 136) (p1:gz z 136<128):
 av au 156 #[.agg (S z),.agg #[.int .i64 6,.int .i64 a,.int .i64 b,.int .i64 c,.int .i64 k]] w fun e' w'=>e'= .returned (.agg (S (cQ z 6 a b c k)))∧ak w.heap.size w w':=by
 have hx:∀i,i<138->(S z)[i]? =some (.int .i64 (gz z i)):=fun i hi=>gP z i (by omega);have rU:=hx 136 (by omega);have hset:=jP;have zz:=iZ;have BQ:=hx a (by omega);have pG:=hx b (by omega);obtain ⟨m,hm⟩:=j4 (show 0<=(gz z b+(k:Int)) % 128 by omega);have hm1:m<128:=by omega
 have hmm:=hx (8+m) (by omega);have HN:Hid (kS (.agg (S ((z.set a (gz z (8+m))).set 136 ((gz z 136+1) % 128))))= .returned (.agg (S (cQ z 6 a b c k)))):=by simp [Hid,cQ,hm]
 have HR:=af (fun w'=>NM (gz z b) k w' r0 r1 (by omega) (by omega));rw [hm] at HR;clear hm;generalize gz z (8+m)=r at *;have Fl:(S (z.set a r))[136]? =some (.int .i64 (gz (z.set a r) 136)):=gP _ _ (by simp [hl]);have ha':(a:Int)<8:=by omega
 have hb':(b:Int)<8:=by omega
 have hm':(m:Int)<128:=by omega
 clear hx;go_enter zx,zy;go_wp2_with fail
 refine qp 15 (by kernel_rfl) (by kernel_rfl) ?_;simp only [j5,jU,j6,iE]
 repeat still_step
 still_call (aq HR _)
 repeat still_step
 refine jC ?_;go_wp2_with (first | (refine fH rfl _ rfl _ rfl (Cx _ _ _ _ _ _ (by simp [bQ,hl])) _ (Cw _ _ _ _ _) ?_) | (refine ja rfl _ _ rfl _ rfl _ rfl (by simp [hl]) (Cy _ _ _ _ _ _ (by simp [bQ,bT])) _ (Cz _ _ _ _ _ _) ?_))
 exact cL (v:=.agg (S ((z.set a r).set 136 ((gz z 136+1) % 128)))) (jl zA _ _ _ 28 (S ((z.set a r).set 136 ((gz z 136+1) % 128))) (0,0) _ rfl (wJ _ _ _ _) jO rfl (by rw [mD,bQ];simp [hl])) rfl ⟨HN.out,CA _ _ _ _⟩
theorem apX (z:List Int) (a b c k:Nat) (w:World) (hl:z.length=138) (ha:a<8) (hb:b<8) (hk:k<4096) (r0:0<=gz z b) (r1:gz z b<4294967296) (p0:0<=gz z 136) (p1:gz z 136<128):
 av au 156 #[.agg (S z),.agg #[.int .i64 7,.int .i64 a,.int .i64 b,.int .i64 c,.int .i64 k]] w fun e' w'=>e'= .returned (.agg (S (cQ z 7 a b c k)))∧ak w.heap.size w w':=by
 have hx:∀i,i<138->(S z)[i]? =some (.int .i64 (gz z i)):=fun i hi=>gP z i (by omega);have rU:=hx 136 (by omega);have hset:=jP;have zz:=iZ;have BQ:=hx a (by omega);have pG:=hx b (by omega);obtain ⟨m,hm⟩:=j4 (show 0<=(gz z b+(k:Int)) % 128 by omega);have hm1:m<128:=by omega
 have hmm:=hx (8+m) (by omega);have HN:Hid (kS (.agg (S ((z.set (8+m) (gz z a)).set 136 ((gz z 136+1) % 128))))= .returned (.agg (S (cQ z 7 a b c k)))):=by simp [Hid,cQ,hm]
 have HR:=af (fun w'=>NM (gz z b) k w' r0 r1 (by omega) (by omega));rw [hm] at HR;clear hm;have Fl:(S (z.set (8+m) (gz z a)))[136]? =some (.int .i64 (gz (z.set (8+m) (gz z a)) 136)):=gP _ _ (by simp [hl]);have ha':(a:Int)<8:=by omega
 have hb':(b:Int)<8:=by omega
 have hm':(m:Int)<128:=by omega
 clear hx;go_enter zx,zy;go_wp2_with fail
 refine qp 15 (by kernel_rfl) (by kernel_rfl) ?_;simp only [j5,jU,j6,iE]
 repeat still_step
 still_call (aq HR _)
 repeat still_step
 refine jC ?_;go_wp2_with (first | (refine fH rfl _ rfl _ rfl (Cx _ _ _ _ _ _ (by simp [bQ,hl])) _ (Cw _ _ _ _ _) ?_) | (refine ja rfl _ _ rfl _ rfl _ rfl (by simp [hl]) (Cy _ _ _ _ _ _ (by simp [bQ,bT])) _ (Cz _ _ _ _ _ _) ?_))
 exact cL (v:=.agg (S ((z.set (8+m) (gz z a)).set 136 ((gz z 136+1) % 128)))) (jl zA _ _ _ 28 (S ((z.set (8+m) (gz z a)).set 136 ((gz z 136+1) % 128))) (0,0) _ rfl (wJ _ _ _ _) jO rfl (by rw [mD,bQ];simp [hl])) rfl ⟨HN.out,CA _ _ _ _⟩
theorem apY (z:List Int) (a b c k:Nat) (w:World) (hl:z.length=138) (ha:a<8) (hb:b<8) (hq:gz z a=gz z b) (p0:0<=gz z 136) (p1:gz z 136<128):
 av au 156 #[.agg (S z),.agg #[.int .i64 8,.int .i64 a,.int .i64 b,.int .i64 c,.int .i64 k]] w fun e' w'=>e'= .returned (.agg (S (cQ z 8 a b c k)))∧ak w.heap.size w w':=by
 have hx:∀i,i<138->(S z)[i]? =some (.int .i64 (gz z i)):=fun i hi=>gP z i (by omega);have rU:=hx 136 (by omega);have hset:=jP;have zz:=iZ;have BQ:=hx a (by omega);have pG:=hx b (by omega);have HN:Hid (kS (.agg (S (z.set 136 ((k:Int) % 128))))= .returned (.agg (S (cQ z 8 a b c k)))):=by simp [Hid,cQ,hq]
 have dQ:(gz z a == gz z b)=true:=by simpa using hq
 clear hq;have ha':(a:Int)<8:=by omega
 have hb':(b:Int)<8:=by omega
 clear hx;go_enter zx,zy;go_wp2_with fail
 refine xV (by kernel_rfl) (by kernel_rfl) ?_
 repeat still_step
 refine jC ?_;go_wp2_with (first | (refine fH rfl _ rfl _ rfl (Cx _ _ _ _ _ _ (by simp [bQ,hl])) _ (Cw _ _ _ _ _) ?_) | (refine ja rfl _ _ rfl _ rfl _ rfl (by simp [hl]) (Cy _ _ _ _ _ _ (by simp [bQ,bT])) _ (Cz _ _ _ _ _ _) ?_))
 exact cL (v:=.agg (S (z.set 136 ((k:Int) % 128)))) (jl zA _ _ _ 28 (S (z.set 136 ((k:Int) % 128))) (0,0) _ rfl (wJ _ _ _ _) jO rfl (by rw [mD,bQ];simp [hl])) rfl ⟨HN.out,CA _ _ _ _⟩
theorem apZ (z:List Int) (a b c k:Nat) (w:World) (hl:z.length=138) (ha:a<8) (hb:b<8) (hq:¬gz z a=gz z b) (p0:0<=gz z 136) (p1:gz z 136<128):
 av au 156 #[.agg (S z),.agg #[.int .i64 8,.int .i64 a,.int .i64 b,.int .i64 c,.int .i64 k]] w fun e' w'=>e'= .returned (.agg (S (cQ z 8 a b c k)))∧ak w.heap.size w w':=by
 have hx:∀i,i<138->(S z)[i]? =some (.int .i64 (gz z i)):=fun i hi=>gP z i (by omega);have rU:=hx 136 (by omega);have hset:=jP;have zz:=iZ;have BQ:=hx a (by omega);have pG:=hx b (by omega);have HN:Hid (kS (.agg (S (z.set 136 ((gz z 136+1) % 128))))= .returned (.agg (S (cQ z 8 a b c k)))):=by simp [Hid,cQ,hq]
 have dQ:(gz z a == gz z b)=false:=by simpa using hq
 clear hq;have ha':(a:Int)<8:=by omega
 have hb':(b:Int)<8:=by omega
 clear hx;go_enter zx,zy;go_wp2_with fail
 refine xV (by kernel_rfl) (by kernel_rfl) ?_
 repeat still_step
 refine jC ?_;go_wp2_with (first | (refine fH rfl _ rfl _ rfl (Cx _ _ _ _ _ _ (by simp [bQ,hl])) _ (Cw _ _ _ _ _) ?_) | (refine ja rfl _ _ rfl _ rfl _ rfl (by simp [hl]) (Cy _ _ _ _ _ _ (by simp [bQ,bT])) _ (Cz _ _ _ _ _ _) ?_))
 exact cL (v:=.agg (S (z.set 136 ((gz z 136+1) % 128)))) (jl zA _ _ _ 28 (S (z.set 136 ((gz z 136+1) % 128))) (0,0) _ rfl (wJ _ _ _ _) jO rfl (by rw [mD,bQ];simp [hl])) rfl ⟨HN.out,CA _ _ _ _⟩
theorem tJ {op a b c:Int} (h:gW op a b c=true) (h0:op≠0) (h9:op≠9):a<8:=by
 unfold gW at h;rw [if_neg (by omega)] at h;split at h
 ·simpa using h
 ·split at h
  ·simp at h;omega
  ·split at h
   ·simp at h;omega
   ·cases h
theorem yM {op a b c:Int} (h:gW op a b c=true) (h2:2<=op) (h8:op<=8):b<8:=by
 unfold gW at h;rw [if_neg (by omega),if_neg (by omega)] at h;split at h
 ·simp at h;omega
 ·split at h
  ·simp at h;omega
  ·cases h
theorem Mf {op a b c:Int} (h:gW op a b c=true) (h2:2<=op) (h5:op<=5):c<8:=by
 unfold gW at h;rw [if_neg (by omega),if_neg (by omega),if_pos (by omega)] at h;simp at h;omega
theorem adT {op a b c:Int} (h:gW op a b c=true) (h0:0<=op):op<=10:=by
 by_cases h':10<op
 ·rw [Zs op a b c h'] at h;cases h
 ·omega
theorem adU (z:List Int) (op a b c k:Int) (hl:z.length=138):(cQ z op a b c k).length=138:=by
 unfold cQ
 repeat' split
 all_goals simp [hl]
theorem ap0 (z:List Int) (op a b c k:Int) (w:World) (hl:z.length=138) (hs:cV z=true) (hk:gW op a b c=true) (o0:0<=op) (a0:0<=a) (b0:0<=b) (c0:0<=c) (k0:0<=k) (k1:k<4096):
 av au 156 #[.agg (S z),.agg #[.int .i64 op,.int .i64 a,.int .i64 b,.int .i64 c,.int .i64 k]] w fun e' w'=>e'= .returned (.agg (S (cQ z op a b c k)))∧ak w.heap.size w w':=by
 have hop:=adT hk o0;obtain ⟨p0,p1,_,_⟩:=Cq hs;have hr:=fun i hi=>sP hs i hi;obtain ⟨A,rfl⟩:=j4 a0;obtain ⟨B,rfl⟩:=j4 b0;obtain ⟨C,rfl⟩:=j4 c0;obtain ⟨K,rfl⟩:=j4 k0;have h:op=0∨op=1∨op=2∨op=3∨op=4∨op=5∨op=6∨op=7∨op=8∨op=9∨op=10:=by omega
 rcases h with rfl | rfl | rfl | rfl | rfl | rfl | rfl | rfl | rfl | rfl | rfl
 ·exact apO z A B C K w hl p0 p1
 ·have:=tJ hk (by decide) (by decide);exact apP z A B C K w hl (by omega) p0 p1
 ·have h1:=tJ hk (by decide) (by decide);have h2:=yM hk (by decide) (by decide);have h3:=Mf hk (by decide) (by decide);exact apS z A B C K w hl (by omega) (by omega) (by omega) (hr B (by omega)).1 (hr B (by omega)).2 (hr C (by omega)).1 (hr C (by omega)).2 p0 p1
 ·have h1:=tJ hk (by decide) (by decide);have h2:=yM hk (by decide) (by decide);have h3:=Mf hk (by decide) (by decide);exact apT z A B C K w hl (by omega) (by omega) (by omega) (hr B (by omega)).1 (hr B (by omega)).2 (hr C (by omega)).1 (hr C (by omega)).2 p0 p1
 ·have h1:=tJ hk (by decide) (by decide);have h2:=yM hk (by decide) (by decide);have h3:=Mf hk (by decide) (by decide);exact apU z A B C K w hl (by omega) (by omega) (by omega) (hr B (by omega)).1 (hr B (by omega)).2 (hr C (by omega)).1 (hr C (by omega)).2 p0 p1
 ·have h1:=tJ hk (by decide) (by decide);have h2:=yM hk (by decide) (by decide);have h3:=Mf hk (by decide) (by decide);exact apV z A B C K w hl (by omega) (by omega) (by omega) (hr B (by omega)).1 (hr B (by omega)).2 (hr C (by omega)).1 (hr C (by omega)).2 p0 p1
 ·have h1:=tJ hk (by decide) (by decide);have h2:=yM hk (by decide) (by decide);exact apW z A B C K w hl (by omega) (by omega) (by omega) (hr B (by omega)).1 (hr B (by omega)).2 p0 p1
 ·have h1:=tJ hk (by decide) (by decide);have h2:=yM hk (by decide) (by decide);exact apX z A B C K w hl (by omega) (by omega) (by omega) (hr B (by omega)).1 (hr B (by omega)).2 p0 p1
 ·have h1:=tJ hk (by decide) (by decide);have h2:=yM hk (by decide) (by decide);by_cases hq:gz z A=gz z B
  ·exact apY z A B C K w hl (by omega) (by omega) hq p0 p1
  ·exact apZ z A B C K w hl (by omega) (by omega) hq p0 p1
 ·exact apQ z A B C K w hl p0 p1
 ·have h1:=tJ hk (by decide) (by decide);exact apR z A B C K w hl (by omega) (hr A (by omega)).1 (hr A (by omega)).2 p0 p1
theorem sC (w:World):(Instr.build 28 #[]).run au w= .ok (.agg (S bT)) w:=by kernel_rfl
def W2 (z:List Int) (w:World):World:=(w.alloc (.cells (S z) 28)).alloc (.cells (S bT) 28)
theorem kQ (z:List Int) (w:World):(W2 z w).heap.size=w.heap.size+1+1:=by simp [W2]
theorem sD (z:List Int) (w:World) (hl:z.length=138):bf (W2 z w) w.heap.size 138=true:=by
 unfold W2;rw [xQ _ _ _ _ (by simp),kV _ _ _ _ _ rfl];simp [bQ,hl]
theorem sE (z:List Int) (w:World):bW (W2 z w) w.heap.size=S z:=by
 unfold W2;rw [A5 _ _ _ (by simp),zF _ _ _ _ rfl]
theorem sF (z:List Int) (w:World):bf (W2 z w) (w.heap.size+1) 138=true:=by
 unfold W2;rw [kV _ _ _ _ _ (by simp)];simp [bQ,bT]
theorem sG (z:List Int) (w:World):ak w.heap.size w (W2 z w):=((aA _ _).alloc (ax _) _).alloc (by simp) _
theorem uG (z:List Int) (w:World) (hl:z.length=138) (i:Nat) (hi:i<138):(W2 z w).cell? ⟨w.heap.size,i,none⟩=some (.int .i64 (gz z i)):=by
 unfold W2;rw [agB (hn:=by simp),kC (hn:=rfl)];exact gP z i (by omega)
theorem xB (z:List Int) (w:World) (i:Nat):(W2 z w).frozen? ⟨w.heap.size,i,none⟩=false:=by
 unfold W2;rw [World.frozen?_alloc_past (hn:=by simp),World.frozen?_alloc_at (hn:=rfl)]
theorem ap1 (z:List Int) (w:World) (hl:z.length=138) (hs:cV z=false):
 av au 104 #[.agg (S z)] w fun e' w'=>e'= .returned (.tuple #[.agg (S (bT)),.int .i64 8])∧ak w.heap.size w w':=by
 have zz:=iZ;have bb:=sC;have HI:=af (GG z (W2 z w) hl);rw [hs] at HI;have R0:=sD z w hl;have D0:=sE z w;go_enter YN,YO;go_wp2_with (refine fH rfl _ rfl _ rfl R0 _ D0 ?_)
 refine (aq HI).mono ?_;rintro e w1 ⟨rfl,hb⟩;rw [kQ] at hb;have R1:bf w1 (w.heap.size+1) 138=true:=by rw [gZ hb (by omega)];exact sF z w
 have HB:Hid (ak w.heap.size w w1):=(sG z w).trans (hb.mono (by omega));obtain ⟨t,hg⟩:=pS R1 (S bT);have HG:=af hg;clear hb hg R0 D0;go_wp2_with (refine ja rfl _ _ rfl _ rfl _ rfl (by simp [bT]) R1 _ rfl ?_)
 exact cL (v:=.tuple #[.agg (S (bT)),.int .i64 8]) (rW YP _ _ _ t (bT) (by simp [bT]) rfl HG.out 8 rfl) rfl ⟨rfl,iI HB.out (by omega) _⟩
theorem ap2 (z:List Int) (w:World) (hl:z.length=138) (hs:cV z=true) (hp:gz z 137≠0):
 av au 104 #[.agg (S z)] w fun e' w'=>e'= .returned (.tuple #[.agg (S (bT)),.int .i64 9])∧ak w.heap.size w w':=by
 have zz:=iZ;have bb:=sC;have HI:=af (GG z (W2 z w) hl);rw [hs] at HI;have R0:=sD z w hl;have D0:=sE z w;have hp':(gz z 137 != 0)=true:=by simpa using hp
 go_enter YN,YO;go_wp2_with (refine fH rfl _ rfl _ rfl R0 _ D0 ?_)
 refine (aq HI).mono ?_;rintro e w1 ⟨rfl,hb⟩;rw [kQ] at hb;have R1:bf w1 (w.heap.size+1) 138=true:=by rw [gZ hb (by omega)];exact sF z w
 have HB:Hid (ak w.heap.size w w1):=(sG z w).trans (hb.mono (by omega));have ru:w1.cell? ⟨w.heap.size,137,none⟩=some (.int .i64 (gz z 137)):=by rw [hb.cell (p:=⟨w.heap.size,137,none⟩) (by simp;omega)];exact uG z w hl 137 (by omega)
 obtain ⟨t,hg⟩:=pS R1 (S bT);have HG:=af hg;clear hb hg R0 D0 hp;go_wp2_with (refine ja rfl _ _ rfl _ rfl _ rfl (by simp [bT]) R1 _ rfl ?_)
 exact cL (v:=.tuple #[.agg (S (bT)),.int .i64 9]) (rW YP _ _ _ t (bT) (by simp [bT]) rfl HG.out 9 rfl) rfl ⟨rfl,iI HB.out (by omega) _⟩
theorem ap3 (z:List Int) (w:World) (hl:z.length=138) (hs:cV z=true) (hp:gz z 137=0) (P:Nat) (hP:gz z 136=P) (vJ:P<128) (v:Int) (hv:gz z (8+P)=v) (v0:0<=v) (v1:v<4294967296) (hkn:gW (bu v) (fa v) (fb v) (fc v)=false) (ht:bF w):
 av au 104 #[.agg (S z)] w fun e' w'=>e'= .returned (.tuple #[.agg (S (z.set 137 2)),.int .i64 0])∧ak w.heap.size w w':=by
 have zz:=iZ;have bb:=sC;have HI:=af (GG z (W2 z w) hl);rw [hs] at HI;have R0:=sD z w hl;have D0:=sE z w;have hP':(P:Int)<128:=by omega
 go_enter YN,YO;go_wp2_with (refine fH rfl _ rfl _ rfl R0 _ D0 ?_)
 refine (aq HI).mono ?_;rintro e w1 ⟨rfl,hb⟩;rw [kQ] at hb;have R1:bf w1 (w.heap.size+1) 138=true:=by rw [gZ hb (by omega)];exact sF z w
 have HB:Hid (ak w.heap.size w w1):=(sG z w).trans (hb.mono (by omega));have hc1:∀i,i<138->w1.cell? ⟨w.heap.size,i,none⟩=some (.int .i64 (gz z i)):=fun i hi=>by rw [hb.cell (p:=⟨w.heap.size,i,none⟩) (by simp;omega)];exact uG z w hl i hi
 have q0:bf w1 w.heap.size 138=true:=by rw [gZ hb (by omega)];exact R0
 have d0:bW w1 w.heap.size=S z:=by rw [qQ hb (by omega)];exact D0
 have hz1:w.heap.size+1<w1.heap.size:=by have:=hb.size;rw [kQ] at this;omega
 have tK:∀i,w1.frozen? ⟨w.heap.size,i,none⟩=false:=fun i=>by rw [hb.frozen (p:=⟨w.heap.size,i,none⟩) (by simp;omega)];exact xB z w i
 have vK:bF w1:=ht.below ht.pos HB.out;have ru:=hc1 137 (by omega);have vL:=hc1 136 (by omega);have cw:w1.cell? ⟨w.heap.size,8+P,none⟩=some (.int .i64 v):=by rw [<-hv];exact hc1 (8+P) (by omega)
 have HC:=af hc1;clear hb R0 D0 hc1;go_wp2_with fail
 refine (NN v _ v0 v1).mono ?_;rintro e w2 ⟨rfl,hb2⟩;have aZ:Hid (ak w.heap.size w w2):=HB.out.trans (hb2.mono (by omega));have R1:bf w2 (w.heap.size+1) 138=true:=by rw [gZ hb2 (by omega)];exact R1
 have q0:bf w2 w.heap.size 138=true:=by rw [gZ hb2 (by omega)];exact q0
 have d0:bW w2 w.heap.size=S z:=by rw [qQ hb2 (by omega)];exact d0
 have hz2:w1.heap.size<=w2.heap.size:=hb2.size;have fz2:w2.frozen? ⟨w.heap.size,137,none⟩=false:=by rw [hb2.frozen (p:=⟨w.heap.size,137,none⟩) (by simp;omega)];exact tK 137
 have adW:w2.cell? ⟨w.heap.size,137,none⟩=some (.int .i64 (gz z 137)):=by rw [hb2.cell (p:=⟨w.heap.size,137,none⟩) (by simp;omega)];exact ru
 have xC:bF w2:=vK.below vK.pos hb2;have HT:=af (fun o=>Se (bu v) (fa v) (fb v) (fc v) (fk v) (w2.alloc o) (vZ v).1 (xC.below xC.pos ((aA _ _).alloc (ax _) o)));rw [hkn] at HT;clear hb2 vL ru cw HC tK vK xC;go_wp2_with fail
 refine (aq HT _).mono ?_;rintro e w3 ⟨rfl,bn⟩;simp only [aB] at bn;have R1:bf w3 (w.heap.size+1) 138=true:=by rw [gZ bn (by omega),xQ _ _ _ _ (by omega)];exact R1
 have q0:bf w3 w.heap.size 138=true:=by rw [gZ bn (by omega),xQ _ _ _ _ (by omega)];exact q0
 have d0:bW w3 w.heap.size=S z:=by rw [qQ bn (by omega),A5 _ _ _ (by omega)];exact d0
 have fz3:w3.frozen? ⟨w.heap.size,137,none⟩=false:=by rw [bn.frozen (p:=⟨w.heap.size,137,none⟩) (by simp;omega),World.frozen?_alloc_past (hn:=by omega)];exact fz2
 have n137:w3.cell? ⟨w.heap.size,137,none⟩=some (.int .i64 (gz z 137)):=by rw [bn.cell (p:=⟨w.heap.size,137,none⟩) (by simp;omega),agB (hn:=by omega)];exact adW
 have HB:Hid (ak w.heap.size w (w3.setCell ⟨w.heap.size,137,none⟩ (.int .i64 2))):=((aZ.out.alloc (by omega) _).trans (bn.mono (by omega))).setCell (ax _) _;have R2:bf (w3.setCell ⟨w.heap.size,137,none⟩ (.int .i64 2)) (w.heap.size+1) 138=true:=sX R1 _ _ (by omega) _;have q2:bf (w3.setCell ⟨w.heap.size,137,none⟩ (.int .i64 2)) w.heap.size 138=true:=sW q0 _ _;have d2:bW (w3.setCell ⟨w.heap.size,137,none⟩ (.int .i64 2)) w.heap.size=S (z.set 137 2):=by rw [sV q0,d0,jP]
 obtain ⟨t,hg⟩:=pS R2 (S (z.set 137 2));have HG:=af hg;clear bn hg;go_wp2_with (first | (refine fH rfl _ rfl _ rfl q2 _ d2 ?_) | (refine ja rfl _ _ rfl _ rfl _ rfl (by simp [hl]) R2 _ rfl ?_))
 exact cL (v:=.tuple #[.agg (S (z.set 137 2)),.int .i64 0]) (rW YP _ _ _ t (z.set 137 2) (by simp [hl]) rfl HG.out 0 rfl) rfl ⟨rfl,iI HB.out (by omega) _⟩
theorem ap4 (z:List Int) (w:World) (hl:z.length=138) (hs:cV z=true) (hp:gz z 137=0) (P:Nat) (hP:gz z 136=P) (vJ:P<128) (v:Int) (hv:gz z (8+P)=v) (v0:0<=v) (v1:v<4294967296) (hkn:gW (bu v) (fa v) (fb v) (fc v)=true) (ht:bF w):
 av au 104 #[.agg (S z)] w fun e' w'=>e'= .returned (.tuple #[.agg (S (cQ z (bu v) (fa v) (fb v) (fc v) (fk v))),.int .i64 0])∧ak w.heap.size w w':=by
 have zz:=iZ;have bb:=sC;have HI:=af (GG z (W2 z w) hl);rw [hs] at HI;have R0:=sD z w hl;have D0:=sE z w;have hP':(P:Int)<128:=by omega
 go_enter YN,YO;go_wp2_with (refine fH rfl _ rfl _ rfl R0 _ D0 ?_)
 refine (aq HI).mono ?_;rintro e w1 ⟨rfl,hb⟩;rw [kQ] at hb;have R1:bf w1 (w.heap.size+1) 138=true:=by rw [gZ hb (by omega)];exact sF z w
 have HB:Hid (ak w.heap.size w w1):=(sG z w).trans (hb.mono (by omega));have hc1:∀i,i<138->w1.cell? ⟨w.heap.size,i,none⟩=some (.int .i64 (gz z i)):=fun i hi=>by rw [hb.cell (p:=⟨w.heap.size,i,none⟩) (by simp;omega)];exact uG z w hl i hi
 have q0:bf w1 w.heap.size 138=true:=by rw [gZ hb (by omega)];exact R0
 have d0:bW w1 w.heap.size=S z:=by rw [qQ hb (by omega)];exact D0
 have hz1:w.heap.size+1<w1.heap.size:=by have:=hb.size;rw [kQ] at this;omega
 have tK:∀i,w1.frozen? ⟨w.heap.size,i,none⟩=false:=fun i=>by rw [hb.frozen (p:=⟨w.heap.size,i,none⟩) (by simp;omega)];exact xB z w i
 have vK:bF w1:=ht.below ht.pos HB.out;have ru:=hc1 137 (by omega);have vL:=hc1 136 (by omega);have cw:w1.cell? ⟨w.heap.size,8+P,none⟩=some (.int .i64 v):=by rw [<-hv];exact hc1 (8+P) (by omega)
 have HC:=af hc1;clear hb R0 D0 hc1;go_wp2_with fail
 refine (NN v _ v0 v1).mono ?_;rintro e w2 ⟨rfl,hb2⟩;have aZ:Hid (ak w.heap.size w w2):=HB.out.trans (hb2.mono (by omega));have R1:bf w2 (w.heap.size+1) 138=true:=by rw [gZ hb2 (by omega)];exact R1
 have q0:bf w2 w.heap.size 138=true:=by rw [gZ hb2 (by omega)];exact q0
 have d0:bW w2 w.heap.size=S z:=by rw [qQ hb2 (by omega)];exact d0
 have hz2:w1.heap.size<=w2.heap.size:=hb2.size;have fz2:w2.frozen? ⟨w.heap.size,137,none⟩=false:=by rw [hb2.frozen (p:=⟨w.heap.size,137,none⟩) (by simp;omega)];exact tK 137
 have adW:w2.cell? ⟨w.heap.size,137,none⟩=some (.int .i64 (gz z 137)):=by rw [hb2.cell (p:=⟨w.heap.size,137,none⟩) (by simp;omega)];exact ru
 have xC:bF w2:=vK.below vK.pos hb2;have HT:=af (fun o=>Se (bu v) (fa v) (fb v) (fc v) (fk v) (w2.alloc o) (vZ v).1 (xC.below xC.pos ((aA _ _).alloc (ax _) o)));rw [hkn] at HT;clear hb2 vL ru cw HC tK vK xC;go_wp2_with fail
 refine (aq HT _).mono ?_;rintro e w3 ⟨rfl,bn⟩;simp only [aB] at bn;have R1:bf w3 (w.heap.size+1) 138=true:=by rw [gZ bn (by omega),xQ _ _ _ _ (by omega)];exact R1
 have q0:bf w3 w.heap.size 138=true:=by rw [gZ bn (by omega),xQ _ _ _ _ (by omega)];exact q0
 have d0:bW w3 w.heap.size=S z:=by rw [qQ bn (by omega),A5 _ _ _ (by omega)];exact d0
 have e0:w3.cell? ⟨w2.heap.size,0,none⟩=some (.int .i64 (bu v)):=by rw [bn.cell (p:=⟨w2.heap.size,0,none⟩) (by simp),kC (hn:=rfl)];rfl
 have e1:w3.cell? ⟨w2.heap.size,1,none⟩=some (.int .i64 (fa v)):=by rw [bn.cell (p:=⟨w2.heap.size,1,none⟩) (by simp),kC (hn:=rfl)];rfl
 have e2:w3.cell? ⟨w2.heap.size,2,none⟩=some (.int .i64 (fb v)):=by rw [bn.cell (p:=⟨w2.heap.size,2,none⟩) (by simp),kC (hn:=rfl)];rfl
 have e3:w3.cell? ⟨w2.heap.size,3,none⟩=some (.int .i64 (fc v)):=by rw [bn.cell (p:=⟨w2.heap.size,3,none⟩) (by simp),kC (hn:=rfl)];rfl
 have e4:w3.cell? ⟨w2.heap.size,4,none⟩=some (.int .i64 (fk v)):=by rw [bn.cell (p:=⟨w2.heap.size,4,none⟩) (by simp),kC (hn:=rfl)];rfl
 have oZ:w2.heap.size<w3.heap.size:=by have:=bn.size;simp at this;omega
 have iM:Hid (ak w.heap.size w w3):=(aZ.out.alloc (by omega) _).trans (bn.mono (by omega));clear bn;go_wp2_with (refine fH rfl _ rfl _ rfl q0 _ d0 ?_)
 refine (ap0 z (bu v) (fa v) (fb v) (fc v) (fk v) _ hl hs hkn (vZ v).1 (uQ v).1 (wj v).1 (xP v).1 (wm v).1 (wm v).2).mono ?_;rintro e w4 ⟨rfl,fZ⟩;have HB:Hid (ak w.heap.size w w4):=iM.out.trans (fZ.mono (by omega));have R2:bf w4 (w.heap.size+1) 138=true:=by rw [gZ fZ (by omega)];exact R1
 obtain ⟨t,hg⟩:=pS R2 (S (cQ z (bu v) (fa v) (fb v) (fc v) (fk v)));have HG:=af hg;have HL:=af (adU z (bu v) (fa v) (fb v) (fc v) (fk v) hl);clear fZ hg;go_wp2_with (refine ja rfl _ _ rfl _ rfl _ rfl HL.out R2 _ rfl ?_)
 exact cL (v:=.tuple #[.agg (S (cQ z (bu v) (fa v) (fb v) (fc v) (fk v))),.int .i64 0]) (rW YP _ _ _ t (cQ z (bu v) (fa v) (fb v) (fc v) (fk v)) HL.out rfl HG.out 0 rfl) rfl ⟨rfl,iI HB.out (by omega) _⟩
set_option linter.unusedVariables false
theorem yN {B:Nat} {W w1:World} (hb:ak B W w1) (n i:Nat) (hn:n<B):w1.cell? ⟨n,i,none⟩=W.cell? ⟨n,i,none⟩:=hb.cell (p:=⟨n,i,none⟩) hn
theorem Au {B:Nat} {W w1:World} (hb:ak B W w1) (n i:Nat) (hn:n<B):w1.frozen? ⟨n,i,none⟩=W.frozen? ⟨n,i,none⟩:=hb.frozen (p:=⟨n,i,none⟩) hn
theorem Qb {w:World} {n k:Nat} (h:bf w n k=true) (i j:Nat) (v:Value):(w.setCell ⟨n,i,none⟩ v).cell? ⟨n,j,none⟩=((bW w n).setIfInBounds i v)[j]?:=by
 obtain ⟨t,hg,_⟩:=Cv h;exact cell_of_row _ n j _ t (0,0) (heap_setCell_same w n i _ t v hg)
theorem ap5 (z:List Int) (w:World) (hl:z.length=138) (hs:cV z=false):
 av au 109 #[.agg (S z)] w fun e' w'=>e'= .returned (.tuple #[.agg (S (bT)),.int .i64 8])∧ak w.heap.size w w':=by
 have zz:=iZ;have bb:=sC;have HI:=af (ue z (W2 z w) hl);rw [hs] at HI;have R0:=sD z w hl;have D0:=sE z w;go_enter zB,zC;go_wp2_with (refine fH rfl _ rfl _ rfl R0 _ D0 ?_)
 refine (aq HI).mono ?_;rintro e w1 ⟨rfl,hb⟩;rw [kQ] at hb;have R1:bf w1 (w.heap.size+1) 138=true:=by rw [gZ hb (by omega)];exact sF z w
 have HB:Hid (ak w.heap.size w w1):=(sG z w).trans (hb.mono (by omega));obtain ⟨t,hg⟩:=pS R1 (S bT);have HG:=af hg;clear hb hg R0 D0;go_wp2_with (refine ja rfl _ _ rfl _ rfl _ rfl (by simp [bT]) R1 _ rfl ?_)
 exact cL (v:=.tuple #[.agg (S (bT)),.int .i64 8]) (rW zD _ _ _ t (bT) (by simp [bT]) rfl HG.out 8 rfl) rfl ⟨rfl,iI HB.out (by omega) _⟩
theorem ap6 (z:List Int) (w:World) (hl:z.length=138) (hs:cV z=true) (hp:gz z 137≠0):
 av au 109 #[.agg (S z)] w fun e' w'=>e'= .returned (.tuple #[.agg (S (bT)),.int .i64 9])∧ak w.heap.size w w':=by
 have zz:=iZ;have bb:=sC;have HI:=af (ue z (W2 z w) hl);rw [hs] at HI;have R0:=sD z w hl;have D0:=sE z w;have hp':(gz z 137 != 0)=true:=by simpa using hp
 go_enter zB,zC;go_wp2_with (refine fH rfl _ rfl _ rfl R0 _ D0 ?_)
 refine (aq HI).mono ?_;rintro e w1 ⟨rfl,hb⟩;rw [kQ] at hb;have R1:bf w1 (w.heap.size+1) 138=true:=by rw [gZ hb (by omega)];exact sF z w
 have HB:Hid (ak w.heap.size w w1):=(sG z w).trans (hb.mono (by omega));have ru:w1.cell? ⟨w.heap.size,137,none⟩=some (.int .i64 (gz z 137)):=by rw [yN hb _ _ (by omega)];exact uG z w hl 137 (by omega)
 obtain ⟨t,hg⟩:=pS R1 (S bT);have HG:=af hg;clear hb hg R0 D0 hp;go_wp2_with (refine ja rfl _ _ rfl _ rfl _ rfl (by simp [bT]) R1 _ rfl ?_)
 exact cL (v:=.tuple #[.agg (S (bT)),.int .i64 9]) (rW zD _ _ _ t (bT) (by simp [bT]) rfl HG.out 9 rfl) rfl ⟨rfl,iI HB.out (by omega) _⟩
theorem ap7 (z:List Int) (w:World) (hl:z.length=138) (hs:cV z=true) (hp:gz z 137=0) (P:Nat) (hP:gz z 136=P) (vJ:P<128) (v:Int) (hv:gz z (8+P)=v) (v0:0<=v) (v1:v<4294967296) (hkn:gW (bu v) (fa v) (fb v) (fc v)=false):
 av au 109 #[.agg (S z)] w fun e' w'=>e'= .returned (.tuple #[.agg (S (z.set 137 2)),.int .i64 0])∧ak w.heap.size w w':=by
 have zz:=iZ;have bb:=sC;have HI:=af (ue z (W2 z w) hl);rw [hs] at HI;have R0:=sD z w hl;have D0:=sE z w;have hP':(P:Int)<128:=by omega
 have jg:=af (fun w=>zK v w v0 v1);rw [hkn] at jg;go_enter zB,zC;go_wp2_with (refine fH rfl _ rfl _ rfl R0 _ D0 ?_)
 refine (aq HI).mono ?_;rintro e w1 ⟨rfl,hb⟩;rw [kQ] at hb;have R1:bf w1 (w.heap.size+1) 138=true:=by rw [gZ hb (by omega)];exact sF z w
 have HB:Hid (ak w.heap.size w w1):=(sG z w).trans (hb.mono (by omega));have hc1:∀i,i<138->w1.cell? ⟨w.heap.size,i,none⟩=some (.int .i64 (gz z i)):=fun i hi=>by rw [yN hb _ _ (by omega)];exact uG z w hl i hi
 have q0:bf w1 w.heap.size 138=true:=by rw [gZ hb (by omega)];exact R0
 have d0:bW w1 w.heap.size=S z:=by rw [qQ hb (by omega)];exact D0
 have hz1:w.heap.size+1<w1.heap.size:=by have:=hb.size;rw [kQ] at this;omega
 have tK:∀i,w1.frozen? ⟨w.heap.size,i,none⟩=false:=fun i=>by rw [Au hb _ _ (by omega)];exact xB z w i
 have ru:=hc1 137 (by omega);have vL:=hc1 136 (by omega);have cw:w1.cell? ⟨w.heap.size,8+P,none⟩=some (.int .i64 v):=by rw [<-hv];exact hc1 (8+P) (by omega)
 have HC:=af hc1;clear hb R0 D0 hc1;go_wp2_with fail
 refine (aq jg _).mono ?_;rintro e w' ⟨rfl,hw⟩;obtain rfl:=hw.symm;have HB:Hid (ak w.heap.size w (w1.setCell ⟨w.heap.size,137,none⟩ (.int .i64 2))):=HB.out.setCell (ax _) _;have R2:bf (w1.setCell ⟨w.heap.size,137,none⟩ (.int .i64 2)) (w.heap.size+1) 138=true:=sX R1 _ _ (by omega) _;have q2:bf (w1.setCell ⟨w.heap.size,137,none⟩ (.int .i64 2)) w.heap.size 138=true:=sW q0 _ _;have d2:bW (w1.setCell ⟨w.heap.size,137,none⟩ (.int .i64 2)) w.heap.size=S (z.set 137 2):=by rw [sV q0,d0,jP]
 obtain ⟨t,hg⟩:=pS R2 (S (z.set 137 2));have HG:=af hg;clear hg;go_wp2_with (first | (refine fH rfl _ rfl _ rfl q2 _ d2 ?_) | (refine ja rfl _ _ rfl _ rfl _ rfl (by simp [hl]) R2 _ rfl ?_))
 exact cL (v:=.tuple #[.agg (S (z.set 137 2)),.int .i64 0]) (rW zD _ _ _ t (z.set 137 2) (by simp [hl]) rfl HG.out 0 rfl) rfl ⟨rfl,iI HB.out (by omega) _⟩
theorem ap8 (z:List Int) (w:World) (hl:z.length=138) (hs:cV z=true) (hp:gz z 137=0) (P:Nat) (hP:gz z 136=P) (vJ:P<128) (v:Int) (hv:gz z (8+P)=v) (v0:0<=v) (v1:v<4294967296) (hkn:gW (bu v) (fa v) (fb v) (fc v)=true) (A B C K:Nat) (ea:fa v=A) (eb:fb v=B) (ec:fc v=C) (ek:fk v=K) (k1:K<4096) (eo:bu v=0):
 av au 109 #[.agg (S z)] w fun e' w'=>e'= .returned (.tuple #[.agg (S (cQ z 0 A B C K)),.int .i64 0])∧ak w.heap.size w w':=by
 have zz:=iZ;have bb:=sC;have HI:=af (ue z (W2 z w) hl);rw [hs] at HI;have R0:=sD z w hl;have D0:=sE z w;have HN:Hid (kS (.tuple #[.agg (S (z.set 137 1)),.int .i64 0])= .returned (.tuple #[.agg (S (cQ z 0 A B C K)),.int .i64 0])):=by simp [Hid,cQ]
 have hP':(P:Int)<128:=by omega
 have jg:=af (fun w=>zK v w v0 v1);have HO:=af (fun w=>uX v w v0 v1);have HA:=af (fun w=>uY v w v0 v1);have lq:=af (fun w=>uZ v w v0 v1);have HK:=af (fun w=>xT v w v0 v1);have ku:=af (fun w=>wI v w v0 v1);rw [hkn] at jg;rw [eo] at HO;rw [ea] at HA;rw [eb] at lq;rw [ec] at ku;rw [ek] at HK;clear eo ea eb ec ek hkn;go_enter zB,zC;go_wp2_with (refine fH rfl _ rfl _ rfl R0 _ D0 ?_)
 refine (aq HI).mono ?_;rintro e w1 ⟨rfl,hb⟩;rw [kQ] at hb;have R1:bf w1 (w.heap.size+1) 138=true:=by rw [gZ hb (by omega)];exact sF z w
 have HB:Hid (ak w.heap.size w w1):=(sG z w).trans (hb.mono (by omega));have hc1:∀i,i<138->w1.cell? ⟨w.heap.size,i,none⟩=some (.int .i64 (gz z i)):=fun i hi=>by rw [yN hb _ _ (by omega)];exact uG z w hl i hi
 have q0:bf w1 w.heap.size 138=true:=by rw [gZ hb (by omega)];exact R0
 have d0:bW w1 w.heap.size=S z:=by rw [qQ hb (by omega)];exact D0
 have hz1:w.heap.size+1<w1.heap.size:=by have:=hb.size;rw [kQ] at this;omega
 have tK:∀i,w1.frozen? ⟨w.heap.size,i,none⟩=false:=fun i=>by rw [Au hb _ _ (by omega)];exact xB z w i
 have ru:=hc1 137 (by omega);have vL:=hc1 136 (by omega);have cw:w1.cell? ⟨w.heap.size,8+P,none⟩=some (.int .i64 v):=by rw [<-hv];exact hc1 (8+P) (by omega)
 have HC:=af hc1;clear hb R0 D0 hc1;go_wp2_with fail
 refine (aq jg _).mono ?_;rintro e w' ⟨rfl,hw⟩;obtain rfl:=hw.symm;go_wp2_with fail
 refine (aq HO _).mono ?_;rintro e w' ⟨rfl,hw⟩;obtain rfl:=hw.symm;go_wp2_with fail
 refine (aq HA _).mono ?_;rintro e w' ⟨rfl,hw⟩;obtain rfl:=hw.symm;go_wp2_with fail
 refine (aq lq _).mono ?_;rintro e w' ⟨rfl,hw⟩;obtain rfl:=hw.symm;go_wp2_with fail
 refine (aq HK _).mono ?_;rintro e w' ⟨rfl,hw⟩;obtain rfl:=hw.symm;have HB:Hid (ak w.heap.size w (w1.setCell ⟨w.heap.size,137,none⟩ (.int .i64 1))):=HB.out.setCell (ax _) _;have R2:bf (w1.setCell ⟨w.heap.size,137,none⟩ (.int .i64 1)) (w.heap.size+1) 138=true:=sX R1 _ _ (by omega) _;have q2:bf (w1.setCell ⟨w.heap.size,137,none⟩ (.int .i64 1)) w.heap.size 138=true:=sW q0 _ _;have d2:bW (w1.setCell ⟨w.heap.size,137,none⟩ (.int .i64 1)) w.heap.size=S (z.set 137 1):=by rw [sV q0,d0,jP]
 obtain ⟨t,hg⟩:=pS R2 (S (z.set 137 1));have HG:=af hg;clear hg;go_wp2_with (first | (refine fH rfl _ rfl _ rfl q2 _ d2 ?_) | (refine ja rfl _ _ rfl _ rfl _ rfl (by simp [hl]) R2 _ rfl ?_))
 exact cL (v:=.tuple #[.agg (S (z.set 137 1)),.int .i64 0]) (rW zD _ _ _ t (z.set 137 1) (by simp [hl]) rfl HG.out 0 rfl) rfl ⟨HN.out,iI HB.out (by omega) _⟩
theorem ap9 (z:List Int) (w:World) (hl:z.length=138) (hs:cV z=true) (hp:gz z 137=0) (P:Nat) (hP:gz z 136=P) (vJ:P<128) (v:Int) (hv:gz z (8+P)=v) (v0:0<=v) (v1:v<4294967296) (hkn:gW (bu v) (fa v) (fb v) (fc v)=true) (A B C K:Nat) (ea:fa v=A) (eb:fb v=B) (ec:fc v=C) (ek:fk v=K) (k1:K<4096) (eo:bu v=1) (ha:A<8):
 av au 109 #[.agg (S z)] w fun e' w'=>e'= .returned (.tuple #[.agg (S (cQ z 1 A B C K)),.int .i64 0])∧ak w.heap.size w w':=by
 have zz:=iZ;have bb:=sC;have HI:=af (ue z (W2 z w) hl);rw [hs] at HI;have R0:=sD z w hl;have D0:=sE z w;have HN:Hid (kS (.tuple #[.agg (S ((z.set (A) ((K:Int))).set 136 (((P:Int)+1) % 128))),.int .i64 0])= .returned (.tuple #[.agg (S (cQ z 1 A B C K)),.int .i64 0])):=by simp [Hid,cQ,hP]
 have hP':(P:Int)<128:=by omega
 have jg:=af (fun w=>zK v w v0 v1);have HO:=af (fun w=>uX v w v0 v1);have HA:=af (fun w=>uY v w v0 v1);have lq:=af (fun w=>uZ v w v0 v1);have HK:=af (fun w=>xT v w v0 v1);have ku:=af (fun w=>wI v w v0 v1);rw [hkn] at jg;rw [eo] at HO;rw [ea] at HA;rw [eb] at lq;rw [ec] at ku;rw [ek] at HK;clear eo ea eb ec ek hkn;have ha':(A:Int)<8:=by omega
 go_enter zB,zC;go_wp2_with (refine fH rfl _ rfl _ rfl R0 _ D0 ?_)
 refine (aq HI).mono ?_;rintro e w1 ⟨rfl,hb⟩;rw [kQ] at hb;have R1:bf w1 (w.heap.size+1) 138=true:=by rw [gZ hb (by omega)];exact sF z w
 have HB:Hid (ak w.heap.size w w1):=(sG z w).trans (hb.mono (by omega));have hc1:∀i,i<138->w1.cell? ⟨w.heap.size,i,none⟩=some (.int .i64 (gz z i)):=fun i hi=>by rw [yN hb _ _ (by omega)];exact uG z w hl i hi
 have q0:bf w1 w.heap.size 138=true:=by rw [gZ hb (by omega)];exact R0
 have d0:bW w1 w.heap.size=S z:=by rw [qQ hb (by omega)];exact D0
 have hz1:w.heap.size+1<w1.heap.size:=by have:=hb.size;rw [kQ] at this;omega
 have tK:∀i,w1.frozen? ⟨w.heap.size,i,none⟩=false:=fun i=>by rw [Au hb _ _ (by omega)];exact xB z w i
 have ru:=hc1 137 (by omega);have vL:=hc1 136 (by omega);have cw:w1.cell? ⟨w.heap.size,8+P,none⟩=some (.int .i64 v):=by rw [<-hv];exact hc1 (8+P) (by omega)
 have IY:=hc1 (A) (by omega);have HC:=af hc1;clear hb R0 D0 hc1;go_wp2_with fail
 refine (aq jg _).mono ?_;rintro e w' ⟨rfl,hw⟩;obtain rfl:=hw.symm;go_wp2_with fail
 refine (aq HO _).mono ?_;rintro e w' ⟨rfl,hw⟩;obtain rfl:=hw.symm;go_wp2_with fail
 refine (aq HA _).mono ?_;rintro e w' ⟨rfl,hw⟩;obtain rfl:=hw.symm;go_wp2_with fail
 refine (aq lq _).mono ?_;rintro e w' ⟨rfl,hw⟩;obtain rfl:=hw.symm;go_wp2_with fail
 refine (aq HK _).mono ?_;rintro e w' ⟨rfl,hw⟩;obtain rfl:=hw.symm;have r2:bf (w1.setCell ⟨w.heap.size,A,none⟩ (.int .i64 ((K:Int)))) (w.heap.size+1) 138=true:=sX R1 _ _ (by omega) _;have p2:bf (w1.setCell ⟨w.heap.size,A,none⟩ (.int .i64 ((K:Int)))) w.heap.size 138=true:=sW q0 _ _;have e2:bW (w1.setCell ⟨w.heap.size,A,none⟩ (.int .i64 ((K:Int)))) w.heap.size=S (z.set (A) ((K:Int))):=by rw [sV q0,d0,jP]
 have c2:(w1.setCell ⟨w.heap.size,A,none⟩ (.int .i64 ((K:Int)))).cell? ⟨w.heap.size,136,none⟩=some (.int .i64 (gz (z.set (A) ((K:Int))) 136)):=by rw [Qb q0,d0,jP,gP _ _ (by simp [hl])]
 have HX:Hid (ak w.heap.size w (w1.setCell ⟨w.heap.size,A,none⟩ (.int .i64 ((K:Int))))):=HB.out.setCell (ax _) _;have HB:Hid (ak w.heap.size w ((w1.setCell ⟨w.heap.size,A,none⟩ (.int .i64 ((K:Int)))).setCell ⟨w.heap.size,136,none⟩ (.int .i64 (((P:Int)+1) % 128)))):=(HX.out.setCell (ax _) _);have R2:bf ((w1.setCell ⟨w.heap.size,A,none⟩ (.int .i64 ((K:Int)))).setCell ⟨w.heap.size,136,none⟩ (.int .i64 (((P:Int)+1) % 128))) (w.heap.size+1) 138=true:=sX r2 _ _ (by omega) _;have q2:bf ((w1.setCell ⟨w.heap.size,A,none⟩ (.int .i64 ((K:Int)))).setCell ⟨w.heap.size,136,none⟩ (.int .i64 (((P:Int)+1) % 128))) w.heap.size 138=true:=sW p2 _ _;have d2:bW ((w1.setCell ⟨w.heap.size,A,none⟩ (.int .i64 ((K:Int)))).setCell ⟨w.heap.size,136,none⟩ (.int .i64 (((P:Int)+1) % 128))) w.heap.size=S ((z.set (A) ((K:Int))).set 136 (((P:Int)+1) % 128)):=by rw [sV p2,e2,jP]
 obtain ⟨t,hg⟩:=pS R2 (S ((z.set (A) ((K:Int))).set 136 (((P:Int)+1) % 128)));have HG:=af hg;clear hg;go_wp2_with (first | (refine fH rfl _ rfl _ rfl q2 _ d2 ?_) | (refine ja rfl _ _ rfl _ rfl _ rfl (by simp [hl]) R2 _ rfl ?_))
 exact cL (v:=.tuple #[.agg (S ((z.set (A) ((K:Int))).set 136 (((P:Int)+1) % 128))),.int .i64 0]) (rW zD _ _ _ t ((z.set (A) ((K:Int))).set 136 (((P:Int)+1) % 128)) (by simp [hl]) rfl HG.out 0 rfl) rfl ⟨HN.out,iI HB.out (by omega) _⟩
theorem aqa (z:List Int) (w:World) (hl:z.length=138) (hs:cV z=true) (hp:gz z 137=0) (P:Nat) (hP:gz z 136=P) (vJ:P<128) (v:Int) (hv:gz z (8+P)=v) (v0:0<=v) (v1:v<4294967296) (hkn:gW (bu v) (fa v) (fb v) (fc v)=true) (A B C K:Nat) (ea:fa v=A) (eb:fb v=B) (ec:fc v=C) (ek:fk v=K) (k1:K<4096) (eo:bu v=6) (ha:A<8) (qW:B<8) (m:Nat) (hm:(gz z B+(K:Int)) % 128=m) (hm1:m<128) (r0:0<=gz z B) (r1:gz z B<4294967296):
 av au 109 #[.agg (S z)] w fun e' w'=>e'= .returned (.tuple #[.agg (S (cQ z 6 A B C K)),.int .i64 0])∧ak w.heap.size w w':=by
 have zz:=iZ;have bb:=sC;have HI:=af (ue z (W2 z w) hl);rw [hs] at HI;have R0:=sD z w hl;have D0:=sE z w;have HN:Hid (kS (.tuple #[.agg (S ((z.set (A) (gz z (8+m))).set 136 (((P:Int)+1) % 128))),.int .i64 0])= .returned (.tuple #[.agg (S (cQ z 6 A B C K)),.int .i64 0])):=by simp [Hid,cQ,hP,hm]
 have hP':(P:Int)<128:=by omega
 have jg:=af (fun w=>zK v w v0 v1);have HO:=af (fun w=>uX v w v0 v1);have HA:=af (fun w=>uY v w v0 v1);have lq:=af (fun w=>uZ v w v0 v1);have HK:=af (fun w=>xT v w v0 v1);have ku:=af (fun w=>wI v w v0 v1);rw [hkn] at jg;rw [eo] at HO;rw [ea] at HA;rw [eb] at lq;rw [ec] at ku;rw [ek] at HK;clear eo ea eb ec ek hkn;have ha':(A:Int)<8:=by omega
 have hb':(B:Int)<8:=by omega
 have hm':(m:Int)<128:=by omega
 go_enter zB,zC;go_wp2_with (refine fH rfl _ rfl _ rfl R0 _ D0 ?_)
 refine (aq HI).mono ?_;rintro e w1 ⟨rfl,hb⟩;rw [kQ] at hb;have R1:bf w1 (w.heap.size+1) 138=true:=by rw [gZ hb (by omega)];exact sF z w
 have HB:Hid (ak w.heap.size w w1):=(sG z w).trans (hb.mono (by omega));have hc1:∀i,i<138->w1.cell? ⟨w.heap.size,i,none⟩=some (.int .i64 (gz z i)):=fun i hi=>by rw [yN hb _ _ (by omega)];exact uG z w hl i hi
 have q0:bf w1 w.heap.size 138=true:=by rw [gZ hb (by omega)];exact R0
 have d0:bW w1 w.heap.size=S z:=by rw [qQ hb (by omega)];exact D0
 have hz1:w.heap.size+1<w1.heap.size:=by have:=hb.size;rw [kQ] at this;omega
 have tK:∀i,w1.frozen? ⟨w.heap.size,i,none⟩=false:=fun i=>by rw [Au hb _ _ (by omega)];exact xB z w i
 have ru:=hc1 137 (by omega);have vL:=hc1 136 (by omega);have cw:w1.cell? ⟨w.heap.size,8+P,none⟩=some (.int .i64 v):=by rw [<-hv];exact hc1 (8+P) (by omega)
 have IY:=hc1 (A) (by omega);have Qc:=hc1 (B) (by omega);have c_m:=hc1 (8+m) (by omega);have HC:=af hc1;clear hb R0 D0 hc1;go_wp2_with fail
 refine (aq jg _).mono ?_;rintro e w' ⟨rfl,hw⟩;obtain rfl:=hw.symm;go_wp2_with fail
 refine (aq HO _).mono ?_;rintro e w' ⟨rfl,hw⟩;obtain rfl:=hw.symm;go_wp2_with fail
 refine (aq HA _).mono ?_;rintro e w' ⟨rfl,hw⟩;obtain rfl:=hw.symm;go_wp2_with fail
 refine (aq lq _).mono ?_;rintro e w' ⟨rfl,hw⟩;obtain rfl:=hw.symm;go_wp2_with fail
 refine (aq HK _).mono ?_;rintro e w' ⟨rfl,hw⟩;obtain rfl:=hw.symm;have r2:bf (w1.setCell ⟨w.heap.size,A,none⟩ (.int .i64 (gz z (8+m)))) (w.heap.size+1) 138=true:=sX R1 _ _ (by omega) _;have p2:bf (w1.setCell ⟨w.heap.size,A,none⟩ (.int .i64 (gz z (8+m)))) w.heap.size 138=true:=sW q0 _ _;have e2:bW (w1.setCell ⟨w.heap.size,A,none⟩ (.int .i64 (gz z (8+m)))) w.heap.size=S (z.set (A) (gz z (8+m))):=by rw [sV q0,d0,jP]
 have c2:(w1.setCell ⟨w.heap.size,A,none⟩ (.int .i64 (gz z (8+m)))).cell? ⟨w.heap.size,136,none⟩=some (.int .i64 (gz (z.set (A) (gz z (8+m))) 136)):=by rw [Qb q0,d0,jP,gP _ _ (by simp [hl])]
 have HX:Hid (ak w.heap.size w (w1.setCell ⟨w.heap.size,A,none⟩ (.int .i64 (gz z (8+m))))):=HB.out.setCell (ax _) _;have HB:Hid (ak w.heap.size w ((w1.setCell ⟨w.heap.size,A,none⟩ (.int .i64 (gz z (8+m)))).setCell ⟨w.heap.size,136,none⟩ (.int .i64 (((P:Int)+1) % 128)))):=(HX.out.setCell (ax _) _);have R2:bf ((w1.setCell ⟨w.heap.size,A,none⟩ (.int .i64 (gz z (8+m)))).setCell ⟨w.heap.size,136,none⟩ (.int .i64 (((P:Int)+1) % 128))) (w.heap.size+1) 138=true:=sX r2 _ _ (by omega) _;have q2:bf ((w1.setCell ⟨w.heap.size,A,none⟩ (.int .i64 (gz z (8+m)))).setCell ⟨w.heap.size,136,none⟩ (.int .i64 (((P:Int)+1) % 128))) w.heap.size 138=true:=sW p2 _ _;have d2:bW ((w1.setCell ⟨w.heap.size,A,none⟩ (.int .i64 (gz z (8+m)))).setCell ⟨w.heap.size,136,none⟩ (.int .i64 (((P:Int)+1) % 128))) w.heap.size=S ((z.set (A) (gz z (8+m))).set 136 (((P:Int)+1) % 128)):=by rw [sV p2,e2,jP]
 obtain ⟨t,hg⟩:=pS R2 (S ((z.set (A) (gz z (8+m))).set 136 (((P:Int)+1) % 128)));have HG:=af hg;clear hg;go_wp2_with (first | (refine fH rfl _ rfl _ rfl q2 _ d2 ?_) | (refine ja rfl _ _ rfl _ rfl _ rfl (by simp [hl]) R2 _ rfl ?_))
 exact cL (v:=.tuple #[.agg (S ((z.set (A) (gz z (8+m))).set 136 (((P:Int)+1) % 128))),.int .i64 0]) (rW zD _ _ _ t ((z.set (A) (gz z (8+m))).set 136 (((P:Int)+1) % 128)) (by simp [hl]) rfl HG.out 0 rfl) rfl ⟨HN.out,iI HB.out (by omega) _⟩
theorem aqc (z:List Int) (w:World) (hl:z.length=138) (hs:cV z=true) (hp:gz z 137=0) (P:Nat) (hP:gz z 136=P) (vJ:P<128) (v:Int) (hv:gz z (8+P)=v) (v0:0<=v) (v1:v<4294967296) (hkn:gW (bu v) (fa v) (fb v) (fc v)=true) (A B C K:Nat) (ea:fa v=A) (eb:fb v=B) (ec:fc v=C) (ek:fk v=K) (k1:K<4096) (eo:bu v=9):
 av au 109 #[.agg (S z)] w fun e' w'=>e'= .returned (.tuple #[.agg (S (cQ z 9 A B C K)),.int .i64 0])∧ak w.heap.size w w':=by
 have zz:=iZ;have bb:=sC;have HI:=af (ue z (W2 z w) hl);rw [hs] at HI;have R0:=sD z w hl;have D0:=sE z w;have HN:Hid (kS (.tuple #[.agg (S (z.set 136 ((K:Int) % 128))),.int .i64 0])= .returned (.tuple #[.agg (S (cQ z 9 A B C K)),.int .i64 0])):=by simp [Hid,cQ]
 have hP':(P:Int)<128:=by omega
 have jg:=af (fun w=>zK v w v0 v1);have HO:=af (fun w=>uX v w v0 v1);have HA:=af (fun w=>uY v w v0 v1);have lq:=af (fun w=>uZ v w v0 v1);have HK:=af (fun w=>xT v w v0 v1);have ku:=af (fun w=>wI v w v0 v1);rw [hkn] at jg;rw [eo] at HO;rw [ea] at HA;rw [eb] at lq;rw [ec] at ku;rw [ek] at HK;clear eo ea eb ec ek hkn;go_enter zB,zC;go_wp2_with (refine fH rfl _ rfl _ rfl R0 _ D0 ?_)
 refine (aq HI).mono ?_;rintro e w1 ⟨rfl,hb⟩;rw [kQ] at hb;have R1:bf w1 (w.heap.size+1) 138=true:=by rw [gZ hb (by omega)];exact sF z w
 have HB:Hid (ak w.heap.size w w1):=(sG z w).trans (hb.mono (by omega));have hc1:∀i,i<138->w1.cell? ⟨w.heap.size,i,none⟩=some (.int .i64 (gz z i)):=fun i hi=>by rw [yN hb _ _ (by omega)];exact uG z w hl i hi
 have q0:bf w1 w.heap.size 138=true:=by rw [gZ hb (by omega)];exact R0
 have d0:bW w1 w.heap.size=S z:=by rw [qQ hb (by omega)];exact D0
 have hz1:w.heap.size+1<w1.heap.size:=by have:=hb.size;rw [kQ] at this;omega
 have tK:∀i,w1.frozen? ⟨w.heap.size,i,none⟩=false:=fun i=>by rw [Au hb _ _ (by omega)];exact xB z w i
 have ru:=hc1 137 (by omega);have vL:=hc1 136 (by omega);have cw:w1.cell? ⟨w.heap.size,8+P,none⟩=some (.int .i64 v):=by rw [<-hv];exact hc1 (8+P) (by omega)
 have HC:=af hc1;clear hb R0 D0 hc1;go_wp2_with fail
 refine (aq jg _).mono ?_;rintro e w' ⟨rfl,hw⟩;obtain rfl:=hw.symm;go_wp2_with fail
 refine (aq HO _).mono ?_;rintro e w' ⟨rfl,hw⟩;obtain rfl:=hw.symm;go_wp2_with fail
 refine (aq HA _).mono ?_;rintro e w' ⟨rfl,hw⟩;obtain rfl:=hw.symm;go_wp2_with fail
 refine (aq lq _).mono ?_;rintro e w' ⟨rfl,hw⟩;obtain rfl:=hw.symm;go_wp2_with fail
 refine (aq HK _).mono ?_;rintro e w' ⟨rfl,hw⟩;obtain rfl:=hw.symm;have HB:Hid (ak w.heap.size w (w1.setCell ⟨w.heap.size,136,none⟩ (.int .i64 ((K:Int) % 128)))):=(HB.out.setCell (ax _) _);have R2:bf (w1.setCell ⟨w.heap.size,136,none⟩ (.int .i64 ((K:Int) % 128))) (w.heap.size+1) 138=true:=sX R1 _ _ (by omega) _;have q2:bf (w1.setCell ⟨w.heap.size,136,none⟩ (.int .i64 ((K:Int) % 128))) w.heap.size 138=true:=sW q0 _ _;have d2:bW (w1.setCell ⟨w.heap.size,136,none⟩ (.int .i64 ((K:Int) % 128))) w.heap.size=S (z.set 136 ((K:Int) % 128)):=by rw [sV q0,d0,jP]
 obtain ⟨t,hg⟩:=pS R2 (S (z.set 136 ((K:Int) % 128)));have HG:=af hg;clear hg;go_wp2_with (first | (refine fH rfl _ rfl _ rfl q2 _ d2 ?_) | (refine ja rfl _ _ rfl _ rfl _ rfl (by simp [hl]) R2 _ rfl ?_))
 exact cL (v:=.tuple #[.agg (S (z.set 136 ((K:Int) % 128))),.int .i64 0]) (rW zD _ _ _ t (z.set 136 ((K:Int) % 128)) (by simp [hl]) rfl HG.out 0 rfl) rfl ⟨HN.out,iI HB.out (by omega) _⟩
theorem aqd (z:List Int) (w:World) (hl:z.length=138) (hs:cV z=true) (hp:gz z 137=0) (P:Nat) (hP:gz z 136=P) (vJ:P<128) (v:Int) (hv:gz z (8+P)=v) (v0:0<=v) (v1:v<4294967296) (hkn:gW (bu v) (fa v) (fb v) (fc v)=true) (A B C K:Nat) (ea:fa v=A) (eb:fb v=B) (ec:fc v=C) (ek:fk v=K) (k1:K<4096) (eo:bu v=10) (ha:A<8) (r0:0<=gz z A) (r1:gz z A<4294967296):
 av au 109 #[.agg (S z)] w fun e' w'=>e'= .returned (.tuple #[.agg (S (cQ z 10 A B C K)),.int .i64 0])∧ak w.heap.size w w':=by
 have zz:=iZ;have bb:=sC;have HI:=af (ue z (W2 z w) hl);rw [hs] at HI;have R0:=sD z w hl;have D0:=sE z w;have HN:Hid (kS (.tuple #[.agg (S (z.set 136 (gz z A % 128))),.int .i64 0])= .returned (.tuple #[.agg (S (cQ z 10 A B C K)),.int .i64 0])):=by simp [Hid,cQ]
 have hP':(P:Int)<128:=by omega
 have jg:=af (fun w=>zK v w v0 v1);have HO:=af (fun w=>uX v w v0 v1);have HA:=af (fun w=>uY v w v0 v1);have lq:=af (fun w=>uZ v w v0 v1);have HK:=af (fun w=>xT v w v0 v1);have ku:=af (fun w=>wI v w v0 v1);rw [hkn] at jg;rw [eo] at HO;rw [ea] at HA;rw [eb] at lq;rw [ec] at ku;rw [ek] at HK;clear eo ea eb ec ek hkn;have ha':(A:Int)<8:=by omega
 go_enter zB,zC;go_wp2_with (refine fH rfl _ rfl _ rfl R0 _ D0 ?_)
 refine (aq HI).mono ?_;rintro e w1 ⟨rfl,hb⟩;rw [kQ] at hb;have R1:bf w1 (w.heap.size+1) 138=true:=by rw [gZ hb (by omega)];exact sF z w
 have HB:Hid (ak w.heap.size w w1):=(sG z w).trans (hb.mono (by omega));have hc1:∀i,i<138->w1.cell? ⟨w.heap.size,i,none⟩=some (.int .i64 (gz z i)):=fun i hi=>by rw [yN hb _ _ (by omega)];exact uG z w hl i hi
 have q0:bf w1 w.heap.size 138=true:=by rw [gZ hb (by omega)];exact R0
 have d0:bW w1 w.heap.size=S z:=by rw [qQ hb (by omega)];exact D0
 have hz1:w.heap.size+1<w1.heap.size:=by have:=hb.size;rw [kQ] at this;omega
 have tK:∀i,w1.frozen? ⟨w.heap.size,i,none⟩=false:=fun i=>by rw [Au hb _ _ (by omega)];exact xB z w i
 have ru:=hc1 137 (by omega);have vL:=hc1 136 (by omega);have cw:w1.cell? ⟨w.heap.size,8+P,none⟩=some (.int .i64 v):=by rw [<-hv];exact hc1 (8+P) (by omega)
 have IY:=hc1 (A) (by omega);have HC:=af hc1;clear hb R0 D0 hc1;go_wp2_with fail
 refine (aq jg _).mono ?_;rintro e w' ⟨rfl,hw⟩;obtain rfl:=hw.symm;go_wp2_with fail
 refine (aq HO _).mono ?_;rintro e w' ⟨rfl,hw⟩;obtain rfl:=hw.symm;go_wp2_with fail
 refine (aq HA _).mono ?_;rintro e w' ⟨rfl,hw⟩;obtain rfl:=hw.symm;go_wp2_with fail
 refine (aq lq _).mono ?_;rintro e w' ⟨rfl,hw⟩;obtain rfl:=hw.symm;go_wp2_with fail
 refine (aq HK _).mono ?_;rintro e w' ⟨rfl,hw⟩;obtain rfl:=hw.symm;have HB:Hid (ak w.heap.size w (w1.setCell ⟨w.heap.size,136,none⟩ (.int .i64 (gz z A % 128)))):=(HB.out.setCell (ax _) _);have R2:bf (w1.setCell ⟨w.heap.size,136,none⟩ (.int .i64 (gz z A % 128))) (w.heap.size+1) 138=true:=sX R1 _ _ (by omega) _;have q2:bf (w1.setCell ⟨w.heap.size,136,none⟩ (.int .i64 (gz z A % 128))) w.heap.size 138=true:=sW q0 _ _;have d2:bW (w1.setCell ⟨w.heap.size,136,none⟩ (.int .i64 (gz z A % 128))) w.heap.size=S (z.set 136 (gz z A % 128)):=by rw [sV q0,d0,jP]
 obtain ⟨t,hg⟩:=pS R2 (S (z.set 136 (gz z A % 128)));have HG:=af hg;clear hg;go_wp2_with (first | (refine fH rfl _ rfl _ rfl q2 _ d2 ?_) | (refine ja rfl _ _ rfl _ rfl _ rfl (by simp [hl]) R2 _ rfl ?_))
 exact cL (v:=.tuple #[.agg (S (z.set 136 (gz z A % 128))),.int .i64 0]) (rW zD _ _ _ t (z.set 136 (gz z A % 128)) (by simp [hl]) rfl HG.out 0 rfl) rfl ⟨HN.out,iI HB.out (by omega) _⟩
end Go.Proofs.YtmmflekajbeamaaGreatDoor
