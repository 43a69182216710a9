/- Texts of ours, joined, in few bytes. -/
import Derived.Test.YtmmflekajbeamaaGreatDoorE10
open Bool renaming and_eq_true->gG
open ByteArray renaming size_extract->rP
open Go.Act renaming put->xN
open Go renaming Calls->av,Oper->bI,Program->mM,Value->aj,heap_alloc_new->bg
open Go.Proofs.Tryz renaming func101->Rp,func127->Yw,func54->Ys,ntmps101->Rq,ntmps127->Yx,ntmps54->Yt,prog->au,underlying136->DV,underlying9->Cj
open Go.Region renaming Mode->pN,free->JI,free_spec->Gk,noSelect->vR,noSelect_spec->Gj,ready->oL,waitsFor->XL,waitsFor_spec->XN,wanted->xM
open Go.Result renaming andThen->kN
open Go.RowKit.Below renaming refl->aA
open Go.RowKit renaming wrap64->aY
open Go.Value renaming slice->mQ,string->tZ
open Go.World renaming cell?_of_block->aP,cell?_setCell_same->qj,frozen?_of_block->fS,frozen?_setCell->oO,ownsRow_nil->j7
open List renaming length_append->dK,length_take->ny,range->jL,take_of_length_le->mO
open Nat renaming le_refl->ax,le_trans->aT,min_eq_left->D6,sub_zero->Nt,zero_le->bK
open Option.some renaming inj->oN
namespace Go.Proofs.YtmmflekajbeamaaGreatDoor
set_option maxRecDepth 100000
set_option maxHeartbeats 4000000
section
open Go.RowKit
theorem OU (D:Nat) (i:Int) (w:World) (h:i<0∨2<=i):
 av au 101 #[.pointer (some ⟨D,0,none⟩),.int .i64 i] w fun e' w'=>e'= .returned (.tuple #[.pointer none,.int .i64 13])∧w'=w:=by
 rcases h with h | h
 ·go_enter Rp,Rq;go_wp2_with fail
  go_ret2
  exact ⟨rfl,rfl⟩
 ·have h1:¬i<0:=by omega
  go_enter Rp,Rq;go_wp2_with fail
  go_ret2
  exact ⟨rfl,rfl⟩
theorem trW {t:Nat} (h:1<=t) (hb:(t:Int)<=9223372036854775807):aY ((t:Int) - 1)=((t - 1:Nat):Int):=by unfold aY;omega
theorem KI (D:Nat) (d:aL) (vs:Nat->aj) (i:Nat) (w:World) (h:cK D d vs w) (hi:i<2) (ht:d.tr≠1):
 av au 101 #[.pointer (some ⟨D,0,none⟩),.int .i64 (i:Int)] w fun e' w'=>e'= .returned (.tuple #[.pointer (some ⟨D,i * 2,none⟩),.int .i64 0])∧cK D d.tick vs w'∧jh D vs vs w w':=by
 have h1:¬(i:Int)<0:=by omega
 have h2:(i:Int)<2:=by omega
 have c4:=h.tr;have f4:=h.fz 4;have HH:=af h;by_cases h0:d.tr=0
 ·have HE:Hid (d.tick=d):=by unfold Hid aL.tick;rw [h0];cases d;simp_all
  rw [h0] at c4;clear h;go_enter Rp,Rq;go_wp2_with fail
  go_ret2
  exact ⟨rfl,by rw [HE.out];exact HH.out,jh.refl _ _ _⟩
 ·have hp:(0:Int)<(d.tr:Int):=by omega
  have hw:=trW (by omega) h.Hv;have hz:¬((d.tr - 1:Nat):Int)=0:=by omega
  have HS:=af (h.OT (d.tr - 1) (by have:=h.Hv;omega));have HW:Hid (∀W,W=w.setCell ⟨D,4,none⟩ (.int .i64 ((d.tr - 1:Nat):Int))->cK D d.tick vs W∧jh D vs vs w W):=fun W e=>by rw [e];exact HS.out
  clear h HS;generalize d.tr - 1=t at *;generalize (d.tr:Int)=T at *;go_enter Rp,Rq;go_wp2_with fail
  go_ret2
  exact ⟨rfl,HW.out _ rfl⟩
theorem OV (D:Nat) (d:aL) (vs:Nat->aj) (i:Nat) (w:World) (h:cK D d vs w) (hi:i<2) (ht:d.tr=1):
 av au 101 #[.pointer (some ⟨D,0,none⟩),.int .i64 (i:Int)] w fun e' w'=>e'= .returned (.tuple #[.pointer none,.int .i64 15])∧cK D d.tick vs w'∧jh D vs vs w w':=by
 have h1:¬(i:Int)<0:=by omega
 have h2:(i:Int)<2:=by omega
 have c4:=h.tr;have f4:=h.fz 4;have HS:=af (h.OT 0 (by decide));have HW:Hid (∀W,W=w.setCell ⟨D,4,none⟩ (.int .i64 0)->cK D d.tick vs W∧jh D vs vs w W):=fun W e=>by
  rw [e];have:d.tick= {d with tr:=0}:=by unfold aL.tick;rw [ht]
  rw [this];exact HS.out
 rw [ht] at c4;clear h HS;go_enter Rp,Rq;go_wp2_with fail
 go_ret2
 exact ⟨rfl,HW.out _ rfl⟩
def qB (D:Nat) (vs:Nat->aj) (w:World) (n:Int) (d':aL) (e':Ending) (w':World):Prop:=e'= .returned (.int .i64 n)∧∃vs',cK D d' vs' w'∧jh D vs vs' w w'
def jv (d:aL) (i:Int) (s:List UInt8):Int×aL:=
 if i<0∨2<=i then (13,d) else if d.tr=1 then (15,d.tick) else if 1500<(d.b i.toNat).length+s.length then (14,d.tick) else (0,{d.tick with b:=aE d.b i.toNat (d.b i.toNat ++ s)})
def jw (d:aL) (i:Int):Int×aL:=
 if i<0∨2<=i then (13,d) else if d.tr=1 then (15,d.tick) else (0,{d.tick with b:=aE d.b i.toNat [],n:=aE d.n i.toNat 0})
def cG (d:aL) (i:Int):Int×aL:=
 if i<0∨2<=i then (13,d) else if d.tr=1 then (15,d.tick) else (0,{d.tick with n:=aE d.n i.toNat (d.b i.toNat).length})
def dn (d:aL) (i:Int):List UInt8×Int×aL:=
 if i<0∨2<=i then ([],13,d) else if d.tr=1 then ([],15,d.tick) else (d.b i.toNat,0,d.tick)
def wW (d:aL) (k:Int):Int×aL:=if k<0 then (1,d) else (0,{d with tr:=k.toNat})
theorem CW {i:Int} (h:¬(i<0∨2<=i)):∃n:Nat,i=(n:Int)∧n<2:=⟨i.toNat,by omega,by omega⟩
theorem qB.same {D:Nat} {vs:Nat->aj} {w:World} {n:Int} {d:aL} (h:cK D d vs w):qB D vs w n d (.returned (.int .i64 n)) w:=⟨rfl,vs,h,jh.refl _ _ _⟩
theorem OW (d:aL):d.tick.b=d.b∧d.tick.n=d.n:=⟨rfl,rfl⟩
theorem abp (D:Nat) (d:aL) (vs:Nat->aj) (i:Int) (s:ByteArray) (w:World) (h:cK D d vs w) (hs:s.size<=140737488351232):
 av au 54 #[.pointer (some ⟨D,0,none⟩),.int .i64 i,.string s] w (qB D vs w (jv d i (aC s)).1 (jv d i (aC s)).2):=by
 by_cases hb:i<0∨2<=i
 ·have e:jv d i (aC s)=(13,d):=if_pos hb;rw [e];have HT:=af (OU D i w hb);have HH:=af h;clear h hb e;go_enter Ys,Yt;go_wp2_with fail
  refine (aq HT).mono ?_;rintro e w' ⟨rfl,hw⟩;obtain rfl:=hw.symm;go_wp2_with fail
  go_ret;exact qB.same HH.out
 obtain ⟨n,rfl,hn⟩:=CW hb;have e0:jv d (n:Int) (aC s)=if d.tr=1 then (15,d.tick) else if 1500<(d.b n).length+(aC s).length then (14,d.tick) else (0,{d.tick with b:=aE d.b n (d.b n ++ aC s)}):=if_neg hb
 rw [e0];clear e0 hb;by_cases ht:d.tr=1
 ·rw [if_pos ht];have HT:=af (OV D d vs n w h hn ht);clear h;go_enter Ys,Yt;go_wp2_with fail
  refine (aq HT).mono ?_;rintro e w1 ⟨rfl,hd,hf⟩;have HD:=af hd;have HF:=af hf;clear hd hf;go_wp2_with fail
  go_ret;exact ⟨rfl,vs,HD.out,HF.out⟩
 ·rw [if_neg ht];by_cases hl:1500<(d.b n).length+(aC s).length
  ·rw [if_pos hl];have HT:=af (KI D d vs n w h hn ht);have hlb:=h.len n hn;have OX:(aC s).length=s.size:=jr s;clear h;go_enter Ys,Yt;go_wp2_with fail
   refine (aq HT).mono ?_;rintro e w1 ⟨rfl,hd,hf⟩;have HD:=af hd;have HF:=af hf;have c0:=hd.bytes n hn;obtain ⟨a,c,hv⟩:=bA (hd.own n hn);rw [(OW d).1] at hv;rw [hv] at c0;have hl':(1500:Int)<((d.b n).length:Int)+(s.size:Int):=by omega
   clear hd hf HT OX hl;go_wp2_with fail
   go_ret;exact ⟨rfl,vs,HD.out,HF.out⟩
  ·rw [if_neg hl];have HT:=af (KI D d vs n w h hn ht);have hlb:=h.len n hn;have OX:(aC s).length=s.size:=jr s;clear h;go_enter Ys,Yt;go_wp2_with fail
   refine (aq HT).mono ?_;rintro e w1 ⟨rfl,hd,hf⟩;have HD:=af hd;have HF:=af hf;have c0:=hd.bytes n hn;obtain ⟨a,c,hv⟩:=bA (hd.own n hn);rw [(OW d).1] at hv;rw [hv] at c0;have hl':¬(1500:Int)<((d.b n).length:Int)+(s.size:Int):=by omega
   have hl2:(d.b n).length+s.size<=1500:=by omega
   have HL:Hid ((d.b n ++ aC s).length=(d.b n).length+s.size):=by unfold Hid;rw [dK,OX]
   have HO:Hid (w1.ownsRow (D+1) 5 1 (.slice a (d.b n).length c) (d.b n).length (eW (d.b n))):=by
    have:=hd.own n hn;rw [hv] at this;exact this
   have HV:=af hv;have Hw:=hd.lt;have f0:=hd.fz (n * 2);obtain ⟨inf,cJ,hz,cW,hby⟩:=Kw;have gJ:=af cJ;have HZ:=af hz;have dR:=af cW;have gK:=af hby;clear cJ hz cW hby hd hf HT OX hl hv;generalize (d.b n).length=L at *
   go_wp2_with (at_builtin;refine ake _ rfl _ _ 136 9 rfl (D+1) 5 inf DV Cj gJ.out HZ.out dR.out gK.out (.slice a L c) L (eW (d.b n)) rfl HO.out s rfl (by unfold maxLen;omega) (by omega) Hw ?_
                intro v3 w3 o3 qw vh;obtain ⟨a3,k3,rfl⟩:=bA o3;have iR:=af o3;have iL:=af qw;have uk:=af vh;have hD:w3.heap[D]? =w1.heap[D]?:=qw.block D Hw (fun e=>by have:=(aR HO.out D e.symm).1;omega);have c3:=(aP (a:=⟨D,n * 2,none⟩) hD).trans c0;have f3:=(fS (a:=⟨D,n * 2,none⟩) hD).trans f0
                clear o3 qw vh hD c0 f0)
   go_ret;have o3:=iR.out;rw [Oy,<-Hf] at o3;have o4:w3.ownsRow (D+1) 5 1 (.slice a3 (L+s.size) k3) (d.b n ++ aC s).length (eW (d.b n ++ aC s)):=by rw [HL.out];exact o3
   have k:=HD.out.Te hn o4 (by rw [HV.out];exact iL.out) (abn (by rw [HV.out];exact uk.out)) (by rw [HL.out];exact hl2);exact ⟨rfl,_,k.1,HF.out.trans k.2⟩
theorem abq (D:Nat) (d:aL) (vs:Nat->aj) (i:Int) (w:World) (h:cK D d vs w):
 av au 55 #[.pointer (some ⟨D,0,none⟩),.int .i64 i] w (qB D vs w (jw d i).1 (jw d i).2):=by
 by_cases hb:i<0∨2<=i
 ·have e:jw d i=(13,d):=if_pos hb;rw [e];have HT:=af (OU D i w hb);have HH:=af h;clear h hb e;go_enter Tryz.func55,Tryz.ntmps55;go_wp2_with fail
  refine (aq HT).mono ?_;rintro e w' ⟨rfl,hw⟩;obtain rfl:=hw.symm;go_wp2_with fail
  go_ret;exact qB.same HH.out
 obtain ⟨n,rfl,hn⟩:=CW hb;have e0:jw d (n:Int)=if d.tr=1 then (15,d.tick) else (0,{d.tick with b:=aE d.b n [],n:=aE d.n n 0}):=if_neg hb
 rw [e0];clear e0 hb;by_cases ht:d.tr=1
 ·rw [if_pos ht];have HT:=af (OV D d vs n w h hn ht);clear h;go_enter Tryz.func55,Tryz.ntmps55;go_wp2_with fail
  refine (aq HT).mono ?_;rintro e w1 ⟨rfl,hd,hf⟩;have HD:=af hd;have HF:=af hf;clear hd hf;go_wp2_with fail
  go_ret;exact ⟨rfl,vs,HD.out,HF.out⟩
 ·rw [if_neg ht];have HT:=af (KI D d vs n w h hn ht);clear h;go_enter Tryz.func55,Tryz.ntmps55;go_wp2_with fail
  refine (aq HT).mono ?_;rintro e w1 ⟨rfl,hd,hf⟩;have HD:=af hd;have HF:=af hf;have c0:=hd.bytes n hn;have c1:=hd.last n hn;have f0:=hd.fz (n * 2);have f1:=hd.fz (n * 2+1);clear hd hf HT;go_wp2_with fail
  go_ret;have k1:=HD.out.Te hn (v:=.slice none 0 0) (b:=[]) (j7 _ _ _ _) ⟨rfl,rfl,rfl,ax _,fun _ _ _=>rfl⟩ (fun g e=>by cases e) (by simp);have k2:=k1.1.Tf hn 0;exact ⟨rfl,_,k2.1,HF.out.trans (k1.2.trans k2.2)⟩
theorem OY (D:Nat) (d:aL) (vs:Nat->aj) (i:Int) (w:World) (h:cK D d vs w):
 av au 56 #[.pointer (some ⟨D,0,none⟩),.int .i64 i] w (qB D vs w (cG d i).1 (cG d i).2):=by
 by_cases hb:i<0∨2<=i
 ·have e:cG d i=(13,d):=if_pos hb;rw [e];have HT:=af (OU D i w hb);have HH:=af h;clear h hb e;go_enter Tryz.func56,Tryz.ntmps56;go_wp2_with fail
  refine (aq HT).mono ?_;rintro e w' ⟨rfl,hw⟩;obtain rfl:=hw.symm;go_wp2_with fail
  go_ret;exact qB.same HH.out
 obtain ⟨n,rfl,hn⟩:=CW hb;have e0:cG d (n:Int)=if d.tr=1 then (15,d.tick) else (0,{d.tick with n:=aE d.n n (d.b n).length}):=if_neg hb
 rw [e0];clear e0 hb;by_cases ht:d.tr=1
 ·rw [if_pos ht];have HT:=af (OV D d vs n w h hn ht);clear h;go_enter Tryz.func56,Tryz.ntmps56;go_wp2_with fail
  refine (aq HT).mono ?_;rintro e w1 ⟨rfl,hd,hf⟩;have HD:=af hd;have HF:=af hf;clear hd hf;go_wp2_with fail
  go_ret;exact ⟨rfl,vs,HD.out,HF.out⟩
 ·rw [if_neg ht];have HT:=af (KI D d vs n w h hn ht);clear h;go_enter Tryz.func56,Tryz.ntmps56;go_wp2_with fail
  refine (aq HT).mono ?_;rintro e w1 ⟨rfl,hd,hf⟩;have HD:=af hd;have HF:=af hf;have c0:=hd.bytes n hn;obtain ⟨a,c,hv⟩:=bA (hd.own n hn);rw [(OW d).1] at hv;rw [hv] at c0;have c1:=hd.last n hn;have f1:=hd.fz (n * 2+1);clear hd hf HT hv;go_wp2_with fail
  go_ret;have k2:=HD.out.Tf hn (d.b n).length;exact ⟨rfl,_,k2.1,HF.out.trans k2.2⟩
theorem Tg (D:Nat) (d:aL) (vs:Nat->aj) (i:Int) (w:World) (h:cK D d vs w):
 av au 100 #[.pointer (some ⟨D,0,none⟩),.int .i64 i] w fun e' w'=>e'= .returned (.tuple #[.string (ah (dn d i).1),.int .i64 (dn d i).2.1])∧∃vs',cK D (dn d i).2.2 vs' w'∧jh D vs vs' w w':=by
 by_cases hb:i<0∨2<=i
 ·have e:dn d i=([],13,d):=if_pos hb;rw [e];have HT:=af (OU D i w hb);have HH:=af h;clear h hb e;go_enter Tryz.func100,Tryz.ntmps100;go_wp2_with fail
  refine (aq HT).mono ?_;rintro e w' ⟨rfl,hw⟩;obtain rfl:=hw.symm;go_wp2_with fail
  go_ret2
  exact ⟨rfl,vs,HH.out,jh.refl _ _ _⟩
 obtain ⟨n,rfl,hn⟩:=CW hb;have e0:dn d (n:Int)=if d.tr=1 then ([],15,d.tick) else (d.b n,0,d.tick):=if_neg hb
 rw [e0];clear e0 hb;by_cases ht:d.tr=1
 ·rw [if_pos ht];have HT:=af (OV D d vs n w h hn ht);clear h;go_enter Tryz.func100,Tryz.ntmps100;go_wp2_with fail
  refine (aq HT).mono ?_;rintro e w1 ⟨rfl,hd,hf⟩;have HD:=af hd;have HF:=af hf;clear hd hf;go_wp2_with fail
  go_ret2
  exact ⟨rfl,vs,HD.out,HF.out⟩
 ·rw [if_neg ht];have HT:=af (KI D d vs n w h hn ht);clear h;go_enter Tryz.func100,Tryz.ntmps100;go_wp2_with fail
  refine (aq HT).mono ?_;rintro e w1 ⟨rfl,hd,hf⟩;have HD:=af hd;have HF:=af hf;have c0:=hd.bytes n hn;have ck:=EA (hd.own n hn);rw [(OW d).1] at ck;obtain ⟨a,c,hv⟩:=bA (hd.own n hn);rw [hv] at c0 ck;clear hd hf HT hv;go_wp2_with fail
  go_ret2
  exact ⟨rfl,vs,HD.out,HF.out⟩
theorem akh (D:Nat) (d:aL) (vs:Nat->aj) (k:Int) (w:World) (h:cK D d vs w) (hk:k<=9223372036854775807):
 av au 53 #[.pointer (some ⟨D,0,none⟩),.int .i64 k] w (qB D vs w (wW d k).1 (wW d k).2):=by
 by_cases hb:k<0
 ·have e:wW d k=(1,d):=if_pos hb;rw [e];have HH:=af h;clear h e hk;go_enter Tryz.func53,Tryz.ntmps53;go_wp2_with fail
  go_ret;exact qB.same HH.out
 ·have e:wW d k=(0,{d with tr:=k.toNat}):=if_neg hb;rw [e];have k2:=af (h.OT k.toNat (by omega));rw [Int.toNat_of_nonneg (by omega)] at k2;have c4:=h.tr;have f4:=h.fz 4;clear h e hk;go_enter Tryz.func53,Tryz.ntmps53;go_wp2_with fail
  go_ret;exact ⟨rfl,_,k2.out.1,k2.out.2⟩
end
section
open Go
section
variable {P:mM} {ops:Array bI} {Q:Exit->Act->World->Prop} {md:pN} {S:World->Prop} {q:Nat}
def Br (md:pN) (ops:Array bI):List Nat->Array Bool->Bool
 | [],listed=>decide (oL md ops listed=[])
 | k :: ts,listed=>decide (oL md ops listed=[k]) && Br md ops ts (listed.setIfInBounds k true)
def OZ (md:pN) (ops:Array bI) (ts:List Nat):List Nat->Array Bool->Bool
 | [],listed=>Br md ops ts listed
 | i :: rs,listed=>(oL md ops listed).contains i && JI md ops listed i && OZ md ops ts rs (listed.setIfInBounds i true)
def wX (P:mM) (ops:Array bI) (S:World->Prop) (Lq:Act->Prop):List Nat->Act->Prop
 | [],a=>Lq a
 | i :: rs,a=>∃o v,ops[i]? =some o∧YieldsIf P ops S o v a∧wX P ops S Lq rs (a.put o.dst v)
def qC (P:mM) (ops:Array bI) (Q:Exit->Act->World->Prop) (S:World->Prop) (q:Nat):List Nat->Act->World->Prop
 | [],a,w=>Q .normal a w
 | k :: ts,a,w=>∃o,ops[k]? =some o∧∀K:Act->World->Prop,(∀a' w',(k<q->S w')->qC P ops Q S q ts a' w'->K a' w')->if xM o (yielded ops a.tmps) then o.wp P a w K Q else K (a.put o.dst undef) w
theorem sj {Lq:Act->Prop} {a:Act} (h:Lq a):wX P ops S Lq [] a:=h
theorem l7 {Lq:Act->Prop} {a:Act} {i:Nat} {o:bI} {rs:List Nat} (v:aj) (hi:ops[i]? =some o) (hw:xM o (yielded ops a.tmps)=true) (hv:∀w,S w->(execOp a.eval o).run P w= .ok (.value v) w)
 (h:wX P ops S Lq rs (a.put o.dst v)):wX P ops S Lq (i :: rs) a:=⟨o,v,hi,.inl ⟨hw,hv⟩,h⟩
theorem wY {a:Act} {w:World} (h:Q .normal a w):qC P ops Q S q [] a w:=h
theorem gA {k:Nat} {o:bI} {ts:List Nat} {a:Act} {w:World} (hk:ops[k]? =some o) (hg:o.guard=none) (h:∀K:Act->World->Prop,(∀a' w',(k<q->S w')->qC P ops Q S q ts a' w'->K a' w')->o.wp P a w K Q):qC P ops Q S q (k :: ts) a w:=
 ⟨o,hk,fun K hK=>by
   rw [if_pos (by simp [xM,hg])]
   exact h K hK⟩
theorem O0:∀(ts:List Nat) (listed:Array Bool) (a:Act) (w:World),Br md ops ts listed=true->qC P ops Q S q ts a w->wpAnyQ P md ops Q S q ts.length listed a w
 | [],_,_,_,hB,h=>⟨by simpa [Br] using hB,h⟩
 | k :: ts,listed,a,w,hB,h=>by
   simp only [Br,gG,decide_eq_true_eq] at hB;obtain ⟨o,h0,h2⟩:=h;refine ⟨fun h1=>(by rw [hB.1] at h1;cases h1),fun i hi=>?_⟩;rw [hB.1] at hi;have hik:i=k:=by simpa using hi
   subst hik;have h3:=h2 (fun a' w'=>(i<q->S w')∧qC P ops Q S q ts a' w') (fun _ _ h1 h2=>⟨h1,h2⟩);have hw:wpOp P ops Q i (fun a' w'=>(i<q->S w')∧qC P ops Q S q ts a' w') a w:=by
    unfold wpOp;simp only [h0];split
    ·rename_i hq;rw [if_pos hq] at h3;exact .inl h3
    ·rename_i hq;rw [if_neg hq] at h3;exact h3
   exact wpOp_mono (fun a' w' h'=>⟨h'.1,O0 ts _ a' w' hB.2 h'.2⟩) hw
theorem abr {ts:List Nat} {w:World} (hsel:vR ops=true) (hQ:∀d v c a w,Q (.panic c) (xN a d v) w->Q (.panic c) a w) (hS:S w):
 ∀(rs:List Nat) (listed:Array Bool) (a:Act),(rs.all fun i=>decide (i<q) && (jL ops.size).all fun j=>decide (j<q) || XL md ops j i)=true->OZ md ops ts rs listed=true->
  wX P ops S (fun a'=>qC P ops Q S q ts a' w) rs a->wpAnyQ P md ops Q S q (rs.length+ts.length) listed a w
 | [],listed,a,_,hB,h=>by
   rw [List.length_nil,Nat.zero_add];exact O0 ts listed a w hB h
 | i :: rs,listed,a,hl,hB,h=>by
   simp only [OZ,gG] at hB;simp only [List.all_cons,gG,decide_eq_true_eq] at hl;obtain ⟨⟨hr,hf⟩,hB'⟩:=hB;obtain ⟨o,v,h0,hy,hK⟩:=h;rw [List.length_cons,show rs.length+1+ts.length=(rs.length+ts.length)+1 by omega];refine wpAnyQ_first h0 (Gj hsel) (hQ o.dst v) (fun j oj hj hoj=>?_) hl.1.1 (rs.length+ts.length) listed a w (Gk h0 hf) (by simpa using hr) hy hS (abr hsel hQ hS rs _ _ hl.2 hB' hK);have hjs:j<ops.size:=(Array.getElem?_eq_some_iff.1 hoj).1;have h1:=List.all_eq_true.1 hl.1.2 j (List.mem_range.2 hjs);simp only [Bool.or_eq_true,decide_eq_true_eq] at h1;rcases h1 with h1 | h1
   ·omega
   ·obtain ⟨J8,J9,e,he,hb,hon⟩:=XN h1;have:J8=oj:=oN (J9.symm.trans hoj);subst this;exact ⟨e,he,hb,hon⟩
def abt (ops:Array bI) (rs ts:List Nat) (q:Nat):Bool:=
 vR ops && decide (rs.length+ts.length=ops.size) && (rs.all fun i=>decide (i<q) && (jL ops.size).all fun j=>decide (j<q) || XL .any ops j i) && OZ .any ops ts rs (Array.replicate ops.size false)
theorem Ti {id:Nat} {a:Act} {w:World} (rs ts:List Nat) (q:Nat) (S:World->Prop) (hm:P.follows .mixedOrders=true) (hB:abt ops rs ts q=true)
 (hQ:∀d v c a w,Q (.panic c) (xN a d v) w->Q (.panic c) a w) (hS:S w.drew)
 (h:wX P ops S (fun a'=>qC P ops Q S q ts a' w.drew) rs a):(Code.region id ops true).wp P Q a w:=by
 simp only [abt,gG,decide_eq_true_eq] at hB;obtain ⟨⟨⟨hsel,hlen⟩,hlast⟩,hhead⟩:=hB;have H:=abr (P:=P) (md:=.any) (Q:=Q) (S:=S) (q:=q) (w:=w.drew) hsel hQ hS rs _ a hlast hhead h;refine wp_region_any hm ?_;have H2:=Eg _ _ _ _ H;rw [hlen] at H2;exact H2
end
end
section
open Go.RowKit
def tf (b:List UInt8) (n:Nat) (keep:Int) (bC:List UInt8):List UInt8:=
 b.take (n+min keep.toNat (b.length - n)) ++ bC.take (b.length - n - min keep.toNat (b.length - n))
theorem aki (a:Option Addr) (L c m:Nat) (ha:a=none∨∃g,a=some ⟨g,0,none⟩) (hm:m<=c) (w:World):(Instr.slice 136 (.slice a L c) none (some (.int .i64 (m:Int))) none).run au w= .ok (.slice a m c) w:=by
 have hz:∀w,(sizeOf (Tryz.prog.elem 136)).run au w= .ok 1 w:=fun w=>by kernel_rfl
 rw [run_slice_h (P:=au) w 136 a L c (by kernel_rfl) .i64 (m:Int) (by omega) (by omega),hz];simp only [kN,sliced,Int.toNat_natCast,Nt];congr 2;rcases ha with rfl | ⟨g,rfl⟩
 ·simp
 ·split
  ·rfl
  ·simp [Addr.add]
theorem akj {w:World} {B L c m:Nat} {a:Option Addr} {b:List UInt8} (h:w.ownsRow B 5 1 (.slice a L c) L (eW b)) (hm:m<=L):w.ownsRow B 5 1 (.slice a m c) m (eW (b.take m)):=by
 have hl:b.length=L:=by have:=h.1;simpa [eW] using this
 refine ⟨by simp [eW];omega,?_⟩;rcases h.2 with ⟨e,h0⟩ | ⟨g,cap,cur,e,h1,h2,h3,h4,h5,h6⟩
 ·cases e;have:m=0:=by omega
  subst this;exact .inl ⟨rfl,rfl⟩
 ·cases e;refine .inr ⟨g,_,cur,rfl,h1,h2,by omega,h4,h5,?_⟩;rw [Nat.mul_one] at h6⊢;rw [show eW (b.take m)=(eW b).take m by simp [eW,List.map_take],<-h6,List.take_take,D6 hm]
theorem akk {w:World} {B L c:Nat} {a:Option Addr} {xs:List aj} {e:TypeId} (h:w.ownsRow B e 1 (.slice a L c) L xs):L<=c∧(a=none∨∃g,a=some ⟨g,0,none⟩):=by
 rcases h.2 with ⟨q,h0⟩ | ⟨g,cap,cur,q,h1,h2,h3,h4,h5,h6⟩
 ·cases q;exact ⟨ax _,.inl rfl⟩
 ·cases q;exact ⟨h3,.inr ⟨g,rfl⟩⟩
theorem abu (a:Option Addr) (m n c d:Nat):(mQ a m c).ownBlock=(mQ a n d).ownBlock:=by cases a<;>rfl
theorem cr1 {L N:Nat} (hN:N<=L) (hL:L<=1500):aY ((L:Int) - (N:Int))=((L - N:Nat):Int):=by unfold aY;omega
theorem cr2 (keep:Int):(if keep<0 then 0 else keep)=((keep.toNat:Nat):Int):=by split<;>omega
theorem cr3 (x y:Nat):(if x<y then (x:Int) else (y:Int))=((min y x:Nat):Int):=by split<;>omega
theorem cr4 {N M:Nat} (h:N+M<=1500):aY ((N:Int)+(M:Int))=((N+M:Nat):Int):=by unfold aY;omega
theorem akn {N M:Nat} (h:N+M<=1500):IntKind.i64.wrap ((N:Int)+(M:Int))=((N+M:Nat):Int):=by
 simp only [IntKind.wrap,IntKind.signed,IntKind.bits];simp;omega
theorem Tj {L N k:Nat} (hN:N<=L):N+min k (L - N)<=L:=by omega
theorem cr6 {L N k z:Nat} (hN:N<=L) (hL:L<=1500):N+min k (L - N)+min (L - N - min k (L - N)) z<=1500:=by
 have:=Tj (k:=k) hN;omega
theorem akp (l:List UInt8) (m z:Nat) (h:l.length=z):l.take (min m z)=l.take m:=by
 subst h;rcases Nat.le_total m l.length with h | h
 ·rw [D6 h]
 ·rw [Nat.min_eq_right h,mO (ax _),mO h]
theorem akq (b:List UInt8) (n:Nat) (keep:Int) (j:List UInt8) (h:n<=b.length):(tf b n keep j).length=n+min keep.toNat (b.length - n)+min (b.length - n - min keep.toNat (b.length - n)) j.length:=by
 unfold tf;rw [dK,ny,ny,D6 (Tj h)]
theorem akr (D:Nat) (d:aL) (vs:Nat->aj) (n:Nat) (keep:Int) (bC:ByteArray) (w:World) (h:cK D d vs w) (hn:n<2) (hok:d.n n<=(d.b n).length):
 av au 153 #[.pointer (some ⟨D,n * 2,none⟩),.int .i64 keep,.string bC] w fun e' w'=>e'= .returned (.tuple #[])∧∃vs',cK D {d with b:=aE d.b n (tf (d.b n) (d.n n) keep (aC bC)),n:=aE d.n n (tf (d.b n) (d.n n) keep (aC bC)).length} vs' w'∧jh D vs vs' w w':=by
 have HD:=af h;have hlen:=h.len n hn;have c0:=h.bytes n hn;have c1:=h.last n hn;have f0:=h.fz (n * 2);have f1:=h.fz (n * 2+1);have Hw:=h.lt;obtain ⟨a,c,hv⟩:=bA (h.own n hn);rw [hv] at c0;have ho:=h.own n hn;rw [hv] at ho;have HV:=af hv;have hcap:=akk ho;have KJ:=Tj (k:=keep.toNat) hok;have hMj:=cr6 (k:=keep.toNat) (z:=bC.size) hok hlen;have hcl:=akq (d.b n) (d.n n) keep (aC bC) hok;rw [jr] at hcl;have KK:tf (d.b n) (d.n n) keep (aC bC)=(d.b n).take (d.n n+min keep.toNat ((d.b n).length - d.n n)) ++ (aC bC).take ((d.b n).length - d.n n - min keep.toNat ((d.b n).length - d.n n)):=rfl;have e1:=cr1 hok hlen;have e2:=cr2 keep;have e3:=cr3 ((d.b n).length - d.n n) keep.toNat;have e4:=cr1 (L:=(d.b n).length - d.n n) (N:=min keep.toNat ((d.b n).length - d.n n)) (Nat.min_le_right _ _) (aT (Nat.sub_le _ _) hlen);have e5:=cr4 (N:=d.n n) (M:=min keep.toNat ((d.b n).length - d.n n)) (aT KJ hlen);have e7:=akn (N:=d.n n) (M:=min keep.toNat ((d.b n).length - d.n n)) (aT KJ hlen);have e6:=cr3 bC.size ((d.b n).length - d.n n - min keep.toNat ((d.b n).length - d.n n));have Hy:aC (bC.extract 0 (min ((d.b n).length - d.n n - min keep.toNat ((d.b n).length - d.n n)) bC.size))=(aC bC).take ((d.b n).length - d.n n - min keep.toNat ((d.b n).length - d.n n)):=by
  rw [s9,List.drop_zero,Nt];exact akp _ _ _ (jr bC)
 have hjs:(bC.extract 0 (min ((d.b n).length - d.n n - min keep.toNat ((d.b n).length - d.n n)) bC.size)).size=min ((d.b n).length - d.n n - min keep.toNat ((d.b n).length - d.n n)) bC.size:=by
  rw [rP,Nt,D6 (Nat.min_le_right _ _)]
 have O1:((min ((d.b n).length - d.n n - min keep.toNat ((d.b n).length - d.n n)) bC.size:Nat):Int)<=(bC.size:Int):=Int.ofNat_le.2 (Nat.min_le_right _ _);have HO:=af (akj ho KJ);have hkS:=aki a (d.b n).length c _ hcap.2 (aT KJ hcap.1);generalize min ((d.b n).length - d.n n - min keep.toNat ((d.b n).length - d.n n)) bC.size=ju at *;generalize (d.b n).length - d.n n - min keep.toNat ((d.b n).length - d.n n)=lo at *;generalize d.n n+min keep.toNat ((d.b n).length - d.n n)=M at *;generalize min keep.toNat ((d.b n).length - d.n n)=ks at *;generalize (d.b n).length - d.n n=Lo at *;have HCr:=af KK;have qD:=af hcl;have HJe:=af Hy;have HJs:=af hjs;have HMj:=af hMj;clear KK hcl Hy hjs hok hlen ho hv hcap KJ h hMj;generalize (d.b n).length=L at *;generalize d.n n=N at *;generalize keep.toNat=K at *;go_enter Tryz.func153,Tryz.ntmps153;go_wp2_with fail
 go_quiet (fail)
 go_upto_region 3 with fail
 refine Ti [0,1,2,3,4,5,6,7,8,9,10,11,12,13,14,15] [16,17,18,19,20,21] 19 (fun w'=>w'.cell? ⟨D,n * 2,none⟩=some (.slice a L c)∧w'.cell? ⟨D,n * 2+1,none⟩=some (.int .i64 (N:Int))) (by kernel_rfl) (by kernel_rfl) (fun d _ _ _ _ h=>by cases d<;>exact h) ⟨c0,c1⟩ ?_
 iterate 16
  refine l7 ?_ rfl rfl ?_ ?_
  rotate_left
  ·rintro w' ⟨d0,d1⟩;go_simp;rfl
  go_simp
 refine sj ?_;refine gA rfl rfl (fun K hK=>?_);go_simp;refine hK _ _ (fun _=>⟨c0,c1⟩) ?_;clear hK K;refine gA rfl rfl (fun K hK=>?_);go_simp;refine hK _ _ (fun _=>⟨c0,c1⟩) ?_;clear hK K;obtain ⟨inf,cJ,hz,cW,hby⟩:=Kw;have gJ:=af cJ;have HZ:=af hz;have dR:=af cW;have gK:=af hby;clear cJ hz cW hby;have hms:M+(bC.extract 0 ju).size<=1500:=by rw [HJs.out];exact HMj.out
 refine gA rfl rfl (fun K hK=>?_);refine abm _ _ _ 136 9 rfl (D+1) 5 inf DV Cj gJ.out HZ.out dR.out gK.out (.slice a M c) M (eW ((d.b n).take M)) rfl HO.out (bC.extract 0 ju) rfl (aT hms (by decide)) (aT hms (by decide)) Hw ?_;intro v3 w3 o3 qw vh;rw [HJs.out] at o3;obtain ⟨a3,k3,rfl⟩:=bA o3;have hD:w3.heap[D]? =w.heap[D]?:=qw.block D Hw (fun e=>by have:=(aR HO.out D e.symm).1;omega);have c3:=(aP (a:=⟨D,n * 2,none⟩) hD).trans c0;have c4:=(aP (a:=⟨D,n * 2+1,none⟩) hD).trans c1;have f3:=(fS (a:=⟨D,n * 2,none⟩) hD).trans f0;have f4:=(fS (a:=⟨D,n * 2+1,none⟩) hD).trans f1;have iR:=af o3;have iL:=af qw;have uk:=af vh;clear o3 qw vh hD;refine hK _ _ (fun _=>⟨c3,c4⟩) ?_;clear hK K c0 c1 f0 f1
 iterate 3
  refine gA rfl rfl (fun K hK=>?_);go_simp;refine hK _ _ (fun h=>absurd h (by decide)) ?_;clear hK K
 refine wY ?_;go_wp2_with fail
 go_end0
 have o4:w3.ownsRow (D+1) 5 1 (.slice a3 (M+ju) k3) (tf (d.b n) N keep (aC bC)).length (eW (tf (d.b n) N keep (aC bC))):=by
  have o:=iR.out;rw [Oy,<-Hf,HJe.out,<-HCr.out] at o;rw [qD.out];exact o
 have k:=HD.out.Te hn o4 (by rw [HV.out,abu a L M c c];exact ⟨iL.out.os,iL.out.tape,iL.out.output,iL.out.size,iL.out.block⟩) (abn (by rw [HV.out,abu a L M c c];exact uk.out)) (by rw [qD.out];exact HMj.out);have k2:=k.1.Tf hn (tf (d.b n) N keep (aC bC)).length;have e8:((tf (d.b n) N keep (aC bC)).length:Int)=(M:Int)+(ju:Int):=by rw [qD.out];rfl
 rw [e8] at k2;exact ⟨rfl,_,k2.1,k.2.trans k2.2⟩
def oz (d:aL) (keep:Int) (bC:List UInt8):Nat->aL
 | 0=>d
 | k+1=>{oz d keep bC k with b:=aE (oz d keep bC k).b k (tf ((oz d keep bC k).b k) ((oz d keep bC k).n k) keep bC),n:=aE (oz d keep bC k).n k (tf ((oz d keep bC k).b k) ((oz d keep bC k).n k) keep bC).length}
theorem O2 (d:aL) (keep:Int) (bC:List UInt8):∀k i,k<=i->(oz d keep bC k).b i=d.b i∧(oz d keep bC k).n i=d.n i
 | 0,_,_=>⟨rfl,rfl⟩
 | k+1,i,h=>by
   have q:=O2 d keep bC k i (by omega);unfold oz;exact ⟨(bp _ _ _ _ (by omega)).trans q.1,(bp _ _ _ _ (by omega)).trans q.2⟩
theorem abA (d:aL) (keep:Int) (bC:List UInt8):∀k,(oz d keep bC k).tr=d.tr∧(oz d keep bC k).wk=d.wk
 | 0=>⟨rfl,rfl⟩
 | k+1=>abA d keep bC k
def Tk (d:aL):Prop:=∀i,i<2->d.n i<=(d.b i).length
def O3 (d:aL) (keep:Int) (bC:List UInt8):aL:={oz d keep bC 2 with tr:=0,wk:=aY (d.wk+1)}
theorem cK.abB {D:Nat} {d:aL} {vs:Nat->aj} {w:World} (h:cK D d vs w) (t:Int):cK D {d with wk:=t} vs (w.setCell ⟨D,5,none⟩ (.int .i64 t))∧jh D vs vs w (w.setCell ⟨D,5,none⟩ (.int .i64 t)):=by
 refine ⟨⟨by rw [fW];exact h.lt,fun j=>by rw [oO];exact h.fz j,fun i hi=>(cZ (by omega)).trans (h.bytes i hi),fun i hi=>(cZ (by omega)).trans (h.last i hi),(cZ (by decide)).trans h.tr,qj _ _ _ h.wk,fun i hi=>dz (h.own i hi) (fun g hg=>bB (Ab h hi hg).1),h.len,h.sep,h.Hv⟩,⟨(aA _ _).setCell (p:=⟨D,5,none⟩) (ax _) _,fun g _ hn _=>bB hn,fun _ _ _ hg=>.inl hg⟩⟩
theorem aku (D:Nat) (d:aL) (vs:Nat->aj) (keep:Int) (bC:ByteArray) (w:World) (h:cK D d vs w) (hok:Tk d):
 av au 99 #[.pointer (some ⟨D,0,none⟩),.int .i64 keep,.string bC] w fun e' w'=>e'= .returned (.tuple #[])∧∃vs',cK D (O3 d keep (aC bC)) vs' w'∧jh D vs vs' w w':=by
 have HH:=af h;have fK:=af hok;clear h hok;go_enter Tryz.func99,Tryz.ntmps99;go_wp2_with fail
 go_loopw [9] (fun i wr=>∃k:Nat,k<=2∧i= .int .i64 k∧Hid (∃vs',cK D (oz d keep (aC bC) k) vs' wr∧jh D vs vs' w wr)) (fun i _=>2 - (intOf i).toNat)
 case atStart=>exact ⟨0,bK _,rfl,⟨vs,HH.out,jh.refl _ _ _⟩⟩
 case round=>
  obtain ⟨k,hk,rfl,HI⟩:=hrel;obtain ⟨vk,hI⟩:=HI.out;have HIv:=af hI;by_cases hlt:k<2
  ·have hlt':(k:Int)<2:=by omega
   have hk0:¬(k:Int)<0:=by omega
   have HC:=af (akr D (oz d keep (aC bC) k) vk k keep bC wr hI.1 hlt (by rw [(O2 d keep (aC bC) k k (ax _)).1,(O2 d keep (aC bC) k k (ax _)).2];exact fK.out k hlt));clear hI HI;go_wp2_with fail
   refine (aq HC).mono ?_;rintro e w1 ⟨rfl,v1,h1,f1⟩;have HN:Hid (∃vs',cK D (oz d keep (aC bC) (k+1)) vs' w1∧jh D vs vs' w w1):=⟨v1,h1,HIv.out.2.trans f1⟩;clear h1 f1 HC;go_wp2_with fail
   exact ⟨⟨k+1,by omega,by go_num,HN⟩,by simp [intOf];omega⟩
  ·have hlt':¬(k:Int)<2:=by omega
   obtain rfl:k=2:=by omega
   have c4:=hI.1.tr;have c5:=hI.1.wk;have f4:=hI.1.fz 4;have f5:=hI.1.fz 5;have HS:=af (hI.1.OT 0 (by decide));have qE:=af (HS.out.1.abB (aY (d.wk+1)));rw [(abA d keep (aC bC) 2).2] at c5;clear hI HI;go_wp2_with fail
   go_end0
   exact ⟨rfl,vk,qE.out.1,HIv.out.2.trans (HS.out.2.trans qE.out.2)⟩
def KL:aL:=⟨fun _=>[],fun _=>0,0,0⟩
def um:Nat->aj:=fun _=>.slice none 0 0
abbrev kI (X D:Nat) (w:World):Prop:=w.cell? ⟨X,0,none⟩=some (.pointer (some ⟨D,0,none⟩))
theorem akv (w:World):
 av au 21 #[] w fun e' w'=>e'= .returned (.pointer (some ⟨w.heap.size+1,0,none⟩))∧cK w.heap.size KL um w'∧kI (w.heap.size+1) w.heap.size w'∧w'.heap.size=w.heap.size+2∧Below w.heap.size w w':=by
 have HN:Hid (∀w,av au 49 #[] w fun e' w'=>e'= .returned (.pointer (some ⟨w.heap.size,0,none⟩))∧w'=w.alloc (.cells #[.slice none 0 0,.int .i64 0,.slice none 0 0,.int .i64 0,.int .i64 0,.int .i64 0] 141)):=fun w=>by
  go_enter Tryz.func49,Tryz.ntmps49;go_wp2_with fail
  go_ret;exact ⟨rfl,rfl⟩
 have HW:Hid (∀W2,W2=(w.alloc (.cells #[.slice none 0 0,.int .i64 0,.slice none 0 0,.int .i64 0,.int .i64 0,.int .i64 0] 141)).alloc (.cells #[.pointer (some ⟨w.heap.size,0,none⟩)] 98)->cK w.heap.size KL um W2∧kI (w.heap.size+1) w.heap.size W2∧W2.heap.size=w.heap.size+2∧Below w.heap.size w W2):=fun W2 e=>by
  obtain ⟨W1,hW1⟩:∃W1,W1=w.alloc (.cells #[.slice none 0 0,.int .i64 0,.slice none 0 0,.int .i64 0,.int .i64 0,.int .i64 0] 141):=⟨_,rfl⟩;rw [<-hW1] at e;have hs1:W1.heap.size=w.heap.size+1:=by rw [hW1,aB]
  have r1:W1.heap[w.heap.size]? =some (.cells #[.slice none 0 0,.int .i64 0,.slice none 0 0,.int .i64 0,.int .i64 0,.int .i64 0] 141 (0,0)):=by rw [hW1,bg]
  have r2:W2.heap[w.heap.size]? =some (.cells #[.slice none 0 0,.int .i64 0,.slice none 0 0,.int .i64 0,.int .i64 0,.int .i64 0] 141 (0,0)):=by rw [e,Below.heap_alloc W1 _ _ (by omega)];exact r1
  have rx:W2.heap[w.heap.size+1]? =some (.cells #[.pointer (some ⟨w.heap.size,0,none⟩)] 98 (0,0)):=by rw [e,<-hs1,bg]
  have oA:W2.heap.size=w.heap.size+2:=by rw [e,aB,hs1]
  refine ⟨⟨by omega,fun j=>by unfold World.frozen?;rw [r2];simp,fun i hi=>?_,fun i hi=>?_,cF r2 4,cF r2 5,fun i hi=>j7 _ _ _ _,fun i hi=>bK _,(fun i j _ _ _ g hg=>by cases hg),by decide⟩,cF rx 0,oA,?_⟩
  ·have:i=0∨i=1:=by omega
   rcases this with rfl | rfl
   ·exact cF r2 0
   ·exact cF r2 2
  ·have:i=0∨i=1:=by omega
   rcases this with rfl | rfl
   ·exact cF r2 1
   ·exact cF r2 3
  ·rw [e,hW1];exact ((aA _ _).alloc (ax _) _).alloc (by rw [aB];omega) _
 go_enter Tryz.func21,Tryz.ntmps21;go_wp2_with fail
 refine (aq HN _).mono ?_;rintro e w1 ⟨rfl,hw1⟩;subst hw1;go_wp2_with fail
 go_ret;exact ⟨rfl,HW.out _ rfl⟩
theorem CX (X D:Nat) (w:World) (hx:kI X D w):av au 46 #[.pointer (some ⟨X,0,none⟩)] w fun e' w'=>e'= .returned (.pointer (some ⟨D,0,none⟩))∧w'=w:=by
 go_enter Tryz.func46,Tryz.ntmps46;go_wp2_with fail
 go_ret;exact ⟨rfl,rfl⟩
theorem akw (X D:Nat) (d:aL) (vs:Nat->aj) (i:Int) (s:ByteArray) (w:World) (hx:kI X D w) (h:cK D d vs w) (hs:s.size<=140737488351232):
 av au 27 #[.pointer (some ⟨X,0,none⟩),.int .i64 i,.string s] w (qB D vs w (jv d i (aC s)).1 (jv d i (aC s)).2):=by
 have HW:=af (CX X D w hx);have HC:=af (abp D d vs i s w h hs);clear hx h;go_enter Tryz.func27,Tryz.ntmps27;go_wp2_with fail
 refine (aq HW).mono ?_;rintro e w' ⟨rfl,hw⟩;obtain rfl:=hw.symm;go_wp2_with fail
 refine (aq HC).mono ?_;rintro e w1 ⟨rfl,hp⟩;have HP:=af hp;clear hp;go_wp2_with fail
 go_ret;exact ⟨rfl,HP.out⟩
theorem akx (X D:Nat) (d:aL) (vs:Nat->aj) (i:Int) (w:World) (hx:kI X D w) (h:cK D d vs w):
 av au 28 #[.pointer (some ⟨X,0,none⟩),.int .i64 i] w (qB D vs w (jw d i).1 (jw d i).2):=by
 have HW:=af (CX X D w hx);have HC:=af (abq D d vs i w h);clear hx h;go_enter Tryz.func28,Tryz.ntmps28;go_wp2_with fail
 refine (aq HW).mono ?_;rintro e w' ⟨rfl,hw⟩;obtain rfl:=hw.symm;go_wp2_with fail
 refine (aq HC).mono ?_;rintro e w1 ⟨rfl,hp⟩;have HP:=af hp;clear hp;go_wp2_with fail
 go_ret;exact ⟨rfl,HP.out⟩
theorem aky (X D:Nat) (d:aL) (vs:Nat->aj) (i:Int) (w:World) (hx:kI X D w) (h:cK D d vs w):
 av au 29 #[.pointer (some ⟨X,0,none⟩),.int .i64 i] w (qB D vs w (cG d i).1 (cG d i).2):=by
 have HW:=af (CX X D w hx);have HC:=af (OY D d vs i w h);clear hx h;go_enter Tryz.func29,Tryz.ntmps29;go_wp2_with fail
 refine (aq HW).mono ?_;rintro e w' ⟨rfl,hw⟩;obtain rfl:=hw.symm;go_wp2_with fail
 refine (aq HC).mono ?_;rintro e w1 ⟨rfl,hp⟩;have HP:=af hp;clear hp;go_wp2_with fail
 go_ret;exact ⟨rfl,HP.out⟩
theorem akz (X D:Nat) (d:aL) (vs:Nat->aj) (k:Int) (w:World) (hx:kI X D w) (h:cK D d vs w) (hk:k<=9223372036854775807):
 av au 26 #[.pointer (some ⟨X,0,none⟩),.int .i64 k] w (qB D vs w (wW d k).1 (wW d k).2):=by
 have HW:=af (CX X D w hx);have HC:=af (akh D d vs k w h hk);clear hx h;go_enter Tryz.func26,Tryz.ntmps26;go_wp2_with fail
 refine (aq HW).mono ?_;rintro e w' ⟨rfl,hw⟩;obtain rfl:=hw.symm;go_wp2_with fail
 refine (aq HC).mono ?_;rintro e w1 ⟨rfl,hp⟩;have HP:=af hp;clear hp;go_wp2_with fail
 go_ret;exact ⟨rfl,HP.out⟩
theorem akA (X D:Nat) (d:aL) (vs:Nat->aj) (i:Int) (w:World) (hx:kI X D w) (h:cK D d vs w):
 av au 52 #[.pointer (some ⟨X,0,none⟩),.int .i64 i] w fun e' w'=>e'= .returned (.tuple #[.string (ah (dn d i).1),.int .i64 (dn d i).2.1])∧∃vs',cK D (dn d i).2.2 vs' w'∧jh D vs vs' w w':=by
 have HW:=af (CX X D w hx);have HC:=af (Tg D d vs i w h);clear hx h;go_enter Tryz.func52,Tryz.ntmps52;go_wp2_with fail
 refine (aq HW).mono ?_;rintro e w' ⟨rfl,hw⟩;obtain rfl:=hw.symm;go_wp2_with fail
 refine (aq HC).mono ?_;rintro e w1 ⟨rfl,hp⟩;have HP:=af hp;clear hp;go_wp2_with fail
 go_ret2
 exact ⟨rfl,HP.out⟩
theorem akB (X D:Nat) (d:aL) (vs:Nat->aj) (keep:Int) (bC:ByteArray) (w:World) (hx:kI X D w) (h:cK D d vs w) (hok:Tk d):
 av au 51 #[.pointer (some ⟨X,0,none⟩),.int .i64 keep,.string bC] w fun e' w'=>e'= .returned (.tuple #[])∧∃vs',cK D (O3 d keep (aC bC)) vs' w'∧jh D vs vs' w w':=by
 have HW:=af (CX X D w hx);have HC:=af (aku D d vs keep bC w h hok);clear hx h;go_enter Tryz.func51,Tryz.ntmps51;go_wp2_with fail
 refine (aq HW).mono ?_;rintro e w' ⟨rfl,hw⟩;obtain rfl:=hw.symm;go_wp2_with fail
 refine (aq HC).mono ?_;rintro e w1 ⟨rfl,hp⟩;have HP:=af hp;clear hp;go_wp2_with fail
 go_end0
 exact ⟨rfl,HP.out⟩
structure aN where
 l:Nat->List UInt8
 t:Nat->List UInt8
 tu:Nat
 du:Nat
 cr:Int
 us:Int
 en:Int
structure cO (R:Nat) (r:aN) (w:World):Prop where
 lt:R<w.heap.size
 fz:∀j,w.frozen? ⟨R,j,none⟩=false
 tg:∀i,i<2->w.cell? ⟨R,i,none⟩=some (.string (ah (r.l i)))
 tj:∀i,i<2->w.cell? ⟨R,2+i,none⟩=some (.string (ah (r.t i)))
 tu:w.cell? ⟨R,4,none⟩=some (.int .i64 (r.tu:Int))
 du:w.cell? ⟨R,5,none⟩=some (.int .i64 (r.du:Int))
 cr:w.cell? ⟨R,6,none⟩=some (.int .i64 r.cr)
 us:w.cell? ⟨R,7,none⟩=some (.int .i64 r.us)
 en:w.cell? ⟨R,8,none⟩=some (.int .i64 r.en)
def sq (r:aN):Prop:=∀i,i<2->(r.l i).length+(r.t i).length<=1500
structure fX (R:Nat) (w w':World):Prop where
 below:Below R w w'
 other:∀g,g≠R->w'.heap[g]? =w.heap[g]?
 size:w'.heap.size=w.heap.size
theorem fX.refl (R:Nat) (w:World):fX R w w:=⟨aA _ _,fun _ _=>rfl,rfl⟩
theorem fX.trans {R:Nat} {a b c:World} (h:fX R a b) (k:fX R b c):fX R a c:=⟨h.below.trans k.below,fun g hg=>(k.other g hg).trans (h.other g hg),k.size.trans h.size⟩
theorem fX.set (R j:Nat) (v:aj) (w:World):fX R w (w.setCell ⟨R,j,none⟩ v):=⟨(aA _ _).setCell (p:=⟨R,j,none⟩) (ax _) _,fun _ hg=>bB hg,fW⟩
theorem fX.drew {R:Nat} {a b:World} (h:fX R a b) (n:Nat):fX R a (b.drewN n):=⟨below_drewN h.below n,h.other,h.size⟩
theorem cO.drew {R:Nat} {r:aN} {w:World} (h:cO R r w) (n:Nat):cO R r (w.drewN n):=⟨h.lt,h.fz,h.tg,h.tj,h.tu,h.du,h.cr,h.us,h.en⟩
theorem cO.up {R:Nat} {r:aN} {w w':World} (h:cO R r w) (hs:w.heap.size<=w'.heap.size) (hR:w'.heap[R]? =w.heap[R]?):cO R r w':=
 ⟨Nat.lt_of_lt_of_le h.lt hs,fun j=>(fS hR).trans (h.fz j),fun i hi=>(aP hR).trans (h.tg i hi),fun i hi=>(aP hR).trans (h.tj i hi),(aP hR).trans h.tu,(aP hR).trans h.du,(aP hR).trans h.cr,(aP hR).trans h.us,(aP hR).trans h.en⟩
theorem cO.Tl {R:Nat} {r:aN} {w:World} (h:cO R r w) (n:Nat):cO R {r with tu:=n} (w.setCell ⟨R,4,none⟩ (.int .i64 (n:Int))):=
 ⟨by rw [fW];exact h.lt,fun j=>by rw [oO];exact h.fz j,fun i hi=>(cZ (by omega)).trans (h.tg i hi),fun i hi=>(cZ (by omega)).trans (h.tj i hi),qj _ _ _ h.tu,(cZ (by decide)).trans h.du,(cZ (by decide)).trans h.cr,(cZ (by decide)).trans h.us,(cZ (by decide)).trans h.en⟩
theorem cO.O4 {R:Nat} {r:aN} {w:World} (h:cO R r w) (n:Nat):cO R {r with du:=n} (w.setCell ⟨R,5,none⟩ (.int .i64 (n:Int))):=
 ⟨by rw [fW];exact h.lt,fun j=>by rw [oO];exact h.fz j,fun i hi=>(cZ (by omega)).trans (h.tg i hi),fun i hi=>(cZ (by omega)).trans (h.tj i hi),(cZ (by decide)).trans h.tu,qj _ _ _ h.du,(cZ (by decide)).trans h.cr,(cZ (by decide)).trans h.us,(cZ (by decide)).trans h.en⟩
theorem cO.Tm {R:Nat} {r:aN} {w:World} (h:cO R r w) (n:Int):cO R {r with us:=n} (w.setCell ⟨R,7,none⟩ (.int .i64 n)):=
 ⟨by rw [fW];exact h.lt,fun j=>by rw [oO];exact h.fz j,fun i hi=>(cZ (by omega)).trans (h.tg i hi),fun i hi=>(cZ (by omega)).trans (h.tj i hi),(cZ (by decide)).trans h.tu,(cZ (by decide)).trans h.du,(cZ (by decide)).trans h.cr,qj _ _ _ h.us,(cZ (by decide)).trans h.en⟩
theorem cO.Tp {R:Nat} {r:aN} {w:World} (h:cO R r w) {i:Nat} (hi:i<2) (x:List UInt8):cO R {r with l:=aE r.l i x} (w.setCell ⟨R,i,none⟩ (.string (ah x))):=by
 refine ⟨by rw [fW];exact h.lt,fun j=>by rw [oO];exact h.fz j,fun j hj=>?_,fun j hj=>(cZ (by omega)).trans (h.tj j hj),(cZ (by omega)).trans h.tu,(cZ (by omega)).trans h.du,(cZ (by omega)).trans h.cr,(cZ (by omega)).trans h.us,(cZ (by omega)).trans h.en⟩
 ·by_cases hji:j=i
  ·subst hji;show _=some (tZ (ah (aE r.l j x j)))
   rw [cq];exact qj _ _ _ (h.tg j hj)
  ·show _=some (tZ (ah (aE r.l i x j)))
   rw [bp _ _ _ _ hji];exact (cZ (Ne.symm hji)).trans (h.tg j hj)
theorem cO.O5 {R:Nat} {r:aN} {w:World} (h:cO R r w) {i:Nat} (hi:i<2) (x:List UInt8):cO R {r with t:=aE r.t i x} (w.setCell ⟨R,2+i,none⟩ (.string (ah x))):=by
 refine ⟨by rw [fW];exact h.lt,fun j=>by rw [oO];exact h.fz j,fun j hj=>(cZ (by omega)).trans (h.tg j hj),fun j hj=>?_,(cZ (by omega)).trans h.tu,(cZ (by omega)).trans h.du,(cZ (by omega)).trans h.cr,(cZ (by omega)).trans h.us,(cZ (by omega)).trans h.en⟩
 ·by_cases hji:j=i
  ·subst hji;show _=some (tZ (ah (aE r.t j x j)))
   rw [cq];exact qj _ _ _ (h.tj j hj)
  ·show _=some (tZ (ah (aE r.t i x j)))
   rw [bp _ _ _ _ hji];exact (cZ (by omega)).trans (h.tj j hj)
def aN.tick (r:aN):aN:={r with tu:=r.tu+1}
def uo (R:Nat) (w:World) (n:Int) (r':aN) (e':Ending) (w':World):Prop:=e'= .returned (.int .i64 n)∧cO R r' w'∧fX R w w'
theorem uo.same {R:Nat} {w:World} {n:Int} {r:aN} (h:cO R r w):uo R w n r (.returned (.int .i64 n)) w:=⟨rfl,h,fX.refl _ _⟩
theorem tuW {t:Nat} (h:t<=1152921504606846976):aY ((t:Int)+1)=((t+1:Nat):Int):=by unfold aY;omega
theorem O6 (R:Nat) (i:Int) (w:World) (h:i<0∨2<=i):
 av au 127 #[.pointer (some ⟨R,0,none⟩),.int .i64 i] w fun e' w'=>e'= .returned (.int .i64 13)∧w'=w:=by
 rcases h with h | h
 ·go_enter Yw,Yx;go_wp2_with fail
  go_ret;exact ⟨rfl,rfl⟩
 ·have h1:¬i<0:=by omega
  have h2:1<i:=by omega
  go_enter Yw,Yx;go_wp2_with fail
  go_ret;exact ⟨rfl,rfl⟩
theorem KM (R:Nat) (r:aN) (i:Nat) (w:World) (h:cO R r w) (hi:i<2) (hb:r.tu<=1152921504606846976) (ht:r.tu+1≠r.du):
 av au 127 #[.pointer (some ⟨R,0,none⟩),.int .i64 (i:Int)] w (uo R w 0 r.tick):=by
 have h1:¬(i:Int)<0:=by omega
 have h2:¬(1:Int)<(i:Int):=by omega
 have c4:=h.tu;have f4:=h.fz 4;have c5:=h.du;have hw:=tuW hb;have HS:=af (h.Tl (r.tu+1));have hne:(((r.tu+1:Nat):Int) == (r.du:Int))=false:=by rw [beq_eq_false_iff_ne];omega
 have HR:Hid (r.tick= {r with tu:=r.tu+1}):=rfl;clear h hb ht;generalize r.tu+1=t at *;go_enter Yw,Yx;go_wp2_with fail
 go_quiet (fail)
 go_wp2_with fail
 go_ret;exact ⟨rfl,by rw [HR.out];exact HS.out.drew _,(fX.set R 4 _ w).drew _⟩
theorem O7 (R:Nat) (r:aN) (i:Nat) (w:World) (h:cO R r w) (hi:i<2) (hb:r.tu<=1152921504606846976) (ht:r.tu+1=r.du):
 av au 127 #[.pointer (some ⟨R,0,none⟩),.int .i64 (i:Int)] w (uo R w 15 r.tick):=by
 have h1:¬(i:Int)<0:=by omega
 have h2:¬(1:Int)<(i:Int):=by omega
 have c4:=h.tu;have f4:=h.fz 4;have c5:=h.du;have hw:=tuW hb;have HS:=af (h.Tl (r.tu+1));rw [<-ht] at c5;have HR:Hid (r.tick= {r with tu:=r.tu+1}):=rfl;clear h hb ht;generalize r.tu+1=t at *;go_enter Yw,Yx;go_wp2_with fail
 go_quiet (fail)
 go_wp2_with fail
 go_ret;exact ⟨rfl,by rw [HR.out];exact HS.out.drew _,(fX.set R 4 _ w).drew _⟩
end
end Go.Proofs.YtmmflekajbeamaaGreatDoor
