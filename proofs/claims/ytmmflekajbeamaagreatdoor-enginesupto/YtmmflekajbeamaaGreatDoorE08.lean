/- Texts of ours, joined, in few bytes. -/
import Derived.Test.YtmmflekajbeamaaGreatDoorE07
open ByteArray renaming size_append->Rj
open Go.Proofs.Tryz renaming func124->Yd,func57->Yf,ntmps124->Ye,ntmps57->Yg,prog->au,underlying136->DV
open Go.RowKit renaming Below->ak
open Go.RowKit.Below renaming refl->aA
open Go.Value renaming slice->mQ
open Go.World renaming cell?->cU
open Go renaming heap_alloc_new->bg,maxLen->cP
open Int renaming eq_ofNat_of_zero_le->j4,toNat_natCast->qM
open List renaming drop_eq_getElem_cons->Nh,foldl->Yh,getD_eq_getElem?_getD->bP,getElem?_append_left->jN,getElem?_append_right->lD,getElem?_eq_getElem->bE,getElem?_of_mem->JA,getElem?_replicate->XH,getElem?_take->tW,getElem_mem->lC,mem_cons_of_mem->xK,mem_cons_self->vO,prefix_refl->Ng,set_append_right->tY,take_length->xJ
open Nat renaming le_refl->ax,sub_self->tV,succ_mul->Gn
open Option renaming getD_some->Nf
open Or renaming inl->XI
open Prod.mk renaming injEq->vU
open UInt8 renaming ofNat->iC
namespace Go.Proofs.YtmmflekajbeamaaGreatDoor
set_option maxRecDepth 100000
set_option maxHeartbeats 2000000
section
open Go.RowKit
def s8 (kind:Int) (p:ByteArray):Prop:=1<=kind∧kind<=3∧p.size<=200
def Bl (kind:Int) (p:ByteArray) (w:World) (e':Ending) (w':World):Prop:=
 ak w.heap.size w w'∧((s8 kind p∧e'= .returned (.tuple #[.string (ah (lf kind.toNat (aC p))),.int .i64 0]))∨(¬s8 kind p∧e'= .returned (.tuple #[.string (ah []),.int .i64 1])))
theorem Bl.form {kind:Int} {p:ByteArray} {w w':World} {e:Ending} (h:Bl kind p w e w'):∃D n,e= .returned (.tuple #[.string D,.int .i64 n]):=by
 obtain ⟨_,⟨_,rfl⟩ | ⟨_,rfl⟩⟩:=h
 ·exact ⟨_,_,rfl⟩
 ·exact ⟨_,_,rfl⟩
theorem aax (kind:Int) (p:ByteArray) (w:World):
 Calls au 124 #[.int .i64 kind,.string p] w (Bl kind p w):=by
 by_cases h1:kind<1
 ·have HN:Hid (¬s8 kind p):=fun h=>by have:=h.1;omega
  go_enter Yd,Ye;go_wp2_with fail
  go_ret2
  exact ⟨aA _ _,.inr ⟨HN.out,rfl⟩⟩
 by_cases h3:3<kind
 ·have HN:Hid (¬s8 kind p):=fun h=>by have:=h.2.1;omega
  go_enter Yd,Ye;go_wp2_with fail
  go_ret2
  exact ⟨aA _ _,.inr ⟨HN.out,rfl⟩⟩
 by_cases h2:200<p.size
 ·have HN:Hid (¬s8 kind p):=fun h=>by have:=h.2.2;omega
  have h2':(200:Int)<(p.size:Int):=by omega
  go_enter Yd,Ye;go_wp2_with fail
  go_ret2
  exact ⟨aA _ _,.inr ⟨HN.out,rfl⟩⟩
 have HY:Hid (s8 kind p):=⟨by omega,by omega,by omega⟩;have h2':¬(200:Int)<(p.size:Int):=by omega
 obtain ⟨K,rfl⟩:=j4 (show 0<=kind by omega);have hK:K<256:=by omega
 have hl:=jr p;have HH:Hid ((⟨#[99]⟩:ByteArray) ++ ah (aS 1 K) ++ ah (aS 2 p.size) ++ p=ah (kZ K (aC p))):=by
  have e:∀D:ByteArray,D ++ p=D ++ ah (aC p):=fun D=>by rw [nK]
  unfold Hid kZ;rw [hl,e,show (⟨#[99]⟩:ByteArray)=ah [99] from rfl];simp only [mC];simp
 have HF:Hid (ah (kZ K (aC p)) ++ ah (aS 4 (crc (kZ K (aC p))))=ah (lf K (aC p))):=by unfold Hid lf;rw [mC]
 have hhs:(ah (kZ K (aC p))).size<=204:=by rw [bZ,JY,hl];omega
 have HS:=af (fun w'=>ain (ah (kZ K (aC p))) w' (by unfold cP;omega));rw [kG] at HS;have hcl:=ahe (kZ K (aC p));have N1:=af (fun w'=>qu K 1 w' (by decide) (by omega));have N2:=af (fun w'=>qu p.size 2 w' (by decide) (by omega));have N4:=af (fun w'=>qu (crc (kZ K (aC p))) 4 w' (by decide) (by omega));have z1:(ah (aS 1 K)).size=1:=by rw [bZ,iF]
 have z2:(ah (aS 2 p.size)).size=2:=by rw [bZ,iF]
 have z4:(ah (aS 4 (crc (kZ K (aC p))))).size=4:=by rw [bZ,iF]
 generalize ah (aS 4 (crc (kZ K (aC p))))=D4 at *;generalize crc (kZ K (aC p))=C at *;generalize ah (kZ K (aC p))=HD at *;generalize ah (aS 1 K)=D1 at *;generalize ah (aS 2 p.size)=D2 at *;have c3:∀w',(Op.stringOp .add ((⟨#[99]⟩:ByteArray) ++ D1 ++ D2) p).run au w'= .ok (.string HD) w':=fun w'=>by
  rw [<-HH.out];exact run_string_add_sum w' _ _ (by simp only [Rj];rw [show (⟨#[99]⟩:ByteArray).size=1 from rfl];omega)
 clear hl;go_enter Yd,Ye;go_wp2_with fail
 refine (aq N1 _).mono ?_;rintro e w1 ⟨rfl,hb1⟩;have aJ:=af hb1;have hw1:=hb1.size;clear hb1 N1;go_wp2_with fail
 refine (aq N2 _).mono ?_;rintro e w2 ⟨rfl,hb2⟩;have aZ:Hid (ak w.heap.size w w2):=aJ.out.trans (hb2.mono (by omega));have hw2:=hb2.size;clear hb2 N2;go_wp2_with fail
 refine (aq HS _).mono ?_;rintro e w' ⟨rfl,hw⟩;obtain rfl:=hw.symm;clear HS;go_wp2_with fail
 refine (aq N4 _).mono ?_;rintro e w3 ⟨rfl,bn⟩;have iM:Hid (ak w.heap.size w w3):=aZ.out.trans (bn.mono (by omega));clear bn N4;go_wp2_with fail
 go_ret2
 refine ⟨iM.out,.inl ⟨HY.out,?_⟩⟩;rw [qM,<-HF.out];rfl
theorem Oy (p:ByteArray):Go.Lib.strCells p=eW (aC p):=rfl
theorem ajk (w:World):(Instr.buildSlice 136 1 #[(0,.int .u8 99)]).run au w= .ok (.slice (some ⟨w.heap.size,0,none⟩) 1 1) (w.alloc (.cells #[.int .u8 99] 5)):=by kernel_rfl
theorem aay (kind:Int) (p:ByteArray) (w:World):
 Calls au 57 #[.int .i64 kind,.string p] w (Bl kind p w):=by
 by_cases h1:kind<1
 ·have HN:Hid (¬s8 kind p):=fun h=>by have:=h.1;omega
  go_enter Yf,Yg;go_wp2_with fail
  go_ret2
  exact ⟨aA _ _,.inr ⟨HN.out,rfl⟩⟩
 by_cases h3:3<kind
 ·have HN:Hid (¬s8 kind p):=fun h=>by have:=h.2.1;omega
  go_enter Yf,Yg;go_wp2_with fail
  go_ret2
  exact ⟨aA _ _,.inr ⟨HN.out,rfl⟩⟩
 by_cases h2:200<p.size
 ·have HN:Hid (¬s8 kind p):=fun h=>by have:=h.2.2;omega
  have h2':(200:Int)<(p.size:Int):=by omega
  go_enter Yf,Yg;go_wp2_with fail
  go_ret2
  exact ⟨aA _ _,.inr ⟨HN.out,rfl⟩⟩
 have HY:Hid (s8 kind p):=⟨by omega,by omega,by omega⟩;have h2':¬(200:Int)<(p.size:Int):=by omega
 obtain ⟨K,rfl⟩:=j4 (show 0<=kind by omega);have hl:=jr p;obtain ⟨inf,cJ,hz,cW,hby⟩:=Kw;have gJ:=af cJ;have HZ:=af hz;have dR:=af cW;have gK:=af hby;clear cJ hz cW hby;have hhs:(ah (kZ K (aC p))).size<=204:=by rw [bZ,JY,hl];omega
 have HS:=af (fun w'=>aio (ah (kZ K (aC p))) w' (by unfold cP;omega));rw [kG] at HS;have o0:(w.alloc (.cells #[.int .u8 99] 5)).ownsRow w.heap.size 5 1 (.slice (some ⟨w.heap.size,0,none⟩) 1 1) ([99]:List UInt8).length (eW [99]):=by
  refine ⟨rfl,.inr ⟨w.heap.size,1,_,rfl,ax _,bg w _,?_,?_,?_,?_⟩⟩
  all_goals first | decide | rfl | (unfold cP;decide) | simp [eW]
 have jW:=af (EB w.heap.size _ [99] K 1 _ (by rw [aB];omega) o0 (by decide) (by decide));have qy:=af (fun w' v (hB:w.heap.size<=w'.heap.size) (h:w'.ownsRow w.heap.size 5 1 v ([99] ++ aS 1 K).length (eW ([99] ++ aS 1 K)))=>EB w.heap.size v ([99] ++ aS 1 K) p.size 2 w' hB h (by simp [iF]) (by decide));have bs:=ajk w;clear o0;go_enter Yf,Yg;go_wp2_with fail
 refine (aq jW).mono ?_;rintro e w1 ⟨v1,rfl,o1,hb1,_⟩;have aJ:Hid (ak w.heap.size w w1):=((aA _ _).alloc (ax _) _).trans hb1;have hw1:=aJ.out.size;have aaz:=af (qy.out w1 v1 hw1 o1);clear jW qy o1 hb1 bs;go_wp2_with fail
 refine (aq aaz).mono ?_;rintro e w2 ⟨v2,rfl,o2,hb2,_⟩;have aZ:Hid (ak w.heap.size w w2):=aJ.out.trans hb2;have hw2:=aZ.out.size;have nN:=af o2;have hn2:([99] ++ aS 1 K ++ aS 2 p.size).length=4:=by simp [iF]
 have pq:Hid (∀(W:World) (v:Value),W.ownsRow w.heap.size 5 1 v (([99] ++ aS 1 K ++ aS 2 p.size).length+p.size) (eW ([99] ++ aS 1 K ++ aS 2 p.size) ++ Go.Lib.strCells p)->W.ownsRow w.heap.size 5 1 v (kZ K (aC p)).length (eW (kZ K (aC p)))):=fun W v h=>by
  have e:eW (kZ K (aC p))=eW ([99] ++ aS 1 K ++ aS 2 p.size) ++ Go.Lib.strCells p:=by
   rw [Oy,<-Hf];unfold kZ;rw [hl];simp
  have e2:(kZ K (aC p)).length=([99] ++ aS 1 K ++ aS 2 p.size).length+p.size:=by rw [hn2,JY,hl];omega
  rw [e,e2];exact h
 have CR:=af (fun w' v (hB:w.heap.size<=w'.heap.size) (h:w'.ownsRow w.heap.size 5 1 v (kZ K (aC p)).length (eW (kZ K (aC p))))=>EB w.heap.size v (kZ K (aC p)) (crc (kZ K (aC p))) 4 w' hB h (by rw [JY,hl];omega) (by decide));clear aaz o2 hb2;go_wp2_with (at_builtin;refine Go.Lib.wpList_append_own_string _ rfl _ _ 136 9 rfl w.heap.size 5 inf DV Tryz.underlying9 gJ.out HZ.out dR.out gK.out v2 _ _ rfl nN.out p rfl (by rw [hn2];unfold cP;omega) (by rw [hn2];omega) hw2 ?_;intro v3 w3 o3 qw _;have SJ:=pq.out _ _ o3;have ck:=EA SJ;have iR:=af SJ;have iL:=af qw;clear o3 SJ qw)
 refine (aq HS _).mono ?_;rintro e w' ⟨rfl,hw⟩;obtain rfl:=hw.symm;have iM:Hid (ak w.heap.size w w3):=aZ.out.grown iL.out hw2 (fun q hq=>(aR nN.out q hq).1);have aaA:=af (CR.out w3 v3 iM.out.size iR.out);clear HS CR ck;go_wp2_with fail
 refine (aq aaA).mono ?_;rintro e w4 ⟨v4,rfl,o4,fZ,_⟩;have ck:=EA o4;have mU:Hid (ak w.heap.size w w4):=iM.out.trans fZ;clear o4 fZ aaA;go_wp2_with fail
 go_ret2
 refine ⟨mU.out,.inl ⟨HY.out,?_⟩⟩;rw [qM];rfl
end
section
def pz (aF mem vs:List Int) (e:Ex):Int:=
 if e.1=0 then aF.getD e.2.2.2 0 else if e.1=1 then (e.2.2.2:Int) else if e.1=6 then mem.getD ((vs.getD e.2.1 0+(e.2.2.2:Int)) % 128).toNat 0 else wk e.1 (vs.getD e.2.1 0) (vs.getD e.2.2.1 0)
structure VI (aF mem:List Int) (T:List Ex) (vs:List Int):Prop where
 len:vs.length=T.length
 at':∀(i:Nat) (e:Ex),T[i]? =some e->vs[i]? =some (pz aF mem vs e)
theorem zX {α:Type} {l:List α} (x:List α) {i:Nat} (z:α) (h:i<l.length):(l ++ x).getD i z=l.getD i z:=by
 rw [bP,bP,jN h]
theorem aaB {aF mem vs:List Int} {e:Ex} {n:Nat} (he:oR n e) (hn:n<=vs.length) (x:List Int):pz aF mem (vs ++ x) e=pz aF mem vs e:=by
 unfold pz;unfold oR at he;rcases he with ⟨k0,_⟩ | ⟨k0,_⟩ | ⟨k0,GD,a0,b0,v0⟩ | ⟨k0,a0,b0,v0⟩
 ·rw [if_pos k0,if_pos k0]
 ·rw [if_neg (by omega),if_pos k0,if_neg (by omega),if_pos k0]
 ·rw [zX x 0 (by omega),zX x 0 (by omega)]
 ·rw [zX x 0 (by omega),if_neg (by omega),if_neg (by omega),if_pos k0,if_neg (by omega),if_neg (by omega),if_pos k0]
theorem VI.add {aF mem:List Int} {T:List Ex} {ds:List (List UInt8)} {vs:List Int} (h:VI aF mem T vs) (hT:TI T ds) {e:Ex} (he:oR T.length e):VI aF mem (T ++ [e]) (vs ++ [pz aF mem vs e]):=by
 refine ⟨by simp [h.len],fun i e' hi=>?_⟩;by_cases hl:i<T.length
 ·rw [jN hl] at hi;rw [jN (by rw [h.len];exact hl),h.at' i e' hi,aaB (hT.ok i e' hi).1 (by rw [h.len];omega)]
 ·rw [lD (by omega)] at hi;have h0:i - T.length=0:=by
   have:=(List.getElem?_eq_some_iff.1 hi).1;simp at this;omega
  rw [h0] at hi;simp at hi;subst hi;have hi':i=T.length:=by omega
  subst hi';rw [lD (by rw [h.len];exact ax _),h.len,tV,aaB he (by rw [h.len];exact ax _)];rfl
structure Tb (aF mem:List Int) (T:List Ex) (ds:List (List UInt8)) (vs:List Int):Prop where
 ti:TI T ds
 vi:VI aF mem T vs
def TV (T:List Ex) (ds:List (List UInt8)) (vs:List Int) (n:Nat) (x:List UInt8) (v:Int):Prop:=ql T ds n x∧vs.getD n 0=v
theorem TV.more {aF mem:List Int} {T:List Ex} {ds:List (List UInt8)} {vs:List Int} {T':List Ex} {ds':List (List UInt8)} {vs':List Int} {n:Nat} {x:List UInt8} {v:Int} (hb:Tb aF mem T ds vs) (h:TV T ds vs n x v) (k:More T ds T' ds') (kv:vs <+:vs'):TV T' ds' vs' n x v:=by
 refine ⟨h.1.more hb.ti.len k,?_⟩;obtain ⟨u,rfl⟩:=kv;rw [zX u 0 (by rw [hb.vi.len];exact h.1.1)];exact h.2
theorem Tb.hold {aF mem:List Int} {T:List Ex} {ds:List (List UInt8)} {vs:List Int} (h:Tb aF mem T ds vs) {e:Ex} (he:oR T.length e):∃T' ds' vs' n,Tb aF mem T' ds' vs'∧More T ds T' ds'∧vs <+:vs'∧TV T' ds' vs' n (jq ds e) (pz aF mem vs e):=by
 by_cases hm:e∈T
 ·obtain ⟨n,hn⟩:=JA hm;refine ⟨T,ds,vs,n,h,More.refl _ _,Ng _,h.ti.told hn,?_⟩;rw [bP,h.vi.at' n e hn];rfl
 ·refine ⟨T ++ [e],ds ++ [jq ds e],vs ++ [pz aF mem vs e],T.length,⟨h.ti.add he hm,h.vi.add h.ti he⟩,More.add _ _ _ _,List.prefix_append _ _,h.ti.Zi e,?_⟩;rw [bP,<-h.vi.len,lD (ax _),tV];rfl
theorem Tb.wv {aF mem:List Int} {T:List Ex} {ds:List (List UInt8)} {vs:List Int} (h:Tb aF mem T ds vs) {n:Nat} {x:List UInt8} {v:Int} (ht:TV T ds vs n x v) (hx:mR x=true):∃c,c<4294967296∧x=iG c∧v=(c:Int):=by
 obtain ⟨e,hn⟩:∃e,T[n]? =some e:=⟨_,bE ht.1.1⟩;obtain ⟨h1,h2⟩:=h.ti.wv hn;rw [ht.1.2] at h1 h2;have h3:=h1.2 hx;obtain ⟨h4,h5⟩:=h2 h3;refine ⟨_,h5,h4,?_⟩;rw [<-ht.2,bP,h.vi.at' n e hn,Nf];unfold pz;rw [if_neg (by omega),if_pos h3]
theorem Tb.put {aF mem:List Int} {T:List Ex} {ds:List (List UInt8)} {vs:List Int} (h:Tb aF mem T ds vs) {ns:List Nat} {l:List (List UInt8)} {z:List Int} (hs:∀i,i<16->TV T ds vs (ns.getD i 0) (l.getD i []) (z.getD i 0)) {p:aH} (hp:iY p) (hk:p.k<4294967296):
 ∃T' ds' vs' n,Tb aF mem T' ds' vs'∧More T ds T' ds'∧vs <+:vs'∧TV T' ds' vs' n (vS l p) (vD z mem p):=by
 obtain ⟨Et,Eu,b16,hc⟩:=hp;have ha:=hs p.a Eu;have hb:=hs p.b b16;unfold vS vD;rcases hc with ⟨k1,_,_⟩ | ⟨k2,k5,_⟩ | ⟨k6,_,Bc⟩ | ⟨k7,_,_⟩
 ·rw [if_pos k1,if_pos k1];exact h.hold (e:=(1,0,0,p.k)) (.inr (.inl ⟨rfl,rfl,rfl,hk⟩))
 ·rw [if_neg (by omega),if_neg (by omega),if_neg (by omega),if_neg (by omega),if_neg (by omega),if_neg (by omega)];unfold kY;split
  ·rename_i hcc;obtain ⟨c1,h1,e1,f1⟩:=h.wv ha hcc.1;obtain ⟨c2,h2,e2,f2⟩:=h.wv hb hcc.2;rw [e1,e2,f1,f2,ud _ h1,ud _ h2];have hw:=A8 p.kind c1 c2 (by omega) (by omega) (by omega) (by omega);obtain ⟨T',ds',vs',n,g1,g2,g3,g4⟩:=h.hold (e:=(1,0,0,(wk p.kind c1 c2).toNat)) (.inr (.inl ⟨rfl,rfl,rfl,by dsimp only;omega⟩));refine ⟨T',ds',vs',n,g1,g2,g3,?_⟩;have ev:pz aF mem vs (1,0,0,(wk p.kind c1 c2).toNat)=wk p.kind c1 c2:=by
    unfold pz;rw [if_neg (by dsimp only;omega),if_pos rfl];dsimp only;omega
   rw [ev] at g4;exact g4
  ·obtain ⟨T',ds',vs',n,g1,g2,g3,g4⟩:=h.hold (e:=(p.kind,ns.getD p.a 0,ns.getD p.b 0,0)) (.inr (.inr (.inl ⟨k2,k5,ha.1.1,hb.1.1,rfl⟩)));refine ⟨T',ds',vs',n,g1,g2,g3,?_⟩;have e1:jq ds (p.kind,ns.getD p.a 0,ns.getD p.b 0,0)=A6 p.kind (l.getD p.a []) (l.getD p.b []):=by
    unfold jq;rw [if_neg (by dsimp only;omega),if_neg (by dsimp only;omega),if_neg (by dsimp only;omega)];dsimp only;rw [ha.1.2,hb.1.2]
   have e2:pz aF mem vs (p.kind,ns.getD p.a 0,ns.getD p.b 0,0)=wk p.kind (z.getD p.a 0) (z.getD p.b 0):=by
    unfold pz;rw [if_neg (by dsimp only;omega),if_neg (by dsimp only;omega),if_neg (by dsimp only;omega)];dsimp only;rw [ha.2,hb.2]
   rw [e1,e2] at g4;exact g4
 ·rw [if_neg (by omega),if_pos k6,if_neg (by omega),if_pos k6];unfold lG;split
  ·rename_i hcc;obtain ⟨c1,h1,e1,f1⟩:=h.wv ha hcc;rw [e1,f1,ud _ h1];obtain ⟨T1,ds1,vs1,m,g1,g2,g3,g4⟩:=h.hold (e:=(1,0,0,(c1+p.k) % 128)) (.inr (.inl ⟨rfl,rfl,rfl,by dsimp only;omega⟩));obtain ⟨T',ds',vs',n,q1,q2,q3,q4⟩:=g1.hold (e:=(6,m,0,0)) (.inr (.inr (.inr ⟨rfl,g4.1.1,rfl,by dsimp only;omega⟩)));refine ⟨T',ds',vs',n,q1,g2.trans q2,g3.trans q3,?_⟩;have e2:jq ds1 (6,m,0,0)=sR (iG ((c1+p.k) % 128)) 0:=by
    unfold jq;rw [if_neg (by dsimp only;omega),if_neg (by dsimp only;omega),if_pos rfl];dsimp only;rw [g4.1.2];rfl
   have e3:pz aF mem vs1 (6,m,0,0)=mem.getD (((c1:Int)+(p.k:Int)) % 128).toNat 0:=by
    unfold pz;rw [if_neg (by dsimp only;omega),if_neg (by dsimp only;omega),if_pos rfl];dsimp only;rw [g4.2];unfold pz;rw [if_neg (by dsimp only;omega),if_pos rfl];dsimp only;congr 1;omega
   rw [e2,e3] at q4;exact q4
  ·obtain ⟨T',ds',vs',n,g1,g2,g3,g4⟩:=h.hold (e:=(6,ns.getD p.a 0,0,p.k)) (.inr (.inr (.inr ⟨rfl,ha.1.1,rfl,Bc⟩)));refine ⟨T',ds',vs',n,g1,g2,g3,?_⟩;have e1:jq ds (6,ns.getD p.a 0,0,p.k)=sR (l.getD p.a []) p.k:=by
    unfold jq;rw [if_neg (by dsimp only;omega),if_neg (by dsimp only;omega),if_pos rfl];dsimp only;rw [ha.1.2]
   have e2:pz aF mem vs (6,ns.getD p.a 0,0,p.k)=mem.getD ((z.getD p.a 0+(p.k:Int)) % 128).toNat 0:=by
    unfold pz;rw [if_neg (by dsimp only;omega),if_neg (by dsimp only;omega),if_pos rfl];dsimp only;rw [ha.2]
   rw [e1,e2] at g4;exact g4
 ·rw [if_neg (by omega),if_neg (by omega),if_pos k7,if_neg (by omega),if_neg (by omega),if_pos k7];exact ⟨T,ds,vs,_,h,More.refl _ _,Ng _,ha⟩
structure wT (T:List Ex) (ds:List (List UInt8)) (vs:List Int) (ns:List Nat) (l:List (List UInt8)) (z:List Int):Prop where
 n16:ns.length=16
 A9:l.length=16
 Ew:z.length=16
 tv:∀i,i<16->TV T ds vs (ns.getD i 0) (l.getD i []) (z.getD i 0)
theorem wT.more {aF mem:List Int} {T:List Ex} {ds:List (List UInt8)} {vs:List Int} {T':List Ex} {ds':List (List UInt8)} {vs':List Int} {ns:List Nat} {l:List (List UInt8)} {z:List Int} (hb:Tb aF mem T ds vs) (h:wT T ds vs ns l z) (k:More T ds T' ds') (kv:vs <+:vs'):wT T' ds' vs' ns l z:=
 ⟨h.n16,h.A9,h.Ew,fun i hi=>(h.tv i hi).more hb k kv⟩
theorem wT.set {T:List Ex} {ds:List (List UInt8)} {vs:List Int} {ns:List Nat} {l:List (List UInt8)} {z:List Int} (h:wT T ds vs ns l z) {d n:Nat} {x:List UInt8} {v:Int} (hd:d<16) (ht:TV T ds vs n x v):wT T ds vs (ns.set d n) (l.set d x) (z.set d v):=by
 refine ⟨by simp [h.n16],by simp [h.A9],by simp [h.Ew],fun i hi=>?_⟩;rw [uV _ _ _ _ _ (by rw [h.n16];exact hd),uV _ _ _ _ _ (by rw [h.A9];exact hd),uV _ _ _ _ _ (by rw [h.Ew];exact hd)];by_cases hid:i=d
 ·rw [if_pos hid,if_pos hid,if_pos hid];exact ht
 ·rw [if_neg hid,if_neg hid,if_neg hid];exact h.tv i hi
theorem wT.fold {aF mem:List Int}:∀(ps:List aH) {T:List Ex} {ds:List (List UInt8)} {vs:List Int} {ns:List Nat} {l:List (List UInt8)} {z:List Int},Tb aF mem T ds vs->wT T ds vs ns l z->(∀p∈ps,iY p∧p.k<4294967296)->
 ∃T' ds' vs' NI,Tb aF mem T' ds' vs'∧More T ds T' ds'∧vs <+:vs'∧wT T' ds' vs' NI (ps.foldl eu l) (ps.foldl (oQ mem) z):=by
 intro ps
 induction ps with
 | nil=>intro T ds vs ns l z hb hs _;exact ⟨T,ds,vs,ns,hb,More.refl _ _,Ng _,hs⟩
 | cons p ps ih=>
   intro T ds vs ns l z hb hs hp;obtain ⟨hp1,hp2⟩:=hp p vO;obtain ⟨T1,ds1,vs1,n,g1,g2,g3,g4⟩:=hb.put hs.tv hp1 hp2;have hs1:=(hs.more hb g2 g3).set hp1.1 g4;obtain ⟨T2,lH,gy,ED,q1,q2,q3,q4⟩:=ih g1 hs1 (fun q hq=>hp q (xK _ hq));exact ⟨T2,lH,gy,ED,q1,g2.trans q2,g3.trans q3,q4⟩
theorem Tb.nil (aF mem:List Int):Tb aF mem [] [] []:=⟨⟨rfl,fun i e h=>by simp at h,fun i j e h=>by simp at h⟩,⟨rfl,fun i e h=>by simp at h⟩⟩
theorem Tb.eC {aF mem:List Int} (hr:aF.length=8):∀k,k<=16->∀{T:List Ex} {ds:List (List UInt8)} {vs:List Int},Tb aF mem T ds vs->∃T' ds' vs',∃ns:List Nat,Tb aF mem T' ds' vs'∧More T ds T' ds'∧vs <+:vs'∧ns.length=k∧∀i,i<k->TV T' ds' vs' (ns.getD i 0) (cY.getD i []) ((gj aF).getD i 0):=by
 intro k
 induction k with
 | zero=>intro _ T ds vs hb;exact ⟨T,ds,vs,[],hb,More.refl _ _,Ng _,rfl,fun i hi=>by omega⟩
 | succ k ih=>
   intro hk T ds vs hb;obtain ⟨T1,ds1,vs1,EE,g1,g2,g3,g4,g5⟩:=ih (by omega) hb;have hx:cY.getD k []=if k<8 then uU k else iG 0:=by
    unfold cY;rw [bP,List.getElem?_map,List.getElem?_range (by omega)];rfl
   have fin:∀(e:Ex),oR T1.length e->jq ds1 e=cY.getD k []->pz aF mem vs1 e=(gj aF).getD k 0->∃T' ds' vs',∃ns:List Nat,Tb aF mem T' ds' vs'∧More T ds T' ds'∧vs <+:vs'∧ns.length=k+1∧∀i,i<k+1->TV T' ds' vs' (ns.getD i 0) (cY.getD i []) ((gj aF).getD i 0):=by
    intro e he h1 h2;obtain ⟨T2,lH,gy,n,q1,q2,q3,q4⟩:=g1.hold he;refine ⟨T2,lH,gy,EE ++ [n],q1,g2.trans q2,g3.trans q3,by simp [g4],fun i hi=>?_⟩;by_cases hik:i<k
    ·rw [zX _ _ (by omega)];exact (g5 i hik).more g1 q2 q3
    ·have:i=k:=by omega
     subst this;rw [bP,<-g4,lD (ax _),tV,g4];rw [h1,h2] at q4;exact q4
   by_cases h8:k<8
   ·refine fin (0,0,0,k) (.inl ⟨rfl,rfl,rfl,h8⟩) (by rw [hx,if_pos h8];rfl) ?_;unfold pz gj;rw [if_pos rfl,zX _ _ (by omega)]
   ·refine fin (1,0,0,0) (.inr (.inl ⟨rfl,rfl,rfl,by decide⟩)) (by rw [hx,if_neg h8];rfl) ?_;unfold pz gj;rw [if_neg (by decide),if_pos rfl,bP,lD (by omega),XH,if_pos (by omega)];rfl
theorem ajl {ps qs:List aH} (hp:∀p∈ps,iY p∧p.k<4294967296) (hq:∀p∈qs,iY p∧p.k<4294967296) (h:(gI ps).take 8=(gI qs).take 8) {aF:List Int} (mem:List Int) (hr:aF.length=8):(uT mem ps (gj aF)).take 8=(uT mem qs (gj aF)).take 8:=by
 obtain ⟨T0,ds0,vs0,ns0,b0,_,_,l0,t0⟩:=Tb.eC (mem:=mem) hr 16 (ax _) (Tb.nil aF mem);have s0:wT T0 ds0 vs0 ns0 cY (gj aF):=⟨l0,by simp [cY],by simp [gj,hr],t0⟩;obtain ⟨T1,ds1,vs1,EE,b1,m1,p1,s1⟩:=wT.fold ps b0 s0 hp;obtain ⟨T2,lH,gy,ED,b2,m2,p2,s2⟩:=wT.fold qs b1 (s0.more b0 m1 p1) hq;have s1':=s1.more b1 m2 p2;rw [Ea [] (by rw [zH];decide) (by rw [zH];decide)] at h;rw [Ea 0 (by rw [show (uT mem ps (gj aF)).length=16 from s1.Ew];decide) (by rw [show (uT mem qs (gj aF)).length=16 from s2.Ew];decide)];intro i hi;have h1:=s1'.tv i (by omega);have h2:=s2.tv i (by omega);have hx:(ps.foldl eu cY).getD i []=(qs.foldl eu cY).getD i []:=h i hi;have hn:EE.getD i 0=ED.getD i 0:=b2.ti.inj h1.1.1 h2.1.1 (by rw [h1.1.2,h2.1.2,hx]);show (ps.foldl (oQ mem) (gj aF)).getD i 0=(qs.foldl (oQ mem) (gj aF)).getD i 0
 rw [<-h1.2,<-h2.2,hn]
def CT (last:List aH) (l:List (List UInt8)):Prop:=∀r,r<8->(last.getD r dP).kind=1->(last.getD r dP).k<4294967296∧l.getD r []=iG (last.getD r dP).k
theorem CT.zero:CT lK.1 cY:=fun r hr h=>by
 have h2:lK.1.getD r dP=dP:=by
  unfold lK;rw [bP,XH,if_pos hr];rfl
 rw [h2] at h;cases h
theorem aaE {last:List aH} {l:List (List UInt8)} (h:CT last l) {p:aH} (hp:okB p):vS l (pP last p)=vS l p:=by
 obtain ⟨k1,k6,d8,a8,b8,kk,ok⟩:=hp;unfold pP;split
 ·rename_i hc;obtain ⟨ha,hx,hy⟩:=hc;unfold lI at ha;have ha':=of_decide_eq_true ha;obtain ⟨x1,x2⟩:=h p.a a8 hx;obtain ⟨y1,y2⟩:=h p.b b8 hy;unfold vS;dsimp only;rw [if_pos rfl,if_neg (by omega),if_neg (by omega),if_neg (by omega),x2,y2];unfold kY;rw [if_pos ⟨Zc _,Zc _⟩,ud _ x1,ud _ y1]
 ·rfl
theorem CT.step {last:List aH} {l:List (List UInt8)} (h:CT last l) (hl:last.length=8) (ht:l.length=16) (hb:∀q∈last,q.k<4294967296) {p:aH} (hp:okB p):CT (last.set p.d (pP last p)) (eu l p):=by
 have d8:=hp.2.2.1;intro r hr;unfold eu;rw [uV _ _ _ _ _ (by rw [hl];exact d8),uV _ _ _ _ _ (by rw [ht];omega)];by_cases hrd:r=p.d
 ·rw [if_pos hrd,if_pos hrd];intro hk;refine ⟨(hp.kn hb).2.2.2.2.2.1,?_⟩;rw [<-aaE h hp];unfold vS;rw [if_pos hk]
 ·rw [if_neg hrd,if_neg hrd];exact h r hr
theorem ajn {ps:List aH} (h:∀p∈ps,okB p):∀k,k<=ps.length->CT ((ps.take k).foldl lJ lK).1 ((ps.take k).foldl eu cY)∧((ps.take k).foldl lJ lK).2.foldl eu cY=(ps.take k).foldl eu cY:=by
 intro k
 induction k with
 | zero=>intro _;exact ⟨CT.zero,rfl⟩
 | succ k ih=>
   intro hk;obtain ⟨h1,h2⟩:=ih (by omega);have hx:ps[k]? =some ps[k]:=bE (by omega);have hp:=h _ (lC (by omega:k<ps.length));have hO:=wF.fold h k (by omega);have hlen:((ps.take k).foldl eu cY).length=16:=by rw [Zj];simp [cY]
   rw [wC _ _ _ _ _ hx,wC _ _ _ _ _ hx];refine ⟨h1.step hO.l8 hlen hO.bd hp,?_⟩;show ((Yh lJ lK (ps.take k)).2 ++ [pP (Yh lJ lK (ps.take k)).1 ps[k]]).foldl eu cY=_
   rw [List.foldl_append,h2];have e:∀l,vS l (pP (Yh lJ lK (ps.take k)).1 ps[k])=vS l ps[k]->eu l (pP (Yh lJ lK (ps.take k)).1 ps[k])=eu l ps[k]:=fun l e=>by
    unfold eu;rw [e,agZ]
   exact e _ (aaE h1 hp)
theorem ajo {ps:List aH} (h:∀p∈ps,okB p):gI (wE ps)=gI ps:=by
 have:=(ajn h ps.length (ax _)).2;rw [xJ] at this;exact this
theorem ajp:∀(l:List aH) (x y:List (List UInt8)),(∀p∈l,okB p)->x.length=16->y.length=16->(∀q,q<8->nd l q=true->x.getD q []=y.getD q [])->∀q,q<8->(l.foldl eu x).getD q []=((idle l).foldl eu y).getD q []:=by
 intro l
 induction l with
 | nil=>intro x y _ _ _ h q hq;exact h q hq rfl
 | cons p ps ih=>
   intro x y hp hx hy h;have hpp:=hp p vO;obtain ⟨k1,k6,d8,a8,b8,kk,ok⟩:=hpp;have hps:∀q∈ps,okB q:=fun q hq=>hp q (xK _ hq);have hxl:(eu x p).length=16:=by rw [RZ,hx]
   by_cases hn:nd ps p.d=true
   ·have hrd:∀r,r<8->oq p r=true->x.getD r []=y.getD r []:=fun r hr hb=>h r hr (by rw [nd,if_pos hn,if_pos hb]);have hv:vS x p=vS y p:=by
     have hc:p.kind=1∨p.kind=6∨(2<=p.kind∧p.kind<=5):=by omega
     unfold vS;rcases hc with h1 | h6 | hm
     ·rw [if_pos h1,if_pos h1]
     ·rw [hrd p.a a8 (by unfold oq;rw [if_neg (by omega),if_pos (XI h6)];exact decide_eq_true rfl),if_neg (by omega),if_pos h6,if_neg (by omega),if_pos h6]
     ·have e:∀r,oq p r=decide (p.a=r∨p.b=r):=fun r=>by unfold oq;rw [if_neg (by omega),if_neg (by omega)]
      rw [hrd p.a a8 (by rw [e];exact decide_eq_true (XI rfl)),hrd p.b b8 (by rw [e];exact decide_eq_true (Or.inr rfl))]
    have:=ih (eu x p) (eu y p) hps hxl (by rw [RZ,hy]) (fun q hq CC=>by
     unfold eu;rw [uV _ _ _ _ _ (by omega),uV _ _ _ _ _ (by omega),hv];by_cases EF:q=p.d
     ·rw [if_pos EF,if_pos EF]
     ·rw [if_neg EF,if_neg EF];refine h q hq ?_;rw [nd,if_pos hn];split
      ·rfl
      ·rw [if_neg (fun e=>EF e.symm)];exact CC)
    rw [idle,if_pos hn];exact this
   ·have:=ih (eu x p) y hps hxl hy (fun q hq CC=>by
     have EF:q≠p.d:=fun e=>hn (e▸CC);unfold eu;rw [uV _ _ _ _ _ (by omega),if_neg EF];refine h q hq ?_;rw [nd,if_neg hn]
     exact CC)
    rw [idle,if_neg hn];exact this
theorem ajq {s:ByteArray} (h:gi s):(gI (dD s)).take 8=(gI (xR s)).take 8:=by
 rw [Ea [] (by rw [zH];decide) (by rw [zH];decide)];intro q hq;rw [<-ajo (Cr h)];exact ajp (wE (dD s)) cY cY (JW (Cr h)).1 (by simp [cY]) (by simp [cY]) (fun _ _ _=>rfl) q hq
def jF (aF mem:List Int) (pc st:Int):List Int:=aF ++ (mem ++ [pc,st])
theorem Kx {α:Type} {l x:List α} {i:Nat} (z:α) (h:l.length<=i):(l ++ x).getD i z=x.getD (i - l.length) z:=by
 rw [bP,bP,lD h]
section
variable {aF mem:List Int} {pc st:Int}
theorem aaF (hr:aF.length=8) (hm:mem.length=128):(jF aF mem pc st).length=138:=by simp [jF,hr,hm]
theorem Oz (hr:aF.length=8) (hm:mem.length=128):gz (jF aF mem pc st) 136=pc:=by
 unfold gz jF;rw [Kx _ (by omega),hr,Kx _ (by omega),hm];rfl
theorem SK (hr:aF.length=8) (hm:mem.length=128):gz (jF aF mem pc st) 137=st:=by
 unfold gz jF;rw [Kx _ (by omega),hr,Kx _ (by omega),hm];rfl
theorem OA (hr:aF.length=8) (hm:mem.length=128) (v:Int):(jF aF mem pc st).set 136 v=jF aF mem v st:=by
 unfold jF;rw [tY _ _ (by omega),hr,tY _ _ (by omega),hm];rfl
end
theorem OB {aF mem:List Int} {pc st:Int} (hr:aF.length=8) {i:Nat} (hi:i<8):gz (jF aF mem pc st) i=aF.getD i 0:=by
 unfold gz jF;rw [zX _ _ (by omega)]
theorem SL {aF mem:List Int} {pc st:Int} (hr:aF.length=8) (hm:mem.length=128) {i:Nat} (hi:i<128):gz (jF aF mem pc st) (8+i)=mem.getD i 0:=by
 unfold gz jF;rw [Kx _ (by omega),hr,Nat.add_sub_cancel_left,zX _ _ (by omega)]
theorem SM {aF mem:List Int} {pc st:Int} (hr:aF.length=8) {i:Nat} (hi:i<8) (v:Int):(jF aF mem pc st).set i v=jF (aF.set i v) mem pc st:=by
 unfold jF;rw [List.set_append_left _ _ (by omega)]
theorem SN {z:List Int} (h:z.length=138):z=jF (z.take 8) ((z.drop 8).take 128) (gz z 136) (gz z 137):=by
 unfold jF;have e1:z=z.take 8 ++ z.drop 8:=(List.take_append_drop 8 z).symm;have e2:z.drop 8=(z.drop 8).take 128 ++ (z.drop 8).drop 128:=(List.take_append_drop 128 _).symm;have e3:(z.drop 8).drop 128=[gz z 136,gz z 137]:=by
  rw [List.drop_drop,Nh (by omega),Nh (by omega),List.drop_of_length_le (by omega)];unfold gz;rw [bP,bP,bE (by omega),bE (by omega)];rfl
 rw [<-e3,<-e2,<-e1]
theorem aaG {aF mem:List Int} {pc st:Int} (hr:WL 8 aF) (hm:WL 128 mem) (p0:0<=pc) (p1:pc<128) (s0:0<=st) (s1:st<=2):cV (jF aF mem pc st)=true:=by
 unfold cV Co Cp D9;rw [Oz hr.1 hm.1,SK hr.1 hm.1];simp only [Bool.and_eq_true,List.all_eq_true,List.mem_range,decide_eq_true_eq];refine ⟨⟨fun i hi=>?_,fun i hi=>?_⟩,p0,p1,s0,s1⟩
 ·rw [OB hr.1 hi];exact (wu _).2 (hr.at hi)
 ·rw [SL hr.1 hm.1 hi];exact (wu _).2 (hm.at hi)
theorem ajr {z:List Int} (h:cV z=true) (hl:z.length=138):WL 8 (z.take 8)∧WL 128 ((z.drop 8).take 128):=by
 refine ⟨⟨by simp [hl],fun x hx=>?_⟩,⟨by simp [hl],fun x hx=>?_⟩⟩
 ·obtain ⟨i,hi⟩:=JA hx;rw [tW] at hi;split at hi
  ·rename_i h8;have:=sP h i (by omega);unfold gz at this;rw [bP,hi] at this;exact this
  ·cases hi
 ·obtain ⟨i,hi⟩:=JA hx;rw [tW] at hi;split at hi
  ·rename_i h8;rw [List.getElem?_drop] at hi;have:=sP h (8+i) (by omega);unfold gz at this;rw [bP,hi] at this;exact this
  ·cases hi
def rD (mem aF:List Int) (p:aH):List Int:=aF.set p.d (vD aF mem p)
theorem aaH {mem aF:List Int} (t:List Int) (hr:aF.length=8) {p:aH} (hp:okB p):vD (aF ++ t) mem p=vD aF mem p:=by
 obtain ⟨_,_,d8,a8,b8,_,_⟩:=hp;unfold vD;rw [zX _ _ (by omega),zX _ _ (by omega)]
theorem ajs {mem aF:List Int} (t:List Int) (hr:aF.length=8) {p:aH} (hp:okB p):oQ mem (aF ++ t) p=rD mem aF p ++ t:=by
 unfold oQ rD;rw [aaH t hr hp,List.set_append_left _ _ (by rw [hr];exact hp.2.2.1)]
theorem SP (mem aF:List Int) (p:aH):(rD mem aF p).length=aF.length:=by simp [rD]
theorem ajt {mem:List Int} (t:List Int):∀(ps:List aH) {aF:List Int},aF.length=8->(∀p∈ps,okB p)->uT mem ps (aF ++ t)=ps.foldl (rD mem) aF ++ t:=by
 intro ps
 induction ps with
 | nil=>intro aF _ _;rfl
 | cons p ps ih=>
   intro aF hr hp;show uT mem ps (oQ mem (aF ++ t) p)=_
   rw [ajs t hr (hp p vO),ih (by rw [SP,hr]) (fun q hq=>hp q (xK _ hq))];rfl
theorem aaI {mem:List Int} (ps:List aH):∀aF:List Int,(ps.foldl (rD mem) aF).length=aF.length:=by
 induction ps with
 | nil=>intro aF;rfl
 | cons p ps ih=>intro aF;rw [List.foldl_cons,ih,SP]
theorem aju {mem aF:List Int} {ps:List aH} (hr:aF.length=8) (hp:∀p∈ps,okB p):(uT mem ps (gj aF)).take 8=ps.foldl (rD mem) aF:=by
 unfold gj;rw [ajt _ ps hr hp,List.take_append_of_le_length (by rw [aaI,hr];exact ax _),List.take_of_length_le (by rw [aaI,hr];exact ax _)]
theorem ajv {mem aF:List Int} (hr:WL 8 aF) (hm:WL 128 mem) {p:aH} (hp:okB p):WL 8 (rD mem aF p):=by
 refine ⟨by rw [SP,hr.1],fun x hx=>?_⟩;rcases List.mem_or_eq_of_mem_set hx with hx | rfl
 ·exact hr.2 x hx
 ·have:=(WL.eC hr).vD hm hp.2.2.2.2.2.2 hp.2.2.2.2.2.1;unfold gj at this;rw [aaH _ hr.1 hp] at this;exact this
theorem ajw {v:Int} (h:eV v=true):okB (dI v):=by
 obtain ⟨h1,h2,h3,h4,h5,h6,h7⟩:=RW h;exact ⟨h6,h7,h2,h3,h4,by omega,h1⟩
theorem ajx {aF mem:List Int} {pc:Nat} (hr:WL 8 aF) (hm:WL 128 mem) (hp:pc<128) (hpl:eV (mem.getD pc 0)=true):
 gH (jF aF mem pc 0)=(jF (rD mem aF (dI (mem.getD pc 0))) mem (((pc:Int)+1) % 128) 0,0):=by
 have hs:=aaG (st:=0) hr hm (by omega:(0:Int)<=pc) (by omega) (Int.le_refl 0) (by decide);have hw:kT (jF aF mem pc 0)=mem.getD pc 0:=by
  unfold kT;rw [Oz hr.1 hm.1,qM,SL hr.1 hm.1 hp]
 obtain ⟨ha,hc⟩:=RV hpl;have hk:=ajw hpl;have hkn:AZ (jF aF mem pc 0)=true:=by
  unfold AZ;rw [hw];unfold eV at hpl;rw [<-RP _ _ _ _ (by omega) (by omega) (by omega) (by omega) (by omega)];exact hpl
 unfold gH;rw [if_neg (by rw [hs];decide),if_neg (by rw [SK hr.1 hm.1];simp),if_neg (by rw [hkn];decide),hw];rw [vU];refine ⟨?_,rfl⟩;generalize mem.getD pc 0=v at *;have b1:=uQ v;have b2:=wj v;have b3:=xP v;have b4:=wm v;have rl:=hr.1;unfold cQ;rw [Oz hr.1 hm.1];rcases hc with h1 | ⟨h2,h5,hb,hcc⟩ | ⟨h6,hb⟩
 ·rw [if_neg (by omega),if_pos h1,SM rl (by omega),OA (by simp [rl]) hm.1];have e:dI v=⟨1,(fa v).toNat,0,0,(fk v).toNat⟩:=by unfold dI;rw [if_pos h1]
  rw [e];unfold rD vD;dsimp only;rw [if_pos rfl,show (((fk v).toNat:Nat):Int)=fk v by omega]
 ·rw [if_neg (by omega),if_neg (by omega),if_pos ⟨h2,h5⟩,OB rl (by omega),OB rl (by omega),SM rl (by omega),OA (by simp [rl]) hm.1];have e:dI v=⟨(bu v).toNat,(fa v).toNat,(fb v).toNat,(fc v).toNat,0⟩:=by unfold dI;rw [if_neg (by omega),if_neg (by omega)]
  rw [e];unfold rD vD;dsimp only;rw [if_neg (by omega),if_neg (by omega),if_neg (by omega),show (((bu v).toNat:Nat):Int)=bu v by omega]
 ·rw [if_neg (by omega),if_neg (by omega),if_neg (by omega),if_pos h6,SL rl hm.1 (by omega),OB (i:=(fb v).toNat) rl (by omega),SM rl (by omega),OA (by simp [rl]) hm.1];have e:dI v=⟨6,(fa v).toNat,(fb v).toNat,0,(fk v).toNat⟩:=by unfold dI;rw [if_neg (by omega),if_pos h6]
  rw [e];unfold rD vD;dsimp only;rw [if_neg (by decide),if_pos rfl,show (((fk v).toNat:Nat):Int)=fk v by omega]
end
section
open Go.RowKit
theorem ajy {ps:List aH} {k:Nat} {p:aH} (h:ps[k]? =some p):gQ (ps.take (k+1))=gQ (ps.take k) ++ rT p:=by rw [He h,ag5]
theorem OD (n:Nat) (h:n<256):((iC n).toNat:Int)=(n:Int):=by
 rw [UInt8.toNat_ofNat'];omega
theorem Hh {w w':World} {g:Nat} (i:Nat) (h:w'.heap[g]? =w.heap[g]?):w'.cell? ⟨g,i,none⟩=w.cell? ⟨g,i,none⟩:=by
 unfold cU;rw [h]
theorem cF {w:World} {g:Nat} {c:Array Value} {t:TypeId} (h:w.heap[g]? =some (.cells c t)) (i:Nat):w.cell? ⟨g,i,none⟩=c[i]?:=by
 unfold cU;rw [h];rfl
theorem ajz (B:Nat) (pv:Value) (ps:List aH) (w:World) (ho:w.ownsRow B 123 5 pv ps.length (dM ps)) (hl:ps.length<=8) (hw:∀p∈ps,okB p):
 Calls au 213 #[pv] w fun e' w'=>e'= .returned (.string (ah (gQ ps)))∧ak w.heap.size w w':=by
 obtain ⟨inf,cJ,hz,cW,hby⟩:=Kw;have gJ:=af cJ;have HZ:=af hz;have dR:=af cW;have gK:=af hby;clear cJ hz cW hby;obtain ⟨fa',fc',rfl⟩:=bA ho;have HF:=af ho;have HW:=af hw;have hl':(ps.length:Int)<=8:=by omega
 clear ho hw;go_enter Tryz.func213,Tryz.ntmps213;go_wp2_with fail
 go_loopw [3,8] (fun v i wr=>∃k:Nat,k<=ps.length∧i= .int .i64 k∧wr.ownsRow w.heap.size 5 1 v (gQ (ps.take k)).length (eW (gQ (ps.take k)))∧ak w.heap.size w wr) (fun _ i _=>ps.length - (intOf i).toNat)
 case atStart=>exact ⟨0,Nat.zero_le _,rfl,World.ownsRow_nil _ _ _ _,aA _ _⟩
 case round=>
  obtain ⟨k,hk,rfl,hown,hbl⟩:=hrel;obtain ⟨va,vc,hv⟩:=bA hown;have HO:=af hown;have bU:=af hbl;have dY:=hbl.size;have hTl:(gQ (ps.take k)).length<=64:=by rw [JX,List.length_take];omega
  by_cases hlt:k<ps.length
  ·have hlt':(k:Int)<(ps.length:Int):=by omega
   obtain ⟨g,cap,hform,_,hgl⟩:=HF.out.form (by omega);cases hform;have hx:ps[k]? =some ps[k]:=bE hlt;have hok:=HW.out ps[k] (lC _);obtain ⟨x0,x1,x2,x3,x4⟩:=wP (dX HF.out hbl) k ps[k] hx;have HS:=af (ajy hx);generalize ps[k]=p at *;obtain ⟨p0,p1,p2,p3,p4⟩:=p;obtain ⟨q1,q2,q3,q4,q5,q6,_⟩:=hok;simp only at q1 q2 q3 q4 q5 q6 x0 x1 x2 x3 x4;subst hv;have q0':(p0:Int)<256:=by omega
   have q1':(p1:Int)<256:=by omega
   have q2':(p2:Int)<256:=by omega
   have q3':(p3:Int)<256:=by omega
   have si:Hid (eW (gQ (ps.take k)) ++ [.int .u8 (p0:Int),.int .u8 (p1:Int),.int .u8 (p2:Int),.int .u8 (p3:Int)]=eW (gQ (ps.take k) ++ [iC p0,iC p1,iC p2,iC p3])):=by
    unfold Hid;rw [Hf];simp only [eW,List.map_cons,List.map_nil,OD p0 (by omega),OD p1 (by omega),OD p2 (by omega),OD p3 (by omega)]
   have HE:Hid (gQ (ps.take (k+1))=(gQ (ps.take k) ++ [iC p0,iC p1,iC p2,iC p3]) ++ aS 4 p4):=by
    unfold Hid;rw [HS.out];simp [rT]
   have SQ:Hid ((gQ (ps.take k)).length+4=(gQ (ps.take k) ++ [iC p0,iC p1,iC p2,iC p3]).length):=by unfold Hid;simp
   have CQ:=af (dX hown ((aA _ _).alloc (ax _) (.cells #[.int .i64 (p0:Int),.int .i64 (p1:Int),.int .i64 (p2:Int),.int .i64 (p3:Int),.int .i64 (p4:Int)] 123)));have HC:Hid (∀w3,((wr.alloc (.cells #[.int .i64 (p0:Int),.int .i64 (p1:Int),.int .i64 (p2:Int),.int .i64 (p3:Int),.int .i64 (p4:Int)] 123)).alloc (.cells #[.int .u8 (p0:Int),.int .u8 (p1:Int),.int .u8 (p2:Int),.int .u8 (p3:Int)] 5)).grownBy w3 (mQ va (gQ (ps.take k)).length vc).ownBlock->w3.cell? ⟨wr.heap.size,4,none⟩=some (.int .i64 (p4:Int))):=fun w3 hg=>by
    have hne:some wr.heap.size≠(mQ va (gQ (ps.take k)).length vc).ownBlock:=fun e=>by have:=(aR hown _ e.symm).2;omega
    rw [Hh 4 ((hg.block wr.heap.size (by rw [aB,aB];omega) hne).trans (Below.heap_alloc _ _ _ (by rw [aB];omega))),cF (bg wr _)];rfl
   generalize gQ (ps.take k)=T at *;generalize T.length=n at *;clear hown hbl HS hx;go_wp2_with (at_builtin;refine wpList_append_lies _ rfl _ _ 136 rfl w.heap.size 5 inf _ 1 1 DV gJ.out HZ.out dR.out gK.out rfl (by decide) (.slice va n vc) n (eW T) rfl (CQ.out.alloc _) ⟨wr.heap.size+1,0,none⟩ 4 4 [.int .u8 (p0:Int),.int .u8 (p1:Int),.int .u8 (p2:Int),.int .u8 (p3:Int)] rfl rfl (World.news_of_block (by rw [<-aB];exact bg _ _)) (fun u hu=>by simp at hu;rcases hu with rfl | rfl | rfl | rfl<;>rfl) (by decide) (by unfold cP;omega) (by omega) (by rw [aB,aB];omega) (wr.heap.size+1+1) (by rw [aB,aB]) ?_;intro wL cap2 w3 jQ js nO sY;have iR:=af jQ;have j8:=af js;have c4:=HC.out w3 js;clear jQ js nO)
   have oZ:wr.heap.size+1+1<=w3.heap.size:=by have:=j8.out.size;rw [aB,aB] at this;exact this
   rw [si.out] at iR;rw [SQ.out] at iR;have wU:=af (EB w.heap.size _ _ p4 4 w3 (by omega) iR.out (by rw [<-SQ.out];omega) (by decide));rw [<-SQ.out] at wU;have iM:Hid (ak w.heap.size w w3):=((bU.out.alloc dY _).alloc (by rw [aB];omega) _).grown j8.out (by rw [aB,aB];omega) (fun q hq=>(aR CQ.out q hq).1);clear iR j8;refine (aq wU).mono ?_;rintro e w4 ⟨v',rfl,b1,b2,b3⟩;have SR:=af b1;have mU:Hid (ak w.heap.size w w4):=iM.out.trans b2;clear b1 b2 b3;go_wp2_with fail
   refine ⟨⟨k+1,by omega,by go_num,?_,mU.out⟩,by simp [intOf];omega⟩;rw [HE.out];exact SR.out
  ·have hlt':¬(k:Int)<(ps.length:Int):=by omega
   have hkn:k=ps.length:=by omega
   subst hkn;rw [xJ] at HO hv;have kc:=EA HO.out;subst hv;clear hown hbl;go_wp2_with fail
   go_ret;exact ⟨rfl,bU.out⟩
def fU (p:aH):List Int:=[(p.kind:Int),(p.d:Int),(p.a:Int),(p.b:Int),(p.k:Int)]
def nU (l:List aH):List Int:=l.flatMap fU
theorem aaK (l:List aH):(nU l).length=l.length * 5:=by
 induction l with
 | nil=>rfl
 | cons p l ih=>simp [nU,fU] at *;omega
theorem Hj {α β:Type} (f:α->List β) (m:Nat) (hf:∀a,(f a).length=m):∀(l:List α) (k:Nat) (x:α),l[k]? =some x->∀j,j<m->(l.flatMap f)[k * m+j]? =(f x)[j]?:=by
 intro l
 induction l with
 | nil=>intro k x hk;simp at hk
 | cons a l ih=>
   intro k x hk j hj;rw [List.flatMap_cons]
   match k,hk with
   | 0,hk=>
     simp at hk;subst hk;rw [Nat.zero_mul,Nat.zero_add,jN (by rw [hf];exact hj)]
   | k+1,hk=>
     rw [lD (by rw [hf,Gn];omega),hf,show (k+1) * m+j - m=k * m+j by rw [Gn];omega];exact ih k x (by simpa using hk) j hj
theorem aaL (l:List aH) (r:Nat) (hr:r<l.length) (j:Nat) (hj:j<5):gz (nU l) (r * 5+j)=(fU (l.getD r dP)).getD j 0:=by
 have hx:l[r]? =some (l.getD r dP):=by rw [bP,bE hr];rfl
 have:=Hj fU 5 (fun _=>rfl) l r (l.getD r dP) hx j hj;unfold gz nU;rw [bP (l:=l.flatMap fU),this,<-bP]
theorem ajA (w:World):(zeroValue 308).run au w= .ok (.agg (S (nU (List.replicate 8 dP)))) w:=by kernel_rfl
end
end Go.Proofs.YtmmflekajbeamaaGreatDoor
