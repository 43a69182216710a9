/- Texts of ours, joined, in few bytes. -/
import Derived.Test.YtmmflekajbeamaaGreatDoorE03
open BitVec renaming ofInt->sM,ofInt_natCast->QX,toNat_ofNat->QY
open ByteArray renaming size_extract->rP
open Go renaming Calls->av,DataW->nC,TypeId->cE,Value->aj,bits->rM,maxLen->cP
open Go.Ending renaming returned->kS
open Go.IntWalk renaming i64_in->AP
open Go.Proofs.Tryz renaming func205->zq,ntmps205->zu,prog->au
open Go.RowKit renaming Below->ak,intOf->aI,wrap64->aY
open List renaming take_of_length_le->mO
open Nat renaming le_refl->ax,pow_le_pow_right->Q0,zero_le->bK
open Option renaming map_some->AO
open Option.some renaming injEq->Ci
open Prod.mk renaming injEq->vU
namespace Go.Proofs.YtmmflekajbeamaaGreatDoor
set_option maxRecDepth 100000
set_option maxHeartbeats 4000000
section
open Go


end
section
open Go.RowKit
theorem oW (s:ByteArray) (i:Nat) (h:i<s.size):(s[i]'h).toNat=bt s i:=by
 have e:s.get! i=s.data[i]!:=rfl;unfold bt;rw [e,getElem!_pos s.data i h];rfl

end
section
open Go.RowKit Go.Maps
structure PS where
 words:List Int
 labels:List (List UInt8×Int)
 uses:List (Nat×Tok)
theorem GV {w:World} {b n:Nat} {D:nC Unit} {k:cE} {R:aj->Option (nC Unit×List MemPlace)} (h:w.ownsMap au k R b n D):∃es cl,w.heap[b]? =some (.map es cl):=by
 obtain ⟨es,cl,hb,_⟩:=h;exact ⟨es,cl,hb⟩
theorem Bb {w w':World} {b n:Nat} {D:nC Unit} {k:cE} {R:aj->Option (nC Unit×List MemPlace)} (h:w.ownsMap au k R b n D) (hk:w'.heap[b]? =w.heap[b]?):w'.ownsMap au k R b n D:=by
 obtain ⟨es,cl,hb,r⟩:=h;exact ⟨es,cl,hk.trans hb,r⟩
theorem aR {w:World} {B:Nat} {e:cE} {k:Nat} {v:aj} {n:Nat} {xs:List aj} (h:w.ownsRow B e k v n xs):∀g,v.ownBlock=some g->B<=g∧g<w.heap.size:=fun g hg=>by
 obtain ⟨hb,c,t,fr,hc⟩:=GP h g hg;exact ⟨hb,(Array.getElem?_eq_some_iff.1 hc).1⟩
theorem bA {w:World} {B:Nat} {e:cE} {k:Nat} {v:aj} {n:Nat} {xs:List aj} (h:w.ownsRow B e k v n xs):∃a c,v= .slice a n c:=by
 rcases h.2 with ⟨rfl,rfl⟩ | ⟨g',cap,cur,rfl,_⟩
 ·exact ⟨none,0,rfl⟩
 ·exact ⟨_,_,rfl⟩
end
section
open Go.RowKit
theorem aie:∃i,Tryz.prog.info? 9=some i∧i.zero=some (.string ⟨#[]⟩)∧i.size=1∧i.bytes=16:=by
 have h:(Tryz.prog.info? 9).map (fun i=>(i.zero,i.size,i.bytes))=some (some (.string ⟨#[]⟩),1,16):=by kernel_rfl
 cases hq:Tryz.prog.info? 9 with
 | none=>rw [hq] at h;cases h
 | some i=>
   rw [hq] at h;simp only [AO,Ci,vU] at h;exact ⟨i,rfl,h.1,h.2.1,h.2.2⟩
theorem dX {w w1:World} {B:Nat} {e:cE} {k:Nat} {v:aj} {n:Nat} {xs:List aj} (h:w.ownsRow B e k v n xs) (hb:ak w.heap.size w w1):w1.ownsRow B e k v n xs:=dz h (fun g hg=>hb.block g (aR h g hg).2)
theorem Ke (s:ByteArray) (i k:Nat):aU s i (k+1)=aU s i k * 256+bt s (i+k):=rfl
theorem So (s:ByteArray) (i k:Nat) (hk:k<=3):aU s i k<16777216:=by
 have h:=zG s i k;have:256 ^ k<=256 ^ 3:=Q0 (by decide) hk;omega
theorem Oe (t:ByteArray) (w:World) (ht:t.size<=4):
 av au 222 #[.string t] w fun e' w'=>e'= .returned (.int .i64 (aU t 0 t.size))∧w'=w:=by
 go_enter Tryz.func222,Tryz.ntmps222;go_wp2_with fail
 go_loop [3,7] (fun v i=>∃k:Nat,k<=t.size∧i= .int .i64 k∧v= .int .i64 (aU t 0 k)) (fun _ i=>t.size - (aI i).toNat)
 case atStart=>exact ⟨0,bK _,rfl,rfl⟩
 case round=>
  obtain ⟨k,hk,rfl,rfl⟩:=hrel;by_cases hlt:k<t.size
  ·have hlt':(k:Int)<(t.size:Int):=by omega
   have hgb:=oW t k hlt;have hbl:=nM t k;have hv:=So t 0 k (by omega);have HS:Hid (aU t 0 (k+1)=aU t 0 k * 256+bt t k):=by unfold Hid;rw [Ke,Nat.zero_add]
   have ho:rM .or .i64 ((aU t 0 k:Int) * 256) (bt t k:Int)=(aU t 0 k:Int) * 256+(bt t k:Int):=ahK _ _ 8 (by omega) (by omega) (by omega) (by omega) (by decide) (by omega);generalize aU t 0 k=v at *;go_wp2_with fail
   refine ⟨⟨k+1,by omega,by go_num,?_⟩,by simp [aI];omega⟩;rw [HS.out];go_num
  ·have hkn:k=t.size:=by omega
   subst hkn;have hlt':¬(t.size:Int)<(t.size:Int):=by omega
   go_wp2_with fail
   go_ret;exact ⟨rfl,rfl⟩
theorem CG (s:ByteArray) (i n:Nat) (w:World) (hn:n<=4) (hi:i+n<=s.size) (hs:s.size<=100000):
 av au 169 #[.string s,.int .i64 i,.int .i64 n] w fun e' w'=>e'= .returned (.int .i64 (aU s i n))∧w'=w:=by
 go_enter Tryz.func169,Tryz.ntmps169;go_wp2_with fail
 go_loop [7,8] (fun v j=>∃k:Nat,k<=n∧j= .int .i64 ((i+k:Nat):Int)∧v= .int .i64 (aU s i k)) (fun _ j=>i+n - (aI j).toNat)
 case atStart=>exact ⟨0,bK _,by simp,rfl⟩
 case round=>
  obtain ⟨k,hk,rfl,rfl⟩:=hrel;by_cases hlt:k<n
  ·have hlt':((i+k:Nat):Int)<(i:Int)+(n:Int):=by omega
   have hin:i+k<s.size:=by omega
   have hgb:=oW s (i+k) hin;have hbl:=nM s (i+k);have hv:=So s i k (by omega);have HS:Hid (aU s i (k+1)=aU s i k * 256+bt s (i+k)):=by unfold Hid;rw [Ke]
   generalize aU s i k=v at *;have Sq:((i+k:Nat):Int)<(s.size:Int):=by omega
   have HJ:Hid (((i+k:Nat):Int)+1=((i+(k+1):Nat):Int)):=by unfold Hid;omega
   have HM:Hid (i+n - (i+(k+1))<i+n - (i+k)):=by unfold Hid;omega
   generalize i+k=j at *;go_wp2_with fail
   refine ⟨⟨k+1,by omega,by rw [HJ.out],?_⟩,?_⟩
   ·rw [HS.out];go_num
   ·rw [HJ.out];simp only [aI,Int.toNat_natCast];exact HM.out
  ·have hkn:k=n:=by omega
   subst hkn;have hlt':¬((i+k:Nat):Int)<(i:Int)+(k:Int):=by omega
   go_wp2_with fail
   go_ret;exact ⟨rfl,rfl⟩
def qq (op:Int):Bool:=decide (2<=op∧op<=5)
theorem CH (op:Int) (w:World):
 av au 236 #[.int .i64 op] w fun e' w'=>e'= .returned (.bool (qq op))∧w'=w:=by
 by_cases h:2<=op∧op<=5
 ·have h':op=2∨op=3∨op=4∨op=5:=by omega
  clear h;rcases h' with rfl | rfl | rfl | rfl
  all_goals
   go_enter Tryz.func236,Tryz.ntmps236;go_wp2_with fail
   go_ret;exact ⟨rfl,rfl⟩
 ·have HE:Hid (qq op=false):=by unfold Hid qq;simpa using fun h1=>(by omega:5<op)
  have h2:(op == 2)=false:=by simp;omega
  have h3:(op == 3)=false:=by simp;omega
  have h4:(op == 4)=false:=by simp;omega
  have h5:(op == 5)=false:=by simp;omega
  go_enter Tryz.func236,Tryz.ntmps236;go_wp2_with fail
  go_ret;exact ⟨iv HE.out.symm,rfl⟩
def eM (p:aH):Array aj:=#[.int .i64 p.kind,.int .i64 p.d,.int .i64 p.a,.int .i64 p.b,.int .i64 p.k]
theorem ZR (s:ByteArray) (i n j:Nat) (hi:i+n<=s.size) (hj:j<n):bt (s.extract i (i+n)) j=bt s (i+j):=by
 have h1:j<(s.extract i (i+n)).size:=by rw [rP];omega
 rw [<-oW _ j h1,<-oW s (i+j) (by omega)];rw [ByteArray.getElem_extract]
theorem Og (s:ByteArray) (i n j:Nat) (hi:i+n<=s.size):∀k,j+k<=n->aU (s.extract i (i+n)) j k=aU s (i+j) k:=by
 intro k
 induction k with
 | zero=>intro _;rfl
 | succ k ih=>
   intro hk;rw [Ke,Ke,ih (by omega),ZR s i n (j+k) hi (by omega),Nat.add_assoc]
theorem ZS (l:List UInt8) (b:UInt8):(l ++ [b]).foldl qm 4294967295=qm (l.foldl qm 4294967295) b:=by simp
theorem GY {s:ByteArray} {k:Nat} (h:k<s.size):(aC s).take (k+1)=(aC s).take k ++ [s.get! k]:=by
 have hl:k<(aC s).length:=by rw [jr];exact h
 rw [List.take_add_one,List.getElem?_eq_getElem hl];congr 1;show [(aC s)[k]]=[s.data[k]!]
 rw [getElem!_pos s.data k h];simp [aC]
theorem Oh (x y:Nat):AY (x:Int) (y:Int)=((x ^^^ y:Nat):Int):=by unfold AY;simp
theorem ZT:(3988292384:Int)=((wG:Nat):Int):=by unfold wG;simp
theorem aif (x:Nat) (h:x<4294967296):rM .and .u32 (x:Int) 1=((x % 2:Nat):Int):=by
 have h1:(sM 32 (x:Int)).toNat=x:=by
  rw [QX,QY];exact Nat.mod_eq_of_lt (by omega)
 have h2:(sM 32 1).toNat=1:=by decide
 show IntKind.u32.wrap ((sM 32 (x:Int) &&& sM 32 1).toNat:Int)=_
 rw [BitVec.toNat_and,h1,h2,Nat.and_one_is_mod];simp [IntKind.wrap,IntKind.signed,IntKind.bits];omega
theorem aii {x:Nat} (h:x<4294967296):4294967295 ^^^ x=4294967295 - x:=by
 have e:4294967295 - x=2 ^ 32 - (x+1):=by omega
 have e2:(4294967295:Nat)=2 ^ 32 - 1:=by decide
 rw [e];apply Nat.eq_of_testBit_eq;intro i;rw [Nat.testBit_two_pow_sub_succ (by omega),Nat.testBit_xor,e2,Nat.testBit_two_pow_sub_one];by_cases hi:i<32
 ·simp [hi]
 ·have:x.testBit i=false:=Nat.testBit_lt_two_pow (Nat.lt_of_lt_of_le (by omega:x<2 ^ 32) (Q0 (by decide) (by omega)));simp [hi,this]
theorem aij (x:Nat) (h:x<4294967296):rM .xor .u32 IntKind.u32.max (x:Int)=4294967295 - (x:Int):=by
 have e:IntKind.u32.max=((4294967295:Nat):Int):=by decide
 rw [e,NF _ _ (by omega) (by omega) (by omega) (by omega),Oh,aii h];omega
theorem aik (B m:Nat) (hB:B<256):(aY ((B:Int) / 2 ^ m)).tmod 2=((B / 2 ^ m % 2:Nat):Int):=by
 have e:(B:Int) / 2 ^ m=((B / 2 ^ m:Nat):Int):=by simp
 have hq:B / 2 ^ m<=B:=Nat.div_le_self _ _;rw [e];generalize B / 2 ^ m=q at *;have hw:aY (q:Int)=(q:Int):=by unfold aY;omega
 rw [hw,Int.tmod_eq_emod_of_nonneg (by omega)];omega
theorem ail {x b:Nat} (h:x % 2≠b % 2):rb x b=x / 2 ^^^ wG:=by unfold rb;rw [if_pos h]
theorem aim {x b:Nat} (h:x % 2=b % 2):rb x b=x / 2:=by unfold rb;rw [if_neg (fun e=>e h)]
theorem ain (s:ByteArray) (w:World) (hs:s.size<=cP):
 av au 123 #[.string s] w fun e' w'=>e'= .returned (.int .i64 (crc (aC s):Nat))∧w'=w:=by
 go_enter Tryz.func123,Tryz.ntmps123;go_wp2_with fail
 go_loop [3,4] (fun x i=>∃k X:Nat,k<=s.size∧i= .int .i64 k∧x= .int .i64 X∧Hid (X=((aC s).take k).foldl qm 4294967295)) (fun _ i=>s.size - (aI i).toNat)
 case atStart=>exact ⟨0,4294967295,bK _,rfl,rfl,rfl⟩
 case round=>
  obtain ⟨k,X,hk,rfl,rfl,HX⟩:=hrel;have Kf:X<4294967296:=by rw [HX.out];exact Zo _ _ (by decide)
  by_cases hlt:k<s.size
  ·have hlt':(k:Int)<(s.size:Int):=by omega
   have fC:Hid (aY ((k:Int)+1)=(k:Int)+1):=by unfold Hid aY;unfold cP at hs;omega
   have hgb:=oW s k hlt;have hbl:=nM s k;have HN:Hid (qm X (s.get! k)=((aC s).take (k+1)).foldl qm 4294967295):=by unfold Hid;rw [GY hlt,ZS,HX.out]
   have HC:Hid (qm X (s.get! k)=zJ (bt s k) 8 X):=rfl;generalize bt s k=B at *;go_wp2_with fail
   go_loop [3,5] (fun x j=>∃m Y:Nat,m<=8∧j= .int .i64 m∧x= .int .i64 Y∧Hid (Y=zJ B m X)) (fun _ j=>8 - (aI j).toNat)
   case atStart=>exact ⟨0,X,bK _,rfl,rfl,rfl⟩
   case round=>
    obtain ⟨m,Y,hm,rfl,rfl,HY⟩:=hrel;have hYl:Y<4294967296:=by rw [HY.out];exact R9 _ Kf _
    by_cases hml:m<8
    ·have hml':(m:Int)<8:=by omega
     have e1:=aik B m hbl;have ex:rM .xor .i64 ((Y:Int) / 2) 3988292384=((Y / 2 ^^^ wG:Nat):Int):=by
      rw [Y7 _ _ (by omega) (by omega) (by decide) (by decide),show (Y:Int) / 2=((Y / 2:Nat):Int) by omega];rw [ZT];exact Oh (Y / 2) wG
     have HR:Hid (zJ B (m+1) X=rb Y (B / 2 ^ m)):=by unfold Hid;rw [zJ,HY.out]
     have HE:=af e1;have GZ:=af ex;clear e1 ex HN HC HX;go_wp2_with fail
     ·rename_i hb;rw [HE.out] at hb;refine ⟨⟨m+1,Y / 2 ^^^ wG,by omega,by go_num,by rw [GZ.out],?_⟩,by simp [aI];omega⟩;unfold Hid;rw [HR.out,ail (by simp only [bne_iff_ne,ne_eq] at hb;omega)]
     ·rename_i hb;rw [HE.out] at hb;refine ⟨⟨m+1,Y / 2,by omega,by go_num,by rw [show (Y:Int) / 2=((Y / 2:Nat):Int) by omega],?_⟩,by simp [aI];omega⟩;unfold Hid;rw [HR.out,aim (by simp only [bne_eq_false_iff_eq] at hb;omega)]
    ·have hml':¬(m:Int)<8:=by omega
     have Oi:m=8:=by omega
     have qt:Hid (Y=((aC s).take (k+1)).foldl qm 4294967295):=by unfold Hid;rw [<-HN.out,HC.out,HY.out,Oi]
     go_wp2_with fail
     rw [fC.out];exact ⟨⟨k+1,Y,by omega,by go_num,rfl,qt.out⟩,by simp [aI];omega⟩
  ·have hlt':¬(k:Int)<(s.size:Int):=by omega
   have hke:k=s.size:=by omega
   have HE:Hid ((crc (aC s):Int)=4294967295 - (X:Int)):=by
    unfold Hid crc Sb;have:=HX.out;rw [hke,mO (by rw [jr];exact ax _)] at this;rw [<-this];omega
   go_wp2_with fail
   go_ret;exact ⟨by rw [HE.out];go_num,rfl⟩
theorem aio (s:ByteArray) (w:World) (hs:s.size<=cP):
 av au 103 #[.string s] w fun e' w'=>e'= .returned (.int .i64 (crc (aC s):Nat))∧w'=w:=by
 go_enter Tryz.func103,Tryz.ntmps103;go_wp2_with fail
 go_loop [3,8] (fun x i=>∃k X:Nat,k<=s.size∧i= .int .i64 k∧x= .int .u32 X∧Hid (X=((aC s).take k).foldl qm 4294967295)) (fun _ i=>s.size - (aI i).toNat)
 case atStart=>exact ⟨0,4294967295,bK _,rfl,rfl,rfl⟩
 case round=>
  obtain ⟨k,X,hk,rfl,rfl,HX⟩:=hrel;have Kf:X<4294967296:=by rw [HX.out];exact Zo _ _ (by decide)
  by_cases hlt:k<s.size
  ·have hlt':(k:Int)<(s.size:Int):=by omega
   have fC:Hid (aY ((k:Int)+1)=(k:Int)+1):=by unfold Hid aY;unfold cP at hs;omega
   have hgb:=oW s k hlt;have hbl:=nM s k;have HN:Hid (qm X (s.get! k)=((aC s).take (k+1)).foldl qm 4294967295):=by unfold Hid;rw [GY hlt,ZS,HX.out]
   have HC:Hid (qm X (s.get! k)=zI 8 (X ^^^ bt s k)):=by unfold Hid;rw [<-ahc];rfl
   have ex:rM .xor .u32 (X:Int) (bt s k:Int)=((X ^^^ bt s k:Nat):Int):=by
    rw [NF _ _ (by omega) (by omega) (by omega) (by omega)];exact Oh X _
   have hxl:X ^^^ bt s k<4294967296:=Nat.xor_lt_two_pow (n:=32) (by omega) (by omega);have fC:Hid (aY ((k:Int)+1)=(k:Int)+1):=by unfold Hid aY;unfold cP at hs;omega
   generalize bt s k=B at *;go_wp2_with fail
   go_loop [3,17] (fun x j=>∃m Y:Nat,m<=8∧j= .int .i64 m∧x= .int .u32 Y∧Hid (Y=zI m (X ^^^ B))) (fun _ j=>8 - (aI j).toNat)
   case atStart=>exact ⟨0,X ^^^ B,bK _,rfl,rfl,rfl⟩
   case round=>
    obtain ⟨m,Y,hm,rfl,rfl,HY⟩:=hrel;have hYl:Y<4294967296:=by rw [HY.out];exact Zn hxl _
    by_cases hml:m<8
    ·have hml':(m:Int)<8:=by omega
     have HR:Hid (zI (m+1) (X ^^^ B)=cb Y):=by unfold Hid;rw [zI,HY.out]
     have HA:=af (aif Y hYl);have GZ:Hid (rM .xor .u32 ((Y:Int) / 2) 3988292384=((Y / 2 ^^^ wG:Nat):Int)):=by
      unfold Hid;rw [NF _ _ (by omega) (by omega) (by decide) (by decide),show (Y:Int) / 2=((Y / 2:Nat):Int) by omega,ZT];exact Oh (Y / 2) wG
     clear hgb HN HC HX;go_wp2_with fail
     ·rename_i hb;rw [HA.out] at hb;refine ⟨⟨m+1,Y / 2 ^^^ wG,by omega,by go_num,by rw [GZ.out],?_⟩,by simp [aI];omega⟩;unfold Hid;rw [HR.out,cb,if_pos (by simp only [beq_iff_eq] at hb;omega)]
     ·rename_i hb;rw [HA.out] at hb;refine ⟨⟨m+1,Y / 2,by omega,by go_num,by rw [show (Y:Int) / 2=((Y / 2:Nat):Int) by omega],?_⟩,by simp [aI];omega⟩;unfold Hid;rw [HR.out,cb,if_neg (by simp only [beq_eq_false_iff_ne,ne_eq] at hb;omega)]
    ·have hml':¬(m:Int)<8:=by omega
     have Oi:m=8:=by omega
     have qt:Hid (Y=((aC s).take (k+1)).foldl qm 4294967295):=by unfold Hid;rw [<-HN.out,HC.out,HY.out,Oi]
     go_wp2_with fail
     rw [fC.out];exact ⟨⟨k+1,Y,by omega,by go_num,rfl,qt.out⟩,by simp [aI];omega⟩
  ·have hlt':¬(k:Int)<(s.size:Int):=by omega
   have hke:k=s.size:=by omega
   have HE:Hid ((crc (aC s):Int)=4294967295 - (X:Int)):=by
    unfold Hid crc Sb;have:=HX.out;rw [hke,mO (by rw [jr];exact ax _)] at this;rw [<-this];omega
   have Oj:=aij X Kf;go_wp2_with fail
   go_ret;exact ⟨xS (by rw [HE.out];unfold aY;omega),rfl⟩
theorem aip (t:ByteArray) (w:World) (ht:t.size=8):
 av au 204 #[.string t] w fun e' w'=>e'= .returned (.agg (eM (putAt t 0)))∧ak w.heap.size w w':=by
 have g0:=oW t 0 (by omega);have g1:=oW t 1 (by omega);have g2:=oW t 2 (by omega);have g3:=oW t 3 (by omega);have b0:=nM t 0;have b1:=nM t 1;have b2:=nM t 2;have b3:=nM t 3;have HP:Hid (eM (putAt t 0)=#[.int .i64 (bt t 0),.int .i64 (bt t 1),.int .i64 (bt t 2),.int .i64 (bt t 3),.int .i64 (aU t 4 4)]):=rfl;have uh:(t.extract 4 t.size).size=4:=by rw [rP];omega
 have hr:=fun w'=>Oe (t.extract 4 t.size) w' (by omega);rw [uh] at hr;have he:aU (t.extract 4 t.size) 0 4=aU t 4 4:=by
  have:=Og t 4 4 0 (by omega) 4 (by omega);rw [show t.size=4+4 by omega];exact this
 rw [he] at hr;rw [ht] at hr;have HR:=af hr;clear hr he;have ht':(t.size:Int)=8:=by omega
 generalize aU t 4 4=k4 at *;go_enter Tryz.func204,Tryz.ntmps204;go_wp2_with fail
 refine ug 14 3 (fun _=>True) (by kernel_rfl) (by kernel_rfl) (fun d _ _ _ _ h=>by cases d<;>exact h) trivial ?_;simp only [List.take_succ_cons,List.take_zero,List.drop_succ_cons,List.drop_zero]
 iterate 14
  refine mT ?_ rfl ?_ ?_
  rotate_left
  ·rintro w' d0;go_simp;rfl
  go_simp
 refine uf ?_;refine iQ rfl (fun K hK=>?_);go_simp;refine (aq HR _).mono ?_;rintro e w' ⟨rfl,hw⟩;obtain rfl:=hw.symm;refine hK _ _ trivial ?_;clear hK K;refine iQ rfl (fun K hK=>?_);go_simp;refine hK _ _ trivial ?_;clear hK K;refine iQ rfl (fun K hK=>?_);go_simp;refine hK _ _ trivial ?_;clear hK K;unfold oy;go_wp2_with fail
 refine bodyPost_ret (v:=.agg #[.int .i64 (bt t 0),.int .i64 (bt t 1),.int .i64 (bt t 2),.int .i64 (bt t 3),.int .i64 k4]) (by simp [results,Tryz.results204,go_sem];exact ⟨AP _ ⟨by omega,by omega⟩,AP _ ⟨by omega,by omega⟩,AP _ ⟨by omega,by omega⟩,AP _ ⟨by omega,by omega⟩⟩) rfl ?_;rw [HP.out];exact ⟨rfl,((Below.refl _ _).alloc (ax _) _).drew⟩
def lW (kind d a b k:Int):Bool:=decide (d<16∧a<16∧b<16∧((kind=1∧a=0∧b=0)∨(2<=kind∧kind<=5∧k=0)∨(kind=6∧b=0∧k<=4095)∨(kind=7∧b=0∧k=0)))
theorem ZU (p:aH):lW p.kind p.d p.a p.b p.k= @decide (iY p) (okDec p):=by
 unfold lW;rw [decide_eq_decide];unfold iY;omega
theorem aiq (kind d a b k:Int) (w:World):
 av au 205 #[.agg #[.int .i64 kind,.int .i64 d,.int .i64 a,.int .i64 b,.int .i64 k]] w fun e' w'=>e'= .returned (.bool (lW kind d a b k))∧ak w.heap.size w w':=by
 have HE:∀x:Bool,x=lW kind d a b k->(kS (.bool x)= .returned (.bool (lW kind d a b k))∧ak w.heap.size w (w.alloc (.cells #[.int .i64 kind,.int .i64 d,.int .i64 a,.int .i64 b,.int .i64 k] 123))):=fun _ h=>⟨iv h,zO _⟩;have HE:=af HE;have HA:=af (fun w'=>CH kind w');by_cases h1:d<16∧a<16∧b<16
 ·obtain ⟨hd,ha,hb⟩:=h1;by_cases hk1:kind=1
  ·subst hk1;by_cases ha0:a=0
   ·by_cases hb0:b=0
    ·subst ha0 hb0;go_enter zq,zu;go_wp2_with fail
     go_ret;exact HE.out _ (by simp [lW];omega)
    ·have ZV:(b == 0)=false:=by simpa using hb0
     subst ha0;go_enter zq,zu;go_wp2_with fail
     go_ret;exact HE.out _ (by simp [lW];omega)
   ·have avo:(a == 0)=false:=by simpa using ha0
    go_enter zq,zu;go_wp2_with fail
    go_ret;exact HE.out _ (by simp [lW];omega)
  ·have avp:(kind == 1)=false:=by simpa using hk1
   by_cases har:2<=kind∧kind<=5
   ·have hq:qq kind=true:=by unfold qq;simpa using har
    have Em:Hid (∀w',av au 236 #[.int .i64 kind] w' fun e' w''=>e'= .returned (.bool true)∧w''=w'):=fun w'=>by have:=HA.out w';rw [hq] at this;exact this
    go_enter zq,zu;go_wp2_with fail
    refine (aq Em _).mono ?_;rintro e w' ⟨rfl,hw⟩;obtain rfl:=hw.symm;go_wp2_with fail
    go_ret;refine HE.out _ ?_;by_cases hk0:k=0
    ·subst hk0;simp [lW];omega
    ·have:lW kind d a b k=false:=by unfold lW;rw [decide_eq_false_iff_not];omega
     rw [this];simpa using hk0
   ·have hq:qq kind=false:=by unfold qq;rw [decide_eq_false_iff_not];exact har
    have Em:Hid (∀w',av au 236 #[.int .i64 kind] w' fun e' w''=>e'= .returned (.bool false)∧w''=w'):=fun w'=>by have:=HA.out w';rw [hq] at this;exact this
    by_cases Bc:kind=6
    ·subst Bc;clear har hk1 hq;by_cases hb0:b=0
     ·subst hb0;go_enter zq,zu;go_wp2_with fail
      refine (aq Em _).mono ?_;rintro e w' ⟨rfl,hw⟩;obtain rfl:=hw.symm;go_wp2_with fail
      go_ret;refine HE.out _ ?_;unfold lW;rw [decide_eq_decide];omega
     ·have ZV:(b == 0)=false:=by simpa using hb0
      go_enter zq,zu;go_wp2_with fail
      refine (aq Em _).mono ?_;rintro e w' ⟨rfl,hw⟩;obtain rfl:=hw.symm;go_wp2_with fail
      go_ret;exact HE.out _ (by simp [lW];omega)
    ·have avq:(kind == 6)=false:=by simpa using Bc
     by_cases ZW:kind=7
     ·subst ZW;clear har hk1 hq Bc;by_cases hb0:b=0
      ·subst hb0;go_enter zq,zu;go_wp2_with fail
       refine (aq Em _).mono ?_;rintro e w' ⟨rfl,hw⟩;obtain rfl:=hw.symm;go_wp2_with fail
       go_ret;refine HE.out _ ?_;by_cases hk0:k=0
       ·subst hk0;simp [lW];omega
       ·simp [lW,hk0]
      ·have ZV:(b == 0)=false:=by simpa using hb0
       go_enter zq,zu;go_wp2_with fail
       refine (aq Em _).mono ?_;rintro e w' ⟨rfl,hw⟩;obtain rfl:=hw.symm;go_wp2_with fail
       go_ret;exact HE.out _ (by simp [lW];omega)
     ·have avr:(kind == 7)=false:=by simpa using ZW
      go_enter zq,zu;go_wp2_with fail
      refine (aq Em _).mono ?_;rintro e w' ⟨rfl,hw⟩;obtain rfl:=hw.symm;go_wp2_with fail
      go_ret;exact HE.out _ (by simp [lW];omega)
 ·have hf:lW kind d a b k=false:=by unfold lW;rw [decide_eq_false_iff_not];omega
  have HF:=af hf;by_cases hd:16<=d
  ·go_enter zq,zu;go_wp2_with fail
   go_ret;exact HE.out _ HF.out.symm
  ·have hd':decide (16<=d)=false:=by simpa using hd
   by_cases ha:16<=a
   ·go_enter zq,zu;go_wp2_with fail
    go_ret;exact HE.out _ HF.out.symm
   ·have ha':decide (16<=a)=false:=by simpa using ha
    have hb:16<=b:=by omega
    go_enter zq,zu;go_wp2_with fail
    go_ret;exact HE.out _ HF.out.symm
end
end Go.Proofs.YtmmflekajbeamaaGreatDoor
