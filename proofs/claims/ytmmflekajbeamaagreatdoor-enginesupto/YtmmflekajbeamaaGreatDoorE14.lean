/- Texts of ours, joined, in few bytes. -/
import Derived.Test.YtmmflekajbeamaaGreatDoorE13
import Derived.Shelf.Pu.Clone
open Go renaming Calls->av,Value->aj,heap_alloc_new->bg,maxLen->cP,run_underlying->Ro,wpList_append_lies->vV,wpStill_nil->jC
open Go.Op renaming eqItems->Nw
open Go.Proofs.Tryz renaming func172->Rw,ntmps172->Rx,prog->au,underlying223->avj
open Go.Result renaming andThen_ok->DI
open Go.RowKit renaming Below->ak,intOf->aI
open Go.RowKit.Below renaming refl->aA
open Go.Value renaming string->tZ
open Go.World renaming cell?_alloc_at->kC,news_of_block->mP,ownsRow_nil->j7
open Int renaming eq_ofNat_of_zero_le->j4,toNat_natCast->qM
open List renaming drop_succ_cons->j6,drop_zero->iE,getD_eq_getElem?_getD->bP,getElem?_eq_getElem->bE,getElem?_eq_none->lE,getElem?_map->iX,getElem?_range->uN,length_take->ny,mem_range->mL,take_add_one->Js,take_of_length_le->mO,take_succ_cons->j5,take_zero->jU
open Nat renaming le_of_lt->iP,le_refl->ax,le_trans->aT,mul_one->Nv,zero_le->bK
namespace Go.Proofs.YtmmflekajbeamaaGreatDoor
set_option maxRecDepth 100000
set_option maxHeartbeats 4000000
section
open Go.RowKit

def MARK:ByteArray:=⟨#[109,97,114,107]⟩
def TL (n:Nat):List aj:=[.string MARK,.string (ah (aS 8 n))]
def Ig (q:Nat):List aj:=TL (4 * q)
theorem abT:(Tryz.prog.info? 127).map (·.size)=some 2:=by kernel_rfl
theorem Bt {w:World} {B:Nat} {g cap:Nat} {l:List (List UInt8×List UInt8)} (h:w.ownsRow B 127 2 (.slice (some ⟨g,0,none⟩) l.length cap) l.length (bR l)) (n:Nat) (x:List UInt8×List UInt8) (hn:l[n]? =some x):
 w.cell? ⟨g,n * 2,none⟩=some (.string (ah x.1))∧w.cell? ⟨g,n * 2+1,none⟩=some (.string (ah x.2)):=by
 have hlt:n<l.length:=(List.getElem?_eq_some_iff.1 hn).1;have key:=Hj (fun x:List UInt8×List UInt8=>[tZ (ah x.1),tZ (ah x.2)]) 2 (fun _=>rfl) l n x hn;refine ⟨?_,?_⟩
 ·rw [h.cellAt (n * 2) (by omega)];exact key 0 (by decide)
 ·rw [h.cellAt (n * 2+1) (by omega)];exact key 1 (by decide)
theorem alk (a b:aj) (B B':Nat) (l:List (List UInt8×List UInt8)) (w:World) (ha:w.ownsRow B 127 2 a l.length (bR l)) (hb:w.ownsRow B' 127 2 b l.length (bR l)) (hl:l.length<=1048576):
 av au 81 #[a,b] w fun e' w'=>e'= .returned (.bool true)∧ak w.heap.size w w':=by
 obtain ⟨aa,ac,rfl⟩:=bA ha;obtain ⟨ba,bc,rfl⟩:=bA hb;have HA:=af ha;have HB:=af hb;clear ha hb;go_enter Tryz.func81,Tryz.ntmps81;go_wp2_with fail
 go_loopw [5] (fun i wr=>∃k:Nat,k<=l.length∧i= .int .i64 k∧ak w.heap.size w wr) (fun i _=>l.length - (aI i).toNat)
 case atStart=>exact ⟨0,bK _,rfl,aA _ _⟩
 case round=>
  obtain ⟨k,hk,rfl,hbl⟩:=hrel;have bU:=af hbl;by_cases hlt:k<l.length
  ·have hlt':(k:Int)<(l.length:Int):=by omega
   obtain ⟨g1,c1,hf1,_,eG⟩:=HA.out.form (by omega);obtain ⟨g2,c2,vr,_,jx⟩:=HB.out.form (by omega);cases hf1;cases vr;have hpk:l[k]? =some l[k]:=bE hlt;obtain ⟨x0,x1⟩:=Bt (dX HA.out hbl) k l[k] hpk;obtain ⟨y0,y1⟩:=Bt (dX HB.out hbl) k l[k] hpk;generalize l[k]=p at *;obtain ⟨p0,p1⟩:=p;simp only at x0 x1 y0 y1;generalize ah p0=D0 at *;generalize ah p1=D1 at *;clear hbl hpk;go_wp2_with fail
   go_quiet (fail)
   go_wp2_with fail
   exact ⟨⟨k+1,by omega,by go_num,below_drewN bU.out nq⟩,by simp [aI];omega⟩
  ·have hlt':¬(k:Int)<(l.length:Int):=by omega
   clear hbl;go_wp2_with fail
   go_ret;exact ⟨rfl,bU.out⟩
end
section
open Go.RowKit Go.Shelf
def alm:Ren:=⟨fun _=>257,fun t=>if t=0 then 0 else if t=3 then 3 else if t=4 then 4 else if t=5 then 5 else if t=9 then 9 else if t=37 then 136 else 233,fun x=>x⟩
theorem aln:LaysPu.n25 au alm:=by
 constructor<;>first | kernel_rfl | (intro w;kernel_rfl)
theorem alo (s:ByteArray) (w:World) (hs:s.size<=2000000):
 av au 245 #[.string s] w fun e' w'=>e'= .returned (.string s)∧ak w.heap.size w w':=by
 have HC:=af (AnyPu.stringslite_Clone aln s w (by omega));go_enter Tryz.func245,Tryz.ntmps245;go_wp2_with fail
 refine (aq HC).mono ?_;rintro e w1 ⟨rfl,hb⟩;have HB:=af hb;clear hb;go_wp2_with fail
 go_ret;exact ⟨rfl,HB.out⟩
theorem alp (s:ByteArray) (i:Nat):aS 4 (aU s i 4)=[s.get! i,s.get! (i+1),s.get! (i+2),s.get! (i+3)]:=by
 have h0:=(s.get! i).toNat_lt;have h1:=(s.get! (i+1)).toNat_lt;have h2:=(s.get! (i+2)).toNat_lt;have h3:=(s.get! (i+3)).toNat_lt;simp only [aS,aU,Nat.reducePow,Nat.div_one,Nat.add_zero];have e:∀(b:UInt8) (n:Nat),n=b.toNat->UInt8.ofNat n=b:=fun b n h=>by rw [h];simp
 rw [e (s.get! i) _ (by omega),e (s.get! (i+1)) _ (by omega),e (s.get! (i+2)) _ (by omega),e (s.get! (i+3)) _ (by omega)]
theorem alq (s:ByteArray):∀k,4 * k<=s.size->aQ (dV s k)=(aC s).take (4 * k):=by
 intro k
 induction k with
 | zero=>intro _;simp [dV,aQ]
 | succ k ih=>
   intro hk;rw [aao,R6,ih (by omega)];unfold aX;rw [alp,show 4 * (k+1)=4 * k+1+1+1+1 by omega,GY (by omega),GY (by omega),GY (by omega),GY (by omega)];simp
theorem abU {s:ByteArray} (h:s.size % 4=0):aQ (dV s (s.size / 4))=aC s:=by
 rw [alq s _ (by omega),mO (by rw [jr];omega)]
end
section
open Go.RowKit
def lR (l:List (List UInt8)):List aj:=l.map fun x=>.string (ah x)
theorem TM (l:List (List UInt8)) (i:Nat) (h:i<l.length):(lR l)[i]? =some (.string (ah (l.getD i []))):=by
 unfold lR;rw [iX,bP,bE h];rfl
theorem alr (l:List (List UInt8)) (i:Nat) (x:List UInt8):(lR l).set i (.string (ah x))=lR (l.set i x):=by
 unfold lR;rw [List.map_set]
theorem als:cY.length=16:=by simp [cY]
theorem alu {k:Nat} (h:k<16):cY[k]? =some (if k<8 then uU k else iG 0):=by
 unfold cY;rw [iX,uN h];rfl
theorem abV (l:List (List UInt8)) (x:List UInt8):lR (l ++ [x])=lR l ++ [.string (ah x)]:=by simp [lR]
theorem abW (w:World):
 av au 210 #[] w fun e' w'=>ak w.heap.size w w'∧∃v,e'= .returned v∧w'.ownsRow w.heap.size 9 1 v 16 (lR cY):=by
 obtain ⟨inf,cJ,hz,cW,hby⟩:=aie;have gJ:=af cJ;have HZ:=af hz;have dR:=af cW;have gK:=af hby;clear cJ hz cW hby;have Ih:Hid (∀w',av au 137 #[.int .i64 0,.int .i64 4] w' fun e' w''=>e'= .returned (.string (ah (aS 4 0)))∧ak w'.heap.size w' w''):=fun w'=>qu 0 4 w' (by decide) (by decide);have HC0:Hid ((⟨#[35]⟩:ByteArray) ++ ah (aS 4 0)=ah (iG 0)):=by unfold Hid;rw [show (⟨#[35]⟩:ByteArray)=ah [35] from rfl,mC];rfl
 have z0:(ah (aS 4 0)).size<=4:=by rw [bZ,iF];decide
 generalize ah (aS 4 0)=D0 at *;go_enter Tryz.func210,Tryz.ntmps210;go_wp2_with fail
 go_loopw [1,2] (fun v i wr=>∃k:Nat,k<=16∧i= .int .i64 k∧wr.ownsRow w.heap.size 9 1 v k (lR (cY.take k))∧ak w.heap.size w wr) (fun _ i _=>16 - (aI i).toNat)
 case atStart=>exact ⟨0,bK _,rfl,j7 _ _ _ _,aA _ _⟩
 case round=>
  obtain ⟨k,hk,rfl,hown,hbl⟩:=hrel;obtain ⟨va,vc,hv⟩:=bA hown;subst hv;have HO:=af hown;have bU:=af hbl;have dY:=hbl.size;clear hown hbl;by_cases hlt:k<16
  ·have hlt':(k:Int)<16:=by omega
   have hat:=alu hlt;by_cases h8:k<8
   ·have h8':(k:Int)<8:=by omega
    rw [if_pos h8] at hat;have HN:=af (fun w'=>qu k 1 w' (by decide) (by omega));have HC:Hid ((⟨#[114]⟩:ByteArray) ++ ah (aS 1 k)=ah (uU k)):=by unfold Hid;rw [show (⟨#[114]⟩:ByteArray)=ah [114] from rfl,mC];rfl
    have HS:Hid (lR (cY.take (k+1))=lR (cY.take k) ++ [.string (ah (uU k))]):=by unfold Hid;rw [Js,hat,<-abV];rfl
    have z1:(ah (aS 1 k)).size<=4:=by rw [bZ,iF];decide
    generalize ah (aS 1 k)=D1 at *;clear hat;go_wp2_with fail
    refine (aq Ih _).mono ?_;rintro e w1 ⟨rfl,hb1⟩;have aJ:=af (bU.out.trans (hb1.mono dY));have jy:=af (dX HO.out hb1);have hz1:=aT dY hb1.size;clear hb1;go_wp2_with fail
    refine (aq HN _).mono ?_;rintro e w2 ⟨rfl,hb2⟩;have aZ:=af (aJ.out.trans (hb2.mono hz1));have nN:=af (dX jy.out hb2);have hz2:=aT hz1 hb2.size;clear hb2;go_wp2_with (at_builtin;refine vV _ rfl _ _ 223 rfl w.heap.size 9 inf _ 1 16 avj gJ.out HZ.out dR.out gK.out rfl (by decide) (.slice va k vc) k (lR (cY.take k)) rfl (nN.out.alloc _) ⟨w2.heap.size,0,none⟩ 1 1 [.string ((⟨#[114]⟩:ByteArray) ++ D1)] rfl rfl (mP (bg w2 _)) (fun u hu=>by simp at hu;subst hu;rfl) (by decide) (by unfold cP;omega) (by omega) (by rw [aB];omega) (w2.heap.size+1) (by rw [aB]) ?_;intro wL cap2 w3 jQ js nO sY;have iR:=af jQ;have j8:=af js;clear jQ js nO)
    refine ⟨⟨k+1,by omega,by go_num,?_,?_⟩,by simp [aI];omega⟩
    ·rw [HS.out,<-HC.out];exact iR.out
    ·exact (aZ.out.alloc hz2 _).grown j8.out (by rw [aB];omega) (fun q hq=>(aR nN.out q hq).1)
   ·have h8':¬(k:Int)<8:=by omega
    rw [if_neg h8] at hat;have HS:Hid (lR (cY.take (k+1))=lR (cY.take k) ++ [.string (ah (iG 0))]):=by unfold Hid;rw [Js,hat,<-abV];rfl
    clear hat;go_wp2_with fail
    refine (aq Ih _).mono ?_;rintro e w1 ⟨rfl,hb1⟩;have aJ:=af (bU.out.trans (hb1.mono dY));have jy:=af (dX HO.out hb1);have hz1:=aT dY hb1.size;clear hb1;go_wp2_with (at_builtin;refine vV _ rfl _ _ 223 rfl w.heap.size 9 inf _ 1 16 avj gJ.out HZ.out dR.out gK.out rfl (by decide) (.slice va k vc) k (lR (cY.take k)) rfl (jy.out.alloc _) ⟨w1.heap.size,0,none⟩ 1 1 [.string ((⟨#[35]⟩:ByteArray) ++ D0)] rfl rfl (mP (bg w1 _)) (fun u hu=>by simp at hu;subst hu;rfl) (by decide) (by unfold cP;omega) (by omega) (by rw [aB];omega) (w1.heap.size+1) (by rw [aB]) ?_;intro wL cap2 w3 jQ js nO sY;have iR:=af jQ;have j8:=af js;clear jQ js nO)
    refine ⟨⟨k+1,by omega,by go_num,?_,?_⟩,by simp [aI];omega⟩
    ·rw [HS.out,<-HC0.out];exact iR.out
    ·exact (aJ.out.alloc hz1 _).grown j8.out (by rw [aB];omega) (fun q hq=>(aR jy.out q hq).1)
  ·have hkn:k=16:=by omega
   have Ou:(k:Int)=16:=by omega
   have CQ:Hid (wr.ownsRow w.heap.size 9 1 (.slice va k vc) 16 (lR cY)):=by
    have:=HO.out;rw [mO (by rw [als];omega)] at this;rw [hkn] at this⊢;exact this
   clear HO;have hlt':¬(k:Int)<16:=by omega
   clear hkn Ou;go_wp2_with fail
   go_ret;exact ⟨bU.out,_,rfl,CQ.out⟩
theorem TN (s:ByteArray) (w:World) (h:gi s):
 av au 172 #[.string s] w fun e' w'=>e'= .returned (.bool true)∧w'=w:=by
 obtain ⟨h4,h32,hm,hp⟩:=h;have HP:=af hp;have h4':¬(s.size:Int)<4:=by omega
 have h4d:decide ((s.size:Int)<4)=false:=by simpa using h4'
 have alx:decide ((32:Int)<(s.size:Int))=false:=by simp;omega
 have hm':(s.size:Int) % 4=0:=by omega
 clear hp;go_enter Rw,Rx;go_wp2_with fail
 go_loop [3] (fun i=>∃k j:Nat,4 * k+4<=s.size∧j=4 * k∧i= .int .i64 j) (fun i=>s.size - (aI i).toNat)
 case atStart=>exact ⟨0,0,by omega,rfl,rfl⟩
 case round=>
  obtain ⟨k,j,hk,hj,rfl⟩:=hrel;by_cases hlt:j<s.size - 4
  ·have hlt':(j:Int)<(s.size:Int) - 4:=by omega
   have lQ:=JU s k;have hv:∀w',av au 169 #[.string s,.int .i64 (j:Int),.int .i64 4] w' fun e' w''=>e'= .returned (.int .i64 (aX s k:Nat))∧w''=w':=fun w'=>by
    have:=CG s j 4 w' (by decide) (by omega) (by omega);unfold aX;rw [<-hj];exact this
   have HV:=af hv;have hpl:=fun w'=>GF (aX s k:Nat) w' (by omega) (by omega);have hpk:nH (bu (aX s k:Nat)) (fa (aX s k:Nat)) (fb (aX s k:Nat)) (fc (aX s k:Nat))=true:=HP.out k (by omega);rw [hpk] at hpl;have gu:=af hpl;clear hv hpl hpk;generalize aX s k=v at *;have HJ:=af hj;clear hj;go_wp2_with fail
   refine (aq HV _).mono ?_;rintro e w' ⟨rfl,hw⟩;obtain rfl:=hw.symm;go_wp2_with fail
   refine (aq gu _).mono ?_;rintro e w' ⟨rfl,hw⟩;obtain rfl:=hw.symm;go_wp2_with fail
   exact ⟨⟨k+1,j+4,by have:=HJ.out;omega,by have:=HJ.out;omega,by go_num⟩,by simp [aI];omega⟩
  ·have hlt':¬(j:Int)<(s.size:Int) - 4:=by omega
   clear hj;go_wp2_with fail
   go_ret;exact ⟨rfl,rfl⟩
theorem TP (s:ByteArray) (w:World) (h:¬gi s) (hs:s.size<=cP):
 av au 172 #[.string s] w fun e' w'=>e'= .returned (.bool false)∧w'=w:=by
 unfold cP at hs;by_cases h4:s.size<4
 ·have h4':(s.size:Int)<4:=by omega
  go_enter Rw,Rx;go_wp2_with fail
  go_ret;exact ⟨rfl,rfl⟩
 ·have h4d:decide ((s.size:Int)<4)=false:=by simp;omega
  by_cases h32:32<s.size
  ·have avR:(32:Int)<(s.size:Int):=by omega
   go_enter Rw,Rx;go_wp2_with fail
   go_ret;exact ⟨rfl,rfl⟩
  ·have alx:decide ((32:Int)<(s.size:Int))=false:=by simp;omega
   by_cases hm:s.size % 4=0
   ·have hm':(s.size:Int) % 4=0:=by omega
    have HN:Hid (¬∀j,j+1<s.size / 4->eV (aX s j)=true):=fun hp=>h ⟨by omega,by omega,hm,hp⟩;go_enter Rw,Rx;go_wp2_with fail
    clear hm';go_loop [3] (fun i=>∃k j:Nat,4 * k+4<=s.size∧j=4 * k∧i= .int .i64 j∧Hid (∀q,q<k->eV (aX s q)=true)) (fun i=>s.size - (aI i).toNat)
    case atStart=>exact ⟨0,0,by omega,rfl,rfl,fun q hq=>by omega⟩
    case round=>
     obtain ⟨k,j,hk,hj,rfl,HG⟩:=hrel;by_cases hlt:j<s.size - 4
     ·have hlt':(j:Int)<(s.size:Int) - 4:=by omega
      have lQ:=JU s k;have hv:∀w',av au 169 #[.string s,.int .i64 (j:Int),.int .i64 4] w' fun e' w''=>e'= .returned (.int .i64 (aX s k:Nat))∧w''=w':=fun w'=>by
       have:=CG s j 4 w' (by decide) (by omega) (by omega);unfold aX;rw [<-hj];exact this
      have HV:=af hv;have hpl:=fun w'=>GF (aX s k:Nat) w' (by omega) (by omega);cases hpk:eV (aX s k:Nat)
      ·have qV:nH (bu (aX s k:Nat)) (fa (aX s k:Nat)) (fb (aX s k:Nat)) (fc (aX s k:Nat))=false:=hpk;rw [qV] at hpl;have gu:=af hpl;clear hv hpl hpk qV HG HN;generalize aX s k=v at *;clear hj;go_wp2_with fail
       refine (aq HV _).mono ?_;rintro e w' ⟨rfl,hw⟩;obtain rfl:=hw.symm;go_wp2_with fail
       refine (aq gu _).mono ?_;rintro e w' ⟨rfl,hw⟩;obtain rfl:=hw.symm;go_wp2_with fail
       go_ret;exact ⟨rfl,rfl⟩
      ·have TQ:Hid (∀q,q<k+1->eV (aX s q)=true):=fun q hq=>by
        by_cases hqk:q=k
        ·rw [hqk];exact hpk
        ·exact HG.out q (by omega)
       have qV:nH (bu (aX s k:Nat)) (fa (aX s k:Nat)) (fb (aX s k:Nat)) (fc (aX s k:Nat))=true:=hpk;rw [qV] at hpl;have gu:=af hpl;clear hv hpl hpk qV HG;generalize aX s k=v at *;have HJ:=af hj;clear hj;go_wp2_with fail
       refine (aq HV _).mono ?_;rintro e w' ⟨rfl,hw⟩;obtain rfl:=hw.symm;go_wp2_with fail
       refine (aq gu _).mono ?_;rintro e w' ⟨rfl,hw⟩;obtain rfl:=hw.symm;go_wp2_with fail
       exact ⟨⟨k+1,j+4,by have:=HJ.out;omega,by have:=HJ.out;omega,by go_num,TQ⟩,by simp [aI];omega⟩
     ·exact absurd (fun q hq=>HG.out q (by omega)) HN.out
   ·have hm':((s.size:Int) % 4 == 0)=false:=by simp;omega
    go_enter Rw,Rx;go_wp2_with fail
    go_ret;exact ⟨rfl,rfl⟩
theorem aly {l:List (List UInt8)} {p:aH} (h:p.kind=1):vS l p=iG p.k:=by unfold vS;rw [if_pos h]
theorem alz {l:List (List UInt8)} {p:aH} (h:p.kind=6):vS l p=lG (l.getD p.a []) p.k:=by unfold vS;rw [if_neg (by omega),if_pos h]
theorem alA {l:List (List UInt8)} {p:aH} (h:p.kind=7):vS l p=l.getD p.a []:=by unfold vS;rw [if_neg (by omega),if_neg (by omega),if_pos h]
theorem abX {l:List (List UInt8)} {p:aH} (h2:2<=p.kind) (h5:p.kind<=5):vS l p=kY p.kind (l.getD p.a []) (l.getD p.b []):=by unfold vS;rw [if_neg (by omega),if_neg (by omega),if_neg (by omega)]
theorem abY {w:World} {B:Nat} {g cap:Nat} {l:List (List UInt8)} (h:w.ownsRow B 9 1 (.slice (some ⟨g,0,none⟩) 16 cap) 16 (lR l)) (hl:l.length=16) {w2:World} (hb:ak w.heap.size w w2):
 (∀i,i<16->w2.cell? ⟨g,i,none⟩=some (.string (ah (l.getD i []))))∧(∀i,w2.frozen? ⟨g,i,none⟩=false)∧∀d x,(w2.setCell ⟨g,d,none⟩ (.string (ah x))).ownsRow B 9 1 (.slice (some ⟨g,0,none⟩) 16 cap) 16 (lR (l.set d x)):=by
 have h2:=dX h hb;refine ⟨fun i hi=>?_,fun i=>h2.frozenAt i,fun d x=>?_⟩
 ·rw [h2.cellAt i (by omega),TM l i (by omega)]
 ·have:=(h2.stored d (.string (ah x))).1;rw [alr] at this;exact this
theorem alB (B':Nat) (pv:aj) (ps:List aH) (w:World) (hps:w.ownsRow B' 123 5 pv ps.length (dM ps)) (hp:∀p∈ps,iY p∧p.k<4294967296) (hpl:ps.length<=10):
 av au 174 #[pv] w fun e' w'=>ak w.heap.size w w'∧∃v,e'= .returned v∧w'.ownsRow w.heap.size 9 1 v 16 (lR (gI ps)):=by
 obtain ⟨pa,pc,rfl⟩:=bA hps;have Ev:=af hps;have fK:=af hp;have TR:=af (fun k (hk:k<=ps.length)=>wz.fold hp k hk);have xh:=af (abW w);clear hps hp;go_enter Tryz.func174,Tryz.ntmps174;go_wp2_with fail
 refine (aq xh).mono ?_;rintro e w0 ⟨hb0,v0,rfl,ET⟩;obtain ⟨g,cap,rfl,TS,hgl⟩:=ET.form (by decide);have bM:=af hb0;have KU:=af ET;clear hb0 ET xh;go_wp2_with fail
 go_loopw [4] (fun i wr=>∃k:Nat,k<=ps.length∧i= .int .i64 k∧wr.ownsRow w.heap.size 9 1 (.slice (some ⟨g,0,none⟩) 16 cap) 16 (lR ((ps.take k).foldl eu cY))∧ak w.heap.size w wr) (fun i _=>ps.length - (aI i).toNat)
 case atStart=>exact ⟨0,bK _,rfl,KU.out,bM.out⟩
 case round=>
  obtain ⟨k,hk,rfl,hown,hbl⟩:=hrel;have bU:=af hbl;have dY:=hbl.size;have hgr:g<wr.heap.size:=(aR hown g rfl).2;by_cases hlt:k<ps.length
  ·have hlt':(k:Int)<(ps.length:Int):=by omega
   have hpk:ps[k]? =some ps[k]:=bE hlt;have zT:Hid ((ps.take (k+1)).foldl eu cY=((ps.take k).foldl eu cY).set ps[k].d (vS ((ps.take k).foldl eu cY) ps[k])):=wC _ _ _ _ _ hpk;obtain ⟨hok,hkk⟩:=fK.out _ (List.getElem_mem hlt);have hxl:=TR.out k hk;have hbd:=Ze (n:=k) (by omega);obtain ⟨pg,avS,hform,_,avT⟩:=Ev.out.form (by omega);cases hform;obtain ⟨x0,x1,x2,x3,x4⟩:=wP (dX Ev.out hbl) k ps[k] hpk;have ur:=af (fun w2 hb=>abY hown hxl.1 (w2:=w2) hb);have eO:Hid (∀w2,ak wr.heap.size wr w2->(w2.setCell ⟨g,ps[k].d,none⟩ (.string (ah (vS ((ps.take k).foldl eu cY) ps[k])))).ownsRow w.heap.size 9 1 (.slice (some ⟨g,0,none⟩) 16 cap) 16 (lR ((ps.take (k+1)).foldl eu cY))∧ak w.heap.size w (w2.setCell ⟨g,ps[k].d,none⟩ (.string (ah (vS ((ps.take k).foldl eu cY) ps[k]))))):=fun w2 hb=>by
    rw [zT.out];exact ⟨(ur.out w2 hb).2.2 _ _,(bU.out.trans (hb.mono dY)).setCell TS _⟩
   have EJ:=hok.1;have TU:=hok.2.1;have TW:=hok.2.2.1;have hxa:=hxl.at TU;have KV:=hxl.at TW;generalize (ps.take k).foldl eu cY=L at *;generalize ps[k]=p at *;clear hpk hown hbl zT hxl;obtain ⟨pk,pd,pa,pb,pV⟩:=p;obtain ⟨-,-,-,hc⟩:=hok;simp only at x0 x1 x2 x3 x4 EJ TU TW hxa KV hc hkk eO;have aaQ:(pd:Int)<16:=by omega
   have avU:(pa:Int)<16:=by omega
   have avV:(pb:Int)<16:=by omega
   have hb1:∀o,ak wr.heap.size wr (wr.alloc o):=fun o=>(aA _ _).alloc (ax _) _;have aJ:=af hb1;have ca:=((ur.out wr (aA _ _)).1 pa TU);have cb:=((ur.out wr (aA _ _)).1 pb TW);clear hb1;have abZ:∀(w2:World),ak (wr.heap.size+1) (wr.alloc (.cells #[.int .i64 (pk:Int),.int .i64 (pd:Int),.int .i64 (pa:Int),.int .i64 (pb:Int),.int .i64 (pV:Int)] 123)) w2->w2.cell? ⟨wr.heap.size,1,none⟩=some (.int .i64 (pd:Int)):=fun w2 hb=>by
    rw [dZ hb _ _ (by omega),kC (hn:=rfl)];rfl
   have TX:=af abZ;clear abZ;rcases hc with ⟨rfl,rfl,rfl⟩ | ⟨k2,k5,rfl⟩ | ⟨rfl,rfl,Bc⟩ | ⟨rfl,rfl,rfl⟩
   ·rw [aly rfl] at eO;have HN:=af (fun w'=>qu pV 4 w' (by decide) (by omega));have HC:Hid ((⟨#[35]⟩:ByteArray) ++ ah (aS 4 pV)=ah (iG pV)):=by unfold Hid;rw [show (⟨#[35]⟩:ByteArray)=ah [35] from rfl,mC];rfl
    rw [<-HC.out] at eO;have z1:(ah (aS 4 pV)).size<=4:=by rw [bZ,iF];decide
    generalize ah (aS 4 pV)=D1 at *;have Ot:wr.cell? ⟨pg,k * 5,none⟩=some (.int .i64 1):=x0;clear x0 ca cb;go_wp2_with fail
    refine (aq HN _).mono ?_;rintro e w2 ⟨rfl,hb2⟩;have fY:ak wr.heap.size wr w2:=(aJ.out _).trans (hb2.mono (by rw [aB];omega));have y1:=TX.out w2 (by rw [aB] at hb2;exact hb2);obtain ⟨r1,r2,r3⟩:=ur.out w2 fY;have cd:=r1 pd EJ;have fd:=r2 pd;have HE:=af (eO.out w2 fY);clear hb2 fY r1 r2 r3;go_wp2_with fail
    exact ⟨⟨k+1,by omega,by go_num,HE.out.1,HE.out.2⟩,by simp [aI];omega⟩
   ·rw [abX k2 k5] at eO;have HJ:=af (fun w'=>ZZ pk _ _ (wA k) w' k2 k5 hxa KV (by omega));have q1:((pk:Int) == 1)=false:=by simp;omega
    have q6:((pk:Int) == 6)=false:=by simp;omega
    have q7:((pk:Int) == 7)=false:=by simp;omega
    simp only at HJ eO;generalize ah (L.getD pa [])=D1 at *;generalize ah (L.getD pb [])=D2 at *;generalize ah (kY pk (L.getD pa []) (L.getD pb []))=D3 at *;clear hxa KV k2 k5;go_wp2_with fail
    refine qp 12 (by kernel_rfl) (by kernel_rfl) ?_;simp only [j5,jU,j6,iE]
    repeat still_step
    refine jC ?_;go_wp2_with fail
    refine (aq HJ _).mono ?_;rintro e w2 ⟨rfl,hb2⟩;have fY:ak wr.heap.size wr w2:=(aJ.out _).drew.trans (hb2.mono (by show wr.heap.size<=(wr.alloc _).heap.size;rw [aB];omega));have y1:=TX.out w2 (((aA _ _).drew).trans (hb2.mono (by show wr.heap.size+1<=(wr.alloc _).heap.size;rw [aB];omega)));obtain ⟨r1,r2,r3⟩:=ur.out w2 fY;have cd:=r1 pd EJ;have fd:=r2 pd;have HE:=af (eO.out w2 fY);clear hb2 fY r1 r2 r3;go_wp2_with fail
    exact ⟨⟨k+1,by omega,by go_num,HE.out.1,HE.out.2⟩,by simp [aI];omega⟩
   ·rw [alz rfl] at eO;have HJ:=af (fun w'=>Z4 _ pV (wA k) w' Bc hxa (by omega));simp only at HJ eO;generalize ah (L.getD pa [])=D1 at *;generalize ah (lG (L.getD pa []) pV)=D3 at *;have Ot:wr.cell? ⟨pg,k * 5,none⟩=some (.int .i64 6):=x0;clear hxa KV x0 cb;go_wp2_with fail
    refine qp 7 (by kernel_rfl) (by kernel_rfl) ?_;simp only [j5,jU,j6,iE]
    repeat still_step
    refine jC ?_;go_wp2_with fail
    refine (aq HJ _).mono ?_;rintro e w2 ⟨rfl,hb2⟩;have fY:ak wr.heap.size wr w2:=(aJ.out _).drew.trans (hb2.mono (by show wr.heap.size<=(wr.alloc _).heap.size;rw [aB];omega));have y1:=TX.out w2 (((aA _ _).drew).trans (hb2.mono (by show wr.heap.size+1<=(wr.alloc _).heap.size;rw [aB];omega)));obtain ⟨r1,r2,r3⟩:=ur.out w2 fY;have cd:=r1 pd EJ;have fd:=r2 pd;have HE:=af (eO.out w2 fY);clear hb2 fY r1 r2 r3;go_wp2_with fail
    exact ⟨⟨k+1,by omega,by go_num,HE.out.1,HE.out.2⟩,by simp [aI];omega⟩
   ·rw [alA rfl] at eO;simp only at eO;have cd:=(ur.out wr (aA _ _)).1 pd EJ;have fd:=(ur.out wr (aA _ _)).2.1 pd;have avW:g≠wr.heap.size:=by omega
    generalize ah (L.getD pa [])=D1 at *;have Ot:wr.cell? ⟨pg,k * 5,none⟩=some (.int .i64 7):=x0;clear hxa KV x0 cb;have HE:=af (eO.out wr (aA _ _));go_wp2_with fail
    exact ⟨⟨k+1,by omega,by go_num,HE.out.1.alloc _,HE.out.2.alloc (by simp;omega) _⟩,by simp [aI];omega⟩
  ·have hlt':¬(k:Int)<(ps.length:Int):=by omega
   obtain rfl:k=ps.length:=by omega
   rw [List.take_length] at hown;have HO:=af hown;clear hown hbl;go_wp2_with fail
   go_ret;exact ⟨bU.out,_,rfl,HO.out⟩
theorem alC {l:List (List UInt8)} {v:Int} (h:bu v=1):vS l (dI v)=iG (fk v).toNat:=by unfold dI;rw [if_pos h];rfl
theorem alD {l:List (List UInt8)} {v:Int} (h:bu v=6):vS l (dI v)=lG (l.getD (fb v).toNat []) (fk v).toNat:=by unfold dI;rw [if_neg (by omega),if_pos h];rfl
theorem alE {l:List (List UInt8)} {v:Int} (h2:2<=bu v) (h5:bu v<=5):vS l (dI v)=kY (bu v).toNat (l.getD (fb v).toNat []) (l.getD (fc v).toNat []):=by
 unfold dI;rw [if_neg (by omega),if_neg (by omega)];exact abX (by dsimp only;omega) (by dsimp only;omega)
theorem alF (v:Int):(dI v).d=(fa v).toNat:=by unfold dI;split;rfl;split<;>rfl
theorem alG (s:ByteArray) (w:World) (h:gi s):
 av au 173 #[.string s] w fun e' w'=>ak w.heap.size w w'∧∃v,e'= .returned v∧w'.ownsRow w.heap.size 9 1 v 16 (lR (gI (dD s))):=by
 have hs4:=h.1;have alI:=h.2.1;have hm4:=h.2.2.1;have lS:=af h;have hnp:=uS s;have alK:s.size / 4 - 1<=jo s:=by unfold jo;split<;>omega
 have hbl:(dD s).length=jo s:=by simp [dD]
 have TR:=af (fun k (hk:k<=(dD s).length)=>wz.fold (Zb h) k hk);have xh:=af (abW w);have KW:∀k,k<jo s->(dD s)[k]? =some (dI (aX s k:Nat)):=fun k hk=>by
  unfold dD;rw [iX,uN hk];rfl
 have Bn:=af KW;clear KW h;go_enter Tryz.func173,Tryz.ntmps173;go_wp2_with fail
 refine (aq xh).mono ?_;rintro e w0 ⟨hb0,v0,rfl,ET⟩;obtain ⟨g,cap,rfl,TS,hgl⟩:=ET.form (by decide);have bM:=af hb0;have KU:=af ET;clear hb0 ET xh;go_wp2_with fail
 go_loopw [4] (fun i wr=>∃k j:Nat,k<=s.size / 4∧j=4 * k∧i= .int .i64 j∧wr.ownsRow w.heap.size 9 1 (.slice (some ⟨g,0,none⟩) 16 cap) 16 (lR (((dD s).take k).foldl eu cY))∧ak w.heap.size w wr) (fun i _=>s.size - (aI i).toNat)
 case atStart=>exact ⟨0,0,bK _,rfl,rfl,KU.out,bM.out⟩
 case round=>
  obtain ⟨k,j,hk,hj,rfl,hown,Ae⟩:=hrel;have bU:=af Ae;have HJ:=af hj;have dY:=Ae.size;by_cases hlt:k<s.size / 4
  ·have hlt':(j:Int)<(s.size:Int):=by omega
   have hj4:j+4<=s.size:=by omega
   have lQ:=JU s k;have hv:∀w',av au 169 #[.string s,.int .i64 (j:Int),.int .i64 4] w' fun e' w''=>e'= .returned (.int .i64 (aX s k:Nat))∧w''=w':=fun w'=>by
    have:=CG s j 4 w' (by decide) (by omega) (by omega);unfold aX;rw [<-hj];exact this
   have HV:=af hv;have hpl:=fun w'=>GF (aX s k:Nat) w' (by omega) (by omega);by_cases hkp:k<jo s
   ·have hpk:eV (aX s k:Nat)=true:=JV lS.out hkp;have qV:nH (bu (aX s k:Nat)) (fa (aX s k:Nat)) (fb (aX s k:Nat)) (fc (aX s k:Nat))=true:=hpk;rw [qV] at hpl;have gu:=af hpl;obtain ⟨hal,hcs⟩:=RV hpk;have zT:Hid (((dD s).take (k+1)).foldl eu cY=(((dD s).take k).foldl eu cY).set (fa (aX s k:Nat)).toNat (vS (((dD s).take k).foldl eu cY) (dI (aX s k:Nat)))):=by
     unfold Hid;rw [wC _ _ _ _ _ (Bn.out k hkp),<-alF];rfl
    have hxl:=TR.out k (by omega);have hbd:=Ze (n:=k) (by omega);have ur:=af (fun w2 hb=>abY hown hxl.1 (w2:=w2) hb);have o1:=af (fun w'=>uX (aX s k:Nat) w' (by omega) (by omega));have o2:=af (fun w'=>uY (aX s k:Nat) w' (by omega) (by omega));have o3:=af (fun w'=>uZ (aX s k:Nat) w' (by omega) (by omega));have o4:=af (fun w'=>wI (aX s k:Nat) w' (by omega) (by omega));have o5:=af (fun w'=>xT (aX s k:Nat) w' (by omega) (by omega));have eO:Hid (∀w2,ak wr.heap.size wr w2->(w2.setCell ⟨g,(fa (aX s k:Nat)).toNat,none⟩ (.string (ah (vS (((dD s).take k).foldl eu cY) (dI (aX s k:Nat)))))).ownsRow w.heap.size 9 1 (.slice (some ⟨g,0,none⟩) 16 cap) 16 (lR (((dD s).take (k+1)).foldl eu cY))∧ak w.heap.size w (w2.setCell ⟨g,(fa (aX s k:Nat)).toNat,none⟩ (.string (ah (vS (((dD s).take k).foldl eu cY) (dI (aX s k:Nat))))))):=fun w2 hb=>by
     rw [zT.out];exact ⟨(ur.out w2 hb).2.2 _ _,(bU.out.trans (hb.mono dY)).setCell TS _⟩
    have b1:=uQ (aX s k:Nat);have b2:=wj (aX s k:Nat);have b3:=xP (aX s k:Nat);have b4:=wm (aX s k:Nat);have ws:=alC (l:=((dD s).take k).foldl eu cY) (v:=(aX s k:Nat));have wl:=alD (l:=((dD s).take k).foldl eu cY) (v:=(aX s k:Nat));have wo:=alE (l:=((dD s).take k).foldl eu cY) (v:=(aX s k:Nat));clear hv hpl hpk qV zT hown Ae hj;generalize dI (aX s k:Nat)=PW at *;generalize ((dD s).take k).foldl eu cY=L at *;generalize bu (aX s k:Nat)=op at *;obtain ⟨A,hA⟩:=j4 b1.1;obtain ⟨C,hC⟩:=j4 b3.1;obtain ⟨B,hB⟩:=j4 b2.1;obtain ⟨K,hK⟩:=j4 b4.1;rw [hA] at o2 eO b1 hal;rw [hB] at o3 b2 hcs wl wo;rw [hC] at o4 b3 hcs wo;rw [hK] at o5 b4 ws wl;simp only [qM] at eO ws wl wo;generalize aX s k=v at *;clear hA hB hC hK;have hA8:A<8:=by omega
    have avY:(A:Int)<16:=by omega
    have hr0:=ur.out wr (aA _ _);rcases hcs with rfl | ⟨h2,h5,qW,hc8⟩ | ⟨rfl,qW⟩
    ·rw [ws rfl] at eO;have HN:=af (fun w'=>qu K 4 w' (by decide) (by omega));have HC:Hid ((⟨#[35]⟩:ByteArray) ++ ah (aS 4 K)=ah (iG K)):=by unfold Hid;rw [show (⟨#[35]⟩:ByteArray)=ah [35] from rfl,mC];rfl
     rw [<-HC.out] at eO;have z1:(ah (aS 4 K)).size<=4:=by rw [bZ,iF];decide
     generalize ah (aS 4 K)=D1 at *;clear ws wl wo hr0;go_wp2_with fail
     refine (aq HV _).mono ?_;rintro e w' ⟨rfl,hw⟩;obtain rfl:=hw.symm;go_wp2_with fail
     refine (aq gu _).mono ?_;rintro e w' ⟨rfl,hw⟩;obtain rfl:=hw.symm;go_wp2_with fail
     refine (aq o1 _).mono ?_;rintro e w' ⟨rfl,hw⟩;obtain rfl:=hw.symm;go_wp2_with fail
     refine (aq o2 _).mono ?_;rintro e w' ⟨rfl,hw⟩;obtain rfl:=hw.symm;go_wp2_with fail
     refine (aq o3 _).mono ?_;rintro e w' ⟨rfl,hw⟩;obtain rfl:=hw.symm;go_wp2_with fail
     refine (aq o4 _).mono ?_;rintro e w' ⟨rfl,hw⟩;obtain rfl:=hw.symm;go_wp2_with fail
     refine (aq o5 _).mono ?_;rintro e w' ⟨rfl,hw⟩;obtain rfl:=hw.symm;go_wp2_with fail
     refine (aq HN _).mono ?_;rintro e w2 ⟨rfl,hb2⟩;obtain ⟨r1,r2,r3⟩:=ur.out w2 hb2;have cd:=r1 A (by omega);have fd:=r2 A;have HE:=af (eO.out w2 hb2);clear hb2 r1 r2 r3;go_wp2_with fail
     exact ⟨⟨k+1,j+4,by omega,by have:=HJ.out;omega,by go_num,HE.out.1,HE.out.2⟩,by simp [aI];omega⟩
    ·obtain ⟨O,hO⟩:=j4 (show 0<=op by omega);rw [hO] at o1 h2 h5 wo;rw [wo (by omega) (by omega)] at eO;simp only [qM] at eO;have TY:=af (fun w'=>ZZ O (L.getD B []) (L.getD C []) (wA k) w' (by omega) (by omega) (hxl.at (by omega)) (hxl.at (by omega)) (by omega));have q1:((O:Int) == 1)=false:=by simp;omega
     have q6:((O:Int) == 6)=false:=by simp;omega
     have cb:=hr0.1 B (by omega);have cc:=hr0.1 C (by omega);have alM:(B:Int)<16:=by omega
     have avZ:(C:Int)<16:=by omega
     generalize ah (kY O (L.getD B []) (L.getD C []))=D3 at *;generalize ah (L.getD B [])=D1 at *;generalize ah (L.getD C [])=D2 at *;clear ws wl wo hr0 hO hxl;go_wp2_with fail
     refine (aq HV _).mono ?_;rintro e w' ⟨rfl,hw⟩;obtain rfl:=hw.symm;go_wp2_with fail
     refine (aq gu _).mono ?_;rintro e w' ⟨rfl,hw⟩;obtain rfl:=hw.symm;go_wp2_with fail
     refine (aq o1 _).mono ?_;rintro e w' ⟨rfl,hw⟩;obtain rfl:=hw.symm;go_wp2_with fail
     refine (aq o2 _).mono ?_;rintro e w' ⟨rfl,hw⟩;obtain rfl:=hw.symm;go_wp2_with fail
     refine (aq o3 _).mono ?_;rintro e w' ⟨rfl,hw⟩;obtain rfl:=hw.symm;go_wp2_with fail
     refine (aq o4 _).mono ?_;rintro e w' ⟨rfl,hw⟩;obtain rfl:=hw.symm;go_wp2_with fail
     refine (aq o5 _).mono ?_;rintro e w' ⟨rfl,hw⟩;obtain rfl:=hw.symm;go_wp2_with fail
     refine qp 9 (by kernel_rfl) (by kernel_rfl) ?_;simp only [j5,jU,j6,iE]
     repeat still_step
     refine jC ?_;go_wp2_with fail
     refine (aq TY _).mono ?_;rintro e w2 ⟨rfl,hb2⟩;have fY:ak wr.heap.size wr w2:=((aA _ _).drew).trans hb2;obtain ⟨r1,r2,r3⟩:=ur.out w2 fY;have cd:=r1 A (by omega);have fd:=r2 A;have HE:=af (eO.out w2 fY);clear hb2 fY r1 r2 r3;go_wp2_with fail
     exact ⟨⟨k+1,j+4,by omega,by have:=HJ.out;omega,by go_num,HE.out.1,HE.out.2⟩,by simp [aI];omega⟩
    ·rw [wl rfl] at eO;have TY:=af (fun w'=>Z4 (L.getD B []) K (wA k) w' (by omega) (hxl.at (by omega)) (by omega));have cb:=hr0.1 B (by omega);have alM:(B:Int)<16:=by omega
     generalize ah (lG (L.getD B []) K)=D3 at *;generalize ah (L.getD B [])=D1 at *;clear ws wl wo hr0 hxl;go_wp2_with fail
     refine (aq HV _).mono ?_;rintro e w' ⟨rfl,hw⟩;obtain rfl:=hw.symm;go_wp2_with fail
     refine (aq gu _).mono ?_;rintro e w' ⟨rfl,hw⟩;obtain rfl:=hw.symm;go_wp2_with fail
     refine (aq o1 _).mono ?_;rintro e w' ⟨rfl,hw⟩;obtain rfl:=hw.symm;go_wp2_with fail
     refine (aq o2 _).mono ?_;rintro e w' ⟨rfl,hw⟩;obtain rfl:=hw.symm;go_wp2_with fail
     refine (aq o3 _).mono ?_;rintro e w' ⟨rfl,hw⟩;obtain rfl:=hw.symm;go_wp2_with fail
     refine (aq o4 _).mono ?_;rintro e w' ⟨rfl,hw⟩;obtain rfl:=hw.symm;go_wp2_with fail
     refine (aq o5 _).mono ?_;rintro e w' ⟨rfl,hw⟩;obtain rfl:=hw.symm;go_wp2_with fail
     refine (aq TY _).mono ?_;rintro e w2 ⟨rfl,hb2⟩;obtain ⟨r1,r2,r3⟩:=ur.out w2 hb2;have cd:=r1 A (by omega);have fd:=r2 A;have HE:=af (eO.out w2 hb2);clear hb2 r1 r2 r3;go_wp2_with fail
     exact ⟨⟨k+1,j+4,by omega,by have:=HJ.out;omega,by go_num,HE.out.1,HE.out.2⟩,by simp [aI];omega⟩
   ·have hpk:eV (aX s k:Nat)=false:=by
     have:k=s.size / 4 - 1:=by omega
     have hn:¬eV (aX s (s.size / 4 - 1):Nat)=true:=fun hq=>by
      unfold jo at hkp;rw [if_pos hq] at hkp;omega
     rw [this];simpa using hn
    have qV:nH (bu (aX s k:Nat)) (fa (aX s k:Nat)) (fb (aX s k:Nat)) (fc (aX s k:Nat))=false:=hpk;rw [qV] at hpl;have gu:=af hpl;have CQ:Hid (wr.ownsRow w.heap.size 9 1 (.slice (some ⟨g,0,none⟩) 16 cap) 16 (lR (((dD s).take (k+1)).foldl eu cY))):=by
     rw [mO (by omega)] at hown;unfold Hid;rw [mO (by omega)];exact hown
    clear hv hpl hpk qV hown Ae hj;generalize aX s k=v at *;go_wp2_with fail
    refine (aq HV _).mono ?_;rintro e w' ⟨rfl,hw⟩;obtain rfl:=hw.symm;go_wp2_with fail
    refine (aq gu _).mono ?_;rintro e w' ⟨rfl,hw⟩;obtain rfl:=hw.symm;go_wp2_with fail
    exact ⟨⟨k+1,j+4,by omega,by have:=HJ.out;omega,by go_num,CQ.out,bU.out⟩,by simp [aI];omega⟩
  ·have hlt':¬(j:Int)<(s.size:Int):=by omega
   rw [mO (by omega)] at hown;have HO:=af hown;clear hown Ae hj;go_wp2_with fail
   go_ret;exact ⟨bU.out,_,rfl,HO.out⟩
end
section
open Go.RowKit Go.Maps Go.WideMaps
theorem ab0 {P:Program} (d:Nat) {e:TypeId} (he:P.underlying e=some (.int .i64)) (x y:List Int) (w:World):∀(is:List Nat),(∀i∈is,i<x.length∧i<y.length)->
 (Nw (d+1) e 1 (S x) (S y) is).run P w= .ok (is.all fun i=>gz x i == gz y i) w
 | [],_=>by simp [Nw]
 | i :: is,h=>by
   obtain ⟨h1,h2⟩:=h i (by simp);have px:(part e (S x) (i * 1)).run P w= .ok (.int .i64 (gz x i)) w:=by
    rw [Nv];simp [part,isAgg,Ro he,gP x i h1]
   have py:(part e (S y) (i * 1)).run P w= .ok (.int .i64 (gz y i)) w:=by
    rw [Nv];simp [part,isAgg,Ro he,gP y i h2]
   have pe:(Op.equalIn (d+1) e (.int .i64 (gz x i)) (.int .i64 (gz y i))).run P w= .ok (gz x i == gz y i) w:=run_equalIn_int w d e .i64 .i64 _ _ he;simp only [Nw,Sem.run_bind,px,py,pe,DI,List.all_cons];cases hq:(gz x i == gz y i)
   ·simp
   ·simpa using ab0 d he x y w is (fun j hj=>h j (by simp [hj]))
theorem alN:Tryz.prog.cellsOf 3=1:=by kernel_rfl
theorem alO:∃i,Tryz.prog.info? 3=some i:=by
 cases h:Tryz.prog.info? 3 with
 | none=>exact absurd (show (Tryz.prog.info? 3).isSome=true by kernel_rfl) (by rw [h];decide)
 | some i=>exact ⟨i,rfl⟩
theorem all_eq {x y:List Int} {n:Nat} (hx:x.length=n) (hy:y.length=n):((List.range n).all fun i=>gz x i == gz y i)=decide (x=y):=by
 rw [Bool.eq_iff_iff,List.all_eq_true,decide_eq_true_eq];constructor
 ·intro h;apply List.ext_getElem?;intro i;by_cases hi:i<n
  ·have:=h i (mL.2 hi);rw [beq_iff_eq] at this;unfold gz at this;rw [bP,bP,bE (by omega),bE (by omega)] at this;rw [bE (by omega),bE (by omega)];simpa using this
  ·rw [lE (by omega),lE (by omega)]
 ·rintro rfl i _;exact beq_self_eq_true _
theorem eq8 (x y:List Int) (hx:x.length=8) (hy:y.length=8) (w:World):(binOp .eql 25 (.agg (S x)) (.agg (S y))).run au w= .ok (.bool (decide (x=y))) w:=by
 obtain ⟨i,hi⟩:=alO;rw [run_eql_struct,run_equalIn_array w 9999 (S x) (S y) Tryz.underlying25 hi,alN,ab0 9998 Tryz.underlying3 x y w _ (fun j hj=>by have:=mL.1 hj;omega),all_eq hx hy];rfl
def tD (s p:ByteArray) (n:Int):Prop:=
 (¬gi s∧n=10)∨(gi s∧¬oP p∧n=11)∨(gi s∧oP p∧(gI (dD s)).take 8=(gI (dO p (p.size / 8))).take 8∧n=0)∨(gi s∧oP p∧¬(gI (dD s)).take 8=(gI (dO p (p.size / 8))).take 8∧n=12)
theorem tD.one {s p:ByteArray} {n m:Int} (h:tD s p n) (k:tD s p m):n=m:=by
 unfold tD at h k;rcases h with ⟨h1,h2⟩ | ⟨h1,h2,h3⟩ | ⟨h1,h2,h3,h4⟩ | ⟨h1,h2,h3,h4⟩<;>rcases k with ⟨k1,k2⟩ | ⟨k1,k2,k3⟩ | ⟨k1,k2,k3,k4⟩ | ⟨k1,k2,k3,k4⟩
 all_goals first | exact absurd h1 k1 | exact absurd k1 h1 | exact absurd h2 k2 | exact absurd k2 h2 | exact absurd h3 k3 | exact absurd k3 h3 | omega
theorem T4 {s:ByteArray} (h:gi s):iw (dV s (s.size / 4))=jo s:=by
 have h4:=h.1;unfold iw jo;rw [qx,aap s (by omega)];cases hq:eV (aX s (s.size / 4 - 1))
 ·rw [if_pos ⟨by omega,rfl⟩,if_neg (by decide)]
 ·rw [if_neg (fun h=>by cases h.2),if_pos rfl]
theorem ab1 (s:ByteArray) {k n:Nat} (h:n<=k):(dV s k).take n=dV s n:=by
 unfold dV;rw [<-List.map_take,List.take_range,Nat.min_eq_left h]
theorem ab2 (s:ByteArray):zW (dV s (jo s))=dD s:=by
 unfold zW dV dD;rw [List.map_map];rfl
theorem alQ (W:World):fT W.heap.size (W.heap.size+1) [] W.heap.size (.slice none 0 0) ((W.alloc (.map #[] 0)).alloc (.cells #[.map (some W.heap.size),.slice none 0 0] 270)):=by
 refine ⟨?_,?_,fun i=>?_,by omega,ax _,(fun g hg=>by cases hg),j7 _ _ _ _,.map [],(World.ownsMap_made W _ _ _).alloc _,fun e _=>⟨⟨fun h=>(by cases h),fun h=>(by cases h)⟩,fun n hn=>(by simp at hn)⟩⟩
 ·rw [kC (hn:=by rw [aB])];rfl
 ·rw [kC (hn:=by rw [aB])];rfl
 ·rw [World.frozen?_alloc_at (hn:=by rw [aB])]
theorem alR (w:World):(Instr.makeMap 267 none).run au w= .ok (.map (some w.heap.size)) (w.alloc (.map #[] 0)):=by kernel_rfl
theorem alS {a b:List Nat}:nI a=nI b↔a=b:=by
 unfold nI;constructor
 ·intro h;exact List.map_inj_right (fun x y h=>by omega) |>.1 h
 ·rintro rfl;rfl
theorem T5 {w:World} {B:Nat} {v:aj} {n m:Nat} {xs:List aj} {e:TypeId} {k:Nat} (h:w.ownsRow B e k v n xs) (hn:n=m):w.ownsRow B e k v m xs:=hn▸h
theorem alT (s p:ByteArray) (w:World) (ht:bF w) (hs:s.size<=cP) (hp:p.size<=cP):
 av au 171 #[.string s,.string p] w fun e' w'=>ak w.heap.size w w'∧∃n,e'= .returned (.int .i64 n)∧tD s p n:=by
 have z9:=Ey;have j9:=af (Ow s w ht hs);have jt:=af (fun w'=>ZY p w' hp);have pW:=af ht;have hpos:=ht.pos;clear ht;go_enter Tryz.func171,Tryz.ntmps171;go_wp2_with fail
 refine (aq j9).mono ?_;rintro e w1 ⟨hb1,⟨hok,rfl⟩ | ⟨hno,rfl⟩⟩
 ·have aJ:=af hb1;have fK:=af hok;have hz1:=hb1.size;have h8:s.size / 4<=8:=by have:=hok.2.1;omega
  have hzl:=nT (ws:=dV s (s.size / 4)) (by rw [qx];exact h8);clear hb1 hok j9;go_wp2_with (refine pU iT rfl _ _ rfl w1.heap.size rfl (aD (dV s (s.size / 4))) rfl hzl (by rw [kV _ _ _ _ _ rfl];rfl) _ (sQ _ _ _ _ _ rfl) ?_)
  refine (aq jt _).mono ?_;rintro e w2 ⟨hb2,⟨hpk,pv,rfl,vp⟩ | ⟨zY,rfl⟩⟩
  ·have l5:=af (aK.keep (w':=w2) (show aK (w1.alloc (.cells (S (aD (dV s (s.size / 4)))) 187)) w1.heap.size 187 (aD (dV s (s.size / 4))) from bg w1 _) (hb2.block _ (by rw [aB];omega)));have aZ:Hid (ak w.heap.size w w2):=(aJ.out.alloc hz1 _).trans (hb2.mono (by rw [aB];omega));have hz2:w1.heap.size<w2.heap.size:=l5.out.lt;have fj:=af hpk;have pY:=af vp;have Hq:=af (fun w'=>SI (dV s (s.size / 4)) w');clear hb2 hpk vp jt;obtain ⟨W3,eY⟩:∃W3,W3=((w2.alloc (.map #[] 0)).alloc (.cells #[.map (some w2.heap.size),.slice none 0 0] 270)):=⟨_,rfl⟩;have HW:=af eY;have Bu:ak w2.heap.size w2 W3:=by rw [eY];exact ((aA _ _).alloc (ax _) _).alloc (by rw [aB];omega) _
   have h3z:W3.heap.size=w2.heap.size+1+1:=by rw [eY,aB,aB]
   have H3T:Hid (fT w2.heap.size (w2.heap.size+1) [] w2.heap.size (.slice none 0 0) W3):=by unfold Hid;rw [eY];exact alQ w2
   have T6:=af Bu;have r3:=l5.out.keep (Bu.block _ hz2);have rI:=r3.isRow 9 hzl;have rD:=r3.bW;have gu:=af (SI (dV s (s.size / 4)) W3 (pW.out.below hpos (aZ.out.trans (Bu.mono (aT hz1 (iP hz2))))) (by rw [qx];exact h8) (G8 s _));have mk:=alR w2;clear eY Bu r3 Hq;go_wp2_with (refine s7 rfl Tryz.underlying187 iT rfl _ rfl w1.heap.size rfl (by rw [<-HW.out];exact rI) (S (aD (dV s (s.size / 4)))) (by rw [<-HW.out];exact rD) ?_)
   rw [<-HW.out];refine (aq gu).mono ?_;rintro e w4 ⟨fZ,fv,rfl,hfo⟩;rw [T4 fK.out,ab1 s (uS s)] at hfo;have Bk:=af (aau _ fv (dV s (jo s)) w4 (T5 hfo (qx s _).symm) (by rw [qx];exact aT (uS s) h8));have mU:=af fZ;have uh:=fZ.size;clear fZ hfo gu rI rD;go_wp2_with fail
   refine (aq Bk).mono ?_;rintro e w5 ⟨fD,T7,rfl,C5⟩;rw [ab2,qx,<-Eb] at C5;have xj:=fD.size;have H35:Hid (ak W3.heap.size W3 w5):=mU.out.trans (fD.mono uh);have G5:=af (aal w2.heap.size _ (w2.heap.size+1) [] [] w2.heap.size (.slice none 0 0) T7 (dD s) w5 (H3T.out.above H35.out) TI.nil C5 (Zb fK.out) (by rw [Eb];have:=uS s;omega) (by simp) (fun g hg=>by have:=(aR C5 g hg).1;omega));clear fD C5 Bk;go_wp2_with fail
   refine (aq G5).mono ?_;rintro e w6 ⟨T1,ds1,v1,EE,rfl,c1,c2,c3,c4,c5,c6⟩;have H25:Hid (ak w2.heap.size w2 w6):=(T6.out.trans (H35.out.mono (by omega))).trans c5.below;have ab6:w6.ownsRow (w1.alloc (.cells (S (aD (dV s (s.size / 4)))) 187)).heap.size 123 5 pv (dO p (p.size / 8)).length (dM (dO p (p.size / 8))):=T5 (dX pY.out H25.out) (GA p _).symm;have ab7:=af (aal w2.heap.size _ (w2.heap.size+1) T1 ds1 w2.heap.size v1 pv (dO p (p.size / 8)) w6 c1 c2 ab6 (GB fj.out) (by rw [GA];have:=fj.out.2.1;omega) (by simp at c6;omega) (fun g hg=>by have:=(aR pY.out g hg).2;omega));have si:=af c4;have jX:=af c2;have hl1:=c4.n16;clear c1 c2 c3 c4 c5 c6 ab6 G5;go_wp2_with fail
   refine (aq ab7).mono ?_;rintro e w7 ⟨T2,lH,v2,ED,rfl,q1,q2,q3,q4,q5,q6⟩;have Po:Hid (ak w.heap.size w w7):=aZ.out.trans ((H25.out.trans q5.below).mono (aT hz1 (iP hz2)));have mG:Hid (nI (EE.take 8)=nI (ED.take 8)↔(gI (dD s)).take 8=(gI (dO p (p.size / 8))).take 8):=by
    unfold Hid;rw [alS];exact sS.same q2 (si.out.more jX.out.len q3) q4
   have hl2:=q4.n16;have heq:=eq8 (nI (EE.take 8)) (nI (ED.take 8)) (by rw [nS,ny];omega) (by rw [nS,ny];omega);clear q1 q2 q3 q4 q5 q6 ab7 si;by_cases hsame:nI (EE.take 8)=nI (ED.take 8)
   ·rw [decide_eq_true hsame] at heq;have HY:=af (mG.out.1 hsame);clear hsame mG;go_wp2_with fail
    go_ret;exact ⟨Po.out,_,rfl,.inr (.inr (.inl ⟨fK.out,fj.out,HY.out,rfl⟩))⟩
   ·rw [decide_eq_false hsame] at heq;have HY:Hid (¬(gI (dD s)).take 8=(gI (dO p (p.size / 8))).take 8):=fun h=>hsame (mG.out.2 h);clear hsame mG;go_wp2_with fail
    go_ret;exact ⟨Po.out,_,rfl,.inr (.inr (.inr ⟨fK.out,fj.out,HY.out,rfl⟩))⟩
  ·have aZ:Hid (ak w.heap.size w w2):=(aJ.out.alloc hz1 _).trans (hb2.mono (by rw [aB];omega));have HN:=af zY;clear hb2 zY;go_wp2_with fail
   go_ret;exact ⟨aZ.out,_,rfl,.inr (.inl ⟨fK.out,HN.out,rfl⟩)⟩
 ·have aJ:=af hb1;have fo:=af hno;have hz1:=hb1.size;clear hb1 hno j9;go_wp2_with (refine pU iT rfl _ _ rfl w1.heap.size rfl (aD []) rfl rfl (by rw [kV _ _ _ _ _ rfl];rfl) _ (sQ _ _ _ _ _ rfl) ?_)
  go_ret;exact ⟨aJ.out.alloc hz1 _,_,rfl,.inl ⟨fo.out,rfl⟩⟩
end
end Go.Proofs.YtmmflekajbeamaaGreatDoor
