/- Texts of ours, joined, in few bytes. -/
import Derived.Test.YtmmflekajbeamaaGreatDoorE04
import Derived.DeepKeys4
open ByteArray renaming size_extract->rP
open Go renaming Calls->av,DataW->nC,Value->aj,block_lt_of_cell->mA,heap_alloc_new->bg,maxLen->cP,plainElem->Gl,plainElem_int->DY,wpStill_nil->jC
open Go.Instr renaming lookup->JB
open Go.Lit renaming int->DW
open Go.Maps renaming has->AL
open Go.Program renaming keyLits->XU
open Go.Proofs.Tryz renaming prog->au,underlying3->pO,underlying322->XT
open Go.RowKit renaming Below->ak,intOf->aI
open Go.RowKit.Below renaming heap_alloc->cM,refl->aA
open Go.Value renaming slice->mQ
open Go.WalkArith renaming wf_i64->Gm
open Go.World renaming cell?->cU,cell?_alloc_at->kC,cell?_of_block->aP,frozen?_of_block->fS,news_of_block->mP
open List renaming drop_succ_cons->j6,drop_zero->iE,getElem?_append_left->jN,getElem?_eq_some_iff->fG,length_append->dK,length_singleton->DX,take_succ_cons->j5,take_zero->jU
open Nat renaming le_of_lt->iP,le_refl->ax,le_trans->aT,lt_of_lt_of_le->dB,zero_le->bK,zero_lt_succ->Jt
open Option renaming map_some->AO
open Option.some renaming inj->oN,injEq->Ci
open Prod.mk renaming injEq->vU
open UInt8 renaming ofNat->iC
namespace Go.Proofs.YtmmflekajbeamaaGreatDoor
set_option maxRecDepth 100000
set_option maxHeartbeats 2000000
section
open Go.RowKit
def dM (l:List aH):List aj:=l.flatMap fun p=>(eM p).toList
theorem En (l:List aH) (p:aH):dM (l ++ [p])=dM l ++ (eM p).toList:=by simp [dM]
theorem G0:∃i,Tryz.prog.info? 123=some i∧i.zero=some (.agg #[.int .i64 0,.int .i64 0,.int .i64 0,.int .i64 0,.int .i64 0])∧i.size=5∧i.bytes=40:=by
 have h:(Tryz.prog.info? 123).map (fun i=>(i.zero,i.size,i.bytes))=some (some (.agg #[.int .i64 0,.int .i64 0,.int .i64 0,.int .i64 0,.int .i64 0]),5,40):=by kernel_rfl
 cases hq:Tryz.prog.info? 123 with
 | none=>rw [hq] at h;cases h
 | some i=>
   rw [hq] at h;simp only [AO,Ci,vU] at h;exact ⟨i,rfl,h.1,h.2.1,h.2.2⟩
theorem air (s:ByteArray) (i:Nat) (hi:i+8<=s.size):putAt (s.extract i (i+8)) 0=putAt s i:=by
 have e:∀j,j<8->bt (s.extract i (i+8)) j=bt s (i+j):=fun j hj=>ZR s i 8 j hi hj;have e4:=Og s i 8 4 hi 4 (by decide);have h0:=e 0 (by decide);have h1:=e 1 (by decide);have h2:=e 2 (by decide);have h3:=e 3 (by decide);unfold bt at h0 h1 h2 h3;unfold putAt;simp only [Nat.zero_add,Nat.add_zero] at *;rw [h0,h1,h2,h3,e4]
def ZX (s:ByteArray) (w:World) (e':Ending) (w':World):Prop:=
 ak w.heap.size w w'∧((oP s∧∃v,e'= .returned (.tuple #[v,.int .i64 0])∧w'.ownsRow w.heap.size 123 5 v (s.size / 8) (dM (dO s (s.size / 8))))∨(¬oP s∧e'= .returned (.tuple #[.slice none 0 0,.int .i64 11])))
theorem ZY (s:ByteArray) (w:World) (hs:s.size<=cP):
 av au 168 #[.string s] w (ZX s w):=by
 obtain ⟨inf,cJ,hz,cW,hby⟩:=G0;have gJ:=af cJ;have HZ:=af hz;have dR:=af cW;have gK:=af hby;clear cJ hz cW hby;unfold cP at hs;by_cases h8:s.size % 8=0
 ·have h8':(s.size:Int) % 8=0:=by omega
  by_cases Kg:s.size<=80
  ·have Sr:decide ((80:Int)<(s.size:Int))=false:=by simp;omega
   go_enter Tryz.func168,Tryz.ntmps168;go_wp2_with fail
   go_loopw [4,5] (fun v i wr=>∃k j:Nat,8 * k<=s.size∧j=8 * k∧i= .int .i64 j∧wr.ownsRow w.heap.size 123 5 v k (dM (dO s k))∧ak w.heap.size w wr∧Hid (∀q,q<k->iY (putAt s (8 * q)))) (fun _ i _=>s.size - (aI i).toNat)
   case atStart=>exact ⟨0,0,bK _,rfl,rfl,World.ownsRow_nil _ _ _ _,aA _ _,fun q hq=>by omega⟩
   case round=>
    obtain ⟨k,j,hk,hj,rfl,hown,hbl,HG⟩:=hrel;obtain ⟨va,vc,hv⟩:=bA hown;subst hv;have HO:=af hown;have bU:=af hbl;have HJ:=af hj;have dY:=hbl.size;by_cases hlt:j<s.size
    ·have hlt':(j:Int)<(s.size:Int):=by omega
     have Ok:j+8<=s.size:=by omega
     have avs:(j:Int)+8<=(s.size:Int):=by omega
     have hkk:k<=10:=by omega
     have hr:=fun w'=>aip (s.extract j (j+8)) w' (by rw [rP];omega);rw [air s j Ok] at hr;have hi:=fun w'=>aiq (putAt s j).kind (putAt s j).d (putAt s j).a (putAt s j).b (putAt s j).k w';rw [ZU] at hi;simp only [eM] at hr;have HR:=af hr;clear hr hown hbl hj h8 h8' hk;by_cases hok:iY (putAt s j)
     ·rw [@decide_eq_true _ (okDec _) hok] at hi;have HI:=af hi;clear hi;go_wp2_with fail
      refine (aq HR _).mono ?_;rintro e w1 ⟨rfl,hb1⟩;have aJ:=af hb1;have hz1:=hb1.size;clear hb1;go_wp2_with fail
      refine (aq HI _).mono ?_;rintro e w2 ⟨rfl,hb2⟩;have aZ:=af hb2;have hz2:=hb2.size;rw [aB] at hz2;have x0:w2.cell? ⟨w1.heap.size,0,none⟩=some (.int .i64 (putAt s j).kind):=by rw [dZ hb2 _ _ (by rw [aB];omega),kC (hn:=rfl)];rfl
      have x1:w2.cell? ⟨w1.heap.size,1,none⟩=some (.int .i64 (putAt s j).d):=by rw [dZ hb2 _ _ (by rw [aB];omega),kC (hn:=rfl)];rfl
      have x2:w2.cell? ⟨w1.heap.size,2,none⟩=some (.int .i64 (putAt s j).a):=by rw [dZ hb2 _ _ (by rw [aB];omega),kC (hn:=rfl)];rfl
      have x3:w2.cell? ⟨w1.heap.size,3,none⟩=some (.int .i64 (putAt s j).b):=by rw [dZ hb2 _ _ (by rw [aB];omega),kC (hn:=rfl)];rfl
      have x4:w2.cell? ⟨w1.heap.size,4,none⟩=some (.int .i64 (putAt s j).k):=by rw [dZ hb2 _ _ (by rw [aB];omega),kC (hn:=rfl)];rfl
      clear hb2;have nN:=af (dX (dX HO.out aJ.out) (((aA _ _).alloc (ax _) _).trans (aZ.out.mono (by rw [aB];omega))));have vg:Hid (ak w.heap.size w w2):=((bU.out.trans (aJ.out.mono dY)).alloc (by omega) _).trans (aZ.out.mono (by rw [aB];omega));have HS:Hid (dM (dO s (k+1))=dM (dO s k) ++ [.int .i64 (putAt s j).kind,.int .i64 (putAt s j).d,.int .i64 (putAt s j).a,.int .i64 (putAt s j).b,.int .i64 (putAt s j).k]):=by
       unfold Hid;rw [Za,En,<-HJ.out];rfl
      have HK:Hid (∀q,q<k+1->iY (putAt s (8 * q))):=fun q hq=>by
       by_cases hqk:q=k
       ·subst hqk;rw [<-HJ.out];exact hok
       ·exact HG.out q (by omega)
      clear HR HI;generalize putAt s j=p at *;go_wp2_with (at_builtin;refine wpList_append_lies _ rfl _ _ 125 rfl w.heap.size 123 inf _ 5 40 Tryz.underlying125 gJ.out HZ.out dR.out gK.out rfl (by decide) (.slice va k vc) k (dM (dO s k)) rfl (nN.out.alloc _) ⟨w2.heap.size,0,none⟩ 1 1 [.int .i64 p.kind,.int .i64 p.d,.int .i64 p.a,.int .i64 p.b,.int .i64 p.k] rfl rfl (mP (bg w2 _)) (fun u hu=>by simp at hu;rcases hu with rfl | rfl | rfl | rfl | rfl<;>rfl) (by decide) (by unfold cP;omega) (by omega) (by rw [aB];omega) (w2.heap.size+1) (by rw [aB]) ?_;intro wL cap2 w3 jQ js nO sY;have iR:=af jQ;have j8:=af js;clear jQ js nO)
      refine ⟨⟨k+1,j+8,by have:=HJ.out;omega,by have:=HJ.out;omega,by go_num,?_,?_,HK⟩,by simp [aI];omega⟩
      ·rw [HS.out];exact iR.out
      ·exact (vg.out.alloc (by omega) _).grown j8.out (by rw [aB];omega) (fun q hq=>(aR nN.out q hq).1)
     ·rw [@decide_eq_false _ (okDec _) hok] at hi;have HI:=af hi;have HN:Hid (¬oP s):=fun h=>hok (by have:=h.2.2 k (by have:=HJ.out;omega);rw [<-HJ.out] at this;exact this);clear hi hok;go_wp2_with fail
      refine (aq HR _).mono ?_;rintro e w1 ⟨rfl,hb1⟩;have aJ:=af hb1;have hz1:=hb1.size;clear hb1;go_wp2_with fail
      refine (aq HI _).mono ?_;rintro e w2 ⟨rfl,hb2⟩;have aZ:=af hb2;clear hb2;go_wp2_with fail
      go_ret2
      exact ⟨((bU.out.trans (aJ.out.mono dY)).alloc (by omega) _).trans (aZ.out.mono (by rw [aB];omega)),.inr ⟨HN.out,rfl⟩⟩
    ·have hlt':¬(j:Int)<(s.size:Int):=by omega
     have hkn:k=s.size / 8:=by omega
     have CI:Hid (oP s):=⟨h8,Kg,fun q hq=>HG.out q (by omega)⟩;clear hown hbl hj hk;go_wp2_with fail
     go_ret2
     rw [hkn] at HO;exact ⟨bU.out,.inl ⟨CI.out,_,rfl,HO.out⟩⟩
  ·have Sr:(80:Int)<(s.size:Int):=by omega
   have HN:Hid (¬oP s):=fun h=>Kg h.2.1;go_enter Tryz.func168,Tryz.ntmps168;go_wp2_with fail
   go_ret2
   exact ⟨aA _ _,.inr ⟨HN.out,rfl⟩⟩
 ·have h8':((s.size:Int) % 8 == 0)=false:=by simp;omega
  have HN:Hid (¬oP s):=fun h=>h8 h.1;go_enter Tryz.func168,Tryz.ntmps168;go_wp2_with fail
  go_ret2
  exact ⟨aA _ _,.inr ⟨HN.out,rfl⟩⟩
theorem ais (w:World) (q:Nat):(convert 136 9 (.slice (some ⟨w.heap.size,0,none⟩) 1 1)).run au (w.alloc (.cells #[.int .u8 ((q:Int) % 256)] 5))= .ok (.string (ah [iC (q % 256)])) (w.alloc (.cells #[.int .u8 ((q:Int) % 256)] 5)):=by
 refine run_convert_bytes_back _ _ _ 5 ⟨w.heap.size,0,none⟩ 1 [iC (q % 256)] Tryz.underlying136 Tryz.underlying5 Tryz.underlying9 (fun j hj=>?_)
 match j,hj with
 | 0,_=>
   show (w.alloc _).cell? ⟨w.heap.size,0,none⟩=some (.int .u8 ((iC (q % 256)).toNat:Int))
   rw [kC (hn:=rfl),UInt8.toNat_ofNat',Nat.mod_mod];simp
theorem ait (k v:Nat):ah [iC (v / 256 ^ k % 256)] ++ ah (aS k v)=ah (aS (k+1) v):=by rw [mC];rfl
theorem qu (v n:Nat) (w:World) (hn:n<=8) (hv:v<9223372036854775808):
 av au 137 #[.int .i64 (v:Int),.int .i64 (n:Int)] w fun e' w'=>e'= .returned (.string (ah (aS n v)))∧ak w.heap.size w w':=by
 go_enter Tryz.func137,Tryz.ntmps137;go_wp2_with fail
 go_loopw [0,5,6] (fun x s i wr=>∃k:Nat,k<=n∧i= .int .i64 k∧s= .string (ah (aS k v))∧x= .int .i64 ((v / 256 ^ k:Nat):Int)∧ak w.heap.size w wr) (fun _ _ i _=>n - (aI i).toNat)
 case atStart=>exact ⟨0,bK _,rfl,rfl,by simp,aA _ _⟩
 case round=>
  obtain ⟨k,hk,rfl,rfl,rfl,hbl⟩:=hrel;have bU:=af hbl;have dY:=hbl.size;by_cases hlt:k<n
  ·have hlt':(k:Int)<(n:Int):=by omega
   have hq:v / 256 ^ k<9223372036854775808:=Nat.lt_of_le_of_lt (Nat.div_le_self _ _) hv;have HE:=af (ait k v);have HQ:Hid (v / 256 ^ (k+1)=v / 256 ^ k / 256):=by unfold Hid;rw [Nat.pow_succ,Nat.div_div_eq_div_mul]
   have kc:=ais wr (v / 256 ^ k);have z1:(ah (aS k v)).size<=8:=by rw [bZ,iF];omega
   have z2:(ah [iC (v / 256 ^ k % 256)]).size<=8:=by rw [bZ];exact Nat.le_of_ble_eq_true rfl
   generalize ah (aS k v)=D1 at *;generalize ah [iC (v / 256 ^ k % 256)]=D2 at *;generalize v / 256 ^ k=q at *;clear hbl;go_wp2_with fail
   refine ⟨⟨k+1,by omega,by go_num,?_,?_,bU.out.alloc dY _⟩,by simp [aI];omega⟩
   ·rw [HE.out]
   ·rw [HQ.out];go_num
  ·have hlt':¬(k:Int)<(n:Int):=by omega
   obtain rfl:k=n:=by omega
   clear hbl;go_wp2_with fail
   go_ret;exact ⟨rfl,bU.out⟩
theorem Ss (x:List UInt8) (w:World) (hx:0<x.length) (hl:x.length<=100000):
 av au 241 #[.string (ah x)] w fun e' w'=>e'= .returned (.bool (mR x))∧w'=w:=by
 have hz:(ah x).size=x.length:=bZ x;have hE:((bt (ah x) 0:Int) == 35)=mR x:=by
  unfold mR bt ah
  match x,hx with
  | c :: t,_=>
    show (((c.toNat:Nat):Int) == 35)=(c == 35)
    rw [Bool.eq_iff_iff,beq_iff_eq,beq_iff_eq,<-UInt8.toNat_inj];show _↔c.toNat=35
    omega
 have HE:=af hE;have h0:(0:Int)<((ah x).size:Int):=by omega
 have h0n:0<(ah x).size:=by omega
 clear hE;generalize ah x=D at *;have hg:=oW D 0 h0n;go_enter Tryz.func241,Tryz.ntmps241;go_wp2_with fail
 go_ret;exact ⟨iv HE.out,rfl⟩
theorem St (x:List UInt8):aU (ah x) 1 4=A7 x:=rfl
theorem ZZ (op:Nat) (x y:List UInt8) (m:Nat) (w:World) (k2:2<=op) (k5:op<=5) (hx:XS m x) (hy:XS m y) (hm:m<=40000):
 av au 212 #[.int .i64 (op:Int),.string (ah x),.string (ah y)] w fun e' w'=>e'= .returned (.string (ah (kY op x y)))∧ak w.heap.size w w':=by
 have hxl:0<x.length:=by rcases hx.2 with ⟨v,_,rfl⟩ | ⟨_,h⟩;exact Jt _;exact h
 have Sv:0<y.length:=by rcases hy.2 with ⟨v,_,rfl⟩ | ⟨_,h⟩;exact Jt _;exact h
 have hxm:=hx.1;have Z2:=hy.1;have xX:=af (fun w'=>Ss x w' hxl (by omega));have Kh:=af (fun w'=>Ss y w' Sv (by omega));have z1:(ah x).size<=40000:=by rw [bZ];omega
 have z2:(ah y).size<=40000:=by rw [bZ];omega
 by_cases hc:mR x=true∧mR y=true
 ·obtain ⟨cx,cy⟩:=hc;obtain ⟨vx,Ki,ex⟩:∃v,v<4294967296∧x=iG v:=by rcases hx.2 with h | ⟨h,_⟩;exact h;rw [cx] at h;cases h
  obtain ⟨vy,Z3,ey⟩:∃v,v<4294967296∧y=iG v:=by rcases hy.2 with h | ⟨h,_⟩;exact h;rw [cy] at h;cases h
  have rY:=af (fun w'=>CG (ah x) 1 4 w' (by decide) (by rw [bZ,ex,NH];decide) (by omega));have nP:=af (fun w'=>CG (ah y) 1 4 w' (by decide) (by rw [bZ,ey,NH];decide) (by omega));have e1:aU (ah x) 1 4=vx:=by rw [St,ex,ud _ Ki]
  have e2:aU (ah y) 1 4=vy:=by rw [St,ey,ud _ Z3]
  rw [e1] at rY;rw [e2] at nP;have HW:=af (fun w'=>Sc op vx vy w' (by omega) (by omega) (by omega) (by omega) (by omega) (by omega));have je:=A8 op vx vy (by omega) (by omega) (by omega) (by omega);have HJ:Hid (ah (kY op x y)=(⟨#[35]⟩:ByteArray) ++ ah (aS 4 (wk op vx vy).toNat)):=by
   unfold Hid kY;rw [if_pos ⟨cx,cy⟩,ex,ey,ud _ Ki,ud _ Z3,show (⟨#[35]⟩:ByteArray)=ah [35] from rfl,mC];rfl
  obtain ⟨c,hcc⟩:=Int.eq_ofNat_of_zero_le je.1;rw [hcc] at HW HJ;rw [Int.toNat_natCast] at HJ;have HN:=af (fun w'=>qu c 4 w' (by decide) (by omega));have z3:(ah (aS 4 c)).size<=4:=by rw [bZ,iF];decide
  rw [cx] at xX;rw [cy] at Kh;generalize ah (aS 4 c)=D3 at *;generalize ah x=D1 at *;generalize ah y=D2 at *;generalize ah (kY op x y)=D at *;clear ex ey e1 e2 hx hy hxm Z2 hxl Sv cx cy je hcc;go_enter Tryz.func212,Tryz.ntmps212;go_wp2_with fail
  refine (aq xX _).mono ?_;rintro e w' ⟨rfl,hw⟩;obtain rfl:=hw.symm;go_wp2_with fail
  refine (aq Kh _).mono ?_;rintro e w' ⟨rfl,hw⟩;obtain rfl:=hw.symm;go_wp2_with fail
  refine (aq rY _).mono ?_;rintro e w' ⟨rfl,hw⟩;obtain rfl:=hw.symm;go_wp2_with fail
  refine (aq nP _).mono ?_;rintro e w' ⟨rfl,hw⟩;obtain rfl:=hw.symm;go_wp2_with fail
  refine (aq HW _).mono ?_;rintro e w' ⟨rfl,hw⟩;obtain rfl:=hw.symm;go_wp2_with fail
  refine (aq HN _).mono ?_;rintro e w1 ⟨rfl,hb⟩;have HB:=af hb;clear hb;go_wp2_with fail
  go_ret;rw [HJ.out];exact ⟨rfl,HB.out⟩
 ·have HJ:Hid (ah (kY op x y)=(((⟨#[40]⟩:ByteArray) ++ ah (aS 1 op)) ++ ah x) ++ ah y ++ (⟨#[41]⟩:ByteArray)):=by
   unfold Hid kY;rw [if_neg hc,show (⟨#[40]⟩:ByteArray)=ah [40] from rfl,show (⟨#[41]⟩:ByteArray)=ah [41] from rfl,mC,mC,mC,mC];unfold A6;simp
  have HN:=af (fun w'=>qu op 1 w' (by decide) (by omega));have z3:(ah (aS 1 op)).size<=4:=by rw [bZ,iF];decide
  have hcc:mR x=false∨(mR x=true∧mR y=false):=by
   cases h1:mR x
   ·exact .inl rfl
   ·cases h2:mR y
    ·exact .inr ⟨rfl,rfl⟩
    ·exact absurd ⟨h1,h2⟩ hc
  generalize ah (aS 1 op)=D3 at *;generalize ah x=D1 at *;generalize ah y=D2 at *;generalize ah (kY op x y)=D at *;clear hx hy hxm Z2 hxl Sv hc;rcases hcc with h1 | ⟨h1,h2⟩
  ·rw [h1] at xX;clear h1;go_enter Tryz.func212,Tryz.ntmps212;go_wp2_with fail
   refine (aq xX _).mono ?_;rintro e w' ⟨rfl,hw⟩;obtain rfl:=hw.symm;go_wp2_with fail
   refine (aq Kh _).mono ?_;rintro e w' ⟨rfl,hw⟩;obtain rfl:=hw.symm;go_wp2_with fail
   refine (aq HN _).mono ?_;rintro e w1 ⟨rfl,hb⟩;have HB:=af hb;clear hb;go_wp2_with fail
   go_ret;rw [HJ.out];exact ⟨rfl,HB.out⟩
  ·rw [h1] at xX;rw [h2] at Kh;clear h1 h2;go_enter Tryz.func212,Tryz.ntmps212;go_wp2_with fail
   refine (aq xX _).mono ?_;rintro e w' ⟨rfl,hw⟩;obtain rfl:=hw.symm;go_wp2_with fail
   refine (aq Kh _).mono ?_;rintro e w' ⟨rfl,hw⟩;obtain rfl:=hw.symm;go_wp2_with fail
   refine (aq HN _).mono ?_;rintro e w1 ⟨rfl,hb⟩;have HB:=af hb;clear hb;go_wp2_with fail
   go_ret;rw [HJ.out];exact ⟨rfl,HB.out⟩
theorem Z4 (x:List UInt8) (k m:Nat) (w:World) (hk:k<=4095) (hx:XS m x) (hm:m<=40000):
 av au 211 #[.string (ah x),.int .i64 (k:Int)] w fun e' w'=>e'= .returned (.string (ah (lG x k)))∧ak w.heap.size w w':=by
 have hxl:0<x.length:=by rcases hx.2 with ⟨v,_,rfl⟩ | ⟨_,h⟩;exact Jt _;exact h
 have hxm:=hx.1;have xX:=af (fun w'=>Ss x w' hxl (by omega));have z1:(ah x).size<=40000:=by rw [bZ];omega
 by_cases hc:mR x=true
 ·obtain ⟨vx,Ki,ex⟩:∃v,v<4294967296∧x=iG v:=by rcases hx.2 with h | ⟨h,_⟩;exact h;rw [hc] at h;cases h
  have rY:=af (fun w'=>CG (ah x) 1 4 w' (by decide) (by rw [bZ,ex,NH];decide) (by omega));have e1:aU (ah x) 1 4=vx:=by rw [St,ex,ud _ Ki]
  rw [e1] at rY;have HJ:Hid (ah (lG x k)=(⟨#[91]⟩:ByteArray) ++ ((⟨#[35]⟩:ByteArray) ++ ah (aS 4 ((vx+k) % 128))) ++ ah (aS 2 0) ++ (⟨#[93]⟩:ByteArray)):=by
   unfold Hid lG;rw [if_pos hc,ex,ud _ Ki,show (⟨#[91]⟩:ByteArray)=ah [91] from rfl,show (⟨#[35]⟩:ByteArray)=ah [35] from rfl,show (⟨#[93]⟩:ByteArray)=ah [93] from rfl,mC,mC,mC,mC];unfold sR iG;simp
  have e2:((vx:Int)+(k:Int)) % 128=(((vx+k) % 128:Nat):Int):=by omega
  have qv:=af (fun w'=>qu ((vx+k) % 128) 4 w' (by decide) (by omega));have Be:Hid (∀w',av au 137 #[.int .i64 0,.int .i64 2] w' fun e' w''=>e'= .returned (.string (ah (aS 2 0)))∧ak w'.heap.size w' w''):=fun w'=>qu 0 2 w' (by decide) (by omega);rw [<-e2] at qv;have z3:(ah (aS 4 ((vx+k) % 128))).size<=4:=by rw [bZ,iF];decide
  have z4:(ah (aS 2 0)).size<=4:=by rw [bZ,iF];decide
  rw [hc] at xX;generalize ah (aS 4 ((vx+k) % 128))=D3 at *;generalize ah (aS 2 0)=D4 at *;generalize ah x=D1 at *;generalize ah (lG x k)=D at *;clear ex e1 e2 hx hxm hxl hc;go_enter Tryz.func211,Tryz.ntmps211;go_wp2_with fail
  refine (aq xX _).mono ?_;rintro e w' ⟨rfl,hw⟩;obtain rfl:=hw.symm;go_wp2_with fail
  refine (aq rY _).mono ?_;rintro e w' ⟨rfl,hw⟩;obtain rfl:=hw.symm;go_wp2_with fail
  refine (aq qv _).mono ?_;rintro e w1 ⟨rfl,hb⟩;have HB:=af hb;have hz:=hb.size;clear hb;go_wp2_with fail
  refine (aq Be _).mono ?_;rintro e w2 ⟨rfl,hb⟩;have aZ:=af (HB.out.trans (hb.mono hz));clear hb;go_wp2_with fail
  go_ret;rw [HJ.out];exact ⟨rfl,aZ.out⟩
 ·have hcf:mR x=false:=by simpa using hc
  have HJ:Hid (ah (lG x k)=(⟨#[91]⟩:ByteArray) ++ ah x ++ ah (aS 2 k) ++ (⟨#[93]⟩:ByteArray)):=by
   unfold Hid lG;rw [if_neg hc,show (⟨#[91]⟩:ByteArray)=ah [91] from rfl,show (⟨#[93]⟩:ByteArray)=ah [93] from rfl,mC,mC,mC];unfold sR;simp
  have Be:=af (fun w'=>qu k 2 w' (by decide) (by omega));have z4:(ah (aS 2 k)).size<=4:=by rw [bZ,iF];decide
  rw [hcf] at xX;generalize ah (aS 2 k)=D4 at *;generalize ah x=D1 at *;generalize ah (lG x k)=D at *;clear hx hxm hxl hc hcf;go_enter Tryz.func211,Tryz.ntmps211;go_wp2_with fail
  refine (aq xX _).mono ?_;rintro e w' ⟨rfl,hw⟩;obtain rfl:=hw.symm;go_wp2_with fail
  refine (aq Be _).mono ?_;rintro e w2 ⟨rfl,hb⟩;have aZ:=af hb;clear hb;go_wp2_with fail
  go_ret;rw [HJ.out];exact ⟨rfl,aZ.out⟩
end
section
open Go.RowKit Go.Maps

theorem Eo (w:World):(zeroValue 3).run au w= .ok (.int .i64 0) w:=by kernel_rfl
end
section
open Go.RowKit Go.Maps Go.WideMaps
def nQ (e:Ex):List aj:=[.int .i64 (e.1:Int),.int .i64 (e.2.1:Int),.int .i64 (e.2.2.1:Int),.int .i64 (e.2.2.2:Int)]
def Bf (T:List Ex):List aj:=T.flatMap nQ
theorem aiw (T:List Ex) (e:Ex):Bf (T ++ [e])=Bf T ++ nQ e:=by simp [Bf]
def CJ (e:Ex):Prop:=e.1<4294967296∧e.2.1<4294967296∧e.2.2.1<4294967296∧e.2.2.2<4294967296
theorem Kk {n:Nat} {e:Ex} (h:oR n e) (hn:n<=1000):CJ e:=by
 unfold oR at h;unfold CJ;omega
theorem Z5:laidOutB au=true:=by kernel_rfl
theorem Z6:(322:TypeId)<Tryz.prog.types.size:=of_decide_eq_true (by kernel_rfl)
theorem aix:(match Tryz.prog.underlying 322 with | some (.array _ _) | some (.struct _)=>true | _=>false)=true:=by rw [XT]
theorem Kl:Keyed au 322:=Keyed.of_law (deep_law_laid Z5 (m:=2) (by omega) Z6 (by kernel_rfl) aix)
theorem ktE:Tryz.prog.keyType 322=true:=by kernel_rfl
theorem tsE:∃m,Tryz.prog.types.size=m+1:=⟨Tryz.prog.types.size - 1,(Nat.succ_pred_eq_of_pos (Nat.lt_of_le_of_lt (bK _) Z6)).symm⟩
theorem Z7:Tryz.prog.cellsOf 322=4:=by kernel_rfl
theorem Z8:Tryz.prog.cellsOf 3=1:=by kernel_rfl
def wM (e:Ex):Lit:=.string (keyBytes [.int .i64 (e.1:Int),.int .i64 (e.2.1:Int),.int .i64 (e.2.2.1:Int),.int .i64 (e.2.2.2:Int)])
theorem G2 (e:Ex) (h:CJ e):keyOf au 322 (.agg (nQ e).toArray)=some (wM e):=by
 obtain ⟨k,a,b,v⟩:=e;obtain ⟨h0,h1,h2,h3⟩:=h;dsimp only at h0 h1 h2 h3;have w0:(DW .i64 (k:Int)).wf=true:=by refine Gm ?_<;>omega
 have w1:(DW .i64 (a:Int)).wf=true:=by refine Gm ?_<;>omega
 have w2:(DW .i64 (b:Int)).wf=true:=by refine Gm ?_<;>omega
 have w3:(DW .i64 (v:Int)).wf=true:=by refine Gm ?_<;>omega
 obtain ⟨m,hm⟩:=tsE;unfold keyOf;simp only [XT];rw [if_pos (by simp [ktE,Value.formed,XT,Z7,nQ]),hm];unfold XU;simp only [XT,Value.cells];rw [if_pos (by rw [Z7];exact ⟨rfl,by simp⟩)];simp [nQ,Z8,XU,pO,w0,w1,w2,w3,wM]
theorem aiA {e e':Ex} (h:CJ e) (h':CJ e') (he:wM e=wM e'):e=e':=by
 have h1:=G2 e h;have h2:=G2 e' h';rw [he] at h1;have:=Kl.inj h1 h2;obtain ⟨k,a,b,v⟩:=e;obtain ⟨k',a',b',v'⟩:=e';simp [nQ] at this;obtain ⟨q1,q2,q3,q4⟩:=this;rw [vU,vU,vU];exact ⟨by omega,by omega,by omega,by omega⟩
def Km (D:nC Unit) (T:List Ex):Prop:=
 ∀e,CJ e->(AL D (wM e)=true↔e∈T)∧∀n:Nat,T[n]? =some e->(∀m:Nat,T[m]? =some e->m=n)->D.atKey (wM e) (.lit (.int .i64 0))= .lit (.int .i64 (n:Int))
structure fT (B N:Nat) (T:List Ex) (b:Nat) (v:aj) (w:World):Prop where
 c0:w.cell? ⟨N,0,none⟩=some (.map (some b))
 c1:w.cell? ⟨N,1,none⟩=some v
 fz:∀i,w.frozen? ⟨N,i,none⟩=false
 bN:B<=N
 bb:B<=b
 nv:∀g,v.ownBlock=some g->g≠N
 ls:w.ownsRow B 322 4 v T.length (Bf T)
 mp:∃D:nC Unit,w.ownsMap au 322 (Gl au 3) b T.length D∧Km D T
theorem fT.mE {B N:Nat} {T:List Ex} {b:Nat} {v:aj} {w:World} (h:fT B N T b v w):N<w.heap.size:=mA h.c0
theorem fT.blt {B N:Nat} {T:List Ex} {b:Nat} {v:aj} {w:World} (h:fT B N T b v w):b<w.heap.size:=by
 obtain ⟨D,hm,_⟩:=h.mp;exact hm.lt
def Ol (N b:Nat) (v:aj) (g:Nat):Prop:=g=N∨g=b∨v.ownBlock=some g
theorem fT.GW {B N:Nat} {T:List Ex} {b:Nat} {v:aj} {w:World} (h:fT B N T b v w) {g:Nat} (hg:Ol N b v g):B<=g∧g<w.heap.size:=by
 rcases hg with rfl | rfl | hg
 ·exact ⟨h.bN,h.mE⟩
 ·exact ⟨h.bb,h.blt⟩
 ·exact aR h.ls g hg
theorem fT.kept {B N:Nat} {T:List Ex} {b:Nat} {v:aj} {w w':World} (h:fT B N T b v w) (hk:∀g,Ol N b v g->w'.heap[g]? =w.heap[g]?):fT B N T b v w':=by
 have hN:=hk N (.inl rfl);refine ⟨(aP hN).trans h.c0,(aP hN).trans h.c1,fun i=>(fS hN).trans (h.fz i),h.bN,h.bb,h.nv,dz h.ls (fun g hg=>hk g (.inr (.inr hg))),?_⟩;obtain ⟨D,hm,hl⟩:=h.mp;exact ⟨D,Bb hm (hk b (.inr (.inl rfl))),hl⟩
theorem fT.alloc {B N:Nat} {T:List Ex} {b:Nat} {v:aj} {w:World} (h:fT B N T b v w) (o:Obj):fT B N T b v (w.alloc o):=
 h.kept fun g hg=>cM w o g (h.GW hg).2
theorem fT.drew {B N:Nat} {T:List Ex} {b:Nat} {v:aj} {w:World} (h:fT B N T b v w):fT B N T b v w.drew:=h.kept fun _ _=>rfl
theorem fT.above {B N:Nat} {T:List Ex} {b:Nat} {v:aj} {w w':World} (h:fT B N T b v w) (hb:ak w.heap.size w w'):fT B N T b v w':=
 h.kept fun g hg=>hb.block g (h.GW hg).2
theorem fT.Oc {B N:Nat} {T:List Ex} {b:Nat} {v:aj} {w:World} (h:fT B N T b v w) {g:Nat} (hg:¬Ol N b v g) (i:Nat) (u:aj):fT B N T b v (w.setCell ⟨g,i,none⟩ u):=
 h.kept fun _ hk=>dU w u (fun e=>hg (e▸hk))
theorem fT.apart {B N:Nat} {T:List Ex} {b:Nat} {v:aj} {w:World} (h:fT B N T b v w):N≠b∧v.ownBlock≠some b:=by
 obtain ⟨D,hm,_⟩:=h.mp;obtain ⟨es,cl,hb⟩:=GV hm;refine ⟨fun e=>?_,fun e=>?_⟩
 ·obtain ⟨c,t,fr,hc⟩:=cells_of_cell h.c0;rw [e,hb] at hc;cases hc
 ·obtain ⟨_,c,t,fr,hc⟩:=GP h.ls b e;rw [hb] at hc;cases hc
structure iJ (B N b:Nat) (w w':World):Prop where
 below:ak B w w'
 other:∀g,g<w.heap.size->g≠N->g≠b->(∀cur,w.heap[g]?≠some (.cells cur 322 (0,0)))->w'.heap[g]? =w.heap[g]?
theorem iJ.trans {B N b:Nat} {x y z:World} (h:iJ B N b x y) (k:iJ B N b y z):iJ B N b x z:=by
 refine ⟨h.below.trans k.below,fun g hg h1 h2 h3=>?_⟩;have e:=h.other g hg h1 h2 h3;exact (k.other g (dB hg h.below.size) h1 h2 (fun cur hc=>h3 cur (e▸hc))).trans e
theorem iJ.above {B N b:Nat} {x y:World} (hB:B<=x.heap.size) (h:ak x.heap.size x y):iJ B N b x y:=
 ⟨h.mono hB,fun g hg _ _ _=>h.block g hg⟩
theorem Km.add {D:nC Unit} {T:List Ex} (h:Km D T) (hD:IsMap D) {e:Ex} (he:CJ e) (hn:e∉T):Km (D.put (wM e) (.lit (.int .i64 (T.length:Int)))) (T ++ [e]):=by
 intro e' he';obtain ⟨h1,h2⟩:=h e' he';by_cases hee:e'=e
 ·subst hee;refine ⟨⟨fun _=>by simp,fun _=>?_⟩,fun n hn' _=>?_⟩
  ·rw [has_put_same hD (Kl.key (G2 e' he'))]
  ·rw [atKey_put_same hD (Kl.key (G2 e' he'))];have:n=T.length:=by
    by_cases hl:n<T.length
    ·rw [jN hl] at hn';exact absurd (List.mem_of_getElem? hn') hn
    ·have:=(fG.1 hn').1;simp at this;omega
   rw [this]
 ·have hk:wM e'≠wM e:=fun q=>hee (aiA he' he q);refine ⟨?_,fun n hn' hu=>?_⟩
  ·rw [has_put_other hk,h1];simp [hee]
  ·rw [atKey_put_other hk];have hl:n<T.length:=by
    by_cases hl:n<T.length
    ·exact hl
    ·rw [List.getElem?_append_right (by omega)] at hn';have h0:=(fG.1 hn').1;have Sw:n - T.length=0:=by simp at h0;omega
     rw [Sw] at hn';simp at hn';exact absurd hn'.symm hee
   rw [jN hl] at hn';exact h2 n hn' (fun m hm=>hu m (by rw [jN (fG.1 hm).1];exact hm))
theorem aiB:∃i,Tryz.prog.info? 322=some i∧i.zero=some (.agg #[.int .i64 0,.int .i64 0,.int .i64 0,.int .i64 0])∧i.size=4∧i.bytes=32:=by
 have h:(Tryz.prog.info? 322).map (fun i=>(i.zero,i.size,i.bytes))=some (some (.agg #[.int .i64 0,.int .i64 0,.int .i64 0,.int .i64 0]),4,32):=by kernel_rfl
 cases hq:Tryz.prog.info? 322 with
 | none=>rw [hq] at h;cases h
 | some i=>
   rw [hq] at h;simp only [AO,Ci,vU] at h;exact ⟨i,rfl,h.1,h.2.1,h.2.2⟩
theorem fT.Z9 {B N:Nat} {T:List Ex} {b:Nat} {v:aj} {w w1:World} (h:fT B N T b v w) (hg:w.grownBy w1 (some b)):
 (w1.cell? ⟨N,0,none⟩=some (.map (some b))∧w1.cell? ⟨N,1,none⟩=some v∧(∀i,w1.frozen? ⟨N,i,none⟩=false)∧w1.ownsRow B 322 4 v T.length (Bf T))∧iJ B N b w w1:=by
 obtain ⟨a1,a2⟩:=h.apart;have hk:∀g,g<w.heap.size->g≠b->w1.heap[g]? =w.heap[g]?:=fun g hlt hne=>hg.block g hlt (fun e=>hne (oN e));have hN:=hk N h.mE a1
 exact ⟨⟨(aP hN).trans h.c0,(aP hN).trans h.c1,fun i=>(fS hN).trans (h.fz i),dz h.ls (fun g hg'=>hk g (aR h.ls g hg').2 (fun e=>a2 (e▸hg')))⟩,
  ⟨(aA _ _).grown hg (aT h.bN (iP h.mE)) (fun j hj=>by cases hj;exact h.bb),fun g hlt _ h2 _=>hk g hlt h2⟩⟩
theorem aiC {B N:Nat} {T:List Ex} {b:Nat} {v:aj} {w w0 w3 w5 w4:World} {e:Ex} {D':nC Unit} (h:fT B N T b v w) (hb0:ak w.heap.size w w0) (qw:w0.grownBy w3 (some b)) (oX:w3.ownsMap au 322 (Gl au 3) b (T.length+1) D') (hk3:Km D' (T ++ [e]))
 (fD:ak w3.heap.size w3 w5) (g cap:Nat) (ho:w4.ownsRow B 322 4 (.slice (some ⟨g,0,none⟩) (T.length+1) cap) (T.length+1) (Bf T ++ nQ e)) (hgr:w5.grownBy w4 v.ownBlock) (ha:v.ownBlock=some g∨w.heap.size<=g):
 fT B N (T ++ [e]) b (.slice (some ⟨g,0,none⟩) (T.length+1) cap) (w4.setCell ⟨N,1,none⟩ (.slice (some ⟨g,0,none⟩) (T.length+1) cap))∧iJ B N b w (w4.setCell ⟨N,1,none⟩ (.slice (some ⟨g,0,none⟩) (T.length+1) cap)):=by
 have hBw:B<=w.heap.size:=aT h.bN (iP h.mE);have h0:=h.above hb0;obtain ⟨a1,a2⟩:=h.apart;obtain ⟨⟨c0,c1,fz,ls⟩,f3⟩:=h0.Z9 qw;have Sy:iJ B N b w w3:=(iJ.above hBw hb0).trans f3;have jE:N<w3.heap.size:=mA c0;have vh:w.heap.size<=w3.heap.size:=Sy.below.size;have hk:∀k,k<w3.heap.size->v.ownBlock≠some k->w4.heap[k]? =w3.heap[k]?:=fun k hk hn=>(hgr.block k (dB hk fD.size) (fun e=>hn e.symm)).trans (fD.block k hk);have fJ:=hk N jE (fun e=>h.nv N e rfl);have k1:∀j,w4.cell? ⟨N,j,none⟩=w3.cell? ⟨N,j,none⟩:=fun j=>aP fJ;have k2:∀j,w4.frozen? ⟨N,j,none⟩=w3.frozen? ⟨N,j,none⟩:=fun j=>fS fJ;have sZ:g≠N:=by
  rcases ha with ha | ha
  ·exact h.nv g ha
  ·have:=h.mE;omega
 have hB5:B<=w5.heap.size:=aT hBw (aT vh fD.size);have hbel:ak B w (w4.setCell ⟨N,1,none⟩ (.slice (some ⟨g,0,none⟩) (T.length+1) cap)):=
  ((Sy.below.trans (fD.mono (aT hBw vh))).grown hgr hB5 (fun k hk=>(aR h.ls k hk).1)).setCell h.bN _
 generalize hv:mQ (some ⟨g,0,none⟩) (T.length+1) cap=v' at *;have hvb:v'.ownBlock=some g:=by rw [<-hv];rfl
 have hh:∀k,k≠N->(w4.setCell ⟨N,1,none⟩ v').heap[k]? =w4.heap[k]?:=fun k hk=>dU _ _ hk
 refine ⟨⟨ZF ((k1 0).trans c0) (by decide),ZG ((k1 1).trans c1),fun i=>by rw [World.frozen?_setCell,k2];exact fz i,h.bN,h.bb,
  fun k hk=>by rw [hvb] at hk;cases hk;exact sZ,?_,?_⟩,hbel,fun k hk' h1 h2 h3=>?_⟩
 ·rw [aiw,dK,DX];exact dz ho (fun k hk=>by rw [hvb] at hk;cases hk;exact hh g sZ)
 ·refine ⟨D',?_,hk3⟩;rw [dK,DX];exact Bb oX ((hh b (fun e=>a1 e.symm)).trans (hk b oX.lt a2))
 ·have hne:v.ownBlock≠some k:=fun e=>by
   obtain ⟨cur,hc⟩:=wK h.ls k e;exact h3 cur hc
  exact ((hh k h1).trans (hk k (dB hk' vh) hne)).trans (Sy.other k hk' h1 h2 h3)
def Sz (B N b:Nat) (T:List Ex) (w:World) (e:Ex) (e':Ending) (w':World):Prop:=
 ∃n T' v',e'= .returned (.int .i64 ((n:Nat):Int))∧fT B N T' b v' w'∧iJ B N b w w'∧((T'=T∧T[n]? =some e)∨(T'=T ++ [e]∧n=T.length∧e∉T))
theorem aiE {T:List Ex} {ds:List (List UInt8)} (h:TI T ds) {n:Nat} {e:Ex} (hn:T[n]? =some e):∀m:Nat,T[m]? =some e->m=n:=fun m hm=>h.one m n e hm hn
theorem Kn (B N:Nat) (T:List Ex) (ds:List (List UInt8)) (b:Nat) (v:aj) (e:Ex) (w:World) (h:fT B N T b v w) (hT:TI T ds) (he:CJ e) (hl:T.length<=1000):
 av au 253 #[.pointer (some ⟨N,0,none⟩),.agg (nQ e).toArray] w (Sz B N b T w e):=by
 have SA:=h.mE;have hBw:B<=w.heap.size:=aT h.bN (iP SA);have HP:=af h;have HK:=af (G2 e he);obtain ⟨D,hown,oY⟩:=h.mp;have hD:=hown.isMap;have c0:=h.c0;have c1:=h.c1;obtain ⟨iK,Bg⟩:=oY e he;have aiF:=af oY;have HD:=af hD;have Om:=fun o=>((hown.alloc o).drew).look_ok Kl Tryz.underlying267 (Eo _) (DY (H:=Unit) pO (a:=0) (by decide)) (G2 e he);obtain ⟨va,vc,rfl⟩:=bA h.ls;have G3:=af hown;have HE:=af he;have hni:¬Ol N b (.slice va T.length vc) w.heap.size:=fun hi=>by have:=(h.GW hi).2;omega
 have HNi:=af hni;by_cases hm:e∈T
 ·obtain ⟨n,hn⟩:=List.getElem?_of_mem hm;have hat:=Bg n hn (aiE hT hn);have G4:∀o,(JB 267 (.map (some b)) (.agg (nQ e).toArray) true).run au ((w.alloc o).drew)= .ok (.tuple #[.int .i64 (n:Int),.bool true]) ((w.alloc o).drew):=fun o=>by
   obtain ⟨x,ps',hrun,hx⟩:=Om o;rw [iK.2 hm] at hrun;obtain ⟨a,rfl,ha,_⟩:=plainElem_int_inv pO hx;rw [hat] at ha;cases ha;exact hrun
  have HR:Hid (∀o:Obj,Sz B N b T w e (.returned (.int .i64 (n:Int))) (w.alloc o).drew):=fun o=>⟨n,T,_,rfl,(HP.out.alloc o).drew,iJ.above hBw ((aA _ _).alloc (ax _) o).drew,.inl ⟨rfl,hn⟩⟩;obtain ⟨k,a,b',x⟩:=e;simp only [nQ] at G4⊢;have hrun:=G4 (.cells #[.int .i64 (k:Int),.int .i64 (a:Int),.int .i64 (b':Int),.int .i64 (x:Int)] 322);clear Om G4 iK Bg hm hn hat h hown oY hD hT he hni;go_enter Tryz.func253,Tryz.ntmps253;go_wp2_with fail
  refine xV (by kernel_rfl) (by kernel_rfl) ?_
  repeat still_step
  refine jC ?_;go_wp2_with fail
  go_ret;exact HR.out _
 ·have hf:AL D (wM e)=false:=by
   cases hq:AL D (wM e)
   ·rfl
   ·exact absurd (iK.1 hq) hm
  have G4:∀o,∃x,(JB 267 (.map (some b)) (.agg (nQ e).toArray) true).run au ((w.alloc o).drew)= .ok (.tuple #[x,.bool false]) ((w.alloc o).drew):=fun o=>by
   obtain ⟨x,ps',hrun,hx⟩:=Om o;rw [hf] at hrun;exact ⟨x,hrun⟩
  have HM:=af hm;have hl':T.length<cP:=by unfold cP;omega
  have CK:(DW .i64 (T.length:Int)).wf=true:=by
   refine Gm ?_<;>omega
  obtain ⟨inf,cJ,hz,cW,hby⟩:=aiB;have gJ:=af cJ;have HZ:=af hz;have dR:=af cW;have gK:=af hby;have Ko:=af (aiF.out.add HD.out HE.out HM.out);have HC:Hid (nQ e=[.int .i64 (e.1:Int),.int .i64 (e.2.1:Int),.int .i64 (e.2.2.1:Int),.int .i64 (e.2.2.2:Int)]):=rfl;obtain ⟨x,hrun⟩:=G4 (.cells (nQ e).toArray 322);have HPd:=af ((HP.out.alloc (.cells (nQ e).toArray 322)).drew.drew);have Kq:=af (((G3.out.alloc (.cells (nQ e).toArray 322)).drew).drew);have Bi:Hid ((w.alloc (.cells (nQ e).toArray 322)).heap[w.heap.size]? =some (.cells (nQ e).toArray 322)):=bg w _;have bM:Hid (ak w.heap.size w (w.alloc (.cells (nQ e).toArray 322)).drew.drew):=((aA _ _).alloc (ax _) _).drew.drew;clear Om G4 iK Bg hm hf h hown oY hD hT he hni cJ hz cW hby;obtain ⟨k,a,b',y⟩:=e;simp only [nQ] at *;go_enter Tryz.func253,Tryz.ntmps253;go_wp2_with fail
  refine xV (by kernel_rfl) (by kernel_rfl) ?_
  repeat still_step
  refine jC ?_;go_wp2_with fail
  refine qp 6 (by kernel_rfl) (by kernel_rfl) ?_;simp only [j5,jU,j6,iE]
  repeat still_step
  refine jC ?_;go_wp2_with (at_mapUpdate;refine wpList_mapUpdate_own _ rfl _ _ _ 267 rfl 322 3 Kl Tryz.underlying267 _ b T.length D rfl Kq.out hl' _ _ (wM (k,a,b',y)) rfl rfl HK.out (.lit (.int .i64 (T.length:Int))) [] (DY pO CK) ?_;intro w3 CL CM;have H3:=af CL;have iL:=af CM;clear CL CM)
  have oZ:w.heap.size<w3.heap.size:=dB (by show w.heap.size<(w.alloc _).heap.size;rw [aB];omega) iL.out.size;obtain ⟨⟨d0,d1,dfz,dls⟩,_⟩:=HPd.out.Z9 iL.out;have o9:=af dls;have hNb:w.heap.size≠b:=fun e=>HNi.out (.inr (.inl e));have hNN:w.heap.size≠N:=fun e=>by omega
  have hblk:w3.heap[w.heap.size]? =some (.cells #[.int .i64 (k:Int),.int .i64 (a:Int),.int .i64 (b':Int),.int .i64 (y:Int)] 322):=(iL.out.block w.heap.size (by show w.heap.size<(w.alloc _).heap.size;rw [aB];omega) (fun e=>hNb (oN e))).trans Bi.out;have q0:w3.cell? ⟨w.heap.size,0,none⟩=some (.int .i64 (k:Int)):=by simp [cU,hblk]
  have q1:w3.cell? ⟨w.heap.size,1,none⟩=some (.int .i64 (a:Int)):=by simp [cU,hblk]
  have q2:w3.cell? ⟨w.heap.size,2,none⟩=some (.int .i64 (b':Int)):=by simp [cU,hblk]
  have q3:w3.cell? ⟨w.heap.size,3,none⟩=some (.int .i64 (y:Int)):=by simp [cU,hblk]
  have jE:N<w3.heap.size:=mA d0;clear dls hrun hblk;refine ug 6 2 (fun w'=>w'.cell? ⟨N,1,none⟩=some (.slice va T.length vc)∧w'.cell? ⟨w.heap.size,0,none⟩=some (.int .i64 (k:Int))∧w'.cell? ⟨w.heap.size,1,none⟩=some (.int .i64 (a:Int))∧w'.cell? ⟨w.heap.size,2,none⟩=some (.int .i64 (b':Int))∧w'.cell? ⟨w.heap.size,3,none⟩=some (.int .i64 (y:Int))) (by kernel_rfl) (by kernel_rfl) (fun d _ _ _ _ h=>by cases d<;>exact h) ⟨d1,q0,q1,q2,q3⟩ ?_;simp only [j5,jU,j6,iE]
  iterate 6
   refine mT ?_ rfl ?_ ?_
   rotate_left
   ·rintro w' ⟨e1,f0,f1,f2,f3⟩;go_simp;rfl
   go_simp
  refine uf ?_;refine iQ rfl (fun K hK=>?_);go_simp;refine hK _ _ ⟨(Ka w3 _ jE 1).trans d1,(Ka w3 _ oZ 0).trans q0,(Ka w3 _ oZ 1).trans q1,(Ka w3 _ oZ 2).trans q2,(Ka w3 _ oZ 3).trans q3⟩ ?_;clear hK K;refine iQ rfl (fun K hK=>?_);have jf:Hid (((w3.alloc (.cells #[.int .i64 (k:Int),.int .i64 (a:Int),.int .i64 (b':Int),.int .i64 (y:Int)] 322)).drew).ownsRow B 322 4 (.slice va T.length vc) T.length (Bf T)):=dz o9.out (fun g hg=>cM w3 _ g (aR o9.out g hg).2);refine wp_append_lies _ _ _ 268 rfl B 322 inf _ 4 32 Tryz.underlying268 gJ.out HZ.out dR.out gK.out rfl (by decide) (.slice va T.length vc) T.length (Bf T) rfl jf.out ⟨w3.heap.size,0,none⟩ 1 1 (nQ (k,a,b',y)) rfl rfl (mP (bg w3 _)) (fun u hu=>by simp [nQ] at hu;rcases hu with rfl | rfl | rfl | rfl<;>rfl) (by decide) (by unfold cP;omega) (by omega) (by show B<=(w3.alloc _).heap.size;rw [aB];omega) (w3.heap.size+1) (by show (w3.alloc _).heap.size=_;rw [aB]) ?_;intro g cap w4 wN qR wO aae;have vm:=af (aiC HP.out bM.out iL.out H3.out Ko.out (((aA _ _).alloc (ax _) _).drew) g cap wN qR (wO.imp id (fun q=>by omega)));have zS:some N≠(mQ va T.length vc).ownBlock:=fun q=>HP.out.nv N q.symm rfl;have Ep:some w.heap.size≠(mQ va T.length vc).ownBlock:=fun q=>HNi.out (.inr (.inr q.symm));have k1:∀j,w4.cell? ⟨N,j,none⟩=w3.cell? ⟨N,j,none⟩:=fun j=>by
   rw [qR.cell_far ⟨N,j,none⟩ (by show N<(w3.alloc _).heap.size;rw [aB];omega) zS];exact aP (cM w3 _ N jE)
  have k2:∀j,w4.frozen? ⟨N,j,none⟩=false:=fun j=>by
   rw [qR.frozen_far ⟨N,j,none⟩ (by show N<(w3.alloc _).heap.size;rw [aB];omega) zS];exact (fS (w:=w3) (cM w3 _ N jE)).trans (dfz j)
  have k3:∀j,w4.cell? ⟨w.heap.size,j,none⟩=w3.cell? ⟨w.heap.size,j,none⟩:=fun j=>by
   rw [qR.cell_far ⟨w.heap.size,j,none⟩ (by show w.heap.size<(w3.alloc _).heap.size;rw [aB];omega) Ep];exact aP (cM w3 _ w.heap.size oZ)
  refine hK _ _ ⟨(k1 1).trans d1,(k3 0).trans q0,(k3 1).trans q1,(k3 2).trans q2,(k3 3).trans q3⟩ ?_;have k10:=(k1 0).trans d0;have k11:=(k1 1).trans d1;clear wN qR wO hK K k1 k3 dfz d0 d1 q0 q1 q2 q3;unfold oy;go_wp2_with fail
  go_ret;exact ⟨T.length,T ++ [(k,a,b',y)],_,rfl,vm.out.1,vm.out.2,.inr ⟨rfl,rfl,HM.out⟩⟩
end
end Go.Proofs.YtmmflekajbeamaaGreatDoor
