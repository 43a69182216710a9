/- Texts of ours, joined, in few bytes. -/
import Derived.Test.YtmmflekajbeamaaGreatDoorE01
import Derived.Test.YtmmflekajbeamaaGreatDoorRows
import Derived.Deep.Light
import Derived.Lib.Bytealg
import Derived.BigQuiet
import Derived.Lib.RuneCount
open ByteArray renaming size->axB
open Go renaming Calls->av,Value->aj,bits->rM,bodyPost_ret->cL,results->zm,wpList_load_row->qO
open Go.Ending renaming returned->kS
open Go.Instr renaming index->qh
open Go.Proofs.Tryz renaming prog->au,underlying288->agA
open Go.Result renaming andThen->kN
open Go.RowKit renaming Below->ak,intOf->aI
open Go.RowKit.Below renaming heap_alloc->cM,refl->aA
open Go.World renaming cell?_alloc_at->kC,frozen?_alloc_at->Ni
open Int renaming emod_lt_of_pos->XF,emod_nonneg->XE
open List renaming length_drop->om,mem_range->mL,range->jL
open Nat renaming le_refl->ax,le_succ->jk,xor_lt_two_pow->QW,zero_le->bK
namespace Go.Proofs.YtmmflekajbeamaaGreatDoor
set_option maxHeartbeats 1000000
set_option maxRecDepth 100000
section
def wG:Nat:=3988292384
def cb (x:Nat):Nat:=if x % 2=1 then x / 2 ^^^ wG else x / 2
def rb (x b:Nat):Nat:=if x % 2≠b % 2 then x / 2 ^^^ wG else x / 2
theorem ag7 (x y:Nat):(x ^^^ y) / 2=x / 2 ^^^ y / 2:=by
 have:=@Nat.shiftRight_xor_distrib 1 x y;simpa [Nat.shiftRight_eq_div_pow] using this
theorem Zm (x y:Nat):(x ^^^ y) % 2=1↔x % 2≠y % 2:=by
 rw [Nat.xor_mod_two_eq_one];omega
theorem ag8 (x b:Nat):cb (x ^^^ b)=rb x b ^^^ b / 2:=by
 unfold cb rb;rw [ag7];by_cases h:x % 2≠b % 2
 ·rw [if_pos ((Zm x b).2 h),if_pos h,Nat.xor_assoc,Nat.xor_assoc,Nat.xor_comm (b / 2) wG]
 ·rw [if_neg (fun e=>h ((Zm x b).1 e)),if_neg h]
def zI:Nat->Nat->Nat
 | 0,x=>x
 | k+1,x=>cb (zI k x)
def zJ (b:Nat):Nat->Nat->Nat
 | 0,x=>x
 | k+1,x=>rb (zJ b k x) (b / 2 ^ k)
theorem ag9 (x b:Nat):∀k,zI k (x ^^^ b)=zJ b k x ^^^ b / 2 ^ k:=by
 intro k
 induction k with
 | zero=>simp [zI,zJ]
 | succ k ih=>rw [zI,ih,ag8,zJ,Nat.pow_succ,Nat.div_div_eq_div_mul]
theorem aha {x:Nat} (h:x<4294967296):cb x<4294967296:=by
 unfold cb;split
 ·exact QW (n:=32) (by omega) (by decide)
 ·omega
theorem ahb {x:Nat} (b:Nat) (h:x<4294967296):rb x b<4294967296:=by
 unfold rb;split
 ·exact QW (n:=32) (by omega) (by decide)
 ·omega
theorem Zn {x:Nat} (h:x<4294967296):∀k,zI k x<4294967296
 | 0=>h
 | k+1=>aha (Zn h k)
theorem R9 {x:Nat} (b:Nat) (h:x<4294967296):∀k,zJ b k x<4294967296
 | 0=>h
 | k+1=>ahb _ (R9 b h k)
def qm (x:Nat) (b:UInt8):Nat:=zJ b.toNat 8 x
theorem ahc (x:Nat) (b:UInt8):zI 8 (x ^^^ b.toNat)=qm x b:=by
 rw [ag9,qm,Nat.div_eq_of_lt (by have:=b.toNat_lt;omega),Nat.xor_zero]
theorem ahd {x:Nat} (b:UInt8) (h:x<4294967296):qm x b<4294967296:=R9 _ h 8
def Sb (l:List UInt8):Nat:=l.foldl qm 4294967295
theorem Zo (l:List UInt8):∀x,x<4294967296->l.foldl qm x<4294967296:=by
 induction l with
 | nil=>intro x h;exact h
 | cons b l ih=>intro x h;exact ih _ (ahd b h)
def crc (l:List UInt8):Nat:=4294967295 - Sb l
theorem ahe (l:List UInt8):crc l<4294967296:=by unfold crc;omega
def kZ (kind:Nat) (pl:List UInt8):List UInt8:=99 :: (aS 1 kind ++ (aS 2 pl.length ++ pl))
def lf (kind:Nat) (pl:List UInt8):List UInt8:=kZ kind pl ++ aS 4 (crc (kZ kind pl))
theorem JY (kind:Nat) (pl:List UInt8):(kZ kind pl).length=pl.length+4:=by simp [kZ,iF];omega
theorem JZ (kind:Nat) (pl:List UInt8):(lf kind pl).length=pl.length+8:=by simp [lf,JY,iF]
end
section
open Go.RowKit
theorem xS {k:IntKind} {a b:Int} (h:a=b):kS (.int k a)= .returned (.int k b):=by rw [h]
theorem iv {a b:Bool} (h:a=b):kS (.bool a)= .returned (.bool b):=by rw [h]
theorem uW (e:Int) (w:World):
 av au 73 #[.int .i64 e] w fun e' w'=>e'= .returned (.int .i64 e)∧w'=w:=by
 go_enter Tryz.func73,Tryz.ntmps73;go_wp2
 go_ret;exact ⟨rfl,rfl⟩
theorem NM (a k:Int) (w:World) (ha:0<=a) (ha2:a<4294967296) (hk:0<=k) (hk2:k<4096):
 av au 194 #[.int .i64 a,.int .i64 k] w fun e' w'=>e'= .returned (.int .i64 ((a+k) % 128))∧w'=w:=by
 go_enter Tryz.func194,Tryz.ntmps194;go_wp2
 go_ret;exact ⟨rfl,rfl⟩
theorem NN (v:Int) (w:World) (h0:0<=v) (h1:v<4294967296):
 av au 154 #[.int .i64 v] w fun e' w'=>e'= .returned (.agg #[.int .i64 (bu v),.int .i64 (fa v),.int .i64 (fb v),.int .i64 (fc v),.int .i64 (fk v)])∧ak w.heap.size w w':=by
 have e1:rM .and .i64 (v / 16777216) 255=bu v:=agH _ (by omega) (by omega);have e2:rM .and .i64 (v / 1048576) 15=fa v:=RN _ (by omega) (by omega);have e3:rM .and .i64 (v / 65536) 15=fb v:=RN _ (by omega) (by omega);have e4:rM .and .i64 (v / 4096) 15=fc v:=RN _ (by omega) (by omega);have e5:rM .and .i64 v 4095=fk v:=agI _ (by omega) (by omega);go_enter Tryz.func154,Tryz.ntmps154;go_wp2
 exact cL (v:=.agg #[.int .i64 (bu v),.int .i64 (fa v),.int .i64 (fb v),.int .i64 (fc v),.int .i64 (fk v)]) (by simp [zm,Tryz.results154,go_sem]) rfl ⟨rfl,(aA _ _).alloc (ax _) _⟩
theorem ahf (v:Int) (w:World):
 av au 186 #[.int .i64 v] w fun e' w'=>e'= .returned (.bool (uR v))∧w'=w:=by
 by_cases h:0<=v
 ·go_enter Tryz.func186,Tryz.ntmps186;go_wp2
  all_goals
   go_ret;refine ⟨iv ?_,rfl⟩;simp [uR,h];omega
 ·have hd:decide (0<=v)=false:=by simpa using h
  go_enter Tryz.func186,Tryz.ntmps186;go_wp2
  all_goals
   go_ret;refine ⟨iv ?_,rfl⟩;simp [uR];omega
theorem Sc (op x y:Int) (w:World) (hx0:0<=x) (hx1:x<4294967296) (hy0:0<=y) (hy1:y<4294967296) (h2:2<=op) (h5:op<=5):
 av au 166 #[.int .i64 op,.int .i64 x,.int .i64 y] w fun e' w'=>e'= .returned (.int .i64 (wk op x y))∧w'=w:=by
 obtain ⟨b1,b2,b3,b4⟩:=agK x y hx0 hx1 hy0 hy1;have ex:=Y7 x y hx0 hx1 hy0 hy1;have hop:op=2∨op=3∨op=4∨op=5:=by omega
 clear h2 h5;rcases hop with rfl | rfl | rfl | rfl
 all_goals
  go_enter Tryz.func166,Tryz.ntmps166;go_wp2
  go_ret;refine ⟨xS ?_,rfl⟩
  first | rfl | (simp only [wk];exact agJ x y)
theorem Ec (op x y:Int) (w:World) (hx0:0<=x) (hx1:x<4294967296) (hy0:0<=y) (hy1:y<4294967296) (h2:2<=op) (h5:op<=5):
 av au 193 #[.int .i64 op,.int .i64 x,.int .i64 y] w fun e' w'=>e'= .returned (.int .i64 (wk op x y))∧w'=w:=by
 have ex:=NF x y hx0 hx1 hy0 hy1;obtain ⟨bx,wH⟩:=Y6 x y hx0 hx1 hy0 hy1;have hop:op=2∨op=3∨op=4∨op=5:=by omega
 clear h2 h5;rcases hop with rfl | rfl | rfl | rfl
 all_goals
  go_enter Tryz.func193,Tryz.ntmps193;go_wp2
  go_ret;refine ⟨xS ?_,rfl⟩;clear ex
  first | rfl | (show (x - y) % 4294967296=(x+4294967296 - y) % 4294967296;omega)
theorem J0 (v:Int) (p n:Nat) (w:World) (h0:0<=v) (h1:v<4294967296) (hp:p<=24) (hn:n<=12):
 av au 202 #[.int .i64 v,.int .i64 p,.int .i64 n] w fun e' w'=>e'= .returned (.int .i64 (shr v p % pw n))∧w'=w:=by
 go_enter Tryz.func202,Tryz.ntmps202;go_wp2
 go_loop [0,7] (fun t i=>∃j:Nat,j<=p∧i= .int .i64 j∧t= .int .i64 (shr v j)) (fun _ i=>p - (aI i).toNat)
 case atStart=>exact ⟨0,bK _,rfl,by rw [Y9]⟩
 case round=>
  obtain ⟨j,hj,rfl,rfl⟩:=hrel;have hb:=agN v j h0 h1;obtain ⟨hb0,hb1⟩:=hb;have HS:Hid (shr v (j+1)=shr v j / 2):=agM v j;by_cases hlt:j<p
  ·go_wp2
   go_round
   case rel=>exact ⟨j+1,by omega,by go_num,by rw [HS.out]⟩
   case measure=>simp [aI];omega
  ·have hjp:j=p:=by omega
   subst hjp;clear HS hlt;go_wp2
   go_loop [8,9] (fun t i=>∃j:Nat,j<=n∧i= .int .i64 j∧t= .int .i64 (pw j)) (fun _ i=>n - (aI i).toNat)
   case atStart=>exact ⟨0,bK _,rfl,rfl⟩
   case round=>
    obtain ⟨q,hq,rfl,rfl⟩:=hrel;obtain ⟨hc0,hc1⟩:=agP q (by omega);have HT:Hid (pw (q+1)=pw q * 2):=agO q;by_cases hlt:q<n
    ·go_wp2
     go_round
     case rel=>exact ⟨q+1,by omega,by go_num,by rw [HT.out]⟩
     case measure=>simp [aI];omega
    ·have Cu:q=n:=by omega
     subst Cu;have hne:(pw q == 0)=false:=by simp;omega
     go_wp2
     go_ret;exact ⟨rfl,rfl⟩
theorem uX (v:Int) (w:World) (h0:0<=v) (h1:v<4294967296):
 av au 161 #[.int .i64 v] w fun e' w'=>e'= .returned (.int .i64 (bu v))∧w'=w:=by
 go_enter Tryz.func161,Tryz.ntmps161;go_wp2_with (go_at_call 202;refine (J0 v 24 8 _ h0 h1 (by decide) (by decide)).mono ?_;rintro e w' ⟨rfl,rfl⟩)
 go_ret;exact ⟨rfl,rfl⟩
theorem uY (v:Int) (w:World) (h0:0<=v) (h1:v<4294967296):
 av au 162 #[.int .i64 v] w fun e' w'=>e'= .returned (.int .i64 (fa v))∧w'=w:=by
 go_enter Tryz.func162,Tryz.ntmps162;go_wp2_with (go_at_call 202;refine (J0 v 20 4 _ h0 h1 (by decide) (by decide)).mono ?_;rintro e w' ⟨rfl,rfl⟩)
 go_ret;exact ⟨rfl,rfl⟩
theorem uZ (v:Int) (w:World) (h0:0<=v) (h1:v<4294967296):
 av au 163 #[.int .i64 v] w fun e' w'=>e'= .returned (.int .i64 (fb v))∧w'=w:=by
 go_enter Tryz.func163,Tryz.ntmps163;go_wp2_with (go_at_call 202;refine (J0 v 16 4 _ h0 h1 (by decide) (by decide)).mono ?_;rintro e w' ⟨rfl,rfl⟩)
 go_ret;exact ⟨rfl,rfl⟩
theorem wI (v:Int) (w:World) (h0:0<=v) (h1:v<4294967296):
 av au 165 #[.int .i64 v] w fun e' w'=>e'= .returned (.int .i64 (fc v))∧w'=w:=by
 go_enter Tryz.func165,Tryz.ntmps165;go_wp2_with (go_at_call 202;refine (J0 v 12 4 _ h0 h1 (by decide) (by decide)).mono ?_;rintro e w' ⟨rfl,rfl⟩)
 go_ret;exact ⟨rfl,rfl⟩
theorem xT (v:Int) (w:World) (h0:0<=v) (h1:v<4294967296):
 av au 164 #[.int .i64 v] w fun e' w'=>e'= .returned (.int .i64 (fk v))∧w'=w:=by
 have HK:Hid (fk v=shr v 0 % pw 12):=by rw [Y9];rfl
 go_enter Tryz.func164,Tryz.ntmps164;go_wp2_with (go_at_call 202;refine (J0 v 0 12 _ h0 h1 (by decide) (by decide)).mono ?_;rintro e w' ⟨rfl,rfl⟩)
 go_ret;exact ⟨xS HK.out.symm,rfl⟩
theorem GF (v:Int) (w:World) (h0:0<=v) (h1:v<4294967296):
 av au 176 #[.int .i64 v] w fun e' w'=>e'= .returned (.bool (nH (bu v) (fa v) (fb v) (fc v)))∧w'=w:=by
 have ho:=uX v w h0 h1;have ha:=uY v w h0 h1;have hb:=uZ v w h0 h1;have hc:=wI v w h0 h1;obtain ⟨o0,o1⟩:=vZ v;obtain ⟨a0,a1⟩:=uQ v;obtain ⟨b0,b1⟩:=wj v;obtain ⟨c0,c1⟩:=xP v;generalize bu v=op at *;generalize fa v=a at *;generalize fb v=b at *;generalize fc v=c at *;have H1:=af ho;have H2:=af ha;have H3:=af hb;have H4:=af hc;clear ho ha hb hc;go_enter Tryz.func176,Tryz.ntmps176;go_wp2_with (first | (go_at_call 161;refine (aq H1).mono ?_;rintro e w' ⟨rfl,rfl⟩) | (go_at_call 162;refine (aq H2).mono ?_;rintro e w' ⟨rfl,rfl⟩) | (go_at_call 163;refine (aq H3).mono ?_;rintro e w' ⟨rfl,rfl⟩) | (go_at_call 165;refine (aq H4).mono ?_;rintro e w' ⟨rfl,rfl⟩))
 all_goals
  go_ret;refine ⟨iv ?_,rfl⟩;go_light
  try simp only [beq_iff_eq,beq_eq_false_iff_ne,ne_eq] at *
  clear H1 H2 H3 H4;unfold nH
  first | (rw [if_pos (by omega)]) | (rw [if_neg (by omega),if_pos (by omega)]) | (rw [if_neg (by omega),if_neg (by omega),if_pos (by omega)]) | (rw [if_neg (by omega),if_neg (by omega),if_neg (by omega)])
  try (first | (symm;rw [decide_eq_true_eq];omega) | (symm;rw [decide_eq_false_iff_not];omega) | (rw [decide_eq_decide];omega))
theorem zK (v:Int) (w:World) (h0:0<=v) (h1:v<4294967296):
 av au 160 #[.int .i64 v] w fun e' w'=>e'= .returned (.bool (gW (bu v) (fa v) (fb v) (fc v)))∧w'=w:=by
 have hp:=GF v w h0 h1;have ho:=uX v w h0 h1;have ha:=uY v w h0 h1;have hb:=uZ v w h0 h1;obtain ⟨o0,o1⟩:=vZ v;obtain ⟨a0,a1⟩:=uQ v;obtain ⟨b0,b1⟩:=wj v;obtain ⟨c0,c1⟩:=xP v;generalize bu v=op at *;generalize fa v=a at *;generalize fb v=b at *;generalize fc v=c at *;have H1:=af ho;have H2:=af ha;have H3:=af hb;have H4:=af hp;clear ho ha hb hp;go_enter Tryz.func160,Tryz.ntmps160;go_wp2_with (first | (go_at_call 176;refine (aq H4).mono ?_;rintro e w' ⟨rfl,rfl⟩) | (go_at_call 161;refine (aq H1).mono ?_;rintro e w' ⟨rfl,rfl⟩) | (go_at_call 162;refine (aq H2).mono ?_;rintro e w' ⟨rfl,rfl⟩) | (go_at_call 163;refine (aq H3).mono ?_;rintro e w' ⟨rfl,rfl⟩))
 all_goals
  go_ret;refine ⟨iv ?_,rfl⟩;go_light
  try simp only [beq_iff_eq,beq_eq_false_iff_ne,ne_eq] at *
  clear H1 H2 H3 H4
  first | (exact RP op a b c (by omega) (by omega) (by omega) (by omega) (by omega)) | unfold gW
  all_goals first | (rw [if_pos (by omega)]) | (rw [if_neg (by omega),if_pos (by omega)]) | (rw [if_neg (by omega),if_neg (by omega),if_pos (by omega)]) | (rw [if_neg (by omega),if_neg (by omega),if_neg (by omega),if_pos (by omega)])
  all_goals try (first | (symm;rw [decide_eq_true_eq];omega) | (symm;rw [decide_eq_false_iff_not];omega) | (rw [decide_eq_decide];omega))
theorem NP (b off n:Nat) (f:Nat->Int) (w:World) (hn:n<=128) (hc:∀i,i<n->w.cell? ⟨b,off+i,none⟩=some (.int .i64 (f i))):
 av au 148 #[.slice (some ⟨b,off,none⟩) n n] w fun e' w'=>e'= .returned (.bool (kU f n))∧w'=w:=by
 have HC:=af hc;clear hc;go_enter Tryz.func148,Tryz.ntmps148;go_wp2
 go_loop [7] (fun i=>∃j:Nat,j<=n∧i= .int .i64 j∧Hid (kU f j=true)) (fun i=>n - (aI i).toNat)
 case atStart=>exact ⟨0,bK _,rfl,RQ f⟩
 case round=>
  obtain ⟨j,hj,rfl,HJ⟩:=hrel;by_cases hlt:j<n
  ·have hcj:=aq HC j hlt;have hw:=ahf (f j) w;have HS:=af (RS f j);cases hq:uR (f j)
   ·have HF:=af (RT f n j hlt hq);rw [hq] at hw;have HW:=af hw;clear hw hq HS;go_wp2_with (go_at_call 186;refine (aq HW).mono ?_;rintro e w' ⟨rfl,rfl⟩)
    go_ret;exact ⟨iv HF.out.symm,rfl⟩
   ·rw [hq] at hw HS;have HW:=af hw;clear hw hq;go_wp2_with (go_at_call 186;refine (aq HW).mono ?_;rintro e w' ⟨rfl,rfl⟩)
    go_round
    case rel=>exact ⟨j+1,by omega,by go_num,by rw [HS.out,HJ.out];rfl⟩
    case measure=>simp [aI];omega
  ·have hjn:j=n:=by omega
   subst hjn;go_wp2
   go_ret;exact ⟨iv HJ.out.symm,rfl⟩
theorem ahh {z:List Int} (h:kU (fun i=>gz z i) 8=false):cV z=false:=by have h':Co z=false:=h;simp [cV,h']
theorem ahi {z:List Int} (h:kU (fun i=>gz z (8+i)) 128=false):cV z=false:=by have h':Cp z=false:=h;simp [cV,h']
theorem Zp {z:List Int} (hr:Co z=true) (hm:Cp z=true) (b:Bool) (h:b=D9 z):b=cV z:=by simp [cV,hr,hm,h]
theorem GG (z:List Int) (w:World) (hl:z.length=138):
 av au 95 #[.agg (S z)] w fun e' w'=>e'= .returned (.bool (cV z))∧ak w.heap.size w w':=by
 have hx:∀i,i<138->(S z)[i]? =some (.int .i64 (gz z i)):=fun i hi=>gP z i (by omega);have rU:=hx 136 (by omega);have NQ:=hx 137 (by omega);have hcell:∀i,i<138->(w.alloc (.cells (S z) 28)).cell? ⟨w.heap.size,i,none⟩=some (.int .i64 (gz z i)):=fun i hi=>by
  rw [kC (hn:=rfl)];exact hx i hi
 have H1:=af (NP w.heap.size 0 8 (fun i=>gz z i) (w.alloc (.cells (S z) 28)) (by omega) (fun i hi=>by rw [Nat.zero_add];exact hcell i (by omega)));have H2:=af (NP w.heap.size 8 128 (fun i=>gz z (8+i)) (w.alloc (.cells (S z) 28)) (by omega) (fun i hi=>hcell (8+i) (by omega)));have hb:ak w.heap.size w (w.alloc (.cells (S z) 28)):=(aA _ _).alloc (ax _) _;have HB:=af hb;clear hx hcell hb;cases hr:Co z
 ·have HF:Hid (cV z=false):=by simp [Hid,cV,hr]
  have e1:kU (fun i=>gz z i) 8=false:=hr;rw [e1] at H1;clear hr e1 H2;go_enter Tryz.func95,Tryz.ntmps95;go_wp2_with fail
  refine (aq H1).mono ?_;rintro e w' ⟨rfl,rfl⟩;go_wp2
  go_ret;exact ⟨iv HF.out.symm,HB.out⟩
 ·have e1:kU (fun i=>gz z i) 8=true:=hr;rw [e1] at H1;clear e1;cases hm:Cp z
  ·have HF:Hid (cV z=false):=by simp [Hid,cV,hm]
   have e2:kU (fun i=>gz z (8+i)) 128=false:=hm;rw [e2] at H2;clear hm hr e2;go_enter Tryz.func95,Tryz.ntmps95;go_wp2_with fail
   refine (aq H1).mono ?_;rintro e w' ⟨rfl,rfl⟩;go_wp2_with fail
   refine (aq H2).mono ?_;rintro e w' ⟨rfl,rfl⟩;go_wp2
   go_ret;exact ⟨iv HF.out.symm,HB.out⟩
  ·have HF:=af (Zp hr hm);have e2:kU (fun i=>gz z (8+i)) 128=true:=hm;rw [e2] at H2;clear hm hr e2;go_enter Tryz.func95,Tryz.ntmps95;go_wp2_with fail
   refine (aq H1).mono ?_;rintro e w' ⟨rfl,rfl⟩;go_wp2_with fail
   refine (aq H2).mono ?_;rintro e w' ⟨rfl,rfl⟩;go_wp2
   all_goals
    go_ret;refine ⟨iv (HF.out _ ?_),HB.out⟩;go_light
    clear H1 H2 HB HF rU NQ;unfold D9
    first | (symm;rw [decide_eq_true_eq];omega) | (symm;rw [decide_eq_false_iff_not];omega) | (rw [decide_eq_decide];omega)
theorem ue (z:List Int) (w:World) (hl:z.length=138):
 av au 128 #[.agg (S z)] w fun e' w'=>e'= .returned (.bool (cV z))∧ak w.heap.size w w':=by
 have hx:∀i,i<138->(S z)[i]? =some (.int .i64 (gz z i)):=fun i hi=>gP z i (by omega);have rU:=hx 136 (by omega);have NQ:=hx 137 (by omega);have HX:=af hx;have HB:Hid (ak w.heap.size w (w.alloc (.cells (S z) 28))):=(aA _ _).alloc (ax _) _;clear hx;go_enter Tryz.func128,Tryz.ntmps128;go_wp2
 go_loop [3] (fun i=>∃j:Nat,j<=8∧i= .int .i64 j∧Hid (kU (fun i=>gz z i) j=true)) (fun i=>8 - (aI i).toNat)
 case atStart=>exact ⟨0,bK _,rfl,RQ _⟩
 case round=>
  obtain ⟨j,hj,rfl,HJ⟩:=hrel;by_cases hlt:j<8
  ·have hcj:=aq HX (j) (by omega);by_cases hq:uR (gz z (j))=true
   ·obtain ⟨q0,q1⟩:=(wu _).1 hq;have HN:Hid (kU (fun i=>gz z i) (j+1)=true):=by rw [Hid,RS,HJ.out];exact hq
    clear hq;go_wp2
    go_round
    case rel=>exact ⟨j+1,by omega,by go_num,HN⟩
    case measure=>simp [aI];omega
   ·have HF:Hid (cV z=false):=ahh (RT (fun i=>gz z i) 8 j hlt (by simpa using hq));have dQ:gz z (j)<0∨4294967296<=gz z (j):=by
     rw [wu] at hq;omega
    clear hq;rcases dQ with dQ | dQ
    ·go_wp2
     go_ret;exact ⟨iv HF.out.symm,HB.out⟩
    ·have qn:0<=gz z (j):=by omega
     go_wp2
     go_ret;exact ⟨iv HF.out.symm,HB.out⟩
  ·have hjn:j=8:=by omega
   subst hjn;have HR:Hid (Co z=true):=HJ;clear HJ hlt hj;go_wp2
   go_loop [4] (fun i=>∃j:Nat,j<=128∧i= .int .i64 j∧Hid (kU (fun i=>gz z (8+i)) j=true)) (fun i=>128 - (aI i).toNat)
   case atStart=>exact ⟨0,bK _,rfl,RQ _⟩
   case round=>
    obtain ⟨j,hj,rfl,HJ⟩:=hrel;by_cases hlt:j<128
    ·have hcj:=aq HX (8+j) (by omega);by_cases hq:uR (gz z (8+j))=true
     ·obtain ⟨q0,q1⟩:=(wu _).1 hq;have HN:Hid (kU (fun i=>gz z (8+i)) (j+1)=true):=by rw [Hid,RS,HJ.out];exact hq
      clear hq;go_wp2
      go_round
      case rel=>exact ⟨j+1,by omega,by go_num,HN⟩
      case measure=>simp [aI];omega
     ·have HF:Hid (cV z=false):=ahi (RT (fun i=>gz z (8+i)) 128 j hlt (by simpa using hq));have dQ:gz z (8+j)<0∨4294967296<=gz z (8+j):=by
       rw [wu] at hq;omega
      clear hq;rcases dQ with dQ | dQ
      ·go_wp2
       go_ret;exact ⟨iv HF.out.symm,HB.out⟩
      ·have qn:0<=gz z (8+j):=by omega
       go_wp2
       go_ret;exact ⟨iv HF.out.symm,HB.out⟩
    ·have hjn:j=128:=by omega
     subst hjn;have HM:=af (Zp HR.out (show Cp z=true from HJ.out));clear HJ hlt hj HR;go_wp2
     all_goals
      go_ret;refine ⟨iv (HM.out _ ?_),HB.out⟩;go_light
      clear HM HB rU NQ HX;unfold D9
      first | (symm;rw [decide_eq_true_eq];omega) | (symm;rw [decide_eq_false_iff_not];omega) | (rw [decide_eq_decide];omega)
def J1:Nat->List UInt8
 | 0=>[104,97,108,116] | 1=>[115,101,116] | 2=>[97,100,100] | 3=>[115,117,98] | 4=>[120,111,114] | 5=>[109,117,108]
 | 6=>[108,111,97,100] | 7=>[115,116,111,114,101] | 8=>[115,97,109,101] | 9=>[106,117,109,112] | 10=>[116,117,114,110] | 11=>[119,111,114,100]
 | _=>[]
def Ed:Nat->Int
 | 0=>0 | 1=>1 | 2=>2 | 3=>3 | 4=>4 | 5=>5 | 6=>6 | 7=>7 | 8=>8 | 9=>9 | 10=>10 | 11=>-1 | _=>0
def vf:Nat->List UInt8
 | 0=>[] | 1=>[114,110] | 2=>[114,114,114] | 3=>[114,114,114] | 4=>[114,114,114] | 5=>[114,114,114]
 | 6=>[114,114,110] | 7=>[114,114,110] | 8=>[114,114,110] | 9=>[110] | 10=>[114] | 11=>[118] | _=>[]
def pQ (j:Nat):Array aj:=#[.string ⟨(J1 j).toArray⟩,.int .i64 (Ed j),.string ⟨(vf j).toArray⟩]
def qo:Array aj:=((jL 12).flatMap fun j=>(pQ j).toList).toArray
def bF (w:World):Prop:=∃t fr,w.heap[0]? =some (.cells qo t fr)
theorem bF.below {w w':World} (h:bF w) {B:Nat} (hB:0<B) (hb:ak B w w'):bF w':=by
 obtain ⟨t,fr,h⟩:=h;exact ⟨t,fr,by rw [hb.block _ hB];exact h⟩
theorem bF.pos {w:World} (h:bF w):0<w.heap.size:=by
 obtain ⟨t,fr,h⟩:=h;exact (Array.getElem?_eq_some_iff.1 h).1
theorem ahj (w:World):(qh 288 (.agg qo) (.int .i64 0)).run au w= .ok (.agg (pQ 0)) w:=by kernel_rfl
theorem ahk (w:World):(qh 288 (.agg qo) (.int .i64 1)).run au w= .ok (.agg (pQ 1)) w:=by kernel_rfl
theorem ahl (w:World):(qh 288 (.agg qo) (.int .i64 2)).run au w= .ok (.agg (pQ 2)) w:=by kernel_rfl
theorem ahm (w:World):(qh 288 (.agg qo) (.int .i64 3)).run au w= .ok (.agg (pQ 3)) w:=by kernel_rfl
theorem ahn (w:World):(qh 288 (.agg qo) (.int .i64 4)).run au w= .ok (.agg (pQ 4)) w:=by kernel_rfl
theorem aho (w:World):(qh 288 (.agg qo) (.int .i64 5)).run au w= .ok (.agg (pQ 5)) w:=by kernel_rfl
theorem ahp (w:World):(qh 288 (.agg qo) (.int .i64 6)).run au w= .ok (.agg (pQ 6)) w:=by kernel_rfl
theorem ahq (w:World):(qh 288 (.agg qo) (.int .i64 7)).run au w= .ok (.agg (pQ 7)) w:=by kernel_rfl
theorem ahr (w:World):(qh 288 (.agg qo) (.int .i64 8)).run au w= .ok (.agg (pQ 8)) w:=by kernel_rfl
theorem ahs (w:World):(qh 288 (.agg qo) (.int .i64 9)).run au w= .ok (.agg (pQ 9)) w:=by kernel_rfl
theorem aht (w:World):(qh 288 (.agg qo) (.int .i64 10)).run au w= .ok (.agg (pQ 10)) w:=by kernel_rfl
theorem ahu (w:World):(qh 288 (.agg qo) (.int .i64 11)).run au w= .ok (.agg (pQ 11)) w:=by kernel_rfl
theorem Zq (j:Nat) (hj:j<12) (w:World):(qh 288 (.agg qo) (.int .i64 j)).run au w= .ok (.agg (pQ j)) w:=by
 have h:j=0∨j=1∨j=2∨j=3∨j=4∨j=5∨j=6∨j=7∨j=8∨j=9∨j=10∨j=11:=by omega
 rcases h with rfl | rfl | rfl | rfl | rfl | rfl | rfl | rfl | rfl | rfl | rfl | rfl
 ·exact ahj w
 ·exact ahk w
 ·exact ahl w
 ·exact ahm w
 ·exact ahn w
 ·exact aho w
 ·exact ahp w
 ·exact ahq w
 ·exact ahr w
 ·exact ahs w
 ·exact aht w
 ·exact ahu w
theorem ahv (s:ByteArray) (w:World):
 av au 192 #[.string s,.string ⟨#[114]⟩] w fun e' w'=>e'= .returned (.int .i64 (Lib.countByte s.data.toList 114))∧w'=w:=by
 go_enter Tryz.func192,Tryz.ntmps192;go_wp2
 rw [run_callFunc_extern Tryz.func228 (by kernel_rfl) (by kernel_rfl) (by kernel_rfl) (e:=Extern.BytealgCount.count) (by kernel_rfl),Lib.run_countString];simp only [kN];rw [Oper.upon_value];go_wp2
 go_ret;exact ⟨rfl,rfl⟩
def GH:Array aj:=#[.string ⟨#[]⟩,.int .i64 0,.string ⟨#[]⟩]
theorem Zr (j:Nat) (h:j<11):Ed j=j:=by
 have h':j=0∨j=1∨j=2∨j=3∨j=4∨j=5∨j=6∨j=7∨j=8∨j=9∨j=10:=by omega
 rcases h' with rfl | rfl | rfl | rfl | rfl | rfl | rfl | rfl | rfl | rfl | rfl<;>rfl
theorem ahw (n:Nat) (w:World) (h0:n<=10) (ht:bF w):
 av au 191 #[.int .i64 n] w fun e' w'=>e'= .returned (.tuple #[.agg (pQ n),.bool true])∧ak w.heap.size w w':=by
 have hpos:=ht.pos;obtain ⟨tt,fr,hT⟩:=ht;have HT:Hid (∀o,(w.alloc o).heap[0]? =some (.cells qo tt fr)):=fun o=>by rw [cM w o _ hpos];exact hT
 clear hT;go_enter Tryz.func191,Tryz.ntmps191;go_wp2_with (refine qO rfl 288 _ rfl 0 rfl tt _ fr _ (HT.out _) agA rfl (by kernel_rfl) ?_)
 have H0:Hid (ak (w.heap.size+1) (w.alloc (.cells GH 245)) (w.alloc (.cells GH 245))):=aA _ _;go_loopw [7] (fun i wr=>∃j:Nat,j<=n∧i= .int .i64 j∧ak (w.heap.size+1) (w.alloc (.cells GH 245)) wr) (fun i _=>n - (aI i).toNat)
 case atStart=>exact ⟨0,bK _,rfl,aA _ _⟩
 case round=>
  obtain ⟨j,hj,rfl,nJ⟩:=hrel;have Sd:=Zq j (by omega);have e1:Ed j=j:=Zr j (by omega);have ER:Hid (pQ j=#[.string ⟨(J1 j).toArray⟩,.int .i64 j,.string ⟨(vf j).toArray⟩]):=by rw [Hid,pQ,e1]
  rw [ER.out] at Sd;clear e1;have c0:wr.cell? ⟨w.heap.size,0,none⟩=some (.string ⟨#[]⟩):=by rw [nJ.cell (p:=⟨w.heap.size,0,none⟩) (by simp),kC (hn:=rfl)];rfl
  have c1:wr.cell? ⟨w.heap.size,1,none⟩=some (.int .i64 0):=by rw [nJ.cell (p:=⟨w.heap.size,1,none⟩) (by simp),kC (hn:=rfl)];rfl
  have c2:wr.cell? ⟨w.heap.size,2,none⟩=some (.string ⟨#[]⟩):=by rw [nJ.cell (p:=⟨w.heap.size,2,none⟩) (by simp),kC (hn:=rfl)];rfl
  have fz:∀i,wr.frozen? ⟨w.heap.size,i,none⟩=false:=fun i=>by rw [nJ.frozen (p:=⟨w.heap.size,i,none⟩) (by simp),Ni (hn:=rfl)]
  have hz:w.heap.size<wr.heap.size:=by have:=nJ.size;simp at this;omega
  have HB:=af nJ;clear nJ;by_cases hjn:j=n
  ·subst hjn;have hlt:(j:Int)<12:=by omega
   go_wp2
   refine cL (v:=.tuple #[.agg #[.string ⟨(J1 j).toArray⟩,.int .i64 j,.string ⟨(vf j).toArray⟩],.bool true]) (by simp [zm,Tryz.results191,go_sem,hz,c0,c1,c2]) rfl ⟨by rw [ER.out],?_⟩;exact (((((((aA _ _).alloc (ax _) _).trans (HB.out.mono (by omega))).setCell (ax _) _).setCell (ax _) _).setCell (ax _) _).alloc (by simp;omega) _)
  ·have hne:((j:Int) == (n:Int))=false:=by simp;omega
   have hlt:(j:Int)<12:=by omega
   go_wp2
   go_roundw
   case rel=>exact ⟨j+1,by omega,by go_num,HB.out.alloc (by omega) _⟩
   case measure=>simp [aI];omega
theorem ahx (n:Int) (w:World) (h0:10<n) (ht:bF w):
 av au 191 #[.int .i64 n] w fun e' w'=>e'= .returned (.tuple #[.agg GH,.bool false])∧ak w.heap.size w w':=by
 have hpos:=ht.pos;obtain ⟨tt,fr,hT⟩:=ht;have HT:Hid (∀o,(w.alloc o).heap[0]? =some (.cells qo tt fr)):=fun o=>by rw [cM w o _ hpos];exact hT
 clear hT;go_enter Tryz.func191,Tryz.ntmps191;go_wp2_with (refine qO rfl 288 _ rfl 0 rfl tt _ fr _ (HT.out _) agA rfl (by kernel_rfl) ?_)
 go_loopw [7] (fun i wr=>∃j:Nat,j<=12∧i= .int .i64 j∧ak (w.heap.size+1) (w.alloc (.cells GH 245)) wr) (fun i _=>12 - (aI i).toNat)
 case atStart=>exact ⟨0,bK _,rfl,aA _ _⟩
 case round=>
  obtain ⟨j,hj,rfl,nJ⟩:=hrel;have c0:wr.cell? ⟨w.heap.size,0,none⟩=some (.string ⟨#[]⟩):=by rw [nJ.cell (p:=⟨w.heap.size,0,none⟩) (by simp),kC (hn:=rfl)];rfl
  have c1:wr.cell? ⟨w.heap.size,1,none⟩=some (.int .i64 0):=by rw [nJ.cell (p:=⟨w.heap.size,1,none⟩) (by simp),kC (hn:=rfl)];rfl
  have c2:wr.cell? ⟨w.heap.size,2,none⟩=some (.string ⟨#[]⟩):=by rw [nJ.cell (p:=⟨w.heap.size,2,none⟩) (by simp),kC (hn:=rfl)];rfl
  have fz:∀i,wr.frozen? ⟨w.heap.size,i,none⟩=false:=fun i=>by rw [nJ.frozen (p:=⟨w.heap.size,i,none⟩) (by simp),Ni (hn:=rfl)]
  have hz:w.heap.size<wr.heap.size:=by have:=nJ.size;simp at this;omega
  have HB:=af nJ;clear nJ;by_cases hjn:j<12
  ·have Sd:=Zq j hjn;simp only [pQ] at Sd;have hne:(Ed j == n)=false:=by
    by_cases h11:j=11
    ·subst h11;simp [Ed];omega
    ·rw [Zr j (by omega)];simp;omega
   have hlt:(j:Int)<12:=by omega
   go_wp2
   go_roundw
   case rel=>exact ⟨j+1,by omega,by go_num,HB.out.alloc (by omega) _⟩
   case measure=>simp [aI];omega
  ·have ahy:j=12:=by omega
   subst ahy;go_wp2
   refine cL (v:=.tuple #[.agg #[.string ⟨#[]⟩,.int .i64 0,.string ⟨#[]⟩],.bool false]) (by simp [zm,Tryz.results191,go_sem,c0,c1,c2]) rfl ⟨rfl,?_⟩;exact ((((((aA _ _).alloc (ax _) _).trans (HB.out.mono (by omega))).setCell (ax _) _).setCell (ax _) _).setCell (ax _) _)
def J2 (n:Nat):Nat:=Lib.countByte (vf n) 114
theorem ahz (n:Nat) (h:n<=10):J2 n<=3:=by
 have h':n=0∨n=1∨n=2∨n=3∨n=4∨n=5∨n=6∨n=7∨n=8∨n=9∨n=10:=by omega
 rcases h' with rfl | rfl | rfl | rfl | rfl | rfl | rfl | rfl | rfl | rfl | rfl<;>decide
def zL (u:Nat) (a b c:Int):Bool:=decide ((0<u->a<8)∧(1<u->b<8)∧(2<u->c<8))
theorem ahA (n:Nat) (a b c:Int) (h:n<=10):zL (J2 n) a b c=gW n a b c:=by
 have h':n=0∨n=1∨n=2∨n=3∨n=4∨n=5∨n=6∨n=7∨n=8∨n=9∨n=10:=by omega
 rcases h' with rfl | rfl | rfl | rfl | rfl | rfl | rfl | rfl | rfl | rfl | rfl<;>simp [zL,gW,J2,vf,Lib.countByte]
theorem Zs (op a b c:Int) (h:10<op):gW op a b c=false:=by
 simp [gW,show ¬op=0 by omega,show ¬op=9 by omega,show ¬op=1 by omega,show ¬op=10 by omega,show ¬op<=5 by omega,show ¬op=6 by omega,show ¬op=7 by omega,show ¬op=8 by omega]
def Ee (u:Nat) (a b c:Int) (j:Nat):Prop:=(0<j->0<u->a<8)∧(1<j->1<u->b<8)∧(2<j->2<u->c<8)
theorem ahB (x y v:aj) (w:World):(qh 248 (.agg #[x,y,v]) (.int .i64 0)).run au w= .ok x w:=by kernel_rfl
theorem ahC (x y v:aj) (w:World):(qh 248 (.agg #[x,y,v]) (.int .i64 1)).run au w= .ok y w:=by kernel_rfl
theorem ahD (x y v:aj) (w:World):(qh 248 (.agg #[x,y,v]) (.int .i64 2)).run au w= .ok v w:=by kernel_rfl
theorem ahE (op a b c k:Int) (w:World) (h0:10<op) (ht:bF w):
 av au 155 #[.agg #[.int .i64 op,.int .i64 a,.int .i64 b,.int .i64 c,.int .i64 k]] w fun e' w'=>e'= .returned (.bool (gW op a b c))∧ak w.heap.size w w':=by
 have HK:=af (Zs op a b c h0);have hT:∀o,bF (w.alloc o):=fun o=>ht.below ht.pos ((aA _ _).alloc (ax _) o);have HC:=af (fun o=>ahx op (w.alloc o) h0 (hT o));clear hT;go_enter Tryz.func155,Tryz.ntmps155;go_wp2_with fail
 refine (aq HC _).mono ?_;rintro e w1 ⟨rfl,hb⟩;have HB:=af hb;clear hb;simp only [GH];go_wp2
 go_ret;exact ⟨iv HK.out.symm,(((aA _ _).alloc (ax _) _).trans (HB.out.mono (by simp))).alloc (by have:=HB.out.size;simp at this;omega) _⟩
theorem ahF (n:Nat) (a b c k:Int) (w:World) (h0:n<=10) (ht:bF w):
 av au 155 #[.agg #[.int .i64 n,.int .i64 a,.int .i64 b,.int .i64 c,.int .i64 k]] w fun e' w'=>e'= .returned (.bool (gW n a b c))∧ak w.heap.size w w':=by
 have HK:=af (ahA n a b c h0);have hT:∀o,bF (w.alloc o):=fun o=>ht.below ht.pos ((aA _ _).alloc (ax _) o);have HC:=af (fun o=>ahw n (w.alloc o) h0 (hT o));have hu:=ahz n h0;have HQ:Hid (∀w,av au 192 #[.string ⟨(vf n).toArray⟩,.string ⟨#[114]⟩] w fun e' w'=>e'= .returned (.int .i64 (J2 n))∧w'=w):=fun w=>ahv _ w;generalize J2 n=u at *;have i0:=ahB;have i1:=ahC;have i2:=ahD;clear hT;go_enter Tryz.func155,Tryz.ntmps155;go_wp2_with fail
 refine (aq HC _).mono ?_;rintro e w1 ⟨rfl,hb⟩;have hz:w.heap.size<w1.heap.size:=by have:=hb.size;simp at this;omega
 have d0:=hb.cell (p:=⟨w.heap.size,1,none⟩) (by simp);have d1:=hb.cell (p:=⟨w.heap.size,2,none⟩) (by simp);have d2:=hb.cell (p:=⟨w.heap.size,3,none⟩) (by simp);rw [kC (hn:=rfl)] at d0 d1 d2;simp at d0 d1 d2;have HB:=af hb;clear hb;simp only [pQ];go_wp2_with fail
 refine (aq HQ _).mono ?_;rintro e w' ⟨rfl,rfl⟩;go_wp2_with fail
 have HE:Hid (ak w.heap.size w (w1.alloc (.cells #[.string ⟨(J1 n).toArray⟩,.int .i64 (Ed n),.string ⟨(vf n).toArray⟩] 245))):=(((aA _ _).alloc (ax _) _).trans (HB.out.mono (by simp))).alloc (by omega) _;go_loop [26] (fun i=>∃j:Nat,j<=3∧i= .int .i64 j∧Hid (Ee u a b c j)) (fun i=>3 - (aI i).toNat)
 case atStart=>exact ⟨0,bK _,rfl,fun h=>absurd h (by decide),fun h=>absurd h (by decide),fun h=>absurd h (by decide)⟩
 case round=>
  obtain ⟨j,hj,rfl,HR⟩:=hrel;have hj':j=0∨j=1∨j=2∨j=3:=by omega
  clear hj;rcases hj' with rfl | rfl | rfl | rfl
  ·by_cases Zt:0<u
   ·have J3:(0:Int)<(u:Int):=by omega
    by_cases hr:a<8
    ·have HN:Hid (Ee u a b c 1):=⟨fun _ _=>hr,fun _ _=>by omega,fun _ _=>by omega⟩;go_wp2
     go_round
     case rel=>exact ⟨1,by omega,rfl,HN⟩
     case measure=>simp [aI]
    ·have hr':8<=a:=by omega
     have HN:Hid (zL u a b c=false):=by simp only [Hid,zL,decide_eq_false_iff_not];omega
     clear hr;go_wp2
     go_ret;exact ⟨iv (by rw [<-HK.out,HN.out]),HE.out⟩
   ·have J3:decide ((0:Int)<(u:Int))=false:=by simp;omega
    have HN:Hid (Ee u a b c 1):=⟨fun _ _=>by omega,fun _ _=>by omega,fun _ _=>by omega⟩;go_wp2
    go_round
    case rel=>exact ⟨1,by omega,rfl,HN⟩
    case measure=>simp [aI]
  ·by_cases Zt:1<u
   ·have J3:(1:Int)<(u:Int):=by omega
    by_cases hr:b<8
    ·have HN:Hid (Ee u a b c 2):=⟨fun _ _=>(HR.out).1 (by decide) (by omega),fun _ _=>hr,fun _ _=>by omega⟩;go_wp2
     go_round
     case rel=>exact ⟨2,by omega,rfl,HN⟩
     case measure=>simp [aI]
    ·have hr':8<=b:=by omega
     have HN:Hid (zL u a b c=false):=by simp only [Hid,zL,decide_eq_false_iff_not];omega
     clear hr;go_wp2
     go_ret;exact ⟨iv (by rw [<-HK.out,HN.out]),HE.out⟩
   ·have J3:decide ((1:Int)<(u:Int))=false:=by simp;omega
    have HN:Hid (Ee u a b c 2):=⟨fun _ _=>(HR.out).1 (by decide) (by omega),fun _ _=>by omega,fun _ _=>by omega⟩;go_wp2
    go_round
    case rel=>exact ⟨2,by omega,rfl,HN⟩
    case measure=>simp [aI]
  ·by_cases Zt:2<u
   ·have J3:(2:Int)<(u:Int):=by omega
    by_cases hr:c<8
    ·have HN:Hid (Ee u a b c 3):=⟨fun _ _=>(HR.out).1 (by decide) (by omega),fun _ _=>(HR.out).2.1 (by decide) (by omega),fun _ _=>hr⟩;go_wp2
     go_round
     case rel=>exact ⟨3,by omega,rfl,HN⟩
     case measure=>simp [aI]
    ·have hr':8<=c:=by omega
     have HN:Hid (zL u a b c=false):=by simp only [Hid,zL,decide_eq_false_iff_not];omega
     clear hr;go_wp2
     go_ret;exact ⟨iv (by rw [<-HK.out,HN.out]),HE.out⟩
   ·have J3:decide ((2:Int)<(u:Int))=false:=by simp;omega
    have HN:Hid (Ee u a b c 3):=⟨fun _ _=>(HR.out).1 (by decide) (by omega),fun _ _=>(HR.out).2.1 (by decide) (by omega),fun _ _=>by omega⟩;go_wp2
    go_round
    case rel=>exact ⟨3,by omega,rfl,HN⟩
    case measure=>simp [aI]
  ·have HN:Hid (zL u a b c=true):=by simp only [Hid,zL,decide_eq_true_eq];exact ⟨(HR.out).1 (by decide),(HR.out).2.1 (by decide),(HR.out).2.2 (by decide)⟩
   go_wp2
   go_ret;exact ⟨iv (by rw [<-HK.out,HN.out]),HE.out⟩
theorem Se (op a b c k:Int) (w:World) (h0:0<=op) (ht:bF w):
 av au 155 #[.agg #[.int .i64 op,.int .i64 a,.int .i64 b,.int .i64 c,.int .i64 k]] w fun e' w'=>e'= .returned (.bool (gW op a b c))∧ak w.heap.size w w':=by
 by_cases h:10<op
 ·exact ahE op a b c k w h ht
 ·obtain ⟨n,rfl⟩:=Int.eq_ofNat_of_zero_le h0;exact ahF n a b c k w (by omega) ht
def Zu (r:Int):Bool:=decide ((97<=r∧r<=122)∨(65<=r∧r<=90)∨r=95∨128<=r)
def oT (c n:Int):Int:=if c<0 then (-(c+1)) % n else c % n
theorem Zx (c n:Int) (h:0<n):0<=oT c n∧oT c n<n:=by
 unfold oT;split
 ·exact ⟨XE _ (by omega),XF _ h⟩
 ·exact ⟨XE _ (by omega),XF _ h⟩
def ah (l:List UInt8):ByteArray:=⟨l.toArray⟩
theorem bZ (l:List UInt8):(ah l).size=l.length:=by simp [ah,axB]
theorem mC (a b:List UInt8):ah a ++ ah b=ah (a ++ b):=by
 apply ByteArray.ext;simp [ah]
theorem GL (l:List UInt8):(ah l).data.toList=l:=by simp [ah]
end
section
def aC (s:ByteArray):List UInt8:=s.data.toList
theorem jr (s:ByteArray):(aC s).length=s.size:=by unfold aC;rw [Array.length_toList];rfl
theorem nK (s:ByteArray):ah (aC s)=s:=by simp [ah,aC]
theorem kG (l:List UInt8):aC (ah l)=l:=by simp [ah,aC]
def zM (l:List UInt8):Nat:=(l.getD 2 0).toNat * 256+(l.getD 3 0).toNat
def mS (l:List UInt8):Option (Nat×List UInt8):=
 if l.length<8 then none else
 if l.length<zM l+8 then none else
 if 1<=(l.getD 1 0).toNat∧(l.getD 1 0).toNat<=3∧zM l<=200∧l.take (zM l+8)=lf (l.getD 1 0).toNat ((l.drop 4).take (zM l)) then
  some ((l.getD 1 0).toNat,(l.drop 4).take (zM l))
 else none
theorem xU {l:List UInt8} {k:Nat} {p:List UInt8} (h:mS l=some (k,p)):1<=k∧k<=3∧p.length<=200∧p.length+8<=l.length∧l.take (p.length+8)=lf k p∧k=(l.getD 1 0).toNat∧p.length=zM l∧p=(l.drop 4).take (zM l):=by
 unfold mS at h;generalize zM l=n at h⊢;generalize (l.getD 1 0).toNat=kk at h⊢;by_cases h1:l.length<8
 ·rw [if_pos h1] at h;cases h
 rw [if_neg h1] at h;by_cases h2:l.length<n+8
 ·rw [if_pos h2] at h;cases h
 rw [if_neg h2] at h;by_cases h3:1<=kk∧kk<=3∧n<=200∧l.take (n+8)=lf kk ((l.drop 4).take n)
 ·rw [if_pos h3] at h;obtain ⟨a1,a2,a3,a4⟩:=h3;cases h;have hl:((l.drop 4).take n).length=n:=by rw [List.length_take,om];omega
  rw [hl];exact ⟨a1,a2,a3,by omega,a4,rfl,rfl,rfl⟩
 ·rw [if_neg h3] at h;cases h
def ox (s:ByteArray):Bool:=decide (4<=s.size∧s.size<=32∧s.size % 4=0) && (jL (s.size / 4 - 1)).all fun j=>eV (aX s j)
theorem zN (s:ByteArray):ox s=true↔gi s:=by
 unfold ox gi;rw [Bool.and_eq_true,decide_eq_true_eq,List.all_eq_true];constructor
 ·rintro ⟨⟨h1,h2,h3⟩,h4⟩;exact ⟨h1,h2,h3,fun j hj=>h4 j (mL.2 (by omega))⟩
 ·rintro ⟨h1,h2,h3,h4⟩;exact ⟨⟨h1,h2,h3⟩,fun j hj=>h4 j (by have:=mL.1 hj;omega)⟩
structure cS where
 gen:Nat
 whole:Bool
 good:Nat
 list:List (List UInt8×List UInt8)
def kH:cS:=⟨0,false,0,[]⟩
def iH (a:cS) (k:Nat) (p:List UInt8):Option cS:=
 if a.gen=0 then (if k=1∧p.length=4∧aU (ah p) 0 4≠0 then some ⟨aU (ah p) 0 4,a.whole,a.good+(p.length+8),a.list⟩ else none)
 else if k=2 then (if p≠[]∧1+4 * (p.getD 0 0).toNat<=p.length∧ox (ah ((p.drop 1).take (4 * (p.getD 0 0).toNat)))=true then some ⟨a.gen,a.whole,a.good+(p.length+8),a.list ++ [((p.drop 1).take (4 * (p.getD 0 0).toNat),p.drop (1+4 * (p.getD 0 0).toNat))]⟩ else none)
 else if k=3 then (if a.whole=false∧p=[] then some ⟨a.gen,true,a.good+(p.length+8),a.list⟩ else none)
 else none
def nL:Nat->cS->List UInt8->cS
 | 0,a,_=>a
 | f+1,a,l=>match mS l with
   | none=>a
   | some (k,p)=>match iH a k p with
     | none=>a
     | some a'=>nL f a' (l.drop (p.length+8))
theorem Sf {a a':cS} {k:Nat} {p:List UInt8} (h:iH a k p=some a'):a'.good=a.good+(p.length+8)∧0<a'.gen∧a'.list.length<=a.list.length+1:=by
 unfold iH at h;split at h
 ·split at h
  ·rename_i h1 h2;cases h;exact ⟨rfl,by have:=h2.2.2;simp only;omega,jk _⟩
  ·cases h
 ·rename_i hg;have hg':0<a.gen:=by omega
  split at h
  ·split at h
   ·cases h;exact ⟨rfl,hg',by simp⟩
   ·cases h
  ·split at h
   ·split at h
    ·cases h;exact ⟨rfl,hg',jk _⟩
    ·cases h
   ·cases h
theorem ahI:∀(f g:Nat) (a:cS) (l:List UInt8),l.length<f->f<=g->nL g a l=nL f a l:=by
 intro f
 induction f with
 | zero=>intro g a l h;omega
 | succ f ih=>
   intro g a l hl hg;obtain ⟨g,rfl⟩:∃g',g=g'+1:=⟨g - 1,by omega⟩;rw [nL,nL];cases hf:mS l with
   | none=>rfl
   | some kp=>
     obtain ⟨k,p⟩:=kp;simp only;cases ht:iH a k p with
     | none=>rfl
     | some a'=>
       simp only;have:=(xU hf).2.2.2.1;exact ih g a' _ (by rw [om];omega) (by omega)
def scan (l:List UInt8):cS:=nL (l.length+1) kH l
end
end Go.Proofs.YtmmflekajbeamaaGreatDoor
