/- Texts of ours, joined, in few bytes. -/
import Derived.WalkSpells
import Derived.WalkLawsBesides
import Derived.Deep.WholeRow
open BitVec renaming ofInt->sM,ofInt_natCast->QX,toNat_ofNat->QY
open Bool renaming and_eq_true->gG
open ByteArray renaming get!->XD
open Go.Instr renaming loadAt->kR
open Go.IntKind renaming wrap_i64->AJ
open Go.Result renaming andThen_ok->DI
open Go.RowKit.Below renaming heap_alloc->cM
open Go renaming TypeId->cE,Value->aj,bits->rM,heap_alloc_new->bg
open Int renaming eq_ofNat_of_zero_le->j4,toNat_natCast->qM
open List.cons renaming inj->Q5,injEq->XB
open List renaming cons_append->Jq,ext_getElem?->tU,getD_eq_getElem?_getD->bP,getElem?_append_left->jN,getElem?_append_right->lD,getElem?_eq_getElem->bE,getElem?_eq_none->lE,getElem?_eq_some_iff->fG,getElem?_map->iX,getElem?_range->uN,getElem?_replicate->XH,getElem?_set->rN,getElem?_take->tW,getElem_mem->lC,length_append->dK,length_cons->jM,length_set->lU,mem_append->rO,mem_cons_of_mem->xK,mem_map->qN,mem_of_getElem?->oK,mem_or_eq_of_mem_set->Gg,mem_range->mL,nil_append->Jr,prefix_refl->Ng,range->jL,range_succ->QZ,replicate->uM
open Nat renaming add_zero->DJ,le_refl->ax,mod_eq_of_lt->Gd,mod_lt->Ce,pow_succ->Jp,sub_self->tV,xor_lt_two_pow->QW,zero_lt_succ->Jt
open Option renaming getD_some->Nf
open Or renaming inl->XI
open UInt8 renaming ofNat->iC,toNat_lt->XC,toNat_ofNat'->Gf
namespace Go.Proofs.YtmmflekajbeamaaGreatDoor
section
open Go.RowKit
theorem af {p:Prop} (h:p):Hid p:=h
theorem aq {p:Prop} (h:Hid p):p:=h
def bu (v:Int):Int:=v / 16777216 % 256
def fa (v:Int):Int:=v / 1048576 % 16
def fb (v:Int):Int:=v / 65536 % 16
def fc (v:Int):Int:=v / 4096 % 16
def fk (v:Int):Int:=v % 4096
theorem vZ (v:Int):0<=bu v∧bu v<256:=by unfold bu;omega
theorem uQ (v:Int):0<=fa v∧fa v<16:=by unfold fa;omega
theorem wj (v:Int):0<=fb v∧fb v<16:=by unfold fb;omega
theorem xP (v:Int):0<=fc v∧fc v<16:=by unfold fc;omega
theorem wm (v:Int):0<=fk v∧fk v<4096:=by unfold fk;omega
theorem RM (n:Int) (k:Nat) (m:Int) (hm:(sM 64 m).toNat=2 ^ k - 1) (h0:0<=n) (h1:n<4294967296):rM .and .i64 n m=n % (2 ^ k:Nat):=by
 have key:(sM 64 n &&& sM 64 m).toNat=(n % ((2 ^ 64:Nat):Int)).toNat % 2 ^ k:=by
  rw [BitVec.toNat_and,BitVec.toNat_ofInt,hm,Nat.and_two_pow_sub_one_eq_mod]
 show IntKind.i64.wrap ((sM 64 n &&& sM 64 m).toNat:Nat)=n % (2 ^ k:Nat)
 obtain ⟨N,rfl⟩:=j4 h0;have e:(N:Int) % ((2 ^ 64:Nat):Int)=(N:Int):=by omega
 rw [key,e,AJ,qM,<-Int.natCast_emod];have hlt:N % 2 ^ k<=N:=Nat.mod_le _ _;omega
theorem agH (n:Int) (h0:0<=n) (h1:n<4294967296):rM .and .i64 n 255=n % 256:=RM n 8 255 (by decide) h0 h1
theorem RN (n:Int) (h0:0<=n) (h1:n<4294967296):rM .and .i64 n 15=n % 16:=RM n 4 15 (by decide) h0 h1
theorem agI (n:Int) (h0:0<=n) (h1:n<4294967296):rM .and .i64 n 4095=n % 4096:=RM n 12 4095 (by decide) h0 h1
def AY (x y:Int):Int:=((x.toNat ^^^ y.toNat:Nat):Int)
theorem Y6 (x y:Int) (hx0:0<=x) (hx1:x<4294967296) (hy0:0<=y) (hy1:y<4294967296):0<=AY x y∧AY x y<4294967296:=by
 have h:x.toNat ^^^ y.toNat<2 ^ 32:=QW (by omega) (by omega);unfold AY;omega
theorem Y7 (x y:Int) (hx0:0<=x) (hx1:x<4294967296) (hy0:0<=y) (hy1:y<4294967296):rM .xor .i64 x y=AY x y:=by
 obtain ⟨a,rfl⟩:=j4 hx0;obtain ⟨b,rfl⟩:=j4 hy0;have hx:a ^^^ b<2 ^ 32:=QW (by omega) (by omega);have h1:(sM 64 (a:Int)).toNat=a:=by
  rw [QX,QY];exact Gd (by omega)
 have h2:(sM 64 (b:Int)).toNat=b:=by
  rw [QX,QY];exact Gd (by omega)
 show IntKind.i64.wrap ((sM 64 (a:Int) ^^^ sM 64 (b:Int)).toNat:Int)=_
 rw [BitVec.toNat_xor,h1,h2,AJ];unfold AY;simp only [qM];omega
theorem NF (x y:Int) (hx0:0<=x) (hx1:x<4294967296) (hy0:0<=y) (hy1:y<4294967296):rM .xor .u32 x y=AY x y:=u32_xor x y hx0 hx1 hy0 hy1
def wk (op x y:Int):Int:=if op=2 then (x+y) % 4294967296 else if op=3 then (x+4294967296 - y) % 4294967296 else if op=4 then AY x y else (x * y) % 4294967296
theorem agJ (x y:Int):(x / 65536 * y % 65536 * 65536+x % 65536 * y) % 4294967296=x * y % 4294967296:=by
 have e:x * y=(x / 65536 * y) * 65536+x % 65536 * y:=by
  have:=Int.mul_ediv_add_emod x 65536
  conv=>lhs;rw [<-this]
  rw [Int.add_mul,Int.mul_assoc,Int.mul_comm 65536]
 rw [e];generalize x / 65536 * y=p;generalize x % 65536 * y=q;omega
theorem agK (x y:Int) (hx0:0<=x) (hx1:x<4294967296) (hy0:0<=y) (hy1:y<4294967296):0<=x / 65536 * y∧x / 65536 * y<=65535 * 4294967295∧0<=x % 65536 * y∧x % 65536 * y<=65535 * 4294967295:=by
 refine ⟨Int.mul_nonneg (by omega) hy0,Int.mul_le_mul (by omega) (by omega) hy0 (by omega),Int.mul_nonneg (by omega) hy0,Int.mul_le_mul (by omega) (by omega) hy0 (by omega)⟩
def gW (op a b c:Int):Bool:=
 if op=0∨op=9 then true else if op=1∨op=10 then decide (a<8) else if 2<=op∧op<=5 then decide (a<8∧b<8∧c<8)
 else if op=6∨op=7∨op=8 then decide (a<8∧b<8) else false
def nH (op a b c:Int):Bool:=
 if op=1 then decide (a<8) else if 2<=op∧op<=5 then decide (a<8∧b<8∧c<8) else if op=6 then decide (a<8∧b<8) else false
theorem RP (op a b c:Int) (h0:op≠0) (h7:op≠7) (h8:op≠8) (h9:op≠9) (h10:op≠10):nH op a b c=gW op a b c:=by
 simp [nH,gW,h0,h7,h8,h9,h10]
def gz (z:List Int) (i:Nat):Int:=z.getD i 0
def uR (v:Int):Bool:=decide (0<=v∧v<4294967296)
def Co (z:List Int):Bool:=(jL 8).all fun i=>uR (gz z i)
def Cp (z:List Int):Bool:=(jL 128).all fun i=>uR (gz z (8+i))
def D9 (z:List Int):Bool:=decide (0<=gz z 136∧gz z 136<128∧0<=gz z 137∧gz z 137<=2)
def cV (z:List Int):Bool:=Co z && Cp z && D9 z
def cQ (z:List Int) (op a b c k:Int):List Int:=
 if op=0 then z.set 137 1
 else if op=1 then (z.set a.toNat k).set 136 ((gz z 136+1) % 128)
 else if 2<=op∧op<=5 then (z.set a.toNat (wk op (gz z b.toNat) (gz z c.toNat))).set 136 ((gz z 136+1) % 128)
 else if op=6 then (z.set a.toNat (gz z (8+((gz z b.toNat+k) % 128).toNat))).set 136 ((gz z 136+1) % 128)
 else if op=7 then (z.set (8+((gz z b.toNat+k) % 128).toNat) (gz z a.toNat)).set 136 ((gz z 136+1) % 128)
 else if op=8 then z.set 136 (if gz z a.toNat=gz z b.toNat then k % 128 else (gz z 136+1) % 128)
 else if op=9 then z.set 136 (k % 128)
 else z.set 136 (gz z a.toNat % 128)
def bT:List Int:=uM 138 0
def kT (z:List Int):Int:=gz z (8+(gz z 136).toNat)
def AZ (z:List Int):Bool:=gW (bu (kT z)) (fa (kT z)) (fb (kT z)) (fc (kT z))
def gH (z:List Int):List Int×Int:=
 if cV z=false then (bT,8) else if gz z 137≠0 then (bT,9)
 else if AZ z=false then (z.set 137 2,0)
 else (cQ z (bu (kT z)) (fa (kT z)) (fb (kT z)) (fc (kT z)) (fk (kT z)),0)
theorem wu (v:Int):uR v=true↔0<=v∧v<4294967296:=by simp [uR]
theorem sP {z:List Int} (h:cV z=true) (i:Nat) (hi:i<136):0<=gz z i∧gz z i<4294967296:=by
 simp only [cV,gG,Co,Cp,List.all_eq_true,mL] at h;by_cases h8:i<8
 ·exact (wu _).1 (h.1.1 i h8)
 ·have:=h.1.2 (i - 8) (by omega);rw [show 8+(i - 8)=i by omega] at this;exact (wu _).1 this
theorem Cq {z:List Int} (h:cV z=true):0<=gz z 136∧gz z 136<128∧0<=gz z 137∧gz z 137<=2:=by
 simp only [cV,gG,D9,decide_eq_true_eq] at h;exact h.2
def kU (f:Nat->Int) (n:Nat):Bool:=(jL n).all fun i=>uR (f i)
theorem RQ (f:Nat->Int):kU f 0=true:=rfl
theorem RS (f:Nat->Int) (n:Nat):kU f (n+1)=(kU f n && uR (f n)):=by
 simp [kU,QZ,List.all_append]
theorem RT (f:Nat->Int) (n j:Nat) (hj:j<n) (h:uR (f j)=false):kU f n=false:=by
 rw [kU,List.all_eq_false];exact ⟨j,by simpa using hj,by simp [h]⟩
theorem agL (z:List Int) (hl:z.length=138):(z.set 137 1).set 136 (gz z 136)=z.set 137 1:=by
 apply tU;intro i;by_cases h:i=136
 ·subst h;simp [hl,gz]
 ·have h':¬136=i:=fun e=>h e.symm;simp [rN,h']
def S (z:List Int):Array aj:=(z.map (Value.int .i64)).toArray
theorem bQ (z:List Int):(S z).size=z.length:=by simp [S]
theorem gP (z:List Int) (i:Nat) (h:i<z.length):(S z)[i]? =some (.int .i64 (gz z i)):=by
 simp [S,gz,h]
theorem jP (z:List Int) (i:Nat) (v:Int):(S z).setIfInBounds i (.int .i64 v)=S (z.set i v):=by
 simp [S]
theorem zE (z:List Int):(S z).all (·.oneCell')=true:=by
 rw [Array.all_eq_true_iff_forall_mem];intro x hx;simp [S] at hx;obtain ⟨a,_,rfl⟩:=hx;rfl
def bW (w:World) (n:Nat):Array aj:=match w.heap[n]? with | some (.cells c _ _)=>c | _=>#[]
def bf (w:World) (n k:Nat):Bool:=match w.heap[n]? with | some (.cells c _ fr)=>c.size == k && fr == (0,0) | _=>false
theorem zF (w:World) (c:Array aj) (t:cE) (n:Nat) (hn:n=w.heap.size):bW (w.alloc (.cells c t)) n=c:=by
 subst hn;unfold bW;rw [bg]
theorem A5 (w:World) (o:Obj) (n:Nat) (hn:n<w.heap.size):bW (w.alloc o) n=bW w n:=by
 unfold bW;rw [cM w o n hn]
theorem NG (w:World) (n:Nat):bW w.drew n=bW w n:=rfl
theorem kV (w:World) (c:Array aj) (t:cE) (n k:Nat) (hn:n=w.heap.size):bf (w.alloc (.cells c t)) n k=(c.size == k):=by
 subst hn;unfold bf;rw [bg];simp
theorem xQ (w:World) (o:Obj) (n k:Nat) (hn:n<w.heap.size):bf (w.alloc o) n k=bf w n k:=by
 unfold bf;rw [cM w o n hn]
theorem sQ (w:World) (c c':Array aj) (t:cE) (n:Nat) (hn:n=w.heap.size):(w.alloc (.cells c t)).setRow n c'=w.alloc (.cells c' t):=by
 subst hn;exact World.setRow_alloc_new w c c' t
theorem Y8 (w:World) (n:Nat) (c':Array aj):w.drew.setRow n c'=(w.setRow n c').drew:=rfl
theorem RU {P:Program} {ty:cE} {k:Nat} {d:TypeDesc} (hu:P.underlying ty=some d) (hd:(match d with | .struct _ | .array _ _=>true | _=>false)=true) (hi:(P.info? ty).map (·.size)=some k)
 (w:World) (n:Nat) (h:bf w n k=true):
 (kR ty (.pointer (some ⟨n,0,none⟩))).run P w= .ok (.agg (bW w n)) w:=by
 unfold bf at h;unfold bW;cases hg:w.heap[n]? with
 | none=>rw [hg] at h;cases h
 | some o=>
   cases o with
   | cells c t fr=>
     rw [hg] at h;simp only [gG,beq_iff_eq] at h;simp only [kR,Instr.sureAddr,Sem.run_bind,Sem.run_pure,DI];exact run_loadVar_row w n t ty c fr d hg hu hd (by rw [hi,h.1])
   | _=>rw [hg] at h;cases h
def shr (v:Int) (p:Nat):Int:=v / ((2 ^ p:Nat):Int)
def pw (n:Nat):Int:=((2 ^ n:Nat):Int)
theorem Y9 (v:Int):shr v 0=v:=by simp [shr]
theorem agM (v:Int) (p:Nat):shr v (p+1)=shr v p / 2:=by
 unfold shr;rw [Jp,Int.natCast_mul,Int.ediv_ediv_of_nonneg (Int.natCast_nonneg _)];rfl
theorem agN (v:Int) (p:Nat) (h0:0<=v) (h1:v<4294967296):0<=shr v p∧shr v p<4294967296:=by
 unfold shr;have hp:0<2 ^ p:=Nat.pow_pos (by decide);generalize 2 ^ p=q at hp⊢;refine ⟨Int.ediv_nonneg h0 (by omega),Int.lt_of_le_of_lt (Int.ediv_le_self _ h0) h1⟩
theorem agO (n:Nat):pw (n+1)=pw n * 2:=by unfold pw;rw [Jp];omega
theorem agP (n:Nat) (h:n<=12):1<=pw n∧pw n<=4096:=by
 unfold pw;have h1:1<=2 ^ n:=Nat.pow_pos (by decide);have h2:2 ^ n<=2 ^ 12:=Nat.pow_le_pow_right (by decide) h;omega
end
section
def aU (s:ByteArray) (i:Nat):Nat->Nat
 | 0=>0
 | k+1=>aU s i k * 256+(s.get! (i+k)).toNat
theorem zG (s:ByteArray) (i k:Nat):aU s i k<256 ^ k:=by
 induction k with
 | zero=>simp [aU]
 | succ k ih=>
   have:=(s.get! (i+k)).toNat_lt;rw [aU,Jp];omega
def aS:Nat->Nat->List UInt8
 | 0,_=>[]
 | k+1,v=>iC (v / 256 ^ k % 256) :: aS k v
theorem iF (k v:Nat):(aS k v).length=k:=by
 induction k with
 | zero=>rfl
 | succ k ih=>rw [aS,jM,ih]
theorem ofNat_inj {a b:Nat} (ha:a<256) (hb:b<256) (h:iC a=iC b):a=b:=by
 have:=congrArg UInt8.toNat h;rw [Gf,Gf] at this;omega
theorem agQ (k v v':Nat) (h:aS k v=aS k v'):v % 256 ^ k=v' % 256 ^ k:=by
 induction k with
 | zero=>simp [Nat.mod_one]
 | succ k ih=>
   rw [aS,aS,XB] at h;have h1:=ofNat_inj (Ce _ (by decide)) (Ce _ (by decide)) h.1;have h2:=ih h.2;rw [Jp,Nat.mod_mul,Nat.mod_mul,h1,h2]
theorem agR {v v':Nat} (hv:v<4294967296) (hv':v'<4294967296) (h:aS 4 v=aS 4 v'):v=v':=by
 have:=agQ 4 v v' h;omega
structure aH where
 kind:Nat
 d:Nat
 a:Nat
 b:Nat
 k:Nat
def putAt (s:ByteArray) (i:Nat):aH:=⟨(s.get! i).toNat,(s.get! (i+1)).toNat,(s.get! (i+2)).toNat,(s.get! (i+3)).toNat,aU s (i+4) 4⟩
def iY (p:aH):Prop:=p.d<16∧p.a<16∧p.b<16∧((p.kind=1∧p.a=0∧p.b=0)∨(2<=p.kind∧p.kind<=5∧p.k=0)∨(p.kind=6∧p.b=0∧p.k<=4095)∨(p.kind=7∧p.b=0∧p.k=0))
def okDec (p:aH):Decidable (iY p):=by unfold iY;exact inferInstance
def dO (s:ByteArray) (n:Nat):List aH:=(jL n).map fun j=>putAt s (8 * j)
theorem GA (s:ByteArray) (n:Nat):(dO s n).length=n:=by simp [dO]
theorem Za (s:ByteArray) (n:Nat):dO s (n+1)=dO s n ++ [putAt s (8 * n)]:=by simp [dO,QZ]
def oP (s:ByteArray):Prop:=s.size % 8=0∧s.size<=80∧∀j,j<s.size / 8->iY (putAt s (8 * j))
theorem agS (s:ByteArray) (i:Nat):(putAt s i).kind<256∧(putAt s i).d<256∧(putAt s i).a<256∧(putAt s i).b<256∧(putAt s i).k<4294967296:=by
 have h:=zG s (i+4) 4;exact ⟨XC _,XC _,XC _,XC _,h⟩
theorem GB {s:ByteArray} (h:oP s):∀p∈dO s (s.size / 8),iY p∧p.k<4294967296:=by
 intro p hp;obtain ⟨j,hj,rfl⟩:=qN.1 hp;exact ⟨h.2.2 j (mL.1 hj),(agS s _).2.2.2.2⟩
def eV (v:Int):Bool:=nH (bu v) (fa v) (fb v) (fc v)
def aX (s:ByteArray) (j:Nat):Nat:=aU s (4 * j) 4
theorem JU (s:ByteArray) (j:Nat):aX s j<4294967296:=zG s (4 * j) 4
def gi (s:ByteArray):Prop:=4<=s.size∧s.size<=32∧s.size % 4=0∧∀j,j+1<s.size / 4->eV (aX s j)=true
def jo (s:ByteArray):Nat:=if eV (aX s (s.size / 4 - 1))=true then s.size / 4 else s.size / 4 - 1
def dI (v:Int):aH:=
 if bu v=1 then ⟨1,(fa v).toNat,0,0,(fk v).toNat⟩ else if bu v=6 then ⟨6,(fa v).toNat,(fb v).toNat,0,(fk v).toNat⟩ else ⟨(bu v).toNat,(fa v).toNat,(fb v).toNat,(fc v).toNat,0⟩
def dD (s:ByteArray):List aH:=(jL (jo s)).map fun j=>dI (aX s j)
theorem RV {op a b c:Int} (h:nH op a b c=true):a<8∧(op=1∨(2<=op∧op<=5∧b<8∧c<8)∨(op=6∧b<8)):=by
 unfold nH at h;split at h
 ·simp at h;omega
 ·split at h
  ·simp at h;omega
  ·split at h
   ·simp at h;omega
   ·cases h
theorem RW {v:Int} (h:eV v=true):iY (dI v)∧(dI v).d<8∧(dI v).a<8∧(dI v).b<8∧(dI v).k<4096∧1<=(dI v).kind∧(dI v).kind<=6:=by
 obtain ⟨h1,h2⟩:=RV h;have b1:=uQ v;have b2:=wj v;have b3:=xP v;have b4:=wm v;have b5:=vZ v;unfold dI;split
 ·exact ⟨⟨by dsimp only;omega,by dsimp only;omega,by dsimp only;omega,.inl ⟨rfl,rfl,rfl⟩⟩,by dsimp only;omega,by dsimp only;omega,by dsimp only;omega,by dsimp only;omega,by dsimp only;omega,by dsimp only;omega⟩
 ·split
  ·exact ⟨⟨by dsimp only;omega,by dsimp only;omega,by dsimp only;omega,.inr (.inr (.inl ⟨rfl,rfl,by dsimp only;omega⟩))⟩,by dsimp only;omega,by dsimp only;omega,by dsimp only;omega,by dsimp only;omega,by dsimp only;omega,by dsimp only;omega⟩
  ·exact ⟨⟨by dsimp only;omega,by dsimp only;omega,by dsimp only;omega,.inr (.inl ⟨by dsimp only;omega,by dsimp only;omega,rfl⟩)⟩,by dsimp only;omega,by dsimp only;omega,by dsimp only;omega,by dsimp only;omega,by dsimp only;omega,by dsimp only;omega⟩
theorem uS (s:ByteArray):jo s<=s.size / 4:=by unfold jo;split<;>omega
theorem JV {s:ByteArray} (h:gi s) {j:Nat} (hj:j<jo s):eV (aX s j)=true:=by
 by_cases hl:j+1<s.size / 4
 ·exact h.2.2.2 j hl
 ·unfold jo at hj;split at hj
  ·rename_i hp;have:j=s.size / 4 - 1:=by omega
   rw [this];exact hp
  ·omega
theorem Zb {s:ByteArray} (h:gi s):∀p∈dD s,iY p∧p.k<4294967296:=by
 intro p hp;obtain ⟨j,hj,rfl⟩:=qN.1 hp;have:=RW (JV h (mL.1 hj));exact ⟨this.1,by omega⟩
def vD (l mem:List Int) (p:aH):Int:=
 if p.kind=1 then (p.k:Int) else if p.kind=6 then mem.getD ((l.getD p.a 0+(p.k:Int)) % 128).toNat 0 else if p.kind=7 then l.getD p.a 0 else wk p.kind (l.getD p.a 0) (l.getD p.b 0)
def oQ (mem:List Int) (l:List Int) (p:aH):List Int:=l.set p.d (vD l mem p)
def uT (mem:List Int) (ps:List aH) (l:List Int):List Int:=ps.foldl (oQ mem) l
def gj (aF:List Int):List Int:=aF ++ uM 8 0
def uU (q:Nat):List UInt8:=114 :: aS 1 q
def iG (v:Nat):List UInt8:=35 :: aS 4 v
def A6 (op:Nat) (x y:List UInt8):List UInt8:=40 :: (aS 1 op ++ (x ++ (y ++ [41])))
def sR (x:List UInt8) (k:Nat):List UInt8:=91 :: (x ++ (aS 2 k ++ [93]))
def mR (x:List UInt8):Bool:=x.getD 0 0 == 35
def A7 (x:List UInt8):Nat:=aU ⟨x.toArray⟩ 1 4
def kY (op:Nat) (x y:List UInt8):List UInt8:=if mR x=true∧mR y=true then iG (wk op (A7 x) (A7 y)).toNat else A6 op x y
def lG (x:List UInt8) (k:Nat):List UInt8:=if mR x=true then sR (iG ((A7 x+k) % 128)) 0 else sR x k
def vS (l:List (List UInt8)) (p:aH):List UInt8:=
 if p.kind=1 then iG p.k else if p.kind=6 then lG (l.getD p.a []) p.k else if p.kind=7 then l.getD p.a [] else kY p.kind (l.getD p.a []) (l.getD p.b [])
def eu (l:List (List UInt8)) (p:aH):List (List UInt8):=l.set p.d (vS l p)
def cY:List (List UInt8):=(jL 16).map fun q=>if q<8 then uU q else iG 0
def gI (ps:List aH):List (List UInt8):=ps.foldl eu cY
theorem ud (v:Nat) (h:v<4294967296):A7 (iG v)=v:=by
 unfold A7 iG;simp only [aU,aS];have e:∀(a b c d e:UInt8),(XD ⟨[a,b,c,d,e].toArray⟩ 1=b∧XD ⟨[a,b,c,d,e].toArray⟩ 2=c∧XD ⟨[a,b,c,d,e].toArray⟩ 3=d∧XD ⟨[a,b,c,d,e].toArray⟩ 4=e):=fun a b c d e=>⟨rfl,rfl,rfl,rfl⟩;obtain ⟨e1,e2,e3,e4⟩:=e 35 (iC (v / 256 ^ 3 % 256)) (iC (v / 256 ^ 2 % 256)) (iC (v / 256 ^ 1 % 256)) (iC (v / 256 ^ 0 % 256));rw [DJ,show 1+1=2 from rfl,show 1+2=3 from rfl,show 1+3=4 from rfl,e1,e2,e3,e4];simp only [Gf];omega
theorem Zc (v:Nat):mR (iG v)=true:=rfl
def XS (m:Nat) (x:List UInt8):Prop:=x.length<=m∧((∃v,v<4294967296∧x=iG v)∨(mR x=false∧0<x.length))
theorem A8 (op x y:Int) (hx0:0<=x) (hx1:x<4294967296) (hy0:0<=y) (hy1:y<4294967296):0<=wk op x y∧wk op x y<4294967296:=by
 unfold wk;have:=Y6 x y hx0 hx1 hy0 hy1;split
 ·omega
 ·split
  ·omega
  ·split
   ·exact this
   ·exact ⟨Int.emod_nonneg _ (by decide),Int.emod_lt_of_pos _ (by decide)⟩
theorem Zd (x:List UInt8):A7 x<4294967296:=zG _ _ _
theorem NH (v:Nat):(iG v).length=5:=rfl
theorem XS.wv {m v:Nat} (hm:5<=m) (hv:v<4294967296):XS m (iG v):=⟨hm,.inl ⟨v,hv,rfl⟩⟩
theorem XS.jn {m op:Nat} {x y:List UInt8} (hm:5<=m) (hx:XS m x) (hy:XS m y):XS (2 * m+3) (kY op x y):=by
 unfold kY;split
 ·have h:=A8 op (A7 x) (A7 y) (by omega) (by have:=Zd x;omega) (by omega) (by have:=Zd y;omega);exact XS.wv (by omega) (by omega)
 ·refine ⟨?_,.inr ⟨rfl,by simp [A6]⟩⟩;have:=hx.1;have:=hy.1;simp [A6,iF];omega
theorem XS.ld {m k:Nat} {x:List UInt8} (hm:5<=m) (hx:XS m x):XS (2 * m+3) (lG x k):=by
 unfold lG;have:=hx.1;split
 ·exact ⟨by simp [sR,iF,NH];omega,.inr ⟨rfl,by simp [sR]⟩⟩
 ·exact ⟨by simp [sR,iF];omega,.inr ⟨rfl,by simp [sR]⟩⟩
theorem XS.mono {m n:Nat} {x:List UInt8} (h:XS m x) (hmn:m<=n):XS n x:=⟨Nat.le_trans h.1 hmn,h.2⟩
def wz (m:Nat) (l:List (List UInt8)):Prop:=l.length=16∧∀x∈l,XS m x
theorem wz.at {m:Nat} {l:List (List UInt8)} (h:wz m l) {i:Nat} (hi:i<16):XS m (l.getD i []):=by
 have:i<l.length:=by rw [h.1];exact hi
 rw [bP,bE this];exact h.2 _ (lC _)
theorem wz.eC:wz 5 cY:=by
 refine ⟨by simp [cY],fun x hx=>?_⟩;obtain ⟨q,_,rfl⟩:=qN.1 hx;split
 ·exact ⟨by simp [uU,iF],.inr ⟨rfl,by simp [uU]⟩⟩
 ·exact XS.wv (by decide) (by decide)
theorem wz.step {m:Nat} {l:List (List UInt8)} {p:aH} (h:wz m l) (hm:5<=m) (hp:iY p) (hk:p.k<4294967296):wz (2 * m+3) (eu l p):=by
 refine ⟨by simp [eu,h.1],fun x hx=>?_⟩;rcases Gg hx with hx | rfl
 ·exact (h.2 x hx).mono (by omega)
 ·unfold vS;split
  ·exact XS.wv (by omega) hk
  ·split
   ·exact XS.ld hm (h.at hp.2.1)
   ·split
    ·exact (h.at hp.2.1).mono (by omega)
    ·exact XS.jn hm (h.at hp.2.1) (h.at hp.2.2.1)
def wA:Nat->Nat
 | 0=>5
 | n+1=>2 * wA n+3
theorem agT (n:Nat):5<=wA n:=by
 induction n with
 | zero=>decide
 | succ n ih=>rw [wA];omega
theorem agU {n m:Nat} (h:n<=m):wA n<=wA m:=by
 induction m with
 | zero=>rw [Nat.le_zero.1 h];exact ax _
 | succ m ih=>
   by_cases hn:n=m+1
   ·rw [hn];exact ax _
   ·have:=ih (by omega);rw [wA];omega
theorem Ze {n:Nat} (h:n<=10):wA n<=8189:=agU h
abbrev Ex:=Nat×Nat×Nat×Nat
def oR (n:Nat) (e:Ex):Prop:=
 (e.1=0∧e.2.1=0∧e.2.2.1=0∧e.2.2.2<8)∨(e.1=1∧e.2.1=0∧e.2.2.1=0∧e.2.2.2<4294967296)∨(2<=e.1∧e.1<=5∧e.2.1<n∧e.2.2.1<n∧e.2.2.2=0)∨(e.1=6∧e.2.1<n∧e.2.2.1=0∧e.2.2.2<=4095)
def jq (ds:List (List UInt8)) (e:Ex):List UInt8:=
 if e.1=0 then uU e.2.2.2 else if e.1=1 then iG e.2.2.2 else if e.1=6 then sR (ds.getD e.2.1 []) e.2.2.2 else A6 e.1 (ds.getD e.2.1 []) (ds.getD e.2.2.1 [])
structure TI (T:List Ex) (ds:List (List UInt8)):Prop where
 len:ds.length=T.length
 ok:∀(i:Nat) (e:Ex),T[i]? =some e->oR i e∧ds[i]? =some (jq ds e)
 one:∀(i j:Nat) (e:Ex),T[i]? =some e->T[j]? =some e->i=j
theorem TI.nil:TI [] []:=⟨rfl,fun i e h=>by simp at h,fun i j e h=>by simp at h⟩
theorem Zf {v v':Nat} {r r':List UInt8} (hv:v<256) (hv':v'<256) (h:aS 1 v ++ r=aS 1 v' ++ r'):v=v'∧r=r':=by
 simp only [aS,Jq,Jr,XB] at h;exact ⟨by have:=ofNat_inj (Ce _ (by decide)) (Ce _ (by decide)) h.1;omega,h.2⟩
theorem agV {v v':Nat} {r r':List UInt8} (hv:v<65536) (hv':v'<65536) (h:aS 2 v ++ r=aS 2 v' ++ r'):v=v'∧r=r':=by
 simp only [aS,Jq,Jr,XB] at h;have h1:=ofNat_inj (Ce _ (by decide)) (Ce _ (by decide)) h.1;have h2:=ofNat_inj (Ce _ (by decide)) (Ce _ (by decide)) h.2.1;exact ⟨by omega,h.2.2⟩
theorem agW {v v':Nat} {r r':List UInt8} (hv:v<4294967296) (hv':v'<4294967296) (h:aS 4 v ++ r=aS 4 v' ++ r'):v=v'∧r=r':=by
 obtain ⟨h1,h2⟩:=List.append_inj h (by rw [iF,iF]);exact ⟨agR hv hv' h1,h2⟩
theorem agX {a b:UInt8} {x y:List UInt8} (h:a :: x=b :: y) (hab:a≠b):False:=hab (Q5 h).1
theorem Zg (ds:List (List UInt8)) {n:Nat} {e:Ex} (h:oR n e):(∃v,v<8∧e=(0,0,0,v)∧jq ds e=uU v)∨(∃v,v<4294967296∧e=(1,0,0,v)∧jq ds e=iG v)∨
 (∃k a b,2<=k∧k<=5∧a<n∧b<n∧e=(k,a,b,0)∧jq ds e=A6 k (ds.getD a []) (ds.getD b []))∨(∃a k,a<n∧k<=4095∧e=(6,a,0,k)∧jq ds e=sR (ds.getD a []) k):=by
 obtain ⟨kd,a,b,v⟩:=e;unfold oR at h;simp only at h;rcases h with ⟨rfl,rfl,rfl,v0⟩ | ⟨rfl,rfl,rfl,v0⟩ | ⟨k0,GD,a0,b0,rfl⟩ | ⟨rfl,a0,rfl,v0⟩
 ·exact .inl ⟨v,v0,rfl,rfl⟩
 ·exact .inr (.inl ⟨v,v0,rfl,rfl⟩)
 ·refine .inr (.inr (.inl ⟨kd,a,b,k0,GD,a0,b0,rfl,?_⟩));unfold jq;rw [if_neg (by dsimp only;omega),if_neg (by dsimp only;omega),if_neg (by dsimp only;omega)]
 ·exact .inr (.inr (.inr ⟨a,v,a0,v0,rfl,rfl⟩))
theorem TI.pre {T:List Ex} {ds:List (List UInt8)} (h:TI T ds):∀(n i j:Nat) (r r':List UInt8),i<n->i<T.length->j<T.length->ds.getD i [] ++ r=ds.getD j [] ++ r'->i=j∧r=r':=by
 intro n
 induction n with
 | zero=>intro i j r r' hi;omega
 | succ n ih=>
   intro i j r r' hi hil hjl he;obtain ⟨ei,RX⟩:∃e,T[i]? =some e:=⟨_,bE hil⟩;obtain ⟨ej,RY⟩:∃e,T[j]? =some e:=⟨_,bE hjl⟩;obtain ⟨oi,di⟩:=h.ok i ei RX;obtain ⟨oj,dj⟩:=h.ok j ej RY;rw [bP,di,bP,dj,Nf,Nf] at he;have fin:ei=ej∧r=r'->i=j∧r=r':=fun ⟨h1,h2⟩=>⟨h.one i j ei RX (h1▸RY),h2⟩;apply fin;clear fin RX RY di dj;rcases Zg ds oi with ⟨v,hv,rfl,h1⟩ | ⟨v,hv,rfl,h1⟩ | ⟨k,a,b,k0,k1,a0,b0,rfl,h1⟩ | ⟨a,k,a0,k0,rfl,h1⟩<;>rcases Zg ds oj with ⟨v',hv',rfl,h2⟩ | ⟨v',hv',rfl,h2⟩ | ⟨k',a',b',GD,k1',a0',b0',rfl,h2⟩ | ⟨a',k',a0',GD,rfl,h2⟩
   all_goals
    rw [h1,h2] at he;simp only [uU,iG,A6,sR,Jq,List.append_assoc] at he
   all_goals try exact (agX he (by decide)).elim
   ·obtain ⟨h3,h4⟩:=Zf (by omega) (by omega) (Q5 he).2;subst h3;exact ⟨rfl,h4⟩
   ·obtain ⟨h3,h4⟩:=agW hv hv' (Q5 he).2;subst h3;exact ⟨rfl,h4⟩
   ·obtain ⟨h1,h2⟩:=Zf (by omega) (by omega) (Q5 he).2;obtain ⟨h3,h4⟩:=ih a a' _ _ (by omega) (by omega) (by omega) h2;obtain ⟨h5,h6⟩:=ih b b' _ _ (by omega) (by omega) (by omega) h4;subst h1 h3 h5;exact ⟨rfl,by simpa using h6⟩
   ·obtain ⟨h3,h4⟩:=ih a a' _ _ (by omega) (by omega) (by omega) (Q5 he).2;obtain ⟨h5,h6⟩:=agV (by omega) (by omega) h4;subst h3 h5;exact ⟨rfl,by simpa using h6⟩
theorem TI.inj {T:List Ex} {ds:List (List UInt8)} (h:TI T ds) {i j:Nat} (hi:i<T.length) (hj:j<T.length) (he:ds.getD i []=ds.getD j []):i=j:=
 (h.pre (i+1) i j [] [] (by omega) hi hj (by rw [he])).1
theorem Zh {ds:List (List UInt8)} {e:Ex} {n:Nat} (he:oR n e) (hn:n<=ds.length) (x:List (List UInt8)):jq (ds ++ x) e=jq ds e:=by
 unfold jq;unfold oR at he;rcases he with ⟨k0,_⟩ | ⟨k0,_⟩ | ⟨k0,GD,a0,b0,v0⟩ | ⟨k0,a0,b0,v0⟩
 ·rw [if_pos k0,if_pos k0]
 ·rw [if_neg (by omega),if_pos k0,if_neg (by omega),if_pos k0]
 ·simp only [bP];rw [jN (by omega),jN (by omega)]
 ·simp only [bP];rw [jN (by omega)];rw [if_neg (by omega),if_neg (by omega),if_pos k0,if_neg (by omega),if_neg (by omega),if_pos k0]
theorem TI.add {T:List Ex} {ds:List (List UInt8)} (h:TI T ds) {e:Ex} (he:oR T.length e) (hn:e∉T):TI (T ++ [e]) (ds ++ [jq ds e]):=by
 refine ⟨by simp [h.len],fun i e' hi=>?_,fun i j e' hi hj=>?_⟩
 ·by_cases hl:i<T.length
  ·rw [jN hl] at hi;obtain ⟨h1,h2⟩:=h.ok i e' hi;refine ⟨h1,?_⟩;rw [jN (by rw [h.len];exact hl),h2,Zh h1 (by rw [h.len];omega)]
  ·rw [lD (by omega)] at hi;have h0:i - T.length=0:=by
    have:=(fG.1 hi).1;simp at this;omega
   rw [h0] at hi;simp at hi;subst hi;have hi':i=T.length:=by omega
   subst hi';refine ⟨he,?_⟩;rw [lD (by rw [h.len];exact ax _),h.len,tV,Zh he (by rw [h.len];exact ax _)];rfl
 ·have key:∀k,(T ++ [e])[k]? =some e'->(k<T.length∧T[k]? =some e')∨(k=T.length∧e'=e):=fun k hk=>by
   by_cases hl:k<T.length
   ·rw [jN hl] at hk;exact .inl ⟨hl,hk⟩
   ·rw [lD (by omega)] at hk;have h0:=(fG.1 hk).1;have h1:k - T.length=0:=by simp at h0;omega
    rw [h1] at hk;simp at hk;exact .inr ⟨by omega,hk.symm⟩
  rcases key i hi with ⟨_,h1⟩ | ⟨h1,h1'⟩<;>rcases key j hj with ⟨_,h2⟩ | ⟨h2,h2'⟩
  ·exact h.one i j e' h1 h2
  ·exact absurd (oK (h2'▸h1)) hn
  ·exact absurd (oK (h1'▸h2)) hn
  ·omega
def ql (T:List Ex) (ds:List (List UInt8)) (n:Nat) (x:List UInt8):Prop:=n<T.length∧ds.getD n []=x
def More (T:List Ex) (ds:List (List UInt8)) (T':List Ex) (ds':List (List UInt8)):Prop:=T <+:T'∧ds <+:ds'
theorem More.refl (T:List Ex) (ds:List (List UInt8)):More T ds T ds:=⟨Ng _,Ng _⟩
theorem More.trans {T:List Ex} {ds:List (List UInt8)} {T':List Ex} {ds':List (List UInt8)} {T2:List Ex} {lH:List (List UInt8)} (h:More T ds T' ds') (k:More T' ds' T2 lH):More T ds T2 lH:=⟨h.1.trans k.1,h.2.trans k.2⟩
theorem ql.more {T:List Ex} {ds:List (List UInt8)} {T':List Ex} {ds':List (List UInt8)} {n:Nat} {x:List UInt8} (h:ql T ds n x) (hl:ds.length=T.length) (k:More T ds T' ds'):ql T' ds' n x:=by
 obtain ⟨⟨t,rfl⟩,⟨u,rfl⟩⟩:=k;refine ⟨by have:=h.1;simp;omega,?_⟩;rw [<-h.2,bP,bP,jN (by rw [hl];exact h.1)]
theorem More.add (T:List Ex) (ds:List (List UInt8)) (e:Ex) (x:List UInt8):More T ds (T ++ [e]) (ds ++ [x]):=⟨List.prefix_append _ _,List.prefix_append _ _⟩
theorem TI.told {T:List Ex} {ds:List (List UInt8)} (h:TI T ds) {n:Nat} {e:Ex} (hn:T[n]? =some e):ql T ds n (jq ds e):=
 ⟨(fG.1 hn).1,by rw [bP,(h.ok n e hn).2];rfl⟩
theorem TI.Zi {T:List Ex} {ds:List (List UInt8)} (h:TI T ds) (e:Ex):ql (T ++ [e]) (ds ++ [jq ds e]) T.length (jq ds e):=by
 refine ⟨by simp,?_⟩;rw [bP,<-h.len,lD (ax _),tV];rfl
theorem TI.wv {T:List Ex} {ds:List (List UInt8)} (h:TI T ds) {n:Nat} {e:Ex} (hn:T[n]? =some e):(e.1=1↔mR (ds.getD n [])=true)∧(e.1=1->ds.getD n []=iG e.2.2.2∧e.2.2.2<4294967296):=by
 obtain ⟨h1,h2⟩:=h.ok n e hn;rw [bP,h2,Nf];unfold jq;unfold oR at h1;rcases h1 with ⟨k0,_⟩ | ⟨k0,_,_,v0⟩ | ⟨k0,GD,a0,b0,v0⟩ | ⟨k0,a0,b0,v0⟩
 ·rw [if_pos k0];exact ⟨⟨fun h=>by omega,fun h=>by cases h⟩,fun h=>by omega⟩
 ·rw [if_neg (by omega),if_pos k0];exact ⟨⟨fun _=>rfl,fun _=>k0⟩,fun _=>⟨rfl,v0⟩⟩
 ·rw [if_neg (by omega),if_neg (by omega),if_neg (by omega)];exact ⟨⟨fun h=>by omega,fun h=>by cases h⟩,fun h=>by omega⟩
 ·rw [if_neg (by omega),if_neg (by omega),if_pos k0];exact ⟨⟨fun h=>by omega,fun h=>by cases h⟩,fun h=>by omega⟩
structure sS (T:List Ex) (ds:List (List UInt8)) (ns:List Nat) (l:List (List UInt8)):Prop where
 n16:ns.length=16
 A9:l.length=16
 tell:∀i,i<16->ql T ds (ns.getD i 0) (l.getD i [])
theorem uV {α:Type} (l:List α) (i j:Nat) (x z:α) (hi:i<l.length):(l.set i x).getD j z=if j=i then x else l.getD j z:=by
 rw [bP,rN,bP];by_cases h:i=j
 ·subst h;rw [if_pos rfl,if_pos rfl,if_pos hi];rfl
 ·rw [if_neg h,if_neg (fun e=>h e.symm)]
theorem sS.more {T:List Ex} {ds:List (List UInt8)} {T':List Ex} {ds':List (List UInt8)} {ns:List Nat} {l:List (List UInt8)} (h:sS T ds ns l) (hl:ds.length=T.length) (k:More T ds T' ds'):sS T' ds' ns l:=
 ⟨h.n16,h.A9,fun i hi=>(h.tell i hi).more hl k⟩
theorem sS.set {T:List Ex} {ds:List (List UInt8)} {ns:List Nat} {l:List (List UInt8)} (h:sS T ds ns l) {d n:Nat} {x:List UInt8} (hd:d<16) (ht:ql T ds n x):sS T ds (ns.set d n) (l.set d x):=by
 refine ⟨by simp [h.n16],by simp [h.A9],fun i hi=>?_⟩;rw [uV _ _ _ _ _ (by rw [h.n16];exact hd),uV _ _ _ _ _ (by rw [h.A9];exact hd)];split
 ·exact ht
 ·exact h.tell i hi
theorem Ea {α:Type} {l l':List α} {n:Nat} (z:α) (h:n<=l.length) (h':n<=l'.length):l.take n=l'.take n↔∀i,i<n->l.getD i z=l'.getD i z:=by
 constructor
 ·intro he i hi;have:(l.take n)[i]? =(l'.take n)[i]?:=by rw [he]
  rw [tW,tW,if_pos hi,if_pos hi] at this;rw [bP,bP,this]
 ·intro he;apply tU;intro i;rw [tW,tW];by_cases hi:i<n
  ·rw [if_pos hi,if_pos hi];have:=he i hi;rw [bP,bP,bE (by omega),bE (by omega)] at this;rw [bE (by omega),bE (by omega)];simpa using this
  ·rw [if_neg hi,if_neg hi]
theorem sS.same {T:List Ex} {ds:List (List UInt8)} {ns NI:List Nat} {l l':List (List UInt8)} (hT:TI T ds) (h:sS T ds ns l) (h':sS T ds NI l'):ns.take 8=NI.take 8↔l.take 8=l'.take 8:=by
 rw [Ea 0 (by rw [h.n16];decide) (by rw [h'.n16];decide),Ea [] (by rw [h.A9];decide) (by rw [h'.A9];decide)];constructor
 ·intro he i hi;rw [<-(h.tell i (by omega)).2,<-(h'.tell i (by omega)).2,he i hi]
 ·intro he i hi;exact hT.inj (h.tell i (by omega)).1 (h'.tell i (by omega)).1 (by rw [(h.tell i (by omega)).2,(h'.tell i (by omega)).2,he i hi])
theorem RZ (l:List (List UInt8)) (p:aH):(eu l p).length=l.length:=by simp [eu]
theorem Zj (ps:List aH):∀l,(ps.foldl eu l).length=l.length:=by
 induction ps with
 | nil=>intro l;rfl
 | cons p ps ih=>intro l;rw [List.foldl_cons,ih,RZ]
theorem zH (ps:List aH):(gI ps).length=16:=by unfold gI;rw [Zj];simp [cY]
theorem wC {α β:Type} (f:β->α->β) (l:List α) (b:β) (k:Nat) (x:α) (hx:l[k]? =some x):(l.take (k+1)).foldl f b=f ((l.take k).foldl f b) x:=by
 rw [List.take_add_one,hx,List.foldl_append];rfl
theorem wz.fold {ps:List aH} (h:∀p∈ps,iY p∧p.k<4294967296):∀k,k<=ps.length->wz (wA k) ((ps.take k).foldl eu cY):=by
 intro k
 induction k with
 | zero=>intro _;exact wz.eC
 | succ k ih=>
   intro hk;have hx:ps[k]? =some ps[k]:=bE (by omega);rw [wC _ _ _ _ _ hx];exact (ih (by omega)).step (agT k) (h _ (lC _)).1 (h _ (lC _)).2
def WL (n:Nat) (l:List Int):Prop:=l.length=n∧∀x∈l,0<=x∧x<4294967296
theorem WL.at {n:Nat} {l:List Int} (h:WL n l) {i:Nat} (hi:i<n):0<=l.getD i 0∧l.getD i 0<4294967296:=by
 rw [bP,bE (by rw [h.1];exact hi)];exact h.2 _ (lC _)
theorem WL.vD {l mem:List Int} {p:aH} (h:WL 16 l) (hm:WL 128 mem) (hp:iY p) (hk:p.k<4294967296):0<=vD l mem p∧vD l mem p<4294967296:=by
 unfold Proofs.YtmmflekajbeamaaGreatDoor.vD;have ha:=h.at hp.2.1;have hb:=h.at hp.2.2.1;split
 ·omega
 ·split
  ·exact hm.at (by omega)
  ·split
   ·exact ha
   ·exact A8 _ _ _ ha.1 ha.2 hb.1 hb.2
theorem WL.step {l mem:List Int} {p:aH} (h:WL 16 l) (hm:WL 128 mem) (hp:iY p) (hk:p.k<4294967296):WL 16 (oQ mem l p):=by
 refine ⟨by simp [oQ,h.1],fun x hx=>?_⟩;rcases Gg hx with hx | rfl
 ·exact h.2 x hx
 ·exact h.vD hm hp hk
theorem WL.eC {aF:List Int} (h:WL 8 aF):WL 16 (gj aF):=by
 refine ⟨by simp [gj,h.1],fun x hx=>?_⟩;unfold gj at hx;rcases rO.1 hx with hx | hx
 ·exact h.2 x hx
 ·rw [List.eq_of_mem_replicate hx];decide
theorem WL.fold {mem:List Int} {ps:List aH} (hm:WL 128 mem) (h:∀p∈ps,iY p∧p.k<4294967296):∀k l,k<=ps.length->WL 16 l->WL 16 ((ps.take k).foldl (oQ mem) l):=by
 intro k l
 induction k with
 | zero=>intro _ hl;exact hl
 | succ k ih=>
   intro hk hl;have hx:ps[k]? =some ps[k]:=bE (by omega);rw [wC _ _ _ _ _ hx];exact (ih (by omega) hl).step hm (h _ (lC _)).1 (h _ (lC _)).2
def dP:aH:=⟨0,0,0,0,0⟩
def lI (k:Nat):Bool:=decide (2<=k∧k<=5)
def pP (last:List aH) (p:aH):aH:=
 if lI p.kind=true∧(last.getD p.a dP).kind=1∧(last.getD p.b dP).kind=1 then ⟨1,p.d,0,0,(wk p.kind (last.getD p.a dP).k (last.getD p.b dP).k).toNat⟩ else p
theorem agZ (last:List aH) (p:aH):(pP last p).d=p.d:=by unfold pP;split<;>rfl
def lJ (st:List aH×List aH) (p:aH):List aH×List aH:=(st.1.set p.d (pP st.1 p),st.2 ++ [pP st.1 p])
def lK:List aH×List aH:=(uM 8 dP,[])
def knF (ps:List aH):List aH×List aH:=ps.foldl lJ lK
def wE (ps:List aH):List aH:=(knF ps).2
def okB (p:aH):Prop:=1<=p.kind∧p.kind<=6∧p.d<8∧p.a<8∧p.b<8∧p.k<4294967296∧iY p
theorem okB.kn {last:List aH} (hl:∀q∈last,q.k<4294967296) {p:aH} (h:okB p):okB (pP last p):=by
 have hb:∀i,(last.getD i dP).k<4294967296:=fun i=>by
  rw [bP];cases hi:last[i]? with
  | none=>decide
  | some q=>exact hl q (oK hi)
 unfold pP;split
 ·have:=A8 p.kind (last.getD p.a dP).k (last.getD p.b dP).k (by omega) (by have:=hb p.a;omega) (by omega) (by have:=hb p.b;omega);have h3:=h.2.2.1;exact ⟨ax _,by dsimp only;omega,h3,Jt _,Jt _,by dsimp only;omega,⟨by dsimp only;omega,Jt _,Jt _,.inl ⟨rfl,rfl,rfl⟩⟩⟩
 ·exact h
structure wF (st:List aH×List aH) (n:Nat):Prop where
 l8:st.1.length=8
 len:st.2.length=n
 bd:∀q∈st.1,q.k<4294967296
 ok:∀q∈st.2,okB q
theorem wF.zero:wF lK 0:=⟨rfl,rfl,fun q hq=>by rw [List.eq_of_mem_replicate hq];decide,fun q hq=>by cases hq⟩
theorem wF.step {st:List aH×List aH} {n:Nat} (h:wF st n) {p:aH} (hp:okB p):wF (lJ st p) (n+1):=by
 have hk:=hp.kn h.bd;refine ⟨by simp [lJ,h.l8],by simp [lJ,h.len],fun q hq=>?_,fun q hq=>?_⟩
 ·rcases Gg hq with hq | rfl
  ·exact h.bd q hq
  ·exact hk.2.2.2.2.2.1
 ·rcases rO.1 hq with hq | hq
  ·exact h.ok q hq
  ·rw [List.mem_singleton.1 hq];exact hk
theorem wF.fold {ps:List aH} (h:∀p∈ps,okB p):∀k,k<=ps.length->wF ((ps.take k).foldl lJ lK) k:=by
 intro k
 induction k with
 | zero=>intro _;exact wF.zero
 | succ k ih=>
   intro hk;have hx:ps[k]? =some ps[k]:=bE (by omega);rw [wC _ _ _ _ _ hx];exact (ih (by omega)).step (h _ (lC _))
theorem JW {ps:List aH} (h:∀p∈ps,okB p):(∀p∈wE ps,okB p)∧(wE ps).length=ps.length:=by
 have:=wF.fold h ps.length (ax _);rw [List.take_length] at this;exact ⟨this.ok,this.len⟩
theorem Cr {s:ByteArray} (h:gi s):∀p∈dD s,okB p:=by
 intro p hp;obtain ⟨j,hj,rfl⟩:=qN.1 hp;obtain ⟨h1,h2,h3,h4,h5,h6,h7⟩:=RW (JV h (mL.1 hj));exact ⟨h6,h7,h2,h3,h4,by omega,h1⟩
structure Cs (last:List aH) (l:List aH) (ix:List Nat):Prop where
 n8:ix.length=8
 at':∀r,r<8->ix.getD r 0<=l.length∧(ix.getD r 0=0->last.getD r dP=dP)∧(∀j,ix.getD r 0=j+1->l[j]? =some (last.getD r dP))
theorem Cs.zero:Cs lK.1 lK.2 (uM 8 0):=by
 refine ⟨rfl,fun r hr=>?_⟩;have h1:(uM 8 0).getD r 0=0:=by
  rw [bP,XH,if_pos hr];rfl
 have h2:lK.1.getD r dP=dP:=by
  unfold lK;rw [bP,XH,if_pos hr];rfl
 rw [h1,h2];exact ⟨Nat.zero_le _,fun _=>rfl,fun j hj=>by omega⟩
theorem Cs.step {st:List aH×List aH} {ix:List Nat} (h:Cs st.1 st.2 ix) (hl:st.1.length=8) {p:aH} (hp:p.d<8):Cs (lJ st p).1 (lJ st p).2 (ix.set p.d (st.2.length+1)):=by
 refine ⟨by simp [h.n8],fun r hr=>?_⟩;obtain ⟨h1,h2,h3⟩:=h.at' r hr;unfold lJ;dsimp only;rw [uV _ _ _ _ _ (by rw [h.n8];exact hp),uV _ _ _ _ _ (by rw [hl];exact hp)];by_cases hrd:r=p.d
 ·rw [if_pos hrd,if_pos hrd];refine ⟨by simp,fun h=>by omega,fun j hj=>?_⟩;have:j=st.2.length:=by omega
  subst this;simp
 ·rw [if_neg hrd,if_neg hrd];refine ⟨by rw [dK];omega,h2,fun j hj=>?_⟩;have:=h3 j hj;rw [jN (fG.1 this).1];exact this
def oq (p:aH) (q:Nat):Bool:=if p.kind=1 then false else if p.kind=6∨p.kind=7 then decide (p.a=q) else decide (p.a=q∨p.b=q)
def nd:List aH->Nat->Bool
 | [],_=>true
 | p :: ps,q=>if nd ps p.d=true then (if oq p q=true then true else if p.d=q then false else nd ps q) else nd ps q
def idle:List aH->List aH
 | []=>[]
 | p :: ps=>if nd ps p.d=true then p :: idle ps else idle ps
theorem R4 {p:aH}:∀{l:List aH},p∈idle l->p∈l
 | [],h=>h
 | q :: l,h=>by
   unfold idle at h;split at h
   ·rcases List.mem_cons.1 h with rfl | h
    ·exact List.mem_cons_self
    ·exact xK _ (R4 h)
   ·exact xK _ (R4 h)
theorem NK:∀l:List aH,(idle l).length<=l.length
 | []=>ax _
 | q :: l=>by
   have:=NK l;unfold idle;split
   ·simp;omega
   ·simp;omega
theorem Zk {α:Type} {l:List α} {i:Nat} {x:α} (h:l[i]? =some x):l.drop i=x :: l.drop (i+1):=by
 obtain ⟨hi,rfl⟩:=fG.1 h;exact List.drop_eq_getElem_cons hi
def sU (p:aH) (l:List Bool):List Bool:=
 let l1:=l.set p.d false
 let l2:=if p.kind=1 then l1 else l1.set p.a true
 if lI p.kind=true then l2.set p.b true else l2
theorem ag1 (p:aH) (l:List Bool):(sU p l).length=l.length:=by
 unfold sU;dsimp only;split<;>split<;>simp
def jD (ps:List aH):List Bool:=(jL 8).map (nd ps)
theorem ag2 (ps:List aH) (q:Nat) (hq:q<8) (z:Bool):(jD ps).getD q z=nd ps q:=by
 unfold jD;rw [bP,iX,uN hq];rfl
theorem rR (ps:List aH):(jD ps).length=8:=by simp [jD]
theorem ag3 {p:aH} {ps:List aH} (h:nd ps p.d=false):jD (p :: ps)=jD ps:=by
 unfold jD;apply List.map_congr_left;intro q _;rw [nd,h];rfl
theorem ag4 {p:aH} {ps:List aH} (hp:okB p) (h:nd ps p.d=true):jD (p :: ps)=sU p (jD ps):=by
 obtain ⟨k1,k6,d8,a8,b8,_,_⟩:=hp;apply tU;intro q;by_cases hq:q<8
 ·have hl:=rR ps;have e1:(jD (p :: ps))[q]? =some (nd (p :: ps) q):=by
   unfold jD;rw [iX,uN hq];rfl
  have e2:(jD ps)[q]? =some (nd ps q):=by
   unfold jD;rw [iX,uN hq];rfl
  rw [e1,nd,if_pos h];have hc:p.kind=1∨p.kind=6∨(2<=p.kind∧p.kind<=5):=by omega
  rcases hc with h1 | h6 | hm
  ·have er:oq p q=false:=by unfold oq;rw [if_pos h1]
   have ea:sU p (jD ps)=(jD ps).set p.d false:=by unfold sU lI;dsimp only;rw [if_neg (by simp;omega),if_pos h1]
   rw [er,ea,if_neg (by decide),rN,e2];by_cases hd:p.d=q
   ·rw [if_pos hd,if_pos hd,if_pos (by omega)]
   ·rw [if_neg hd,if_neg hd]
  ·have er:oq p q=decide (p.a=q):=by unfold oq;rw [if_neg (by omega),if_pos (XI h6)]
   have ea:sU p (jD ps)=((jD ps).set p.d false).set p.a true:=by unfold sU lI;dsimp only;rw [if_neg (by simp;omega),if_neg (by omega)]
   rw [er,ea,rN,rN,e2,lU,hl];by_cases ha:p.a=q
   ·rw [if_pos (decide_eq_true ha),if_pos ha,if_pos (by omega)]
   ·rw [if_neg (by simpa using ha),if_neg ha];by_cases hd:p.d=q
    ·rw [if_pos hd,if_pos hd,if_pos (by omega)]
    ·rw [if_neg hd,if_neg hd]
  ·have er:oq p q=decide (p.a=q∨p.b=q):=by unfold oq;rw [if_neg (by omega),if_neg (by omega)]
   have ea:sU p (jD ps)=(((jD ps).set p.d false).set p.a true).set p.b true:=by unfold sU lI;dsimp only;rw [if_pos (decide_eq_true hm),if_neg (by omega)]
   rw [er,ea,rN,rN,rN,e2,lU,lU,hl];by_cases hb:p.b=q
   ·rw [if_pos (decide_eq_true (Or.inr hb)),if_pos hb,if_pos (by omega)]
   ·rw [if_neg hb];by_cases ha:p.a=q
    ·rw [if_pos (decide_eq_true (XI ha)),if_pos ha,if_pos (by omega)]
    ·rw [if_neg (by simp;exact ⟨ha,hb⟩),if_neg ha];by_cases hd:p.d=q
     ·rw [if_pos hd,if_pos hd,if_pos (by omega)]
     ·rw [if_neg hd,if_neg hd]
 ·rw [lE (by rw [rR];omega),lE (by rw [ag1,rR];omega)]
def rT (p:aH):List UInt8:=iC p.kind :: iC p.d :: iC p.a :: iC p.b :: aS 4 p.k
theorem R5 (p:aH):(rT p).length=8:=rfl
def gQ (ps:List aH):List UInt8:=ps.flatMap rT
theorem ag5 (ps:List aH) (p:aH):gQ (ps ++ [p])=gQ ps ++ rT p:=by simp [gQ]
theorem JX (ps:List aH):(gQ ps).length=8 * ps.length:=by
 induction ps with
 | nil=>rfl
 | cons p ps ih=>
   have:gQ (p :: ps)=rT p ++ gQ ps:=by simp [gQ]
   rw [this,dK,ih,R5,jM];omega
def xR (s:ByteArray):List aH:=idle (wE (dD s))
theorem Eb (s:ByteArray):(dD s).length=jo s:=by simp [dD]
theorem NL {s:ByteArray} (h:gi s):(∀p∈xR s,okB p)∧(xR s).length<=jo s:=by
 obtain ⟨h1,h2⟩:=JW (Cr h);refine ⟨fun p hp=>h1 p (R4 hp),?_⟩;have:=NK (wE (dD s));rw [h2,Eb] at this;exact this
def iq (mem:List Int):Nat->Nat->Nat
 | 0,_=>0
 | f+1,p=>if p<128 then (if eV (mem.getD p 0)=true then iq mem f (p+1)+1 else 1) else 0
def gq (mem:List Int) (pc n:Nat):List Nat:=(jL n).map fun j=>(mem.getD (pc+j) 0).toNat
def aQ (ws:List Nat):List UInt8:=ws.flatMap (aS 4)
theorem Zl (mem:List Int) (pc n:Nat):gq mem pc (n+1)=gq mem pc n ++ [(mem.getD (pc+n) 0).toNat]:=by simp [gq,QZ]
theorem R6 (ws:List Nat) (v:Nat):aQ (ws ++ [v])=aQ ws ++ aS 4 v:=by simp [aQ]
theorem Ct (ws:List Nat):(aQ ws).length=4 * ws.length:=by
 induction ws with
 | nil=>rfl
 | cons v ws ih=>
   have:aQ (v :: ws)=aS 4 v ++ aQ ws:=by simp [aQ]
   rw [this,dK,ih,iF,jM];omega
theorem ag6 (mem:List Int) (pc:Nat):∀(f n:Nat),(∀j,j<n->eV (mem.getD (pc+j) 0)=true)->n+f=8->pc+n<=128->iq mem 8 pc=n+iq mem f (pc+n):=by
 intro f
 induction f with
 | zero=>
   intro n;have key:∀(g m p:Nat),(∀j,j<m->eV (mem.getD (p+j) 0)=true)->m=g->p+m<=128->iq mem g p=m:=by
    intro g
    induction g with
    | zero=>intro m p _ hm _;rw [hm];rfl
    | succ g ih=>
      intro m p h hm hp;rw [iq,if_pos (by omega),if_pos (by have:=h 0 (by omega);simpa using this),ih (m - 1) (p+1) (fun j hj=>by have:=h (j+1) (by omega);rw [show p+1+j=p+(j+1) by omega];exact this) (by omega) (by omega)];omega
   intro h hn hp;have hn':n=8:=by omega
   subst hn';rw [key 8 8 pc h rfl hp];rfl
 | succ f ih=>
   intro n h hn hp;by_cases hlt:pc+n<128
   ·by_cases hpl:eV (mem.getD (pc+n) 0)=true
    ·have:=ih (n+1) (fun j hj=>by
      by_cases hjn:j=n
      ·subst hjn;exact hpl
      ·exact h j (by omega)) (by omega) (by omega)
     rw [this,iq,if_pos hlt,if_pos hpl,Nat.add_assoc pc n 1];omega
    ·have key:∀(m g p:Nat),(∀j,j<m->eV (mem.getD (p+j) 0)=true)->m<g->p+m<128->¬eV (mem.getD (p+m) 0)=true->iq mem g p=m+1:=by
      intro m
      induction m with
      | zero=>
        intro g p _ hg hp hno;obtain ⟨g,rfl⟩:∃g',g=g'+1:=⟨g - 1,by omega⟩;rw [DJ] at hp hno;rw [iq,if_pos hp,if_neg hno]
      | succ m R8=>
        intro g p hj hg hp hno;obtain ⟨g,rfl⟩:∃g',g=g'+1:=⟨g - 1,by omega⟩;rw [iq,if_pos (by omega),if_pos (by have:=hj 0 (by omega);simpa using this)];rw [R8 g (p+1) (fun j hj'=>by have:=hj (j+1) (by omega);rw [show p+1+j=p+(j+1) by omega];exact this) (by omega) (by omega) (by rw [show p+1+m=p+(m+1) by omega];exact hno)]
     rw [key n 8 pc h (by omega) hlt hpl,iq,if_pos hlt,if_neg hpl]
   ·have key:∀(m g p:Nat),(∀j,j<m->eV (mem.getD (p+j) 0)=true)->m<=g->p+m=128->iq mem g p=m:=by
     intro m
     induction m with
     | zero=>
       intro g p _ _ hp;cases g with
       | zero=>rfl
       | succ g=>rw [iq,if_neg (by omega)]
     | succ m R8=>
       intro g p hj hg hp;obtain ⟨g,rfl⟩:∃g',g=g'+1:=⟨g - 1,by omega⟩;rw [iq,if_pos (by omega),if_pos (by have:=hj 0 (by omega);simpa using this)];rw [R8 g (p+1) (fun j hj'=>by have:=hj (j+1) (by omega);rw [show p+1+j=p+(j+1) by omega];exact this) (by omega) (by omega)]
    rw [key n 8 pc h (by omega) (by omega),iq,if_neg hlt];omega
def mB (mem:List Int) (pc:Nat):List UInt8:=aQ (gq mem pc (iq mem 8 pc))
end
end Go.Proofs.YtmmflekajbeamaaGreatDoor
