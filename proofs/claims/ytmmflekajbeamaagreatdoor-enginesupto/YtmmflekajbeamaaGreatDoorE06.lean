/- Texts of ours, joined, in few bytes. -/
import Derived.Test.YtmmflekajbeamaaGreatDoorE05
import Derived.Deep.RegionHeld3
import Derived.Deep.DrawnRows
open Go renaming Calls->av,Ending->eL,Oper->bI,TypeId->cE,Value->aj,below_drewN->dH,heap_alloc_new->bg,wpList->nA,wpStill_nil->jC,zeroValue->DM
open Go.Calls renaming quiet_of_same->XX
open Go.Proofs.Tryz renaming func206->XV,func239->XZ,ntmps206->XW,ntmps239->X5,prog->au
open Go.Result renaming andThen->kN
open Go.RowKit renaming Below->ak,intOf->aI
open Go.RowKit.Below renaming refl->aA
open Go.Value renaming int->cI
open Go.World renaming new_ne->XY
open Int renaming eq_ofNat_of_zero_le->j4
open List renaming drop_succ_cons->j6,drop_zero->iE,getD_eq_getElem?_getD->bP,getElem?_append_left->jN,getElem?_append_right->lD,getElem?_eq_getElem->bE,getElem?_eq_none->lE,getElem?_eq_some_iff->fG,getElem?_map->iX,take_succ_cons->j5,take_zero->jU
open Nat renaming le_of_lt->iP,le_refl->ax,le_trans->aT,sub_self->tV,succ_mul->Gn,zero_le->bK
namespace Go.Proofs.YtmmflekajbeamaaGreatDoor
set_option maxRecDepth 100000
set_option maxHeartbeats 2000000
section
open Go.RowKit Go.Maps Go.WideMaps
theorem Oo {α:Type} (f:α->List aj) (m:Nat) (hf:∀a,(f a).length=m):∀(l:List α) (k:Nat) (x:α),l[k]? =some x->∀j,j<m->(l.flatMap f)[k * m+j]? =(f x)[j]?:=by
 intro l
 induction l with
 | nil=>intro k x hk;simp at hk
 | cons a l ih=>
   intro k x hk j hj;rw [List.flatMap_cons]
   match k,hk with
   | 0,hk=>
     simp at hk;subst hk;rw [Nat.zero_mul,Nat.zero_add,jN (by rw [hf];exact hj)]
   | k+1,hk=>
     rw [lD (by rw [hf,Gn];omega),hf,show (k+1) * m+j - m=k * m+j by rw [Gn];omega];exact ih k x (by simpa using hk) j hj
theorem aaf {α:Type} (f:α->List aj) (m:Nat) (hf:∀a,(f a).length=m) (l:List α):(l.flatMap f).length=l.length * m:=by
 induction l with
 | nil=>simp
 | cons a l ih=>rw [List.flatMap_cons,List.length_append,hf,ih,List.length_cons,Gn];omega
theorem SB {w:World} {B:Nat} {g cap:Nat} {T:List Ex} (h:w.ownsRow B 322 4 (.slice (some ⟨g,0,none⟩) T.length cap) T.length (Bf T)) (n:Nat) (e:Ex) (hn:T[n]? =some e):
 w.cell? ⟨g,n * 4,none⟩=some (.int .i64 (e.1:Int))∧w.cell? ⟨g,n * 4+1,none⟩=some (.int .i64 (e.2.1:Int))∧w.cell? ⟨g,n * 4+1+1,none⟩=some (.int .i64 (e.2.2.1:Int))∧w.cell? ⟨g,n * 4+1+1+1,none⟩=some (.int .i64 (e.2.2.2:Int)):=by
 have hlt:n<T.length:=(fG.1 hn).1;have key:=Oo nQ 4 (fun _=>rfl) T n e hn;have k0:=key 0 (by decide);have k1:=key 1 (by decide);have k2:=key 2 (by decide);have k3:=key 3 (by decide);refine ⟨?_,?_,?_,?_⟩
 ·rw [h.cellAt _ (by omega)];exact k0
 ·rw [h.cellAt _ (by omega)];exact k1
 ·rw [h.cellAt _ (by omega)];exact k2
 ·rw [h.cellAt _ (by omega)];exact k3
def mF (B N b:Nat) (T:List Ex) (ds:List (List UInt8)) (w:World) (m:Nat) (x:List UInt8) (e':eL) (w':World):Prop:=
 ∃n T' ds' v',e'= .returned (.int .i64 ((n:Nat):Int))∧fT B N T' b v' w'∧TI T' ds'∧More T ds T' ds'∧ql T' ds' n x∧iJ B N b w w'∧T'.length<=T.length+m
theorem Kr {B N b:Nat} {T:List Ex} {ds:List (List UInt8)} {w:World} {e:Ex} {e':eL} {w':World} (hT:TI T ds) (he:oR T.length e) (h:Sz B N b T w e e' w'):mF B N b T ds w 1 (jq ds e) e' w':=by
 obtain ⟨n,T',v',h1,h2,h3,⟨rfl,h5⟩ | ⟨rfl,rfl,h6⟩⟩:=h
 ·exact ⟨n,_,ds,v',h1,h2,hT,More.refl _ _,hT.told h5,h3,by omega⟩
 ·exact ⟨_,_,ds ++ [jq ds e],v',h1,h2,hT.add he h6,More.add _ _ _ _,hT.Zi e,h3,by simp⟩
theorem Oq (B N:Nat) (T:List Ex) (ds:List (List UInt8)) (b:Nat) (v:aj) (c:Nat) (w:World) (h:fT B N T b v w) (hT:TI T ds) (hc:c<4294967296) (hl:T.length<=1000):
 av au 238 #[.pointer (some ⟨N,0,none⟩),.int .i64 (c:Int)] w (mF B N b T ds w 1 (iG c)):=by
 have he:oR T.length (1,0,0,c):=.inr (.inl ⟨rfl,rfl,rfl,hc⟩);have hh:av au 253 #[.pointer (some ⟨N,0,none⟩),.agg #[.int .i64 1,.int .i64 0,.int .i64 0,.int .i64 (c:Int)]] w (mF B N b T ds w 1 (iG c)):=
  (Kn B N T ds b v (1,0,0,c) w h hT (Kk he hl) hl).mono fun _ _ hp=>Kr hT he hp
 have HH:=af hh;clear hh he;go_enter Tryz.func238,Tryz.ntmps238;go_wp2_with fail
 refine (aq HH).mono ?_;rintro e w1 ⟨n,T',ds',v',rfl,h2⟩;have H2:=af h2;clear h2;go_wp2_with fail
 go_ret;exact ⟨n,T',ds',v',rfl,H2.out⟩
theorem aiH (B N:Nat) (T:List Ex) (ds:List (List UInt8)) (b:Nat) (v:aj) (q:Nat) (w:World) (h:fT B N T b v w) (hT:TI T ds) (hq:q<8) (hl:T.length<=1000):
 av au 237 #[.pointer (some ⟨N,0,none⟩),.int .i64 (q:Int)] w (mF B N b T ds w 1 (uU q)):=by
 have he:oR T.length (0,0,0,q):=.inl ⟨rfl,rfl,rfl,hq⟩;have hh:av au 253 #[.pointer (some ⟨N,0,none⟩),.agg #[.int .i64 0,.int .i64 0,.int .i64 0,.int .i64 (q:Int)]] w (mF B N b T ds w 1 (uU q)):=
  (Kn B N T ds b v (0,0,0,q) w h hT (Kk he hl) hl).mono fun _ _ hp=>Kr hT he hp
 have HH:=af hh;clear hh he;go_enter Tryz.func237,Tryz.ntmps237;go_wp2_with fail
 refine (aq HH).mono ?_;rintro e w1 ⟨n,T',ds',v',rfl,h2⟩;have H2:=af h2;clear h2;go_wp2_with fail
 go_ret;exact ⟨n,T',ds',v',rfl,H2.out⟩
theorem aiI (B N:Nat) (T:List Ex) (ds:List (List UInt8)) (b:Nat) (v:aj) (a k:Nat) (x:List UInt8) (w:World) (h:fT B N T b v w) (hT:TI T ds) (ha:ql T ds a x) (hk:k<=4095) (hl:T.length<=900):
 av au 254 #[.pointer (some ⟨N,0,none⟩),.int .i64 (a:Int),.int .i64 (k:Int)] w (mF B N b T ds w 2 (lG x k)):=by
 have hBw:B<=w.heap.size:=aT h.bN (iP h.mE);obtain ⟨e,hn⟩:∃e,T[a]? =some e:=⟨_,bE ha.1⟩;obtain ⟨hc1,hc2⟩:=hT.wv hn;rw [ha.2] at hc1 hc2;have hax:ds.getD a []=x:=ha.2;obtain ⟨g,cap,rfl,_,hgl⟩:=h.ls.form (by have:=ha.1;omega);obtain ⟨x0,x1,x2,x3⟩:=SB h.ls a e hn;have c1:=h.c1;have ha':(a:Int)<(T.length:Int):=by have:=ha.1;omega
 have hal:=ha.1;have HP:=af h;have HT:=af hT;obtain ⟨ek,ea,eb,ev⟩:=e;simp only at x0 x1 x2 x3 hc1 hc2;have hb1:∀o,ak w.heap.size w (w.alloc o):=fun o=>(aA _ _).alloc (ax _) _;have aJ:=af hb1;clear h hT hb1;by_cases Er:ek=1
 ·subst Er;obtain ⟨hx,hev⟩:=hc2 rfl;have HX:Hid (lG x k=sR (iG ((ev+k) % 128)) 0):=by unfold Hid lG;rw [if_pos (hc1.1 rfl),hx,ud _ hev]
  have HA:=af (fun w'=>NM ev k w' (by omega) (by omega) (by omega) (by omega));have e1:((ev:Int)+(k:Int)) % 128=(((ev+k) % 128:Nat):Int):=by omega
  rw [e1] at HA;have G5:=af (fun o=>Oq B N T ds b _ ((ev+k) % 128) (w.alloc o) (HP.out.alloc o) HT.out (by omega) (by omega));have hcl:(ev+k) % 128<128:=Nat.mod_lt _ (by decide);generalize (ev+k) % 128=c at *;clear e1 hc1 hc2;go_enter Tryz.func254,Tryz.ntmps254;go_wp2_with fail
  refine (aq HA _).mono ?_;rintro e w' ⟨rfl,hw⟩;obtain rfl:=hw.symm;go_wp2_with fail
  refine (aq G5 _).mono ?_;rintro e w2 ⟨n,T',ds',v',rfl,h2,h3,h4,h5,h6,h7⟩;have he:oR T'.length (6,n,0,0):=.inr (.inr (.inr ⟨rfl,h5.1,rfl,by dsimp only;omega⟩));have hst:jq ds' (6,n,0,0)=lG x k:=by
   rw [HX.out];unfold jq;rw [if_neg (by dsimp only;omega),if_neg (by dsimp only;omega),if_pos rfl];dsimp only;rw [h5.2]
  have hh:av au 253 #[.pointer (some ⟨N,0,none⟩),.agg #[.int .i64 6,.int .i64 (n:Int),.int .i64 0,.int .i64 0]] w2 (mF B N b T' ds' w2 1 (jq ds' (6,n,0,0))):=
   (Kn B N T' ds' b v' (6,n,0,0) w2 h2 h3 (Kk he (by omega)) (by omega)).mono fun _ _ hp=>Kr h3 he hp
  rw [hst] at hh;have HH:=af hh;have H4:=af h4;have H6:=af ((iJ.above hBw (aJ.out _)).trans h6);have H7:=af h7;clear hh he hst h2 h3 h4 h5 h6 h7;go_wp2_with fail
  refine (aq HH).mono ?_;rintro e w3 ⟨n3,T3,ds3,v3,rfl,q2,q3,q4,q5,q6,q7⟩;have HQ:Hid (mF B N b T ds w 2 (lG x k) (.returned (.int .i64 (n3:Int))) w3):=⟨n3,T3,ds3,v3,rfl,q2,q3,H4.out.trans q4,q5,H6.out.trans q6,by have:=H7.out;omega⟩;clear q2 q3 q4 q5 q6 q7;go_wp2_with fail
  go_ret;exact HQ.out
 ·have hcf:mR x=false:=by
   cases hq:mR x
   ·rfl
   ·exact absurd (hc1.2 hq) Er
  have HX:Hid (lG x k=sR x k):=by unfold Hid lG;rw [if_neg (by rw [hcf];decide)]
  have q1:((ek:Int) == 1)=false:=by simp;omega
  have he:oR T.length (6,a,0,k):=.inr (.inr (.inr ⟨rfl,hal,rfl,hk⟩));have hst:jq ds (6,a,0,k)=lG x k:=by
   rw [HX.out];unfold jq;rw [if_neg (by dsimp only;omega),if_neg (by dsimp only;omega),if_pos rfl];dsimp only;rw [hax]
  have hh:∀o,av au 253 #[.pointer (some ⟨N,0,none⟩),.agg #[.int .i64 6,.int .i64 (a:Int),.int .i64 0,.int .i64 (k:Int)]] (w.alloc o) (mF B N b T ds (w.alloc o) 1 (jq ds (6,a,0,k))):=fun o=>
   (Kn B N T ds b _ (6,a,0,k) (w.alloc o) (HP.out.alloc o) HT.out (Kk he (by omega)) (by omega)).mono fun _ _ hp=>Kr HT.out he hp
  rw [hst] at hh;have HH:=af hh;clear hh he hst hc1 hc2 Er hcf;go_enter Tryz.func254,Tryz.ntmps254;go_wp2_with fail
  refine (aq HH _).mono ?_;rintro e w3 ⟨n3,T3,ds3,v3,rfl,q2,q3,q4,q5,q6,q7⟩;have HQ:Hid (mF B N b T ds w 2 (lG x k) (.returned (.int .i64 (n3:Int))) w3):=⟨n3,T3,ds3,v3,rfl,q2,q3,q4,q5,(iJ.above hBw (aJ.out _)).trans q6,by omega⟩;clear q2 q3 q4 q5 q6 q7;go_wp2_with fail
  go_ret;exact HQ.out
end
section
open Go.RowKit
theorem s7 {ty:cE} {k:Nat} {d:TypeDesc} (hd:(match d with | .struct _ | .array _ _=>true | _=>false)=true) (hu:Tryz.prog.underlying ty=some d) (hi:(Tryz.prog.info? ty).map (·.size)=some k)
 {ops:Array bI} {rest:List bI} {o:bI} {a:Act} {w:World} {Q:Exit->Act->World->Prop} (hgd:o.guard=none) (x:Operand) (ho:o.op= .load ty x)
 (n:Nat) (hx:a.eval x= .pointer (some ⟨n,0,none⟩)) (hr:bf w n k=true) (c:Array aj) (hc:bW w n=c)
 (h:nA au ops Q rest (a.put o.dst (.agg c)) w):nA au ops Q (o :: rest) a w:=by
 subst hc;obtain ⟨t,hg,hs⟩:=Cv hr;cases d<;>first | exact wpList_load_row hgd ty x ho n hx t _ (0,0) _ hg hu rfl (by rw [hi,hs]) h | cases hd
theorem pU {ty:cE} {k:Nat} (hi:(Tryz.prog.info? ty).map (·.size)=some k)
 {ops:Array bI} {rest:List bI} {o:bI} {a:Act} {w:World} {Q:Exit->Act->World->Prop} (hgd:o.guard=none) (x y:Operand) (ho:o.op= .store ty x y)
 (n:Nat) (hx:a.eval x= .pointer (some ⟨n,0,none⟩)) (z:List Int) (hy:a.eval y= .agg (S z)) (hz:z.length=k) (hr:bf w n k=true) (w':World) (hw:w.setRow n (S z)=w')
 (h:nA au ops Q rest (a.put o.dst undef) w'):nA au ops Q (o :: rest) a w:=by
 subst hw;obtain ⟨t,hg,hs⟩:=Cv hr;exact wpList_store_row hgd ty x y ho n (S z) hx hy t _ hg (by rw [hi,bQ,hz]) (by rw [hs,bQ,hz]) (zE z) h
theorem Es:(Tryz.prog.info? 25).map (·.size)=some 8:=by kernel_rfl
theorem aag:(Tryz.prog.info? 222).map (·.size)=some 16:=by kernel_rfl
theorem aiJ:(Tryz.prog.info? 26).map (·.size)=some 128:=by kernel_rfl
theorem aiK (p:aH) (l mem:List Int) (w:World) (hp:iY p) (hl:WL 16 l) (hm:WL 128 mem):
 av au 206 #[.agg (eM p),.agg (S l),.agg (S mem)] w fun e' w'=>e'= .returned (.int .i64 (vD l mem p))∧ak w.heap.size w w':=by
 have bn:∀o1 o2 o3,ak w.heap.size w (((w.alloc o1).alloc o2).alloc o3):=fun o1 o2 o3=>GM w o1 o2 o3;have HB:=af bn;clear bn;obtain ⟨kind,d,a,b,k⟩:=p;obtain ⟨Et,Eu,b16,hc⟩:=hp;dsimp only at Et Eu b16 hc;simp only [eM];have la:=hl.1;have ha:=gP l a (by omega);have hb:=gP l b (by omega);have wa:=hl.at Eu;have wb:=hl.at b16;have aiL:(a:Int)<16:=by omega
 have aiM:(b:Int)<16:=by omega
 have ea:gz l a=l.getD a 0:=rfl;have eb:gz l b=l.getD b 0:=rfl;rw [ea] at ha;rw [eb] at hb;clear ea eb;rcases hc with ⟨rfl,rfl,rfl⟩ | ⟨k2,k5,rfl⟩ | ⟨rfl,rfl,hk⟩ | ⟨rfl,rfl,rfl⟩
 ·have HV:Hid (vD l mem ⟨1,d,0,0,k⟩=(k:Int)):=rfl;go_enter XV,XW;go_wp2_with fail
  go_ret;exact ⟨xS HV.out.symm,HB.out _ _ _⟩
 ·have HV:Hid (vD l mem ⟨kind,d,a,b,0⟩=wk kind (l.getD a 0) (l.getD b 0)):=by unfold Hid vD;dsimp only;rw [if_neg (by omega),if_neg (by omega),if_neg (by omega)]
  have q1:((kind:Int) == 1)=false:=by simp;omega
  have q6:((kind:Int) == 6)=false:=by simp;omega
  have q7:((kind:Int) == 7)=false:=by simp;omega
  have HR:=af (fun w'=>Ec kind (l.getD a 0) (l.getD b 0) w' wa.1 wa.2 wb.1 wb.2 (by omega) (by omega));generalize l.getD a 0=x at *;generalize l.getD b 0=y at *;clear k2 k5;go_enter XV,XW;go_wp2_with fail
  go_quiet ((go_at_call 193;exact XX (aq HR _)))
  go_wp2_with fail
  go_ret;exact ⟨xS HV.out.symm,dH (HB.out _ _ _) nq⟩
 ·obtain ⟨m,hmm⟩:=j4 (show 0<=(l.getD a 0+(k:Int)) % 128 by omega);have hm1:m<128:=by omega
  have HV:Hid (vD l mem ⟨6,d,a,0,k⟩=mem.getD m 0):=by unfold Hid vD;dsimp only;rw [if_neg (by omega),if_pos rfl,hmm];rfl
  have hxm:=gP mem m (by rw [hm.1];exact hm1);have em:gz mem m=mem.getD m 0:=rfl;rw [em] at hxm;clear em;have avu:(m:Int)<128:=by omega
  have hr:=fun w'=>NM (l.getD a 0) k w' wa.1 wa.2 (by omega) (by omega);rw [hmm] at hr;have HR:=af hr;clear hr hmm;generalize l.getD a 0=x at *;generalize mem.getD m 0=y at *;go_enter XV,XW;go_wp2_with fail
  go_quiet ((go_at_call 194;exact XX (aq HR _)))
  go_wp2_with fail
  go_ret;exact ⟨xS HV.out.symm,dH (HB.out _ _ _) nq⟩
 ·have HV:Hid (vD l mem ⟨7,d,a,0,0⟩=l.getD a 0):=rfl;generalize l.getD a 0=x at *;go_enter XV,XW;go_wp2_with fail
  go_ret;exact ⟨xS HV.out.symm,HB.out _ _ _⟩
end
section
open Go.RowKit Go.Maps Go.WideMaps
attribute [local go_sem] Go.wp_at_zero Go.wp_at_succ
theorem aiN (B N:Nat) (T:List Ex) (ds:List (List UInt8)) (b:Nat) (v:aj) (kind p q:Nat) (x y:List UInt8) (w:World) (h:fT B N T b v w) (hT:TI T ds) (hp:ql T ds p x) (hq:ql T ds q y) (k2:2<=kind) (k5:kind<=5) (hl:T.length<=900):
 av au 255 #[.pointer (some ⟨N,0,none⟩),.int .i64 (kind:Int),.int .i64 (p:Int),.int .i64 (q:Int)] w (mF B N b T ds w 2 (kY kind x y)):=by
 have SA:=h.mE;have hBw:B<=w.heap.size:=aT h.bN (iP h.mE);obtain ⟨e,hn⟩:∃e,T[p]? =some e:=⟨_,bE hp.1⟩;obtain ⟨f,hm⟩:∃f,T[q]? =some f:=⟨_,bE hq.1⟩;obtain ⟨hc1,hc2⟩:=hT.wv hn;obtain ⟨hd1,hd2⟩:=hT.wv hm;rw [hp.2] at hc1 hc2;rw [hq.2] at hd1 hd2;have hpx:ds.getD p []=x:=hp.2;have SC:ds.getD q []=y:=hq.2;obtain ⟨g,cap,rfl,_,hgl⟩:=h.ls.form (by have:=hp.1;omega);obtain ⟨x0,x1,x2,x3⟩:=SB h.ls p e hn;obtain ⟨y0,y1,y2,y3⟩:=SB h.ls q f hm;have c1:=h.c1;have hpl:=hp.1;have hql:=hq.1;have hp':(p:Int)<(T.length:Int):=by omega
 have dQ:(q:Int)<(T.length:Int):=by omega
 have HP:=af h;have HT:=af hT;obtain ⟨ek,ea,eb,ev⟩:=e;obtain ⟨fk,fa,fb,fv⟩:=f;simp only at x0 x1 x2 x3 y0 y1 y2 y3 hc1 hc2 hd1 hd2;clear h hT hp hq;have n1:=XY w _ c1;have n2:=XY w _ x0;have hb1:∀o1 o2,ak w.heap.size w ((w.alloc o1).alloc o2).drew:=fun o1 o2=>(((aA _ _).alloc (ax _) _).alloc (by rw [aB];omega) _).drew;have aJ:=af hb1;clear hb1;by_cases Er:ek=1∧fk=1
 ·obtain ⟨rfl,rfl⟩:=Er;obtain ⟨hx,hev⟩:=hc2 rfl;obtain ⟨hy,hfv⟩:=hd2 rfl;have HX:Hid (kY kind x y=iG (wk kind ev fv).toNat):=by unfold Hid kY;rw [if_pos ⟨hc1.1 rfl,hd1.1 rfl⟩,hx,hy,ud _ hev,ud _ hfv]
  have hr:=fun w'=>Ec kind ev fv w' (by omega) (by omega) (by omega) (by omega) (by omega) (by omega);have je:=A8 kind ev fv (by omega) (by omega) (by omega) (by omega);obtain ⟨c,hc⟩:=j4 je.1;rw [hc] at hr je HX;rw [Int.toNat_natCast] at HX;have HR:=af hr;have hcl:c<4294967296:=by omega
  have G5:=af (fun o1 o2=>Oq B N T ds b _ c ((w.alloc o1).alloc o2).drew (((HP.out.alloc o1).alloc o2).drew) HT.out hcl (by omega));clear hr je hc hc1 hc2 hd1 hd2 hx hy hpx SC;have Ot:w.cell? ⟨g,p * 4,none⟩=some (.int .i64 1):=x0;have y0':w.cell? ⟨g,q * 4,none⟩=some (.int .i64 1):=y0;clear x0 y0;go_enter Tryz.func255,Tryz.ntmps255;go_wp2_with fail
  go_region_held3 (fun w'=>w'.cell? ⟨N,1,none⟩=some (.slice (some ⟨g,0,none⟩) T.length cap)∧w'.cell? ⟨g,p * 4,none⟩=some (.int .i64 1)∧w'.cell? ⟨g,p * 4+1,none⟩=some (.int .i64 (ea:Int))∧w'.cell? ⟨g,p * 4+1+1,none⟩=some (.int .i64 (eb:Int))∧w'.cell? ⟨g,p * 4+1+1+1,none⟩=some (.int .i64 (ev:Int))∧w'.cell? ⟨g,q * 4,none⟩=some (.int .i64 1)∧w'.cell? ⟨g,q * 4+1,none⟩=some (.int .i64 (fa:Int))∧w'.cell? ⟨g,q * 4+1+1,none⟩=some (.int .i64 (fb:Int))∧w'.cell? ⟨g,q * 4+1+1+1,none⟩=some (.int .i64 (fv:Int))) (go_keep) (fail)
  all_goals
   clear n1 n2;go_wp2_with fail
   refine (aq HR _).mono ?_;rintro e w' ⟨rfl,hw⟩;obtain rfl:=hw.symm;go_wp2_with fail
   refine (aq G5 _ _).mono ?_;rw [<-HX.out];rintro e w3 ⟨n3,T3,ds3,v3,rfl,q2,q3,q4,q5,q6,q7⟩;have HQ:Hid (mF B N b T ds w 2 (kY kind x y) (.returned (.int .i64 (n3:Int))) w3):=⟨n3,T3,ds3,v3,rfl,q2,q3,q4,q5,(iJ.above hBw (aJ.out _ _)).trans q6,by omega⟩;clear q2 q3 q4 q5 q6 q7;go_wp2_with fail
   go_ret;exact HQ.out
 ·have hcf:¬(mR x=true∧mR y=true):=fun hq=>Er ⟨hc1.2 hq.1,hd1.2 hq.2⟩;have HX:Hid (kY kind x y=A6 kind x y):=by unfold Hid kY;rw [if_neg hcf]
  have uj:((ek:Int) == 1)=false∨(ek=1∧((fk:Int) == 1)=false):=by
   by_cases h1:ek=1
   ·right;exact ⟨h1,by simp;omega⟩
   ·left;simp;omega
  clear hcf Er;have he:oR T.length (kind,p,q,0):=.inr (.inr (.inl ⟨k2,k5,hpl,hql,rfl⟩));have hst:jq ds (kind,p,q,0)=kY kind x y:=by
   rw [HX.out];unfold jq;rw [if_neg (by dsimp only;omega),if_neg (by dsimp only;omega),if_neg (by dsimp only;omega)];dsimp only;rw [hpx,SC]
  have hh:∀o1 o2,av au 253 #[.pointer (some ⟨N,0,none⟩),.agg #[.int .i64 (kind:Int),.int .i64 (p:Int),.int .i64 (q:Int),.int .i64 0]] ((w.alloc o1).alloc o2).drew (mF B N b T ds ((w.alloc o1).alloc o2).drew 1 (jq ds (kind,p,q,0))):=fun o1 o2=>
   (Kn B N T ds b _ (kind,p,q,0) _ (((HP.out.alloc o1).alloc o2).drew) HT.out (Kk he (by omega)) (by omega)).mono fun _ _ hp=>Kr HT.out he hp
  rw [hst] at hh;have HH:=af hh;clear hh he hst hc1 hc2 hd1 hd2 hpx SC;rcases uj with q1 | ⟨rfl,q1⟩
  ·go_enter Tryz.func255,Tryz.ntmps255;go_wp2_with fail
   go_region_held3 (fun w'=>w'.cell? ⟨N,1,none⟩=some (.slice (some ⟨g,0,none⟩) T.length cap)∧w'.cell? ⟨g,p * 4,none⟩=some (.int .i64 (ek:Int))∧w'.cell? ⟨g,p * 4+1,none⟩=some (.int .i64 (ea:Int))∧w'.cell? ⟨g,p * 4+1+1,none⟩=some (.int .i64 (eb:Int))∧w'.cell? ⟨g,p * 4+1+1+1,none⟩=some (.int .i64 (ev:Int))∧w'.cell? ⟨g,q * 4,none⟩=some (.int .i64 (fk:Int))∧w'.cell? ⟨g,q * 4+1,none⟩=some (.int .i64 (fa:Int))∧w'.cell? ⟨g,q * 4+1+1,none⟩=some (.int .i64 (fb:Int))∧w'.cell? ⟨g,q * 4+1+1+1,none⟩=some (.int .i64 (fv:Int))) (go_keep) (fail)
   all_goals
    clear n1 n2;go_wp2_with fail
    refine (aq HH _ _).mono ?_;rintro e w3 ⟨n3,T3,ds3,v3,rfl,q2,q3,q4,q5,q6,q7⟩;have HQ:Hid (mF B N b T ds w 2 (kY kind x y) (.returned (.int .i64 (n3:Int))) w3):=⟨n3,T3,ds3,v3,rfl,q2,q3,q4,q5,(iJ.above hBw (aJ.out _ _)).trans q6,by omega⟩;clear q2 q3 q4 q5 q6 q7;go_wp2_with fail
    go_ret;exact HQ.out
  ·have Ot:w.cell? ⟨g,p * 4,none⟩=some (.int .i64 1):=x0;clear x0;go_enter Tryz.func255,Tryz.ntmps255;go_wp2_with fail
   go_region_held3 (fun w'=>w'.cell? ⟨N,1,none⟩=some (.slice (some ⟨g,0,none⟩) T.length cap)∧w'.cell? ⟨g,p * 4,none⟩=some (.int .i64 1)∧w'.cell? ⟨g,p * 4+1,none⟩=some (.int .i64 (ea:Int))∧w'.cell? ⟨g,p * 4+1+1,none⟩=some (.int .i64 (eb:Int))∧w'.cell? ⟨g,p * 4+1+1+1,none⟩=some (.int .i64 (ev:Int))∧w'.cell? ⟨g,q * 4,none⟩=some (.int .i64 (fk:Int))∧w'.cell? ⟨g,q * 4+1,none⟩=some (.int .i64 (fa:Int))∧w'.cell? ⟨g,q * 4+1+1,none⟩=some (.int .i64 (fb:Int))∧w'.cell? ⟨g,q * 4+1+1+1,none⟩=some (.int .i64 (fv:Int))) (go_keep) (fail)
   all_goals
    clear n1 n2;go_wp2_with fail
    refine (aq HH _ _).mono ?_;rintro e w3 ⟨n3,T3,ds3,v3,rfl,q2,q3,q4,q5,q6,q7⟩;have HQ:Hid (mF B N b T ds w 2 (kY kind x y) (.returned (.int .i64 (n3:Int))) w3):=⟨n3,T3,ds3,v3,rfl,q2,q3,q4,q5,(iJ.above hBw (aJ.out _ _)).trans q6,by omega⟩;clear q2 q3 q4 q5 q6 q7;go_wp2_with fail
    go_ret;exact HQ.out
def nI (ns:List Nat):List Int:=ns.map fun n:Nat=>(n:Int)
theorem nS (ns:List Nat):(nI ns).length=ns.length:=by simp [nI]
theorem SD (ns:List Nat) (i:Nat):gz (nI ns) i=(ns.getD i 0:Nat):=by
 unfold gz nI;rw [bP,iX,bP];cases ns[i]?<;>rfl
theorem aiQ (ns:List Nat) (i n:Nat):(nI ns).set i (n:Int)=nI (ns.set i n):=by
 unfold nI;rw [List.map_set]
theorem aiR (B N:Nat) (T:List Ex) (ds:List (List UInt8)) (b:Nat) (v:aj) (p:aH) (ns:List Nat) (l:List (List UInt8)) (w:World) (h:fT B N T b v w) (hT:TI T ds) (hs:sS T ds ns l) (hp:iY p) (hk:p.k<4294967296) (hl:T.length<=900):
 av au 239 #[.pointer (some ⟨N,0,none⟩),.agg (eM p),.agg (S (nI ns))] w (mF B N b T ds w 2 (vS l p)):=by
 have hBw:B<=w.heap.size:=aT h.bN (iP h.mE);have hb2:∀o1 o2,ak w.heap.size w ((w.alloc o1).alloc o2):=fun o1 o2=>((aA _ _).alloc (ax _) _).alloc (by rw [aB];omega) _;have HB:=af hb2;have HP:=af h;have HT:=af hT;clear hb2;obtain ⟨kind,d,a,c,k⟩:=p;obtain ⟨Et,Eu,b16,hc⟩:=hp;dsimp only at Et Eu b16 hc hk;simp only [eM];have ln:=hs.n16;have ha:=gP (nI ns) a (by rw [nS];omega);have hb:=gP (nI ns) c (by rw [nS];omega);rw [SD] at ha hb;have ta:=hs.tell a Eu;have tb:=hs.tell c b16;have aiL:(a:Int)<16:=by omega
 have aiM:(c:Int)<16:=by omega
 clear h hT hs;rcases hc with ⟨rfl,rfl,rfl⟩ | ⟨k2,k5,rfl⟩ | ⟨rfl,rfl,Bc⟩ | ⟨rfl,rfl,rfl⟩
 ·have HV:Hid (vS l ⟨1,d,0,0,k⟩=iG k):=rfl;have HC:=af (fun o1 o2=>Oq B N T ds b v k ((w.alloc o1).alloc o2) ((HP.out.alloc o1).alloc o2) HT.out hk (by omega));go_enter XZ,X5;go_wp2_with fail
  refine (aq HC _ _).mono ?_;rintro e w3 ⟨n3,T3,ds3,v3,rfl,q2,q3,q4,q5,q6,q7⟩;have HQ:Hid (mF B N b T ds w 2 (iG k) (.returned (.int .i64 (n3:Int))) w3):=⟨n3,T3,ds3,v3,rfl,q2,q3,q4,q5,(iJ.above hBw (HB.out _ _)).trans q6,by omega⟩;clear q2 q3 q4 q5 q6 q7;go_wp2_with fail
  go_ret;rw [HV.out];exact HQ.out
 ·have HV:Hid (vS l ⟨kind,d,a,c,0⟩=kY kind (l.getD a []) (l.getD c [])):=by unfold Hid vS;dsimp only;rw [if_neg (by omega),if_neg (by omega),if_neg (by omega)]
  have q1:((kind:Int) == 1)=false:=by simp;omega
  have q6:((kind:Int) == 6)=false:=by simp;omega
  have q7:((kind:Int) == 7)=false:=by simp;omega
  have HC:=af (fun o1 o2=>aiN B N T ds b v kind _ _ _ _ ((w.alloc o1).alloc o2).drew ((HP.out.alloc o1).alloc o2).drew HT.out ta tb k2 k5 hl);generalize ns.getD a 0=x at *;generalize ns.getD c 0=y at *;clear ta tb;go_enter XZ,X5;go_wp2_with fail
  refine qp 11 (by kernel_rfl) (by kernel_rfl) ?_;simp only [j5,jU,j6,iE]
  repeat still_step
  refine jC ?_;go_wp2_with fail
  refine (aq HC _ _).mono ?_;rintro e w3 ⟨n3,T3,ds3,v3,rfl,q2,q3,q4,q5,q6,q7⟩;have HQ:Hid (mF B N b T ds w 2 (kY kind (l.getD a []) (l.getD c [])) (.returned (.int .i64 (n3:Int))) w3):=⟨n3,T3,ds3,v3,rfl,q2,q3,q4,q5,(iJ.above hBw ((HB.out _ _).drew)).trans q6,by omega⟩;clear q2 q3 q4 q5 q6 q7;go_wp2_with fail
  go_ret;rw [HV.out];exact HQ.out
 ·have HV:Hid (vS l ⟨6,d,a,0,k⟩=lG (l.getD a []) k):=rfl;have HC:=af (fun o1 o2=>aiI B N T ds b v _ k _ ((w.alloc o1).alloc o2).drew ((HP.out.alloc o1).alloc o2).drew HT.out ta Bc hl);generalize ns.getD a 0=x at *;clear ta tb;go_enter XZ,X5;go_wp2_with fail
  refine qp 7 (by kernel_rfl) (by kernel_rfl) ?_;simp only [j5,jU,j6,iE]
  repeat still_step
  refine jC ?_;go_wp2_with fail
  refine (aq HC _ _).mono ?_;rintro e w3 ⟨n3,T3,ds3,v3,rfl,q2,q3,q4,q5,q6,q7⟩;have HQ:Hid (mF B N b T ds w 2 (lG (l.getD a []) k) (.returned (.int .i64 (n3:Int))) w3):=⟨n3,T3,ds3,v3,rfl,q2,q3,q4,q5,(iJ.above hBw ((HB.out _ _).drew)).trans q6,by omega⟩;clear q2 q3 q4 q5 q6 q7;go_wp2_with fail
  go_ret;rw [HV.out];exact HQ.out
 ·have HV:Hid (vS l ⟨7,d,a,0,0⟩=l.getD a []):=rfl;have HQ:Hid (∀o1 o2,mF B N b T ds w 2 (vS l ⟨7,d,a,0,0⟩) (.returned (.int .i64 ((ns.getD a 0:Nat):Int))) ((w.alloc o1).alloc o2)):=fun o1 o2=>by
   rw [HV.out];exact ⟨_,T,ds,v,rfl,(HP.out.alloc o1).alloc o2,HT.out,More.refl _ _,ta,iJ.above hBw (HB.out _ _),by omega⟩
  generalize ns.getD a 0=x at *;clear ta tb;go_enter XZ,X5;go_wp2_with fail
  go_ret;exact HQ.out _ _
theorem wP {w:World} {B:Nat} {g cap:Nat} {ps:List aH} (h:w.ownsRow B 123 5 (.slice (some ⟨g,0,none⟩) ps.length cap) ps.length (dM ps)) (n:Nat) (p:aH) (hn:ps[n]? =some p):
 w.cell? ⟨g,n * 5,none⟩=some (.int .i64 (p.kind:Int))∧w.cell? ⟨g,n * 5+1,none⟩=some (.int .i64 (p.d:Int))∧w.cell? ⟨g,n * 5+1+1,none⟩=some (.int .i64 (p.a:Int))∧w.cell? ⟨g,n * 5+1+1+1,none⟩=some (.int .i64 (p.b:Int))∧w.cell? ⟨g,n * 5+1+1+1+1,none⟩=some (.int .i64 (p.k:Int)):=by
 have hlt:n<ps.length:=(fG.1 hn).1;have key:=Oo (fun p=>(eM p).toList) 5 (fun _=>rfl) ps n p hn;have k0:=key 0 (by decide);have k1:=key 1 (by decide);have k2:=key 2 (by decide);have k3:=key 3 (by decide);have k4:=key 4 (by decide);refine ⟨?_,?_,?_,?_,?_⟩
 ·rw [h.cellAt _ (by omega)];exact k0
 ·rw [h.cellAt _ (by omega)];exact k1
 ·rw [h.cellAt _ (by omega)];exact k2
 ·rw [h.cellAt _ (by omega)];exact k3
 ·rw [h.cellAt _ (by omega)];exact k4
def zr (n:Nat):List Int:=List.replicate n 0
theorem rZ (n:Nat):(zr n).length=n:=by simp [zr]
theorem aah (w:World):(DM 25).run au w= .ok (.agg (S (zr 8))) w:=by kernel_rfl
theorem aai (w:World):(DM 222).run au w= .ok (.agg (S (zr 16))) w:=by kernel_rfl
def aK (w:World) (g:Nat) (t:cE) (z:List Int):Prop:=w.heap[g]? =some (.cells (S z) t (0,0))
theorem aK.cell {w:World} {g:Nat} {t:cE} {z:List Int} (h:aK w g t z) (i:Nat) (hi:i<z.length):w.cell? ⟨g,i,none⟩=some (.int .i64 (gz z i)):=by
 unfold World.cell?;rw [h];exact gP z i hi
theorem aK.frozen {w:World} {g:Nat} {t:cE} {z:List Int} (h:aK w g t z) (i:Nat):w.frozen? ⟨g,i,none⟩=false:=by
 unfold World.frozen?;rw [h];simp
theorem aK.isRow {w:World} {g:Nat} {t:cE} {z:List Int} (h:aK w g t z) (k:Nat) (hk:z.length=k):bf w g k=true:=by
 unfold bf;rw [h];simp [bQ,hk]
theorem aK.bW {w:World} {g:Nat} {t:cE} {z:List Int} (h:aK w g t z):bW w g=S z:=by
 unfold Proofs.YtmmflekajbeamaaGreatDoor.bW;rw [h]
theorem aK.lt {w:World} {g:Nat} {t:cE} {z:List Int} (h:aK w g t z):g<w.heap.size:=(Array.getElem?_eq_some_iff.1 h).1
theorem aK.set {w:World} {g:Nat} {t:cE} {z:List Int} (h:aK w g t z) (i:Nat) (v:Int):aK (w.setCell ⟨g,i,none⟩ (.int .i64 v)) g t (z.set i v):=by
 unfold aK;rw [heap_setCell_same w g i _ t _ h,jP]
theorem aK.keep {w w':World} {g:Nat} {t:cE} {z:List Int} (h:aK w g t z) (hk:w'.heap[g]? =w.heap[g]?):aK w' g t z:=hk.trans h
theorem iJ.row {B N b:Nat} {w w':World} (h:iJ B N b w w') {g:Nat} {t:cE} {z:List Int} (hr:aK w g t z) (h1:g≠N) (h2:g≠b) (ht:t≠322):aK w' g t z:=
 hr.keep (h.other g hr.lt h1 h2 (fun cur hc=>by rw [hr] at hc;cases hc;exact ht rfl))
theorem aaj (w:World) (g:Nat):(Instr.arrayAt 25 (.slice (some ⟨g,0,none⟩) 8 16)).run au w= .ok (.pointer (some ⟨g,0,none⟩)) w:=by kernel_rfl
def aak (B N b:Nat) (T:List Ex) (ds:List (List UInt8)) (w:World) (l:List (List UInt8)) (e':eL) (w':World):Prop:=
 ∃T' ds' v' ns,e'= .returned (.agg (S (nI (ns.take 8))))∧fT B N T' b v' w'∧TI T' ds'∧More T ds T' ds'∧sS T' ds' ns l∧iJ B N b w w'∧T'.length<=T.length+36
theorem aal (B B' N:Nat) (T:List Ex) (ds:List (List UInt8)) (b:Nat) (v:aj) (pv:aj) (ps:List aH) (w:World) (h:fT B N T b v w) (hT:TI T ds) (hps:w.ownsRow B' 123 5 pv ps.length (dM ps)) (hp:∀p∈ps,iY p∧p.k<4294967296) (hpl:ps.length<=10) (hl:T.length<=100) (sZ:∀g,pv.ownBlock=some g->g≠N):
 av au 207 #[.pointer (some ⟨N,0,none⟩),pv] w (aak B N b T ds w (gI ps)):=by
 have SA:=h.mE;have avw:=h.blt;have hBw:B<=w.heap.size:=aT h.bN (iP h.mE);obtain ⟨pa,pc,rfl⟩:=bA hps;have HP:=af h;have HT:=af hT;have Ev:=af hps;have fK:=af hp;have HgN:=af sZ;have z8:=aah;have Ew:=aai;clear h hT hps hp sZ;go_enter Tryz.func207,Tryz.ntmps207;go_wp2_with fail
 go_loopw [9] (fun i wr=>∃(k:Nat) (T':List Ex) (ds':List (List UInt8)) (v':aj) (ns:List Nat) (z:List Int),k<=16∧i= .int .i64 k∧Hid (fT B N T' b v' wr∧TI T' ds'∧More T ds T' ds'∧iJ B N b w wr∧T'.length<=T.length+k∧aK wr w.heap.size 25 (zr 8)∧aK wr (w.heap.size+1) 222 z∧z.length=16∧ns.length=k∧(∀j,j<k->gz z j=(ns.getD j 0:Nat))∧∀j,j<k->ql T' ds' (ns.getD j 0) (cY.getD j []))) (fun i _=>16 - (aI i).toNat)
 case atStart=>
  refine ⟨0,T,ds,v,[],zr 16,bK _,rfl,(HP.out.alloc _).alloc _,HT.out,More.refl _ _,iJ.above hBw (((aA _ _).alloc (ax _) _).alloc (by rw [aB];omega) _),by omega,?_,?_,rZ 16,rfl,fun j hj=>by omega,fun j hj=>by omega⟩
  ·unfold aK;rw [Below.heap_alloc _ _ _ (by rw [aB];omega),bg]
  ·unfold aK;have:=bg (w.alloc (.cells (S (zr 8)) 25)) (.cells (S (zr 16)) 222);rw [aB] at this;exact this
 case round=>
  obtain ⟨k,T',ds',v',ns,z,hk,rfl,HR⟩:=hrel;by_cases hlt:k<16
  ·have hlt':(k:Int)<16:=by omega
   have G6:Hid (∀w2 n T2 lH v2,fT B N T2 b v2 w2->TI T2 lH->More T' ds' T2 lH->ql T2 lH n (cY.getD k [])->iJ B N b wr w2->T2.length<=T'.length+1->
    aK w2 (w.heap.size+1) 222 z∧z.length=16∧(∃(k':Nat) (T':List Ex) (ds':List (List UInt8)) (v':aj) (ns:List Nat) (z':List Int),k'<=16∧((k+1:Nat):Int)=k'∧Hid (fT B N T' b v' (w2.setCell ⟨w.heap.size+1,k,none⟩ (.int .i64 (n:Nat)))∧TI T' ds'∧More T ds T' ds'∧iJ B N b w (w2.setCell ⟨w.heap.size+1,k,none⟩ (.int .i64 (n:Nat)))∧T'.length<=T.length+k'∧aK (w2.setCell ⟨w.heap.size+1,k,none⟩ (.int .i64 (n:Nat))) w.heap.size 25 (zr 8)∧aK (w2.setCell ⟨w.heap.size+1,k,none⟩ (.int .i64 (n:Nat))) (w.heap.size+1) 222 z'∧z'.length=16∧ns.length=k'∧(∀j,j<k'->gz z' j=(ns.getD j 0:Nat))∧∀j,j<k'->ql T' ds' (ns.getD j 0) (cY.getD j [])))):=by
    intro w2 n T2 lH v2 a1 a2 a3 a4 a5 a6;obtain ⟨h1,h2,h3,h4,h5,h6,h7,h8,h9,h10,h11⟩:=HR.out;have r16:=a5.row h7 (by omega) (by omega) (by decide);have r8:=a5.row h6 (by omega) (by omega) (by decide);refine ⟨r16,h8,k+1,T2,lH,v2,ns ++ [n],z.set k (n:Nat),by omega,rfl,a1.Oc (fun hi=>?_) _ _,a2,h3.trans a3,⟨(h4.trans a5).below.setCell (by show B<=w.heap.size+1;omega) _,fun g hg q1 q2 q3=>(dU w2 _ (by omega)).trans ((h4.trans a5).other g hg q1 q2 q3)⟩,by omega,r8.keep (dU w2 _ (by omega)),r16.set _ _,by simp [h8],by simp [h9],fun j hj=>?_,fun j hj=>?_⟩
    ·rcases hi with hi | hi | hi
     ·omega
     ·omega
     ·obtain ⟨cur,hc⟩:=wK a1.ls _ hi;rw [r16] at hc;cases hc
    ·unfold gz;rw [uV _ _ _ _ _ (by omega)];by_cases hjk:j=k
     ·rw [if_pos hjk,hjk,bP,<-h9,lD (ax _),tV];rfl
     ·rw [if_neg hjk,bP (l:=ns ++ [n]),jN (by omega),<-bP];exact h10 j (by omega)
    ·by_cases hjk:j=k
     ·rw [hjk,bP,<-h9,lD (ax _),tV,h9];exact a4
     ·rw [bP (l:=ns ++ [n]),jN (by omega),<-bP];exact (h11 j (by omega)).more h2.len a3
   have hx:cY.getD k []=if k<8 then uU k else iG 0:=by
    unfold cY;rw [bP,iX,List.getElem?_range hlt];rfl
   by_cases h8:k<8
   ·have h8':(k:Int)<8:=by omega
    rw [if_pos h8] at hx;have HC:=af (aiH B N T' ds' b v' k wr HR.out.1 HR.out.2.1 h8 (by have:=HR.out.2.2.2.2.1;omega));rw [<-hx] at HC;clear hx;go_wp2_with fail
    refine (aq HC).mono ?_;rintro e w2 ⟨n,T2,lH,v2,rfl,q2,q3,q4,q5,q6,q7⟩;obtain ⟨r16,hz,HE⟩:=G6.out w2 n T2 lH v2 q2 q3 q4 q5 q6 q7;have cc:=r16.cell k (by omega);have ff:=r16.frozen k;have gL:=af HE;clear q2 q3 q4 q5 q6 q7 HE r16;go_wp2_with fail
    obtain ⟨k',T3,ds3,v3,Ks,z3,e1,e2,e3⟩:=gL.out;exact ⟨⟨k',T3,ds3,v3,Ks,z3,e1,by rw [<-e2];go_num,e3⟩,by simp [aI];omega⟩
   ·have h8':¬(k:Int)<8:=by omega
    rw [if_neg h8] at hx;have HC:Hid (av au 238 #[.pointer (some ⟨N,0,none⟩),.int .i64 0] wr (mF B N b T' ds' wr 1 (iG 0))):=Oq B N T' ds' b v' 0 wr HR.out.1 HR.out.2.1 (by decide) (by have:=HR.out.2.2.2.2.1;omega);rw [<-hx] at HC;clear hx;go_wp2_with fail
    refine (aq HC).mono ?_;rintro e w2 ⟨n,T2,lH,v2,rfl,q2,q3,q4,q5,q6,q7⟩;obtain ⟨r16,hz,HE⟩:=G6.out w2 n T2 lH v2 q2 q3 q4 q5 q6 q7;have cc:=r16.cell k (by omega);have ff:=r16.frozen k;have gL:=af HE;clear q2 q3 q4 q5 q6 q7 HE r16;go_wp2_with fail
    obtain ⟨k',T3,ds3,v3,Ks,z3,e1,e2,e3⟩:=gL.out;exact ⟨⟨k',T3,ds3,v3,Ks,z3,e1,by rw [<-e2];go_num,e3⟩,by simp [aI];omega⟩
  ·have hkn:k=16:=by omega
   have Ou:(k:Int)=16:=by omega
   rw [Ou];clear Ou;subst hkn;have CN:Hid (sS T' ds' ns cY∧z=nI ns):=by
    obtain ⟨h1,h2,h3,h4,h5,h6,h7,h8,h9,h10,h11⟩:=HR.out;refine ⟨⟨h9,by simp [cY],h11⟩,?_⟩;apply List.ext_getElem?;intro j;by_cases hj:j<16
    ·have:=h10 j hj;rw [<-SD] at this;unfold gz at this;rw [bP,bP,bE (by omega),bE (by rw [nS];omega)] at this;rw [bE (by omega),bE (by rw [nS];omega)];simpa using this
    ·rw [lE (by omega),lE (by rw [nS];omega)]
   go_wp2_with fail
   go_loopw [26] (fun i wr=>∃(k:Nat) (T':List Ex) (ds':List (List UInt8)) (v':aj) (ns:List Nat),k<=ps.length∧i= .int .i64 k∧Hid (fT B N T' b v' wr∧TI T' ds'∧More T ds T' ds'∧iJ B N b w wr∧T'.length<=T.length+16+2 * k∧aK wr w.heap.size 25 (zr 8)∧aK wr (w.heap.size+1) 222 (nI ns)∧sS T' ds' ns ((ps.take k).foldl eu cY))) (fun i _=>ps.length - (aI i).toNat)
   case atStart=>
    obtain ⟨h1,h2,h3,h4,h5,h6,h7,h8,h9,h10,h11⟩:=HR.out;exact ⟨0,T',ds',v',ns,bK _,rfl,h1,h2,h3,h4,h5,h6,CN.out.2▸h7,CN.out.1⟩
   case round=>
    clear HR CN hk hlt;clear T' ds' v' ns z;obtain ⟨k,T',ds',v',ns,hk,rfl,HR⟩:=hrel;by_cases hlt:k<ps.length
    ·have hlt':(k:Int)<(ps.length:Int):=by omega
     have hpk:ps[k]? =some ps[k]:=bE hlt;have zT:Hid ((ps.take (k+1)).foldl eu cY=eu ((ps.take k).foldl eu cY) ps[k]):=wC _ _ _ _ _ hpk;obtain ⟨hok,hkk⟩:=fK.out _ (List.getElem_mem hlt);obtain ⟨g,cap,hform,_,hgl⟩:=Ev.out.form (by omega)
     have hrow:wr.ownsRow B' 123 5 (.slice pa ps.length pc) ps.length (dM ps):=dz Ev.out (fun g' hg'=>by
      obtain ⟨cur,hc⟩:=wK Ev.out g' hg';refine HR.out.2.2.2.1.other g' (aR Ev.out g' hg').2 (HgN.out g' hg') (fun e=>?_) (fun cur' hc'=>by rw [hc] at hc';cases hc');obtain ⟨D,hm,_⟩:=HP.out.mp;obtain ⟨es,cl,hbm⟩:=GV hm;rw [e,hbm] at hc
      cases hc)
     cases hform;obtain ⟨x0,x1,x2,x3,x4⟩:=wP hrow k ps[k] hpk;have Et:=hok.1;have aiU:(ps[k].d:Int)<16:=by omega
     obtain ⟨h1,h2,h3,h4,h5,h6,h7,h8⟩:=HR.out;have HV:=af (fun o=>aiR B N T' ds' b v' ps[k] ns _ (wr.alloc o).drew ((h1.alloc o).drew) h2 h8 hok hkk (by omega));simp only [eM] at HV;have dY:w.heap.size+1<wr.heap.size:=h7.lt
     have G6:Hid (∀o w2 n T2 lH v2,fT B N T2 b v2 w2->TI T2 lH->More T' ds' T2 lH->ql T2 lH n (vS ((ps.take k).foldl eu cY) ps[k])->iJ B N b (wr.alloc o).drew w2->T2.length<=T'.length+2->
      aK w2 (w.heap.size+1) 222 (nI ns)∧(∃(T':List Ex) (ds':List (List UInt8)) (v':aj) (ns:List Nat),Hid (fT B N T' b v' (w2.setCell ⟨w.heap.size+1,ps[k].d,none⟩ (.int .i64 (n:Nat)))∧TI T' ds'∧More T ds T' ds'∧iJ B N b w (w2.setCell ⟨w.heap.size+1,ps[k].d,none⟩ (.int .i64 (n:Nat)))∧T'.length<=T.length+16+2 * (k+1)∧aK (w2.setCell ⟨w.heap.size+1,ps[k].d,none⟩ (.int .i64 (n:Nat))) w.heap.size 25 (zr 8)∧aK (w2.setCell ⟨w.heap.size+1,ps[k].d,none⟩ (.int .i64 (n:Nat))) (w.heap.size+1) 222 (nI ns)∧sS T' ds' ns ((ps.take (k+1)).foldl eu cY)))):=by
      intro o w2 n T2 lH v2 a1 a2 a3 a4 a5 a6;have t0:iJ B N b wr w2:=(iJ.above (aT hBw (by omega)) (((aA _ _).alloc (ax _) o).drew)).trans a5;have r16:=t0.row h7 (by omega) (by omega) (by decide);have r8:=t0.row h6 (by omega) (by omega) (by decide);refine ⟨r16,T2,lH,v2,ns.set ps[k].d n,a1.Oc (fun hi=>?_) _ _,a2,h3.trans a3,⟨(h4.trans t0).below.setCell (by show B<=w.heap.size+1;omega) _,fun g hg q1 q2 q3=>(dU w2 _ (by omega)).trans ((h4.trans t0).other g hg q1 q2 q3)⟩,by omega,r8.keep (dU w2 _ (by omega)),?_,?_⟩
      ·rcases hi with hi | hi | hi
       ·omega
       ·omega
       ·obtain ⟨cur,hc⟩:=wK a1.ls _ hi;rw [r16] at hc;cases hc
      ·rw [<-aiQ];exact r16.set _ _
      ·rw [zT.out];exact (h8.more h2.len a3).set hok.1 a4
     have Kt:=af (fun w' (hr:bf w' (w.heap.size+1) 16=true)=>RU (P:=au) (ty:=222) Tryz.underlying222 rfl aag w' (w.heap.size+1) hr);have rI:=h7.isRow 16 (by rw [nS,h8.n16]);have rD:=h7.bW;have ln:=h8.n16;clear h1 h2 h3 h4 h5 h6 h7 h8 hrow hok hkk hpk fK HP HT;generalize ps[k]=p at *;obtain ⟨pk,pd,zU,pb,pV⟩:=p;simp only at x0 x1 x2 x3 x4 Et aiU HV G6;go_wp2_with fail
     have e0:∀(o:Obj) j x,o= .cells #[.int .i64 (pk:Int),.int .i64 (pd:Int),.int .i64 (zU:Int),.int .i64 (pb:Int),.int .i64 (pV:Int)] 123->#[cI .i64 (pk:Int),.int .i64 (pd:Int),.int .i64 (zU:Int),.int .i64 (pb:Int),.int .i64 (pV:Int)][j]? =some x->(wr.alloc o).cell? ⟨wr.heap.size,j,none⟩=some x:=fun o j x ho hx=>by
      rw [ho,World.cell?_alloc_at (hn:=rfl)];exact hx
     refine ug 5 1 (fun w'=>w'.cell? ⟨wr.heap.size,0,none⟩=some (.int .i64 (pk:Int))∧w'.cell? ⟨wr.heap.size,1,none⟩=some (.int .i64 (pd:Int))∧w'.cell? ⟨wr.heap.size,2,none⟩=some (.int .i64 (zU:Int))∧w'.cell? ⟨wr.heap.size,3,none⟩=some (.int .i64 (pb:Int))∧w'.cell? ⟨wr.heap.size,4,none⟩=some (.int .i64 (pV:Int))∧bf w' (w.heap.size+1) 16=true∧bW w' (w.heap.size+1)=S (nI ns)) (by kernel_rfl) (by kernel_rfl) (fun d _ _ _ _ h=>by cases d<;>exact h) ⟨e0 _ 0 _ rfl rfl,e0 _ 1 _ rfl rfl,e0 _ 2 _ rfl rfl,e0 _ 3 _ rfl rfl,e0 _ 4 _ rfl rfl,(xQ _ _ _ _ dY).trans rI,(A5 _ _ _ dY).trans rD⟩ ?_;simp only [j5,jU,j6,iE]
     iterate 4
      refine mT ?_ rfl ?_ ?_
      rotate_left
      ·rintro w' ⟨d0,d1,d2,d3,d4,d5,d6⟩;go_simp;rfl
      go_simp
     refine mT (.agg (S (nI ns))) rfl ?_ ?_
     ·rintro w' ⟨d0,d1,d2,d3,d4,d5,d6⟩;have hl:=Kt.out w' d5;rw [d6] at hl;clear d0 d1 d2 d3 d4 d5 d6;simp only [execOp,Sem.run_bind];show kN (Sem.run au (Instr.loadAt 222 (.pointer (some ⟨w.heap.size+1,0,none⟩))) w') _=_
      rw [hl];rfl
     go_simp;refine uf ?_;refine iQ rfl (fun K hK=>?_);go_simp;refine (aq HV _).mono ?_;rintro e w2 ⟨n,T2,lH,v2,rfl,q2,q3,q4,q5,q6,q7⟩;have hbx:∀j x,#[cI .i64 (pk:Int),.int .i64 (pd:Int),.int .i64 (zU:Int),.int .i64 (pb:Int),.int .i64 (pV:Int)][j]? =some x->w2.cell? ⟨wr.heap.size,j,none⟩=some x:=fun j x hx=>
      (World.cell?_of_block (q6.other wr.heap.size (by show wr.heap.size<(wr.alloc _).heap.size;rw [aB];omega) (by omega) (by omega) (fun cur hc=>by
        have:=bg wr (.cells #[.int .i64 (pk:Int),.int .i64 (pd:Int),.int .i64 (zU:Int),.int .i64 (pb:Int),.int .i64 (pV:Int)] 123);rw [show ((wr.alloc _).drew.heap[wr.heap.size]? =_) from this] at hc
        cases hc))).trans (e0 _ j x rfl hx)
     obtain ⟨r16,HE⟩:=G6.out _ w2 n T2 lH v2 q2 q3 q4 q5 q6 q7;have cc:=r16.cell pd (by rw [nS,ln];exact Et);have ff:=r16.frozen pd;refine hK _ _ ⟨hbx 0 _ rfl,hbx 1 _ rfl,hbx 2 _ rfl,hbx 3 _ rfl,hbx 4 _ rfl,r16.isRow 16 (by rw [nS,ln]),r16.bW⟩ ?_;have gL:=af HE;clear q2 q3 q4 q5 q6 q7 HE r16 hbx hK K e0 rI rD Kt HV G6;unfold oy;go_wp2_with fail
     obtain ⟨T3,ds3,v3,Ks,e3⟩:=gL.out;exact ⟨⟨k+1,T3,ds3,v3,Ks,by omega,by go_num,e3⟩,by simp [aI];omega⟩
    ·have hkn:k=ps.length:=by omega
     subst hkn;have hlt':¬(ps.length:Int)<(ps.length:Int):=by omega
     obtain ⟨h1,h2,h3,h4,h5,h6,h7,h8⟩:=HR.out;have ln:=h8.n16;have y0:=h7.cell 0 (by rw [nS,ln];decide);have y1:=h7.cell 1 (by rw [nS,ln];decide);have y2:=h7.cell 2 (by rw [nS,ln];decide);have y3:=h7.cell 3 (by rw [nS,ln];decide);have y4:=h7.cell 4 (by rw [nS,ln];decide);have y5:=h7.cell 5 (by rw [nS,ln];decide);have y6:=h7.cell 6 (by rw [nS,ln];decide);have y7:=h7.cell 7 (by rw [nS,ln];decide);have rI:=h6.isRow 8 (rZ 8);have a8:=aaj;have eO:Hid (∀w',(∀g,g≠w.heap.size->w'.heap[g]? =wr.heap[g]?)->ak B w w'->aak B N b T ds w (gI ps) (.returned (.agg (S (nI (ns.take 8))))) w'):=fun w' hk hb=>by
      refine ⟨T',ds',v',ns,rfl,h1.kept (fun g hg=>hk g (fun e=>?_)),h2,h3,by rw [List.take_length] at h8;exact h8,⟨hb,fun g hg q1 q2 q3=>(hk g (by omega)).trans (h4.other g hg q1 q2 q3)⟩,by omega⟩;rcases hg with hg | hg | hg
      ·omega
      ·omega
      ·obtain ⟨cur,hc⟩:=wK h1.ls _ hg;rw [e,h6] at hc;cases hc
     have mU:=af h4.below;have H6:=af h6;have HEq:Hid (S [gz (nI ns) 0,gz (nI ns) 1,gz (nI ns) 2,gz (nI ns) 3,gz (nI ns) 4,gz (nI ns) 5,gz (nI ns) 6,gz (nI ns) 7]=S (nI (ns.take 8))):=by
      unfold Hid;congr 1
      match ns,ln with
      | [n0,n1,n2,n3,n4,n5,n6,n7,n8,n9,n10,n11,n12,n13,n14,n15],_=>rfl
     clear h1 h2 h3 h4 h5 h6 h7 h8 HP HT;go_wp2_with (refine pU Es rfl _ _ rfl w.heap.size rfl [gz (nI ns) 0,gz (nI ns) 1,gz (nI ns) 2,gz (nI ns) 3,gz (nI ns) 4,gz (nI ns) 5,gz (nI ns) 6,gz (nI ns) 7] rfl rfl rI _ rfl ?_)
     refine bodyPost_ret (v:=.agg (S [gz (nI ns) 0,gz (nI ns) 1,gz (nI ns) 2,gz (nI ns) 3,gz (nI ns) 4,gz (nI ns) 5,gz (nI ns) 6,gz (nI ns) 7])) (results_cell_row Tryz.results207 _ _ _ 25 (S [gz (nI ns) 0,gz (nI ns) 1,gz (nI ns) 2,gz (nI ns) 3,gz (nI ns) 4,gz (nI ns) 5,gz (nI ns) 6,gz (nI ns) 7]) (0,0) _ rfl (setRow_heap wr _ _ _ 25 (0,0) H6.out) Tryz.underlying25 rfl (by rw [Es,bQ];rfl)) rfl ?_;rw [HEq.out];exact eO.out _ (fun g hg=>setRow_other wr _ g _ hg) (iI mU.out hBw _)
end
end Go.Proofs.YtmmflekajbeamaaGreatDoor
