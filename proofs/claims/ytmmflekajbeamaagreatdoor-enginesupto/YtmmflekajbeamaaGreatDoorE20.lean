/- Texts of ours, joined, in few bytes. -/
import Derived.Test.YtmmflekajbeamaaGreatDoorE19
open Array renaming getElem?_eq_some_iff->iD,getElem?_modify->sO
open Go renaming Calls->av,Value->aj,below_drewN->dH,heap_alloc_new->bg,wpList_load_row->qO
open Go.Instr renaming index->qh
open Go.IntKind renaming i64->Gv
open Go.Obj renaming cells->RD
open Go.Proofs.Tryz renaming prog->au
open Go.RowKit renaming Below->ak,intOf->aI
open Go.RowKit.Below renaming refl->aA
open Go.Value renaming bool->lV,int->cI,slice->mQ,string->tZ
open Go.World renaming cell?_of_block->aP,ownsRow_nil->j7,setCell->qP
open List renaming drop_succ_cons->j6,drop_zero->iE,length_drop->om,take_succ_cons->j5,take_zero->jU
open Nat renaming le_add_right->mN,le_of_lt->iP,le_refl->ax,le_trans->aT,lt_of_succ_lt->YE,zero_le->bK
namespace Go.Proofs.YtmmflekajbeamaaGreatDoor
set_option maxRecDepth 100000
set_option maxHeartbeats 8000000
open Go.RowKit Go.Maps Go.WideMaps
def rf (a:cS):Nat:=if a.whole=true then a.gen else 0
def jY (a b:cS):Nat×Nat:=if b.whole=true∧rf a<b.gen then (1,b.gen) else (0,rf a)
def Ao (a b:cS) (u v:aj):Array aj:=#[.int .i64 (a.gen:Int),.bool a.whole,.int .i64 (a.good:Int),u,.int .i64 (b.gen:Int),.bool b.whole,.int .i64 (b.good:Int),v]
theorem ano (x0 x1 x2 x3 x4 x5 x6 x7:aj) (w:World):(qh 205 (.agg #[x0,x1,x2,x3,x4,x5,x6,x7]) (.int .i64 0)).run au w= .ok (.agg #[x0,x1,x2,x3]) w:=by kernel_rfl
theorem anp (x0 x1 x2 x3 x4 x5 x6 x7:aj) (w:World):(qh 205 (.agg #[x0,x1,x2,x3,x4,x5,x6,x7]) (.int .i64 1)).run au w= .ok (.agg #[x4,x5,x6,x7]) w:=by kernel_rfl
theorem anq (a b:cS) (ua:Option Addr) (un uc:Nat) (va:Option Addr) (vn vc:Nat) (w:World):
 av au 151 #[.agg (Ao a b (.slice ua un uc) (.slice va vn vc))] w fun e' w'=>e'= .returned (.tuple #[.int .i64 ((jY a b).1:Int),.bool (decide (0<(jY a b).2))])∧ak w.heap.size w w':=by
 obtain ⟨g0,w0,d0,l0⟩:=a;obtain ⟨g1,w1,d1,l1⟩:=b;have bM:Hid (∀ob:Obj,ak w.heap.size w (w.alloc ob)):=fun ob=>(aA _ _).alloc (ax _) ob;have ix0:=ano;have ix1:=anp;unfold Ao;simp only;go_enter Tryz.func151,Tryz.ntmps151;go_wp2_with fail
 go_loopw [4,5,9] (fun c n i wr=>Hid (ak w.heap.size w wr)∧((i= .int .i64 0∧c= .int .i64 0∧n= .int .i64 0)∨(i= .int .i64 1∧c= .int .i64 0∧n= .int .i64 (rf ⟨g0,w0,d0,l0⟩:Int))∨(i= .int .i64 2∧c= .int .i64 ((jY ⟨g0,w0,d0,l0⟩ ⟨g1,w1,d1,l1⟩).1:Int)∧n= .int .i64 ((jY ⟨g0,w0,d0,l0⟩ ⟨g1,w1,d1,l1⟩).2:Int)))) (fun _ _ i _=>2 - (aI i).toNat)
 case atStart=>exact ⟨bM.out _,.inl ⟨rfl,rfl,rfl⟩⟩
 case round=>
  obtain ⟨HB,⟨rfl,rfl,rfl⟩ | ⟨rfl,rfl,rfl⟩ | ⟨rfl,rfl,rfl⟩⟩:=hrel
  ·have HA:Hid (∀ob:Obj,ak w.heap.size w (wr.alloc ob)):=fun ob=>HB.out.alloc HB.out.size ob;cases w0
   ·go_wp2_with fail
    exact ⟨⟨HA.out _,.inr (.inl ⟨rfl,rfl,rfl⟩)⟩,by simp [aI]⟩
   ·by_cases hg:(0:Int)<(g0:Int)
    ·have HE:Hid (rf ⟨g0,true,d0,l0⟩=g0):=if_pos rfl;go_wp2_with fail
     go_quiet (fail)
     go_wp2_with fail
     exact ⟨⟨dH (HA.out _) _,.inr (.inl ⟨rfl,rfl,by rw [HE.out]⟩)⟩,by simp [aI]⟩
    ·have h0:g0=0:=by omega
     have HE:Hid (rf ⟨g0,true,d0,l0⟩=0):=by unfold Hid;rw [h0];rfl
     clear h0;go_wp2_with fail
     exact ⟨⟨HA.out _,.inr (.inl ⟨rfl,rfl,by rw [HE.out];rfl⟩)⟩,by simp [aI]⟩
  ·have HA:Hid (∀ob:Obj,ak w.heap.size w (wr.alloc ob)):=fun ob=>HB.out.alloc HB.out.size ob;cases w1
   ·have HE:Hid (jY ⟨g0,w0,d0,l0⟩ ⟨g1,false,d1,l1⟩=(0,rf ⟨g0,w0,d0,l0⟩)):=if_neg (fun q=>by cases q.1);generalize rf ⟨g0,w0,d0,l0⟩=c1 at *;go_wp2_with fail
    exact ⟨⟨HA.out _,.inr (.inr ⟨rfl,by rw [HE.out];rfl,by rw [HE.out]⟩)⟩,by simp [aI]⟩
   ·by_cases hg:rf ⟨g0,w0,d0,l0⟩ < g1
    ·have HE:Hid (jY ⟨g0,w0,d0,l0⟩ ⟨g1,true,d1,l1⟩=(1,g1)):=if_pos ⟨rfl,hg⟩;generalize rf ⟨g0,w0,d0,l0⟩=c1 at *;have hg':(c1:Int)<(g1:Int):=by omega
     go_wp2_with fail
     go_quiet (fail)
     go_wp2_with fail
     exact ⟨⟨dH (HA.out _) _,.inr (.inr ⟨rfl,by rw [HE.out];rfl,by rw [HE.out]⟩)⟩,by simp [aI]⟩
    ·have HE:Hid (jY ⟨g0,w0,d0,l0⟩ ⟨g1,true,d1,l1⟩=(0,rf ⟨g0,w0,d0,l0⟩)):=if_neg (fun q=>hg q.2);generalize rf ⟨g0,w0,d0,l0⟩=c1 at *;have hg':¬(c1:Int)<(g1:Int):=by omega
     go_wp2_with fail
     exact ⟨⟨HA.out _,.inr (.inr ⟨rfl,by rw [HE.out];rfl,by rw [HE.out]⟩)⟩,by simp [aI]⟩
  ·go_wp2_with fail
   go_ret2
   exact ⟨rfl,HB.out⟩
structure vC (a:cS):Prop where
 gen:a.gen<=4294967295
 wh:a.whole=true->0<a.gen
 sh:∀x∈a.list,ox (ah x.1)=true∧x.2.length<=200
 few:a.list.length<=a.good
theorem vC.zero:vC kH:=⟨by decide,fun h=>(by cases h),fun x h=>(by cases h),ax _⟩
theorem vC.step {a a':cS} {k:Nat} {p:List UInt8} (h:vC a) (hp:p.length<=200) (e:iH a k p=some a'):vC a':=by
 have hf:=Sf e;unfold iH at e;split at e
 ·split at e
  ·cases e;exact ⟨by have:=zG (ah p) 0 4;simp only;omega,fun _=>hf.2.1,h.sh,by have:=h.few;simp only;omega⟩
  ·cases e
 ·split at e
  ·split at e
   ·rename_i hc;cases e;refine ⟨h.gen,h.wh,fun x hx=>?_,?_⟩
    ·rcases List.mem_append.1 hx with q | q
     ·exact h.sh x q
     ·rw [List.mem_singleton] at q;rw [q];exact ⟨hc.2.2,by show (p.drop _).length<=200;rw [om];omega⟩
    ·have:=h.few;simp only [List.length_append,List.length_singleton];omega
   ·cases e
  ·split at e
   ·split at e
    ·cases e;exact ⟨h.gen,fun _=>hf.2.1,h.sh,by have:=h.few;simp only;omega⟩
    ·cases e
   ·cases e
theorem vC.nL:∀(f:Nat) (a:cS) (l:List UInt8),vC a->vC (nL f a l)∧(nL f a l).good<=a.good+l.length
 | 0,a,l,h=>⟨h,mN _ _⟩
 | f+1,a,l,h=>by
   rw [Go.Proofs.YtmmflekajbeamaaGreatDoor.nL];cases hf:mS l with
   | none=>exact ⟨h,mN _ _⟩
   | some kp=>
     obtain ⟨k,p⟩:=kp;simp only;cases ht:iH a k p with
     | none=>exact ⟨h,mN _ _⟩
     | some a'=>
       simp only;obtain ⟨_,_,hp,hl,_⟩:=xU hf;obtain ⟨h1,h2⟩:=vC.nL f a' (l.drop (p.length+8)) (h.step hp ht);refine ⟨h1,?_⟩;have:=(Sf ht).1;rw [om] at h2;omega
theorem BM (l:List UInt8):vC (scan l)∧(scan l).good<=l.length:=by
 have:=vC.nL (l.length+1) kH l vC.zero;simpa [scan,kH] using this
theorem Iz (l:List UInt8):(scan l).list.length<=l.length:=aT (BM l).1.few (BM l).2
theorem anu (a b:cS):jY a b=(1,b.gen)∨jY a b=(0,rf a):=by
 unfold jY;split
 ·exact .inl rfl
 ·exact .inr rfl
def gB (g:ay) (c:Nat) (A:cS) (n:Nat):ay:={g with ar:=c,gn:=A.gen,sz:=n,b:=aE g.b 0 (dN A.list)}
def mo {α:Type} (o:qc α) (g:ay) (d:α) (t0 t1:List UInt8):Int×ay×α:=
 if (jY (scan t0) (scan t1)).2=0 then cT o {g with ar:=1} d 0
 else if (jY (scan t0) (scan t1)).1=0 then
  (if (scan t0).good<t0.length then cT o (gB g 0 (scan t0) t0.length) d 1 else (0,gB g 0 (scan t0) t0.length,d))
 else (if (scan t1).good<t1.length then cT o (gB g 1 (scan t1) t1.length) d 0 else (0,gB g 1 (scan t1) t1.length,d))
def gC {α:Type} (o:qc α) (g:ay) (d:α):Int×ay×α:=
 if (mI o g d).1=0 then mo o (mI o g d).2.1 (mI o g d).2.2.1 (mI o g d).2.2.2.1 (mI o g d).2.2.2.2 else ((mI o g d).1,(mI o g d).2.1,(mI o g d).2.2.1)
theorem IA {g:ay} (h:oG g) {c:Nat} (hc:c<=1) {A:cS} (hA:vC A) (hl:A.list.length<=1500) (n:Nat):oG (gB g c A n):=by
 refine ⟨hc,hA.gen,fun i hi=>?_,fun i hi k hk=>?_⟩
 ·by_cases i0:i=0
  ·subst i0;show (aE g.b 0 (dN A.list) 0).length<=_
   rw [cq];have:=Ip A.list;omega
  ·show (aE g.b 0 (dN A.list) i).length<=_
   rw [bp _ _ _ _ i0];exact h.few i hi
 ·by_cases i0:i=0
  ·subst i0;have hk':k∈aE g.b 0 (dN A.list) 0:=hk;rw [cq] at hk';refine Lh (P:=fun p=>p.length<=1000000) _ [] (fun _ h=>by cases h) (fun x hx=>?_) k hk';have:=(hA.sh x hx).2;omega
  ·have hk':k∈aE g.b 0 (dN A.list) i:=hk;rw [bp _ _ _ _ i0] at hk';exact h.sh i hi k hk'
theorem ac1 {t:List UInt8} (h:ox (ah t)=true):t.length<=1000000:=by
 have:=((zN _).1 h).2.1;rw [bZ] at this;omega
theorem ac2 (d:aL) (i:Int):(cG d i).2.b=d.b:=by
 unfold cG;split
 ·rfl
 ·split<;>rfl
theorem anv (d:aL) (i:Int):(dn d i).2.2.b=d.b:=by
 unfold dn;split
 ·rfl
 ·split<;>rfl
theorem ac3 {d:aL} (h:∀i,i<2->(d.b i).length<=1500) (i:Int):(dn d i).1.length<=1500:=by
 unfold dn;split
 ·exact bK _
 ·split
  ·exact bK _
  ·exact h _ (by omega)
theorem ac4 {g:ay} {d:aL} (h:∀i,i<2->(d.b i).length<=1500):(mI bO g d).2.2.2.1.length<=1500∧(mI bO g d).2.2.2.2.length<=1500:=by
 rw [Iw];have h1:∀i,i<2->((cG (cG d 0).2 1).2.b i).length<=1500:=by rw [ac2,ac2];exact h
 have h2:∀i,i<2->((dn (cG (cG d 0).2 1).2 0).2.2.b i).length<=1500:=by rw [anv];exact h1
 repeat' split
 all_goals first | exact ⟨ac3 h1 _,ac3 h2 _⟩ | exact ⟨bK _,bK _⟩
theorem ac5 {g:ay} {d:aL} (h:(mI bO g d).1=0):(mI bO g d).2.1=g:=by
 rw [Iw] at h⊢;revert h
 repeat' split
 all_goals first | (intro _;rfl) | (intro h;cases h)
theorem UY:(Tryz.prog.info? 205).map (·.size)=some 8:=by kernel_rfl
theorem anw (x0 x1:aj) (w:World):(qh 177 (.agg #[x0,x1]) (.int .i64 0)).run au w= .ok x0 w:=by kernel_rfl
theorem anx (x0 x1:aj) (w:World):(qh 177 (.agg #[x0,x1]) (.int .i64 1)).run au w= .ok x1 w:=by kernel_rfl
structure sA (Wb:World) (n:Nat) (a b:cS) (u v:aj) (wr:World):Prop where
 cA:ak n Wb wr
 row:wr.heap[n]? =some (.cells (Ao a b u v) 205 (0,0))
 ou:wr.ownsRow (n+1) 127 2 u a.list.length (bR a.list)
 ov:wr.ownsRow (n+1) 127 2 v b.list.length (bR b.list)
theorem sA.lt {Wb:World} {n:Nat} {a b:cS} {u v:aj} {wr:World} (h:sA Wb n a b u v wr):n<wr.heap.size:=(iD.1 h.row).1
theorem sA.up {Wb:World} {n:Nat} {a b:cS} {u v:aj} {wr w2:World} (h:sA Wb n a b u v wr) (hb:ak wr.heap.size wr w2):sA Wb n a b u v w2:=
 ⟨h.cA.trans (hb.mono (iP h.lt)),(hb.block n h.lt).trans h.row,dX h.ou hb,dX h.ov hb⟩
theorem sA.cells {Wb:World} {n:Nat} {a b:cS} {u v:aj} {wr:World} (h:sA Wb n a b u v wr):(wr.cell? ⟨n,0,none⟩=some (.int .i64 (a.gen:Int))∧wr.cell? ⟨n,1,none⟩=some (.bool a.whole)∧wr.cell? ⟨n,2,none⟩=some (.int .i64 (a.good:Int))∧wr.cell? ⟨n,3,none⟩=some u)∧(wr.cell? ⟨n,4,none⟩=some (.int .i64 (b.gen:Int))∧wr.cell? ⟨n,5,none⟩=some (.bool b.whole)∧wr.cell? ⟨n,6,none⟩=some (.int .i64 (b.good:Int))∧wr.cell? ⟨n,7,none⟩=some v)∧∀j,wr.frozen? ⟨n,j,none⟩=false:=by
 have r:=h.row;refine ⟨⟨?_,?_,?_,?_⟩,⟨?_,?_,?_,?_⟩,fun j=>?_⟩<;>first | simp [World.cell?,r,Ao] | simp [World.frozen?,r]
def tG (w:World) (n o:Nat) (a:cS) (u:aj):World:=(((w.setCell ⟨n,o,none⟩ (.int .i64 (a.gen:Int))).setCell ⟨n,o+1,none⟩ (.bool a.whole)).setCell ⟨n,o+1+1,none⟩ (.int .i64 (a.good:Int))).setCell ⟨n,o+1+1+1,none⟩ u
theorem Dl (w:World) (n o:Nat) (a:cS) (u:aj) {x:Nat} (hx:x≠n):(tG w n o a u).heap[x]? =w.heap[x]?:=by
 unfold tG;rw [bB hx,bB hx,bB hx,bB hx]
theorem PO {Wb w:World} {n:Nat} (h:ak n Wb w) (o:Nat) (a:cS) (u:aj):ak n Wb (tG w n o a u):=
 (((h.setCell (p:=⟨n,o,none⟩) (ax _) _).setCell (p:=⟨n,o+1,none⟩) (ax _) _).setCell (p:=⟨n,o+1+1,none⟩) (ax _) _).setCell (p:=⟨n,o+1+1+1,none⟩) (ax _) _
theorem sA.anz {Wb:World} {n:Nat} {a b:cS} {u v:aj} {wr:World} (h:sA Wb n a b u v wr) {a':cS} {u':aj} (ho:wr.ownsRow (n+1) 127 2 u' a'.list.length (bR a'.list)):sA Wb n a' b u' v (tG wr n 0 a' u'):=by
 refine ⟨PO h.cA 0 a' u',?_,dz ho (fun x q=>Dl wr n 0 a' u' (by have:=(aR ho x q).1;omega)),dz h.ov (fun x q=>Dl wr n 0 a' u' (by have:=(aR h.ov x q).1;omega))⟩;unfold tG;simp [qP,sO,h.row,Ao]
theorem sA.anA {Wb:World} {n:Nat} {a b:cS} {u v:aj} {wr:World} (h:sA Wb n a b u v wr) {b':cS} {v':aj} (ho:wr.ownsRow (n+1) 127 2 v' b'.list.length (bR b'.list)):sA Wb n a b' u v' (tG wr n 4 b' v'):=by
 refine ⟨PO h.cA 4 b' v',?_,dz h.ou (fun x q=>Dl wr n 4 b' v' (by have:=(aR h.ou x q).1;omega)),dz ho (fun x q=>Dl wr n 4 b' v' (by have:=(aR ho x q).1;omega))⟩;unfold tG;simp [qP,sO,h.row,Ao]
theorem ac6 {E D:Nat} {g:ay} {d:aL} {m v vs:Nat->aj} {w W4 w5:World} (h:dG E D g d m v vs w) (c n:Nat) (A:cS) (h4:W4=((w.setCell ⟨E,146,none⟩ (.int .i64 (c:Int))).setCell ⟨E,147,none⟩ (.int .i64 (A.gen:Int))).setCell ⟨E,148,none⟩ (.int .i64 (n:Int))) (hb:ak W4.heap.size W4 w5) {mv nv:aj} (hv:oF W4.heap.size (dN A.list) mv nv w5) (W6:World) (h6:W6=(w5.setCell ⟨E,149,none⟩ mv).setCell ⟨E,150,none⟩ nv):
 dG E D (gB g c A n) d (aE m 0 mv) (aE v 0 nv) vs W6∧cN E D m v vs (aE m 0 mv) (aE v 0 nv) vs w W6:=by
 obtain ⟨k4,f4⟩:=h.Dj c A.gen n W4 h4;have k5:=k4.up hb;have zZ:=k4.eg.lt;have hn:∀x,jz mv nv x->¬dc E m v x:=fun x q p=>by have:=(hv.has q).1;have:=(k4.eg.has p).2;omega
 obtain ⟨a1,a2⟩:=k5.eg.UO (i:=0) (by decide) (hv.base (iP zZ)) hn W6 h6;have eo:∀x,dc E (aE m 0 mv) (aE v 0 nv) x->dc E m v x∨W4.heap.size<=x:=fun x q=>by
  rcases q with q | ⟨i,hi,q⟩
  ·exact .inl (.inl q)
  ·by_cases i0:i=0
   ·subst i0;rw [cq,cq] at q;exact .inr (hv.has q).1
   ·rw [bp _ _ _ _ i0,bp _ _ _ _ i0] at q;exact .inl (.inr ⟨i,hi,q⟩)
 have hc:aM (dc E m v) W4 W6:=(aM.bh hb).trans (fun x q=>.inl q) (a2.weak (fun x q=>.inl (.inl q)));obtain ⟨r1,r2⟩:=k4.Di a1 hc eo;exact ⟨r1,f4.trans r2⟩
theorem anB (E D:Nat) (g:ay) (d:aL) (m v vs:Nat->aj) (w:World) (h:dG E D g d m v vs w) (ht:bF w) (hok:oG g):
 av au 97 #[.pointer (some ⟨E,0,none⟩)] w (EPost E D m v vs w (gC bO g d).1 (gC bO g d).2.1 (gC bO g d).2.2):=by
 have j9:=af (ann E D g d m v vs w h);have SX:=ac4 (g:=g) (d:=d) h.dv.len;have hgg:=ac5 (g:=g) (d:=d);have pW:Hid (∀m' v' vs' w',cN E D m v vs m' v' vs' w w'->bF w'):=fun m' v' vs' w' hf=>h.tab ht hf;have fK:=af hok;unfold gC;generalize mI bO g d=R at *;obtain ⟨n,g1,d1,t0,t1⟩:=R;simp only at j9 SX hgg⊢;clear h ht hok;by_cases hn:n=0
 ·subst hn;rw [if_pos rfl];obtain rfl:=hgg rfl;clear hgg;obtain ⟨hl0,hl1⟩:=SX;obtain ⟨vq,hG0⟩:=BM t0;obtain ⟨H9,hG1⟩:=BM t1;have tH:=af vq;have jW:=af H9;have IB:=Iz t0;have hf1:=Iz t1;have anE:Hid (∀w',bF w'->av au 150 #[.string (ah t0)] w' (Dd (ah t0) w')):=fun w' ht'=>acw (ah t0) w' ht' (by rw [bZ];omega) (by rw [kG];omega);have anF:Hid (∀w',bF w'->av au 150 #[.string (ah t1)] w' (Dd (ah t1) w')):=fun w' ht'=>acw (ah t1) w' ht' (by rw [bZ];omega) (by rw [kG];omega);have Bi:Hid ((scan t0).list.length<=1500):=aT IB hl0;have p5:Hid ((scan t1).list.length<=1500):=aT hf1 hl1;have ix0:=anw;have ix1:=anx;have uz:Hid ((ah t0).size=t0.length):=bZ _;have vE:Hid ((ah t1).size=t1.length):=bZ _;have HFi:Hid (∀r,mo bO g1 d1 t0 t1=r->mo bO g1 d1 t0 t1=r):=fun _ h=>h;obtain ⟨RR,mh⟩:∃RR,RR=mo bO g1 d1 t0 t1:=⟨_,rfl⟩;rw [<-mh];have jA:=af mh;clear mh vq H9 hG0 hG1 hl0 hl1 IB hf1 HFi;go_enter Tryz.func97,Tryz.ntmps97;go_wp2_with fail
  refine (aq j9).mono ?_;rintro e w1 ⟨s0,s1,rfl,hst,m1,v1,vs1,k1,f1⟩;obtain ⟨rfl,rfl⟩:=hst rfl;have m9:=af k1;have Iq:=af f1;obtain ⟨Wb,Lp⟩:∃Wb,Wb=w1.alloc (.cells #[.string (ah t0),.string (ah t1)] 177):=⟨_,rfl⟩;have hz1:Wb.heap.size=w1.heap.size+1:=by rw [Lp,aB]
  have pG:ak w1.heap.size w1 Wb:=by rw [Lp];exact (aA _ _).alloc (ax _) _
  have rb:Wb.heap[w1.heap.size]? =some (.cells #[.string (ah t0),.string (ah t1)] 177 (0,0)):=by rw [Lp,bg]
  obtain ⟨Wc,EZ⟩:∃Wc,Wc=Wb.alloc (.cells (Ao kH kH (.slice none 0 0) (.slice none 0 0)) 205):=⟨_,rfl⟩;have KU:Hid (sA Wb (w1.heap.size+1) kH kH (.slice none 0 0) (.slice none 0 0) Wc):=by
   unfold Hid;rw [<-hz1];refine ⟨by rw [EZ];exact (aA _ _).alloc (ax _) _,by rw [EZ,bg],j7 _ _ _ _,j7 _ _ _ _⟩
  have mq:Hid (∀a b u x wr,sA Wb (w1.heap.size+1) a b u x wr->bF wr∧dG E D g1 d1 m1 v1 vs1 wr∧cN E D m v vs m1 v1 vs1 w wr∧wr.heap[w1.heap.size]? =some (.cells #[.string (ah t0),.string (ah t1)] 177 (0,0))):=fun a b u x wr hI=>by
   have hb:ak w1.heap.size w1 wr:=pG.trans (hI.cA.mono (Nat.le_succ _));have hf:=f1.trans (cN.bh hb);exact ⟨pW.out _ _ _ _ hf,k1.up hb,hf,(hI.cA.block _ (Nat.lt_succ_self _)).trans rb⟩
  have HZb:=af hz1;have lq:=af pG;have Lr:=af rb;have E7:=af Lp;have HWc:=af EZ;clear k1 f1 hst hz1 pG rb Lp EZ j9;unfold dl;go_wp2_with fail
  rw [show ((w1.alloc (RD #[tZ (ah t0),tZ (ah t1)] 177)).alloc (RD #[cI Gv 0,lV false,cI Gv 0,mQ none 0 0,cI Gv 0,lV false,cI Gv 0,mQ none 0 0] 205))=Wc from by rw [HWc.out,E7.out];rfl];go_loopw [20] (fun i wr=>∃a b u x,Hid (sA Wb (w1.heap.size+1) a b u x wr)∧((i= .int .i64 0∧a=kH∧b=kH)∨(i= .int .i64 1∧a=scan t0∧b=kH)∨(i= .int .i64 2∧a=scan t0∧b=scan t1))) (fun i _=>2 - (aI i).toNat)
  case atStart=>exact ⟨kH,kH,_,_,KU.out,.inl ⟨rfl,rfl,rfl⟩⟩
  case round=>
   obtain ⟨a,b,u,x,HI,⟨rfl,rfl,rfl⟩ | ⟨rfl,rfl,rfl⟩ | ⟨rfl,rfl,rfl⟩⟩:=hrel
   ·have HS:=af (anE.out wr (mq.out _ _ _ _ _ HI.out).1);go_wp2_with fail
    refine (aq HS).mono ?_;rintro e w2 ⟨hb2,y,rfl,hy⟩;rw [kG] at hy⊢;have jB:=af (HI.out.up hb2);have Dg:=af (jB.out.anz (a':=scan t0) (Al hy HI.out.lt));obtain ⟨⟨c0,c1,c2,c3⟩,_,fz⟩:=jB.out.cells;have z0:=fz 0;have z1:=fz 1;have z2:=fz 2;have z3:=fz 3;obtain ⟨ya,yc,rfl⟩:=bA hy;clear hb2 hy fz HS;generalize (scan t0).list.length=L0 at *;unfold bJ;go_wp2_with fail
    exact ⟨⟨_,_,_,_,Dg.out,.inr (.inl ⟨rfl,rfl,rfl⟩)⟩,by simp [aI]⟩
   ·have HS:=af (anF.out wr (mq.out _ _ _ _ _ HI.out).1);go_wp2_with fail
    refine (aq HS).mono ?_;rintro e w2 ⟨hb2,y,rfl,hy⟩;rw [kG] at hy⊢;have jB:=af (HI.out.up hb2);have Dg:=af (jB.out.anA (b':=scan t1) (Al hy HI.out.lt));obtain ⟨_,⟨c0,c1,c2,c3⟩,fz⟩:=jB.out.cells;have z0:=fz 4;have z1:=fz 5;have z2:=fz 6;have z3:=fz 7;obtain ⟨ya,yc,rfl⟩:=bA hy;clear hb2 hy fz HS;generalize (scan t1).list.length=L0 at *;unfold bJ;go_wp2_with fail
    exact ⟨⟨_,_,_,_,Dg.out,.inr (.inr ⟨rfl,rfl,rfl⟩)⟩,by simp [aI]⟩
   ·obtain ⟨ua,uc,rfl⟩:=bA HI.out.ou;obtain ⟨va,vc,rfl⟩:=bA HI.out.ov;have yF:=af (anq (scan t0) (scan t1) ua (scan t0).list.length uc va (scan t1).list.length vc wr);have rI:=HI.out.row;by_cases hc:(jY (scan t0) (scan t1)).2=0
    ·have hcd:decide (0<(jY (scan t0) (scan t1)).2)=false:=by rw [hc];rfl
     rw [hcd] at yF;have dm:Hid (RR=cT bO {g1 with ar:=1} d1 0):=by unfold Hid;rw [jA.out];unfold mo;rw [if_pos hc]
     generalize jY (scan t0) (scan t1)=C at *;clear hc hcd;go_wp2_with (refine qO rfl 205 _ rfl (w1.heap.size+1) rfl 205 (Ao (scan t0) (scan t1) _ _) (0,0) _ rI Tryz.underlying205 rfl UY ?_)
     refine (aq yF).mono ?_;rintro e w2 ⟨rfl,hb2⟩;obtain ⟨q1,q2,q3,q4⟩:=mq.out _ _ _ _ _ (HI.out.up hb2);obtain ⟨k2,f2⟩:=q2.set 146 (.inr (by decide)) {g1 with ar:=1} rfl rfl (acU D g1 1) (.int .i64 1) rfl;have PT:=q2.eg.sc 146 (.inr (by decide));have f146:=q2.eg.fz 146;have fC:=af k2;have pF:=af (q3.trans f2);have sy:=af (Li E D _ d1 m1 v1 vs1 _ k2 (pW.out _ _ _ _ pF.out) ⟨ax _,fK.out.gn,fK.out.few,fK.out.sh⟩);generalize gU D g1 146=ac7 at *;clear hb2 q1 q2 q3 q4 k2 f2 yF;go_wp2_with fail
     refine (aq sy).mono ?_;rintro e w3 ⟨rfl,m3,v3,vs3,k3,f3⟩;have fM:=af k3;have pq:=af (pF.out.trans f3);clear k3 f3 sy;go_wp2_with fail
     go_ret;rw [dm.out];exact ⟨rfl,m3,v3,vs3,fM.out,pq.out⟩
    ·rcases anu (scan t0) (scan t1) with hcc | hcc
     ·have HC:Hid (jY (scan t0) (scan t1)=(1,(scan t1).gen)):=hcc;have Lt:mo bO g1 d1 t0 t1=(if (scan t1).good<t1.length then cT bO (gB g1 1 (scan t1) t1.length) d1 0 else (0,gB g1 1 (scan t1) t1.length,d1)):=by unfold mo;rw [if_neg hc,hcc];rfl
      have dm:=af (jA.out.trans Lt);have hcd:decide (0<(jY (scan t0) (scan t1)).2)=true:=decide_eq_true (Nat.pos_of_ne_zero hc);rw [hcd,hcc] at yF;simp only at yF;clear hcd hc hcc Lt;go_wp2_with (refine qO rfl 205 _ rfl (w1.heap.size+1) rfl 205 (Ao (scan t0) (scan t1) _ _) (0,0) _ rI Tryz.underlying205 rfl UY ?_)
      refine (aq yF).mono ?_;rintro e w2 ⟨rfl,hb2⟩;have jB:=af (HI.out.up hb2);obtain ⟨q1,q2,q3,q4⟩:=mq.out _ _ _ _ _ jB.out;have Ap:=af q1;have fC:=af q2;have pF:=af q3;have hz2:w1.heap.size+1<w2.heap.size:=jB.out.lt;obtain ⟨⟨c0,c1,c2,c3⟩,⟨c4,c5,c6,c7⟩,_⟩:=jB.out.cells;have x1:w2.cell? ⟨w1.heap.size,1,none⟩=some (.string (ah t1)):=cF q4 1;have yd:Hid (w2.ownsRow (w1.heap.size+1+1) 127 2 (.slice va (scan t1).list.length vc) (scan t1).list.length (bR (scan t1).list)):=jB.out.ov;have Am:Hid (∀w',bF w'->w'.ownsRow (w1.heap.size+1+1) 127 2 (.slice va (scan t1).list.length vc) (scan t1).list.length (bR (scan t1).list)->av au 152 #[.slice va (scan t1).list.length vc] w' (E0 (dN (scan t1).list) w')):=fun w' ht' ho=>UJ _ _ _ w' ht' ho (fun y hy=>ac1 (jW.out.sh y hy).1) (by have:=p5.out;omega);have hEz:E<w2.heap.size:=q2.eg.lt;clear hb2 q1 q2 q3 q4 yF;have UZ:=af (IA fK.out (c:=1) (by decide) jW.out p5.out (ah t1).size);generalize Lb:(scan t1).list.length=L0 at *;clear Lb;go_upto_region 15 with fail
      obtain ⟨W3,eY⟩:∃W3,W3=w2.alloc (.cells #[.int .i64 ((scan t1).gen:Int),.bool (scan t1).whole,.int .i64 ((scan t1).good:Int),.slice va L0 vc] 175):=⟨_,rfl⟩;rw [<-eY];have bn:ak w2.heap.size w2 W3:=by rw [eY];exact (aA _ _).alloc (ax _) _
      have r3:W3.heap[w2.heap.size]? =some (.cells #[.int .i64 ((scan t1).gen:Int),.bool (scan t1).whole,.int .i64 ((scan t1).good:Int),.slice va L0 vc] 175 (0,0)):=by rw [eY,bg]
      have Aq:=af (Ap.out.below Ap.out.pos bn);have fM:=af (fC.out.up bn);have pq:=af (pF.out.trans (cN.bh bn));have Lu:=af (dX yd.out bn);have y0:W3.cell? ⟨w2.heap.size,0,none⟩=some (.int .i64 ((scan t1).gen:Int)):=cF r3 0;have y2:W3.cell? ⟨w2.heap.size,2,none⟩=some (.int .i64 ((scan t1).good:Int)):=cF r3 2;have y3:W3.cell? ⟨w2.heap.size,3,none⟩=some (.slice va L0 vc):=cF r3 3;have x3:W3.cell? ⟨w1.heap.size,1,none⟩=some (.string (ah t1)):=(aP (bn.block _ (YE hz2))).trans x1;have oZ:w2.heap.size<W3.heap.size:=(iD.1 r3).1;have wV:E<w1.heap.size:=m9.out.eg.lt;have n1:E≠w1.heap.size:=by omega
      have n2:E≠w2.heap.size:=by omega
      have U0:=fM.out.eg.sc 146 (.inr (by decide));have U1:=fM.out.eg.sc 147 (.inr (by decide));have U2:=fM.out.eg.sc 148 (.inr (by decide));have z146:=fM.out.eg.fz 146;have U3:=fM.out.eg.fz 147;have z148:=fM.out.eg.fz 148;generalize gU D g1 146=ac7 at *;generalize gU D g1 147=anJ at *;generalize gU D g1 148=anK at *;have kk:∀(W:World) (j:Nat) (z:aj),(W.cell? ⟨w2.heap.size,0,none⟩=some (.int .i64 ((scan t1).gen:Int))∧W.cell? ⟨w1.heap.size,1,none⟩=some (.string (ah t1)))->((W.setCell ⟨E,j,none⟩ z).cell? ⟨w2.heap.size,0,none⟩=some (.int .i64 ((scan t1).gen:Int))∧(W.setCell ⟨E,j,none⟩ z).cell? ⟨w1.heap.size,1,none⟩=some (.string (ah t1))):=fun W j z q=>⟨(aP (bB (fun e=>n2 e.symm))).trans q.1,(aP (bB (fun e=>n1 e.symm))).trans q.2⟩;have oH:=af kk;have De:=af r3;clear c0 c1 c2 c3 c4 c5 c6 c7 x1 bn r3 eY kk rI;refine ug 10 9 (fun w'=>w'.cell? ⟨w2.heap.size,0,none⟩=some (.int .i64 ((scan t1).gen:Int))∧w'.cell? ⟨w1.heap.size,1,none⟩=some (.string (ah t1))) (by kernel_rfl) (by kernel_rfl) (fun d _ _ _ _ h=>by cases d<;>exact h) ⟨y0,x3⟩ ?_;simp only [j5,jU,j6,iE]
      iterate 10
       refine mT ?_ rfl ?_ ?_
       rotate_left
       ·rintro w' ⟨e1,e2⟩;go_simp;rfl
       go_simp
      refine uf ?_
      iterate 2
       refine iQ rfl (fun K hK=>?_);go_simp;refine hK _ _ ⟨y0,x3⟩ ?_;clear hK K
      refine iQ rfl (fun K hK=>?_);go_simp;refine hK _ _ (oH.out _ _ _ ⟨y0,x3⟩) ?_;clear hK K
      iterate 2
       refine iQ rfl (fun K hK=>?_);go_simp;refine hK _ _ (oH.out _ _ _ ⟨y0,x3⟩) ?_;clear hK K
      refine iQ rfl (fun K hK=>?_);go_simp;refine hK _ _ (oH.out _ _ _ (oH.out _ _ _ ⟨y0,x3⟩)) ?_;clear hK K
      iterate 2
       refine iQ rfl (fun K hK=>?_);go_simp;refine hK _ _ (oH.out _ _ _ (oH.out _ _ _ ⟨y0,x3⟩)) ?_;clear hK K
      refine iQ rfl (fun K hK=>?_);go_simp;refine hK _ _ (oH.out _ _ _ (oH.out _ _ _ (oH.out _ _ _ ⟨y0,x3⟩))) ?_;clear hK K;unfold oy;obtain ⟨W4,mJ⟩:∃W4,W4=((W3.drew.setCell ⟨E,146,none⟩ (.int .i64 1)).setCell ⟨E,147,none⟩ (.int .i64 ((scan t1).gen:Int))).setCell ⟨E,148,none⟩ (.int .i64 ((ah t1).size:Int)):=⟨_,rfl⟩;rw [show ((((W3.setCell ⟨E,146,none⟩ (.int .i64 1)).setCell ⟨E,147,none⟩ (.int .i64 ((scan t1).gen:Int))).setCell ⟨E,148,none⟩ (.int .i64 ((ah t1).size:Int))).drew)=W4 from by rw [mJ];rfl];have o4:∀x,x≠E->W4.heap[x]? =W3.heap[x]?:=fun x hx=>by rw [mJ,bB hx,bB hx,bB hx];rfl
      have E8:dG E D g1 d1 m1 v1 vs1 W3.drew:=fM.out.up ((aA _ _).drew);obtain ⟨k4,f4⟩:=E8.Dj 1 (scan t1).gen (ah t1).size W4 mJ;have Iu:=(pq.out.trans (cN.bh ((aA _ _).drew))).trans f4;have lS:=af (Am.out W4 (pW.out _ _ _ _ Iu) (dz Lu.out (fun x q=>o4 x (by have:=(aR Lu.out x q).1;omega))));have U4:=af E8;have U5:=af mJ;have SR:=af o4;have U6:=af (pq.out.trans (cN.bh ((aA W3.heap.size W3).drew)));have U7:W4.cell? ⟨w2.heap.size,3,none⟩=some (.slice va L0 vc):=(aP (o4 _ (fun e=>n2 e.symm))).trans y3;have xx:Hid (W4.heap[w2.heap.size]? =W3.heap[w2.heap.size]?):=o4 _ (fun e=>n2 e.symm);have uh:w2.heap.size<W4.heap.size:=by rw [mJ,fW,fW,fW];exact oZ
      have zZ:E<W4.heap.size:=k4.eg.lt;have iz:=af k4;clear E8 k4 f4 Iu mJ o4 y0 y3 x3 U0 U1 U2 z146 U3 z148 Am oH;go_wp2_with fail
      refine (aq lS).mono ?_;rintro e w5 ⟨mv,nv,rfl,gh,fD⟩;have yG:=af (fun W6=>ac6 U4.out 1 (ah t1).size (scan t1) U5.out fD gh W6);have k5:=iz.out.up fD;have U8:=(k5.eg.bk 0 (by decide)).c0;have U9:=(k5.eg.bk 0 (by decide)).c1;have anL:=k5.eg.fz 149;have anM:=k5.eg.fz 150;have Lv:w5.heap[w2.heap.size]? =W3.heap[w2.heap.size]?:=(fD.block _ uh).trans xx.out;obtain ⟨ob,rfl⟩:=gh.map;obtain ⟨xa,xc,rfl⟩:=bA gh.ls;obtain ⟨W6,iU⟩:∃W6,W6=(w5.setCell ⟨E,149,none⟩ (.map ob)).setCell ⟨E,150,none⟩ (.slice xa (dN (scan t1).list).length xc):=⟨_,rfl⟩;have Va:=af iU;obtain ⟨k6,f6⟩:=yG.out W6 iU;have y26:W6.cell? ⟨w2.heap.size,2,none⟩=some (.int .i64 ((scan t1).good:Int)):=(aP (by rw [iU,bB (fun e=>n2 e.symm),bB (fun e=>n2 e.symm)];exact Lv)).trans y2;have Lw:W6.cell? ⟨E,148,none⟩=some (.int .i64 ((ah t1).size:Int)):=k6.eg.sc 148 (.inr (by decide));have yH:=af (U6.out.trans f6);have ng:=af k6;clear gh fD k5 Lv k6 f6 iU y2 U7 lS yG;generalize m1 0=M0 at U8;generalize v1 0=V0 at U9;go_upto_region 17 with fail
      rw [<-Va.out];by_cases hgd:(scan t1).good<t1.length
      ·have Vb:((scan t1).good:Int)<((ah t1).size:Int):=by rw [vE.out];omega
       have dW:Hid (RR=cT bO (gB g1 1 (scan t1) (ah t1).size) d1 0):=by unfold Hid;rw [dm.out,if_pos hgd,vE.out]
       clear hgd;go_quiet (fail)
       go_wp2_with fail
       have sy:=af (Li E D _ d1 _ _ _ _ (ng.out.drewN nq) (pW.out _ _ _ _ (yH.out.trans (cN.bh (dH (aA _ _) nq)))) UZ.out);refine (aq sy).mono ?_;rintro e w7 ⟨rfl,m7,v7,Vc,k7,f7⟩;have mK:=af k7;have oI:=af ((yH.out.trans (cN.bh (dH (aA _ _) nq))).trans f7);clear k7 f7 sy;go_wp2_with fail
       go_ret;rw [dW.out];exact ⟨rfl,m7,v7,Vc,mK.out,oI.out⟩
      ·have Vb:¬((scan t1).good:Int)<((ah t1).size:Int):=by rw [vE.out];omega
       have dW:Hid (RR=(0,gB g1 1 (scan t1) (ah t1).size,d1)):=by unfold Hid;rw [dm.out,if_neg hgd,vE.out]
       clear hgd;go_quiet (fail)
       go_wp2_with fail
       go_ret;rw [dW.out];exact ⟨rfl,_,_,_,ng.out.drewN _,yH.out.trans (cN.bh (dH (aA _ _) _))⟩
     ·have HC:Hid (jY (scan t0) (scan t1)=(0,rf (scan t0))):=hcc;have Lt:mo bO g1 d1 t0 t1=(if (scan t0).good<t0.length then cT bO (gB g1 0 (scan t0) t0.length) d1 1 else (0,gB g1 0 (scan t0) t0.length,d1)):=by unfold mo;rw [if_neg hc,hcc];rfl
      have dm:=af (jA.out.trans Lt);have hcd:decide (0<(jY (scan t0) (scan t1)).2)=true:=decide_eq_true (Nat.pos_of_ne_zero hc);rw [hcd,hcc] at yF;simp only at yF;clear hcd hc hcc Lt;go_wp2_with (refine qO rfl 205 _ rfl (w1.heap.size+1) rfl 205 (Ao (scan t0) (scan t1) _ _) (0,0) _ rI Tryz.underlying205 rfl UY ?_)
      refine (aq yF).mono ?_;rintro e w2 ⟨rfl,hb2⟩;have jB:=af (HI.out.up hb2);obtain ⟨q1,q2,q3,q4⟩:=mq.out _ _ _ _ _ jB.out;have Ap:=af q1;have fC:=af q2;have pF:=af q3;have hz2:w1.heap.size+1<w2.heap.size:=jB.out.lt;obtain ⟨⟨c0,c1,c2,c3⟩,⟨c4,c5,c6,c7⟩,_⟩:=jB.out.cells;have x1:w2.cell? ⟨w1.heap.size,0,none⟩=some (.string (ah t0)):=cF q4 0;have yd:Hid (w2.ownsRow (w1.heap.size+1+1) 127 2 (.slice ua (scan t0).list.length uc) (scan t0).list.length (bR (scan t0).list)):=jB.out.ou;have Am:Hid (∀w',bF w'->w'.ownsRow (w1.heap.size+1+1) 127 2 (.slice ua (scan t0).list.length uc) (scan t0).list.length (bR (scan t0).list)->av au 152 #[.slice ua (scan t0).list.length uc] w' (E0 (dN (scan t0).list) w')):=fun w' ht' ho=>UJ _ _ _ w' ht' ho (fun y hy=>ac1 (tH.out.sh y hy).1) (by have:=Bi.out;omega);have hEz:E<w2.heap.size:=q2.eg.lt;clear hb2 q1 q2 q3 q4 yF;have UZ:=af (IA fK.out (c:=0) (by decide) tH.out Bi.out (ah t0).size);generalize Lb:(scan t0).list.length=L0 at *;clear Lb;go_upto_region 15 with fail
      obtain ⟨W3,eY⟩:∃W3,W3=w2.alloc (.cells #[.int .i64 ((scan t0).gen:Int),.bool (scan t0).whole,.int .i64 ((scan t0).good:Int),.slice ua L0 uc] 175):=⟨_,rfl⟩;rw [<-eY];have bn:ak w2.heap.size w2 W3:=by rw [eY];exact (aA _ _).alloc (ax _) _
      have r3:W3.heap[w2.heap.size]? =some (.cells #[.int .i64 ((scan t0).gen:Int),.bool (scan t0).whole,.int .i64 ((scan t0).good:Int),.slice ua L0 uc] 175 (0,0)):=by rw [eY,bg]
      have Aq:=af (Ap.out.below Ap.out.pos bn);have fM:=af (fC.out.up bn);have pq:=af (pF.out.trans (cN.bh bn));have Lu:=af (dX yd.out bn);have y0:W3.cell? ⟨w2.heap.size,0,none⟩=some (.int .i64 ((scan t0).gen:Int)):=cF r3 0;have y2:W3.cell? ⟨w2.heap.size,2,none⟩=some (.int .i64 ((scan t0).good:Int)):=cF r3 2;have y3:W3.cell? ⟨w2.heap.size,3,none⟩=some (.slice ua L0 uc):=cF r3 3;have x3:W3.cell? ⟨w1.heap.size,0,none⟩=some (.string (ah t0)):=(aP (bn.block _ (YE hz2))).trans x1;have oZ:w2.heap.size<W3.heap.size:=(iD.1 r3).1;have wV:E<w1.heap.size:=m9.out.eg.lt;have n1:E≠w1.heap.size:=by omega
      have n2:E≠w2.heap.size:=by omega
      have U0:=fM.out.eg.sc 146 (.inr (by decide));have U1:=fM.out.eg.sc 147 (.inr (by decide));have U2:=fM.out.eg.sc 148 (.inr (by decide));have z146:=fM.out.eg.fz 146;have U3:=fM.out.eg.fz 147;have z148:=fM.out.eg.fz 148;generalize gU D g1 146=ac7 at *;generalize gU D g1 147=anJ at *;generalize gU D g1 148=anK at *;have kk:∀(W:World) (j:Nat) (z:aj),(W.cell? ⟨w2.heap.size,0,none⟩=some (.int .i64 ((scan t0).gen:Int))∧W.cell? ⟨w1.heap.size,0,none⟩=some (.string (ah t0)))->((W.setCell ⟨E,j,none⟩ z).cell? ⟨w2.heap.size,0,none⟩=some (.int .i64 ((scan t0).gen:Int))∧(W.setCell ⟨E,j,none⟩ z).cell? ⟨w1.heap.size,0,none⟩=some (.string (ah t0))):=fun W j z q=>⟨(aP (bB (fun e=>n2 e.symm))).trans q.1,(aP (bB (fun e=>n1 e.symm))).trans q.2⟩;have oH:=af kk;have De:=af r3;clear c0 c1 c2 c3 c4 c5 c6 c7 x1 bn r3 eY kk rI;refine ug 10 9 (fun w'=>w'.cell? ⟨w2.heap.size,0,none⟩=some (.int .i64 ((scan t0).gen:Int))∧w'.cell? ⟨w1.heap.size,0,none⟩=some (.string (ah t0))) (by kernel_rfl) (by kernel_rfl) (fun d _ _ _ _ h=>by cases d<;>exact h) ⟨y0,x3⟩ ?_;simp only [j5,jU,j6,iE]
      iterate 10
       refine mT ?_ rfl ?_ ?_
       rotate_left
       ·rintro w' ⟨e1,e2⟩;go_simp;rfl
       go_simp
      refine uf ?_
      iterate 2
       refine iQ rfl (fun K hK=>?_);go_simp;refine hK _ _ ⟨y0,x3⟩ ?_;clear hK K
      refine iQ rfl (fun K hK=>?_);go_simp;refine hK _ _ (oH.out _ _ _ ⟨y0,x3⟩) ?_;clear hK K
      iterate 2
       refine iQ rfl (fun K hK=>?_);go_simp;refine hK _ _ (oH.out _ _ _ ⟨y0,x3⟩) ?_;clear hK K
      refine iQ rfl (fun K hK=>?_);go_simp;refine hK _ _ (oH.out _ _ _ (oH.out _ _ _ ⟨y0,x3⟩)) ?_;clear hK K
      iterate 2
       refine iQ rfl (fun K hK=>?_);go_simp;refine hK _ _ (oH.out _ _ _ (oH.out _ _ _ ⟨y0,x3⟩)) ?_;clear hK K
      refine iQ rfl (fun K hK=>?_);go_simp;refine hK _ _ (oH.out _ _ _ (oH.out _ _ _ (oH.out _ _ _ ⟨y0,x3⟩))) ?_;clear hK K;unfold oy;obtain ⟨W4,mJ⟩:∃W4,W4=((W3.drew.setCell ⟨E,146,none⟩ (.int .i64 0)).setCell ⟨E,147,none⟩ (.int .i64 ((scan t0).gen:Int))).setCell ⟨E,148,none⟩ (.int .i64 ((ah t0).size:Int)):=⟨_,rfl⟩;rw [show ((((W3.setCell ⟨E,146,none⟩ (.int .i64 0)).setCell ⟨E,147,none⟩ (.int .i64 ((scan t0).gen:Int))).setCell ⟨E,148,none⟩ (.int .i64 ((ah t0).size:Int))).drew)=W4 from by rw [mJ];rfl];have o4:∀x,x≠E->W4.heap[x]? =W3.heap[x]?:=fun x hx=>by rw [mJ,bB hx,bB hx,bB hx];rfl
      have E8:dG E D g1 d1 m1 v1 vs1 W3.drew:=fM.out.up ((aA _ _).drew);obtain ⟨k4,f4⟩:=E8.Dj 0 (scan t0).gen (ah t0).size W4 mJ;have Iu:=(pq.out.trans (cN.bh ((aA _ _).drew))).trans f4;have lS:=af (Am.out W4 (pW.out _ _ _ _ Iu) (dz Lu.out (fun x q=>o4 x (by have:=(aR Lu.out x q).1;omega))));have U4:=af E8;have U5:=af mJ;have SR:=af o4;have U6:=af (pq.out.trans (cN.bh ((aA W3.heap.size W3).drew)));have U7:W4.cell? ⟨w2.heap.size,3,none⟩=some (.slice ua L0 uc):=(aP (o4 _ (fun e=>n2 e.symm))).trans y3;have xx:Hid (W4.heap[w2.heap.size]? =W3.heap[w2.heap.size]?):=o4 _ (fun e=>n2 e.symm);have uh:w2.heap.size<W4.heap.size:=by rw [mJ,fW,fW,fW];exact oZ
      have zZ:E<W4.heap.size:=k4.eg.lt;have iz:=af k4;clear E8 k4 f4 Iu mJ o4 y0 y3 x3 U0 U1 U2 z146 U3 z148 Am oH;go_wp2_with fail
      refine (aq lS).mono ?_;rintro e w5 ⟨mv,nv,rfl,gh,fD⟩;have yG:=af (fun W6=>ac6 U4.out 0 (ah t0).size (scan t0) U5.out fD gh W6);have k5:=iz.out.up fD;have U8:=(k5.eg.bk 0 (by decide)).c0;have U9:=(k5.eg.bk 0 (by decide)).c1;have anL:=k5.eg.fz 149;have anM:=k5.eg.fz 150;have Lv:w5.heap[w2.heap.size]? =W3.heap[w2.heap.size]?:=(fD.block _ uh).trans xx.out;obtain ⟨ob,rfl⟩:=gh.map;obtain ⟨xa,xc,rfl⟩:=bA gh.ls;obtain ⟨W6,iU⟩:∃W6,W6=(w5.setCell ⟨E,149,none⟩ (.map ob)).setCell ⟨E,150,none⟩ (.slice xa (dN (scan t0).list).length xc):=⟨_,rfl⟩;have Va:=af iU;obtain ⟨k6,f6⟩:=yG.out W6 iU;have y26:W6.cell? ⟨w2.heap.size,2,none⟩=some (.int .i64 ((scan t0).good:Int)):=(aP (by rw [iU,bB (fun e=>n2 e.symm),bB (fun e=>n2 e.symm)];exact Lv)).trans y2;have Lw:W6.cell? ⟨E,148,none⟩=some (.int .i64 ((ah t0).size:Int)):=k6.eg.sc 148 (.inr (by decide));have yH:=af (U6.out.trans f6);have ng:=af k6;clear gh fD k5 Lv k6 f6 iU y2 U7 lS yG;generalize m1 0=M0 at U8;generalize v1 0=V0 at U9;go_upto_region 17 with fail
      rw [<-Va.out];by_cases hgd:(scan t0).good<t0.length
      ·have Vb:((scan t0).good:Int)<((ah t0).size:Int):=by rw [uz.out];omega
       have dW:Hid (RR=cT bO (gB g1 0 (scan t0) (ah t0).size) d1 1):=by unfold Hid;rw [dm.out,if_pos hgd,uz.out]
       clear hgd;go_quiet (fail)
       go_wp2_with fail
       have sy:=af (Li E D _ d1 _ _ _ _ (ng.out.drewN nq) (pW.out _ _ _ _ (yH.out.trans (cN.bh (dH (aA _ _) nq)))) UZ.out);refine (aq sy).mono ?_;rintro e w7 ⟨rfl,m7,v7,Vc,k7,f7⟩;have mK:=af k7;have oI:=af ((yH.out.trans (cN.bh (dH (aA _ _) nq))).trans f7);clear k7 f7 sy;go_wp2_with fail
       go_ret;rw [dW.out];exact ⟨rfl,m7,v7,Vc,mK.out,oI.out⟩
      ·have Vb:¬((scan t0).good:Int)<((ah t0).size:Int):=by rw [uz.out];omega
       have dW:Hid (RR=(0,gB g1 0 (scan t0) (ah t0).size,d1)):=by unfold Hid;rw [dm.out,if_neg hgd,uz.out]
       clear hgd;go_quiet (fail)
       go_wp2_with fail
       go_ret;rw [dW.out];exact ⟨rfl,_,_,_,ng.out.drewN _,yH.out.trans (cN.bh (dH (aA _ _) _))⟩
 ·rw [if_neg hn];simp only;go_enter Tryz.func97,Tryz.ntmps97;go_wp2_with fail
  refine (aq j9).mono ?_;rintro e w1 ⟨s0,s1,rfl,_,m1,v1,vs1,k1,f1⟩;have hb1:ak w1.heap.size w1 (w1.alloc (.cells #[.string s0,.string s1] 177)):=(aA _ _).alloc (ax _) _;have m9:=af (k1.up hb1);have Iq:=af (f1.trans (cN.bh hb1));have hn':(n == 0)=false:=by simpa using hn
  clear k1 f1 hn hb1 j9;unfold dl;go_wp2_with fail
  go_ret;exact ⟨rfl,m1,v1,vs1,m9.out,Iq.out⟩
end Go.Proofs.YtmmflekajbeamaaGreatDoor
