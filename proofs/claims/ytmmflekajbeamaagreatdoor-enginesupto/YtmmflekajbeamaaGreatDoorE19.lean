/- Texts of ours, joined, in few bytes. -/
import Derived.Test.YtmmflekajbeamaaGreatDoorE18
open Array renaming getElem?_modify->sO
open Go renaming Calls->av,Value->aj,below_drewN->dH,bodyPost_ret->cL,heap_alloc_new->bg
open Go.Proofs.Tryz renaming func91->RA,ntmps91->RB,prog->au,results149->RC
open Go.Result renaming andThen->kN
open Go.RowKit renaming Below->ak,intOf->aI,wrap64->aY
open Go.RowKit.Below renaming heap_alloc->cM,refl->aA
open Go.World renaming cell?->cU,cell?_of_block->aP,frozen?->ij,setCell->qP
open List renaming length_append->dK,mem_append->rO,mem_cons_of_mem->xK,mem_cons_self->vO,mem_map->qN,mem_or_eq_of_mem_set->Gg
open Nat renaming le_refl->ax,le_succ->jk
namespace Go.Proofs.YtmmflekajbeamaaGreatDoor
set_option maxRecDepth 100000
set_option maxHeartbeats 8000000
open Go.RowKit Go.Maps Go.WideMaps
structure qc (α:Type) where
 add:α->Int->List UInt8->Int×α
 clear:α->Int->Int×α
 sync:α->Int->Int×α
 read:α->Int->List UInt8×Int×α
def bO:qc aL:=⟨jv,jw,cG,dn⟩
def aG (l:List cD):List (List UInt8×List UInt8):=l.map fun k=>(aQ k.1,k.2)
theorem anj (l:List cD):jj l=bR (aG l):=rfl
theorem ee (l:List cD):(aG l).length=l.length:=List.length_map _
def dg (g:ay):ay:={g with fl:=true}
def ep {α:Type} (o:qc α) (g:ay) (d:α) (i:Int) (s:List UInt8):Int×ay×α:=
 if (o.add d i s).1=0 then (if (o.sync (o.add d i s).2 i).1=0 then (0,g,(o.sync (o.add d i s).2 i).2) else (15,dg g,(o.sync (o.add d i s).2 i).2)) else (15,dg g,(o.add d i s).2)
theorem UQ (E:Nat) (w:World):av au 147 #[.pointer (some ⟨E,0,none⟩),.int .i64 0] w fun e' w'=>e'= .returned (.int .i64 0)∧w'=w:=by
 go_enter Tryz.func147,Tryz.ntmps147;go_wp2_with fail
 go_ret;exact ⟨rfl,rfl⟩
theorem ank (D:Nat) (g:ay):∀k,nV k->k≠2->gU D (dg g) k=gU D g k:=fun k _ hk=>by
 unfold gU dg;simp only [if_neg hk]
theorem PK (E D:Nat) (g:ay) (d:aL) (m v vs:Nat->aj) (a:Int) (w:World) (h:dG E D g d m v vs w) (ha:a≠0):av au 147 #[.pointer (some ⟨E,0,none⟩),.int .i64 a] w (EPost E D m v vs w 15 (dg g) d):=by
 have c2:=h.eg.sc 2 (.inl (by decide));have f2:=h.eg.fz 2;have hE:gU D g 2= .bool g.fl:=rfl;rw [hE] at c2;have HP:Hid (∀W,W=w.setCell ⟨E,2,none⟩ (.bool true)->EPost E D m v vs w 15 (dg g) d (.returned (.int .i64 15)) W):=fun W hW=>by
  have:=h.set 2 (.inl (by decide)) (dg g) rfl rfl (ank D g) (.bool true) rfl;rw [hW];exact ⟨rfl,m,v,vs,this.1,this.2⟩
 have ha':(a == 0)=false:=by simpa using ha
 clear h;go_enter Tryz.func147,Tryz.ntmps147;go_wp2_with fail
 go_ret;exact HP.out _ rfl
theorem acK (g:ay) (d:aL) (i:Int) (s:List UInt8):ep bO g d i s=if (jv d i s).1=0 then (if (cG (jv d i s).2 i).1=0 then (0,g,(cG (jv d i s).2 i).2) else (15,dg g,(cG (jv d i s).2 i).2)) else (15,dg g,(jv d i s).2):=rfl
theorem acL (E D:Nat) (g:ay) (d:aL) (m v vs:Nat->aj) (i:Nat) (s:ByteArray) (w:World) (h:dG E D g d m v vs w) (hs:s.size<=140737488351232):
 av au 92 #[.pointer (some ⟨E,0,none⟩),.int .i64 (i:Int),.string s] w (EPost E D m v vs w (ep bO g d (i:Int) (aC s)).1 (ep bO g d (i:Int) (aC s)).2.1 (ep bO g d (i:Int) (aC s)).2.2):=by
 have c0:=h.eg.sc 0 (.inl (by decide));have yD:gU D g 0= .pointer (some ⟨D,0,none⟩):=rfl;rw [yD] at c0;have HAdd:=af (abp D d vs (i:Int) s w h.dv hs);have HH:=af h;have HT:=af (fun w'=>UQ E w');rw [acK];generalize jv d i (aC s)=r1 at *;obtain ⟨a1,d1⟩:=r1;simp only at HAdd⊢;clear h hs;by_cases ha:a1=0
 ·subst ha;rw [if_pos rfl];have xq:=af (fun vs1 w1 (k1:cK D d1 vs1 w1)=>OY D d1 vs1 (i:Int) w1 k1);generalize cG d1 (i:Int)=r2 at *;obtain ⟨a2,d2⟩:=r2;simp only at xq⊢;by_cases ha2:a2=0
  ·subst ha2;rw [if_pos rfl];simp only;go_enter Tryz.func92,Tryz.ntmps92;go_wp2_with fail
   refine (aq HAdd).mono ?_;rintro e w1 ⟨rfl,vs1,hd1,hf1⟩;obtain ⟨k1,k2⟩:=HH.out.dev hd1 hf1;have m9:=af k1;have fC:=af k2;have c1:=k1.eg.sc 0 (.inl (by decide));rw [yD] at c1;clear hd1 hf1 k1 k2 HAdd;go_wp2_with fail
   refine (aq HT _).mono ?_;rintro e w' ⟨rfl,hw'⟩;obtain rfl:=hw'.symm;go_wp2_with fail
   refine (aq xq _ _ m9.out.dv).mono ?_;rintro e w2 ⟨rfl,gy,hd2,vr⟩;obtain ⟨k3,k4⟩:=m9.out.dev hd2 vr;have fM:=af k3;have iz:=af (fC.out.trans k4);clear hd2 vr k3 k4 xq;go_wp2_with fail
   refine (aq HT _).mono ?_;rintro e w' ⟨rfl,hw'⟩;obtain rfl:=hw'.symm;go_wp2_with fail
   go_ret;exact ⟨rfl,m,v,gy,fM.out,iz.out⟩
  ·rw [if_neg ha2];simp only;have Be:=af (fun gy w2 (k:dG E D g d2 m v gy w2)=>PK E D g d2 m v gy a2 w2 k ha2);clear ha2;go_enter Tryz.func92,Tryz.ntmps92;go_wp2_with fail
   refine (aq HAdd).mono ?_;rintro e w1 ⟨rfl,vs1,hd1,hf1⟩;obtain ⟨k1,k2⟩:=HH.out.dev hd1 hf1;have m9:=af k1;have fC:=af k2;have c1:=k1.eg.sc 0 (.inl (by decide));rw [yD] at c1;clear hd1 hf1 k1 k2 HAdd;go_wp2_with fail
   refine (aq HT _).mono ?_;rintro e w' ⟨rfl,hw'⟩;obtain rfl:=hw'.symm;go_wp2_with fail
   refine (aq xq _ _ m9.out.dv).mono ?_;rintro e w2 ⟨rfl,gy,hd2,vr⟩;obtain ⟨k3,k4⟩:=m9.out.dev hd2 vr;have fM:=af k3;have iz:=af (fC.out.trans k4);clear hd2 vr k3 k4 xq;go_wp2_with fail
   refine (aq Be _ _ fM.out).mono ?_;rintro e w3 ⟨rfl,m3,v3,vs3,k5,k6⟩;have gV:=af k5;have ng:=af (iz.out.trans k6);clear k5 k6 Be;go_wp2_with fail
   go_ret;exact ⟨rfl,m3,v3,vs3,gV.out,ng.out⟩
 ·rw [if_neg ha];simp only;have Be:=af (fun gy w2 (k:dG E D g d1 m v gy w2)=>PK E D g d1 m v gy a1 w2 k ha);clear ha;go_enter Tryz.func92,Tryz.ntmps92;go_wp2_with fail
  refine (aq HAdd).mono ?_;rintro e w1 ⟨rfl,vs1,hd1,hf1⟩;obtain ⟨k1,k2⟩:=HH.out.dev hd1 hf1;have m9:=af k1;have fC:=af k2;clear hd1 hf1 k1 k2 HAdd;go_wp2_with fail
  refine (aq Be _ _ m9.out).mono ?_;rintro e w3 ⟨rfl,m3,v3,vs3,k5,k6⟩;have gV:=af k5;have ng:=af (fC.out.trans k6);clear k5 k6 Be;go_wp2_with fail
  go_ret;exact ⟨rfl,m3,v3,vs3,gV.out,ng.out⟩
def eJ (g:ay):List cD:=dN (aG (g.b 0) ++ aG (g.b 1))
structure oG (g:ay):Prop where
 ar:g.ar<=1
 gn:g.gn<=4294967295
 few:∀i,i<3->(g.b i).length<=200000000000
 sh:∀i,i<3->∀k∈g.b i,k.2.length<=1000000
theorem Lf {ws:List Nat} (h:gO ws):(aQ ws).length<=32:=by rw [Ct];have:=h.1;omega
theorem PL {l:List cD} (h:∀k∈l,gO k.1):∀x∈aG l,x.1.length<=1000000:=fun x hx=>by
 obtain ⟨k,hk,rfl⟩:=qN.1 hx;have:=Lf (h k hk);show (aQ k.1).length<=_
 omega
theorem acM (E D:Nat) (g:ay) (m v:Nat->aj) (w:World) (h:bH E D g m v w) (ht:bF w) (hok:oG g):
 av au 146 #[.pointer (some ⟨E,0,none⟩)] w (E0 (eJ g) w):=by
 have b0:=h.bk 0 (by decide);have b1:=h.bk 1 (by decide);have n0:=hok.few 0 (by decide);have n1:=hok.few 1 (by decide);have hE:=h.lt;obtain ⟨W0,bq⟩:∃W0,W0=w.alloc (.cells #[.map none,.slice none 0 0] 131):=⟨_,rfl⟩;have hb0:ak w.heap.size w W0:=by rw [bq];exact (aA _ _).alloc (ax _) _
 have r0:W0.heap[w.heap.size]? =some (.cells #[.map none,.slice none 0 0] 131 (0,0)):=by rw [bq,bg]
 have hz0:W0.heap.size=w.heap.size+1:=by rw [bq,aB]
 have d0:W0.cell? ⟨E,150,none⟩=some (v 0):=(aP (hb0.block E hE)).trans b0.c1;have d1:W0.cell? ⟨E,152,none⟩=some (v 1):=(aP (hb0.block E hE)).trans b1.c1;have o0:W0.ownsRow E 127 2 (v 0) (aG (g.b 0)).length (bR (aG (g.b 0))):=by rw [ee];exact dX b0.ls hb0
 have o1:W0.ownsRow E 127 2 (v 1) (aG (g.b 1)).length (bR (aG (g.b 1))):=by rw [ee];exact dX b1.ls hb0
 have HT:=af (fun w' (hb:ak w.heap.size w w')=>ht.below ht.pos hb);have ku:Hid (∀W G,ak W0.heap.size W0 W->W.cell? ⟨G,0,none⟩=some (v 0)->W.cell? ⟨G,1,none⟩=some (v 1)->av au 185 #[.slice (some ⟨G,0,none⟩) 2 2] W (acE (aG (g.b 0) ++ aG (g.b 1)) W)):=fun W G hb c0 c1=>am8 E E G (v 0) (v 1) _ _ W c0 c1 (dX o0 hb) (dX o1 hb) (by rw [ee,ee];omega)
 have Am:Hid (∀W B u,ak w.heap.size w W->W.ownsRow B 127 2 u (aG (g.b 0) ++ aG (g.b 1)).length (bR (aG (g.b 0) ++ aG (g.b 1)))->av au 152 #[u] W (E0 (eJ g) W)):=fun W B u hb ho=>UJ B u _ W (HT.out W hb) ho (fun x hx=>by
  rcases rO.1 hx with q | q
  ·exact PL b0.ok x q
  ·exact PL b1.ok x q) (by rw [dK,ee,ee];omega)
 obtain ⟨va,vc,nW⟩:=bA o0;obtain ⟨ua,uc,hv1⟩:=bA o1;have bM:=af hb0;have gR:=af r0;have fV:=af bq;have uz:=af hz0;have yD:E<W0.heap.size:=by omega
 rw [nW] at d0 ku;rw [hv1] at d1 ku;clear h ht hok b0 b1 n0 n1 o0 o1 hb0 r0 bq hz0 nW hv1;generalize (aG (g.b 0)).length=L0 at *;generalize (aG (g.b 1)).length=L1 at *;go_enter Tryz.func146,Tryz.ntmps146;go_wp2_with fail
 rw [<-fV.out];refine ug 10 3 (fun w'=>w'.cell? ⟨E,150,none⟩=some (.slice va L0 vc)∧w'.cell? ⟨E,152,none⟩=some (.slice ua L1 uc)) (by kernel_rfl) (by kernel_rfl) (fun d _ _ _ _ h=>by cases d<;>exact h) ⟨d0,d1⟩ ?_;simp only [List.take_succ_cons,List.take_zero,List.drop_succ_cons,List.drop_zero]
 iterate 10
  refine mT ?_ rfl ?_ ?_
  rotate_left
  ·rintro w' ⟨e1,e2⟩;go_simp;rfl
  go_simp
 refine uf ?_;refine iQ rfl (fun K hK=>?_);go_simp;have k6:∀ob g j,g<W0.heap.size->(W0.drew.alloc ob).cell? ⟨g,j,none⟩=W0.cell? ⟨g,j,none⟩:=fun ob g j h1=>aP (cM W0.drew ob g h1);refine hK _ _ ⟨(k6 _ E 150 yD).trans d0,(k6 _ E 152 yD).trans d1⟩ ?_;clear hK K k6;refine iQ rfl (fun K hK=>?_);go_simp;refine (aq ku _ _ (((aA W0.heap.size W0).drew).alloc (ax _) _) (cF (bg W0.drew _) 0) (cF (bg W0.drew _) 1)).mono ?_;rintro e w2 ⟨u,rfl,hou,hbu⟩;have aZ:Hid (ak W0.heap.size W0 w2):=(((aA W0.heap.size W0).drew).alloc (ax _) _).trans (hbu.mono (by rw [aB];exact jk _));have nN:=af hou;clear hou hbu ku;have kk:∀w',ak W0.heap.size W0 w'->w'.cell? ⟨E,150,none⟩=some (.slice va L0 vc)∧w'.cell? ⟨E,152,none⟩=some (.slice ua L1 uc):=fun w' hb=>⟨(aP (hb.block E yD)).trans d0,(aP (hb.block E yD)).trans d1⟩;go_simp;refine hK _ _ (kk _ aZ.out) ?_;clear hK K;have Lg:ak w.heap.size w w2:=bM.out.trans (aZ.out.mono bM.out.size);have lS:=af (Am.out w2 _ u Lg nN.out);clear Am;refine iQ rfl (fun K hK=>?_);go_simp;refine (aq lS).mono ?_;rintro e w3 ⟨mv,nv,rfl,gh,bn⟩;have iM:Hid (ak W0.heap.size W0 w3):=aZ.out.trans (bn.mono aZ.out.size);have acP:ak w.heap.size w w3:=Lg.trans (bn.mono Lg.size);go_simp;refine hK _ _ (kk _ iM.out) ?_;clear hK K kk;unfold oy;have r3:w3.heap[w.heap.size]? =some (.cells #[.map none,.slice none 0 0] 131 (0,0)):=(iM.out.block _ (by rw [uz.out];exact Nat.lt_succ_self _)).trans gR.out;have hne:∀x,jz mv nv x->x≠w.heap.size:=fun x q e=>by have:=(gh.has q).1;have:=aZ.out.size;have:=uz.out;omega
 have cR:Hid (∀Wf,Wf=(w3.setCell ⟨w.heap.size,0,none⟩ mv).setCell ⟨w.heap.size,1,none⟩ nv->Wf.heap[w.heap.size]? =some (.cells #[mv,nv] 131 (0,0))∧E0 (eJ g) w (.returned (.agg #[mv,nv])) Wf):=fun Wf e=>by
  refine ⟨by rw [e];simp [qP,sO,r3],mv,nv,rfl,?_,?_⟩
  ·refine (gh.base (B':=w.heap.size) Lg.size).kept (fun x q=>?_);rw [e];exact (bB (hne x q)).trans (bB (hne x q))
  ·rw [e];exact (acP.setCell (p:=⟨w.heap.size,0,none⟩) (ax _) _).setCell (p:=⟨w.heap.size,1,none⟩) (ax _) _
 have s0:w3.cell? ⟨w.heap.size,0,none⟩=some (.map none):=by simp [cU,r3]
 have s1:w3.cell? ⟨w.heap.size,1,none⟩=some (.slice none 0 0):=by simp [cU,r3]
 have g0:w3.frozen? ⟨w.heap.size,0,none⟩=false:=by simp [ij,r3]
 have g1:w3.frozen? ⟨w.heap.size,1,none⟩=false:=by simp [ij,r3]
 obtain ⟨ob,rfl⟩:=gh.map;obtain ⟨xa,xc,rfl⟩:=bA gh.ls;clear gh bn acP Lg r3 hne d0 d1;go_wp2_with fail
 exact cL (v:=.agg #[.map ob,.slice xa (eJ g).length xc]) (results_cell_row Tryz.results146 _ _ w.heap.size 131 _ _ _ rfl (cR.out _ rfl).1 Tryz.underlying131 rfl acA) rfl (cR.out _ rfl).2
def qI (g:ay):ay:={g with b:=aE (aE g.b 0 (eJ g)) 1 []}
theorem acQ (E D:Nat) (g:ay) (m v:Nat->aj) (w:World) (h:bH E D g m v w) (ht:bF w) (hok:oG g):
 av au 93 #[.pointer (some ⟨E,0,none⟩)] w fun e' w'=>e'= .returned (.tuple #[])∧∃m' v',bH E D (qI g) m' v' w'∧aM (dc E m v) w w'∧∀x,dc E m' v' x->dc E m v x∨w.heap.size<=x:=by
 have xu:=af (acM E D g m v w h ht hok);have HH:=af h;clear h ht hok;go_enter Tryz.func93,Tryz.ntmps93;go_wp2_with fail
 refine (aq xu).mono ?_;rintro e w1 ⟨mv,nv,rfl,gh,hb⟩;have h1:bH E D g m v w1:=HH.out.kept (fun x q=>hb.block x (HH.out.has q).2);have UR:=HH.out.lt;have hn:∀x,jz mv nv x->¬dc E m v x:=fun x q p=>by have:=(gh.has q).1;have:=(HH.out.has p).2;omega
 have HP:Hid (∀W,W=(((w1.setCell ⟨E,149,none⟩ mv).setCell ⟨E,150,none⟩ nv).setCell ⟨E,151,none⟩ (.map none)).setCell ⟨E,152,none⟩ (.slice none 0 0)->∃m' v',bH E D (qI g) m' v' W∧aM (dc E m v) w W∧∀x,dc E m' v' x->dc E m v x∨w.heap.size<=x):=fun W hW=>by
  obtain ⟨a1,a2⟩:=h1.UO (i:=0) (by decide) (gh.base (Nat.le_of_lt UR)) hn _ rfl;obtain ⟨a3,a4⟩:=a1.UO (i:=1) (by decide) (oF.none E _) (fun x q=>by rcases q with q | q<;>cases q) W hW;refine ⟨_,_,a3,(aM.bh hb).trans (fun x q=>.inl q) ((a2.weak (G:=dc E m v) (fun x q=>.inl (.inl q))).trans (fun x q=>.inl (.inl q)) a4),fun x q=>?_⟩;rcases q with q | ⟨i,hi,q⟩
  ·exact .inl (.inl q)
  ·by_cases i1:i=1
   ·subst i1;rw [cq,cq] at q;rcases q with q | q<;>cases q
   ·rw [bp _ _ _ _ i1,bp _ _ _ _ i1] at q;by_cases i0:i=0
    ·subst i0;rw [cq,cq] at q;exact .inr (gh.has q).1
    ·rw [bp _ _ _ _ i0,bp _ _ _ _ i0] at q;exact .inl (.inr ⟨i,hi,q⟩)
 have c0:=(h1.bk 0 (by decide)).c0;have c1:=(h1.bk 0 (by decide)).c1;have c2:=(h1.bk 1 (by decide)).c0;have c3:=(h1.bk 1 (by decide)).c1;have f0:=h1.fz 149;have f1:=h1.fz 150;have f2:=h1.fz 151;have f3:=h1.fz 152;obtain ⟨ob,rfl⟩:=gh.map;obtain ⟨xa,xc,rfl⟩:=bA gh.ls;have zb:∀w,(zeroValue 131).run au w= .ok (.agg #[.map none,.slice none 0 0]) w:=fun w=>by kernel_rfl
 clear gh hb h1 hn xu;generalize m 0=M0 at *;generalize v 0=V0 at *;generalize m 1=M1 at *;generalize v 1=V1 at *;go_wp2_with fail
 go_end0
 exact ⟨rfl,HP.out _ rfl⟩
def newE (g:ay) (i n:Nat):ay:=qI {g with ar:=i,gn:=g.gn+1,sz:=n}
def bV (g:ay):List UInt8:=Dh (g.gn+1) (aG (eJ g))
def cT {α:Type} (o:qc α) (g:ay) (d:α) (i:Nat):Int×ay×α:=
 if 4294967295<g.gn+1 then (16,g,d) else
 if 1500<(bV g).length then (14,g,d) else
 if (o.clear d (i:Int)).1=0 then
  (if (ep o g (o.clear d (i:Int)).2 (i:Int) (bV g)).1=0 then (0,newE g i (bV g).length,(ep o g (o.clear d (i:Int)).2 (i:Int) (bV g)).2.2) else (15,dg g,(ep o g (o.clear d (i:Int)).2 (i:Int) (bV g)).2.2))
 else (15,dg g,(o.clear d (i:Int)).2)
theorem acR {α:Type} (o:qc α) (g:ay) (d:α) (i:Int) (s:List UInt8):((ep o g d i s).1=0∧(ep o g d i s).2.1=g)∨((ep o g d i s).1=15∧(ep o g d i s).2.1=dg g):=by
 unfold ep;split
 ·split
  ·exact .inl ⟨rfl,rfl⟩
  ·exact .inr ⟨rfl,rfl⟩
 ·exact .inr ⟨rfl,rfl⟩
theorem Lh {P:List UInt8->Prop}:∀(l:List (List UInt8×List UInt8)) (b:List cD),(∀k∈b,P k.2)->(∀x∈l,P x.2)->∀k∈l.foldl kL b,P k.2
 | [],b,hb,_=>hb
 | x :: l,b,hb,hl=>by
   refine Lh l (kL b x) (fun k hk=>?_) (fun y hy=>hl y (xK _ hy));unfold kL jG at hk;split at hk
   ·split at hk
    ·rcases Gg hk with q | q
     ·exact hb k q
     ·rw [q];exact hl x (vO ..)
    ·rcases rO.1 hk with q | q
     ·exact hb k q
     ·simp at q;rw [q];exact hl x (vO ..)
   ·exact hb k hk
theorem acS {P:List Nat->Prop}:∀(l:List (List UInt8×List UInt8)) (b:List cD),(∀k∈b,P k.1)->(∀x∈l,ox (ah x.1)=true->P (mZ x.1))->∀k∈l.foldl kL b,P k.1
 | [],b,hb,_=>hb
 | x :: l,b,hb,hl=>by
   refine acS l (kL b x) (fun k hk=>?_) (fun y hy=>hl y (xK _ hy));unfold kL jG at hk;split at hk
   ·rename_i hB;split at hk
    ·rcases Gg hk with q | q
     ·exact hb k q
     ·rw [q];exact hl x (vO ..) hB
    ·rcases rO.1 hk with q | q
     ·exact hb k q
     ·simp at q;rw [q];exact hl x (vO ..) hB
   ·exact hb k hk
theorem US {t:List UInt8} (h:ox (ah t)=true):gO (mZ t):=by
 have hok:=(zN _).1 h;have hz:(ah t).size=t.length:=bZ t;exact ⟨by unfold mZ;rw [qx];have:=hok.2.1;omega,G8 _ _⟩
theorem UT {g:ay} (hok:oG g):(eJ g).length<=400000000000:=by
 have h1:=Ip (aG (g.b 0) ++ aG (g.b 1));rw [dK,ee,ee] at h1;have:=hok.few 0 (by decide);have:=hok.few 1 (by decide);unfold eJ;omega
theorem acT {g:ay} (hok:oG g):∀x∈aG (eJ g),x.1.length<=1000000∧x.2.length<=1000000:=fun x hx=>by
 obtain ⟨k,hk,rfl⟩:=qN.1 hx;refine ⟨?_,?_⟩
 ·have:gO k.1:=acS (P:=gO) _ [] (fun _ h=>by cases h) (fun y _ h=>US h) k hk;have:=Lf this;show (aQ k.1).length<=_
  omega
 ·refine Lh (P:=fun p=>p.length<=1000000) _ [] (fun _ h=>by cases h) (fun y hy=>?_) k hk;rcases rO.1 hy with q | q
  ·obtain ⟨k',hk',rfl⟩:=qN.1 q;exact hok.sh 0 (by decide) k' hk'
  ·obtain ⟨k',hk',rfl⟩:=qN.1 q;exact hok.sh 1 (by decide) k' hk'
theorem dG.drewN {E D:Nat} {g:ay} {d:aL} {m v vs:Nat->aj} {w:World} (h:dG E D g d m v vs w) (n:Nat):dG E D g d m v vs (w.drewN n):=h.up (dH (aA _ _) n)
theorem acU (D:Nat) (g:ay) (i:Nat):∀k,nV k->k≠146->gU D {g with ar:=i} k=gU D g k:=fun k _ hk=>by
 unfold gU;simp only [if_neg hk]
theorem anl (D:Nat) (g:ay) (i:Nat):∀k,nV k->k≠147->gU D {g with gn:=i} k=gU D g k:=fun k _ hk=>by
 unfold gU;simp only [if_neg hk]
theorem acV (D:Nat) (g:ay) (i:Nat):∀k,nV k->k≠148->gU D {g with sz:=i} k=gU D g k:=fun k hs hk=>by
 unfold nV at hs;unfold gU
 repeat' split
 all_goals first | rfl | omega
theorem PN (ob:Option Nat) (ua:Option Addr) (n c:Nat) (w:World):(Instr.field 131 (.agg #[.map ob,.slice ua n c]) 1).run au w= .ok (.slice ua n c) w:=by kernel_rfl
theorem UU {w:World} (h:bF w) {g:Nat} {u:aj} (hc:w.cell? ⟨g,0,none⟩=some u) (hu:qo[0]?≠some u):0<g:=by
 rcases Nat.eq_zero_or_pos g with e | e
 ·obtain ⟨t,fr,q⟩:=h;subst e;exfalso;apply hu;rw [<-hc];simp [cU,q]
 ·exact e
theorem dG.pos {E D:Nat} {g:ay} {d:aL} {m v vs:Nat->aj} {w:World} (h:dG E D g d m v vs w) (ht:bF w):0<E∧0<D:=by
 have c0:w.cell? ⟨E,0,none⟩=some (.pointer (some ⟨D,0,none⟩)):=h.eg.sc 0 (.inl (by decide));refine ⟨UU ht c0 (fun e=>by cases e),?_⟩;obtain ⟨a,c,e⟩:=bA (h.dv.own 0 (by decide));refine UU ht (h.dv.bytes 0 (by decide)) (fun q=>?_);rw [e] at q;cases q
theorem dG.tab {E D:Nat} {g:ay} {d:aL} {m v vs m' v' vs':Nat->aj} {w w':World} (h:dG E D g d m v vs w) (ht:bF w) (hf:cN E D m v vs m' v' vs' w w'):bF w':=by
 obtain ⟨h1,h2⟩:=h.pos ht;refine ht.below (B:=1) (by decide) (hf.bD.below ht.pos (fun x q=>?_));rcases q with q | q
 ·have:=(h.eg.has q).1;omega
 ·have:=(h.dv.has q).1;omega
theorem dG.Dj {E D:Nat} {g:ay} {d:aL} {m v vs:Nat->aj} {w:World} (h:dG E D g d m v vs w) (a n s:Nat) (W:World) (hW:W=((w.setCell ⟨E,146,none⟩ (.int .i64 (a:Int))).setCell ⟨E,147,none⟩ (.int .i64 (n:Int))).setCell ⟨E,148,none⟩ (.int .i64 (s:Int))):
 dG E D {g with ar:=a,gn:=n,sz:=s} d m v vs W∧cN E D m v vs m v vs w W:=by
 obtain ⟨a1,b1⟩:=h.set 146 (.inr (by decide)) {g with ar:=a} rfl rfl (acU D g a) (.int .i64 (a:Int)) rfl;obtain ⟨a2,b2⟩:=a1.set 147 (.inr (by decide)) {g with ar:=a,gn:=n} rfl rfl (anl D {g with ar:=a} n) (.int .i64 (n:Int)) rfl;obtain ⟨a3,b3⟩:=a2.set 148 (.inr (by decide)) {g with ar:=a,gn:=n,sz:=s} rfl rfl (acV D {g with ar:=a,gn:=n} s) (.int .i64 (s:Int)) rfl;rw [hW];exact ⟨a3,(b1.trans b2).trans b3⟩
theorem oG.Dj {g:ay} (h:oG g) {a n:Nat} (s:Nat) (ha:a<=1) (hn:n<=4294967295):oG {g with ar:=a,gn:=n,sz:=s}:=⟨ha,hn,h.few,h.sh⟩
theorem Li (E D:Nat) (g:ay) (d:aL) (m v vs:Nat->aj) (w:World) (h:dG E D g d m v vs w) (ht:bF w) (hok:oG g):
 av au 91 #[.pointer (some ⟨E,0,none⟩)] w (EPost E D m v vs w (cT bO g d (1 - g.ar)).1 (cT bO g d (1 - g.ar)).2.1 (cT bO g d (1 - g.ar)).2.2):=by
 have ca:w.cell? ⟨E,146,none⟩=some (.int .i64 (g.ar:Int)):=h.eg.sc 146 (.inr (by decide));have cg:w.cell? ⟨E,147,none⟩=some (.int .i64 (g.gn:Int)):=h.eg.sc 147 (.inr (by decide));have wa:aY (1 - (g.ar:Int))=((1 - g.ar:Nat):Int):=by have:=hok.ar;unfold aY;omega
 have wg:aY ((g.gn:Int)+1)=((g.gn+1:Nat):Int):=by have:=hok.gn;unfold aY;omega
 have HH:=af h;have HT:=af (fun w' (hb:ak w.heap.size w w')=>ht.below ht.pos hb);have pW:Hid (∀m' v' vs' w',cN E D m v vs m' v' vs' w w'->bF w'):=fun m' v' vs' w' hf=>h.tab ht hf;have fK:=af hok;have xu:=af (fun w' (h':bH E D g m v w') (ht':bF w')=>acM E D g m v w' h' ht' hok);have uD:=af (fun w'=>UQ E w');clear h ht hok;by_cases hsp:4294967295<g.gn+1
 ·have e:cT bO g d (1 - g.ar)=(16,g,d):=if_pos hsp;rw [e];have UW:(4294967295:Int)<((g.gn+1:Nat):Int):=by omega
  clear hsp;generalize 1 - g.ar=ai at *;generalize g.gn+1=g1 at *;go_enter RA,RB;go_wp2_with fail
  go_quiet (fail)
  go_wp2_with fail
  go_ret;exact ⟨rfl,m,v,vs,HH.out.drewN _,cN.bh (dH (aA _ _) _)⟩
 have UW:¬(4294967295:Int)<((g.gn+1:Nat):Int):=by omega
 have eG:g.gn+1<=4294967295:=by omega
 have p7:=af eG;have jW:Hid (1 - g.ar<=1):=Nat.sub_le _ _;have Dk:Hid (∀w' B u,w'.ownsRow B 127 2 u (eJ g).length (jj (eJ g))->av au 145 #[.int .i64 ((g.gn+1:Nat):Int),u] w' fun e' w''=>e'= .returned (.string (ah (bV g)))∧ak w'.heap.size w' w''):=fun w' B u ho=>anh B (g.gn+1) u (aG (eJ g)) w' (by rw [ee];exact ho) (acT fK.out) (by rw [ee];have:=UT fK.out;omega);by_cases hlo:1500<(bV g).length
 ·have e:cT bO g d (1 - g.ar)=(14,g,d):=by unfold cT;rw [if_neg hsp,if_pos hlo]
  rw [e];have Lj:(1500:Int)<((ah (bV g)).size:Int):=by rw [bZ];omega
  clear hsp hlo eG;generalize ah (bV g)=FR at *;generalize 1 - g.ar=ai at *;generalize eG:g.gn+1=g1 at *;clear eG;go_enter RA,RB;go_wp2_with fail
  go_quiet (fail)
  go_wp2_with fail
  have b0:ak w.heap.size w (w.drewN nq):=dH (aA _ _) _;have k0:=HH.out.up b0;have UX:=af k0;have bM:=af b0;refine (aq xu _ k0.eg (HT.out _ b0)).mono ?_;rintro e w1 ⟨mv,nv,rfl,gh,hb1⟩;have dJ:ak w.heap.size w w1:=b0.trans hb1;have aJ:=af dJ;have m9:=af (HH.out.up dJ);have Iq:Hid (cN E D m v vs m v vs w w1):=cN.bh dJ;have kx:=af (Dk.out w1 _ nv gh.ls);obtain ⟨ob,rfl⟩:=gh.map;obtain ⟨ua,uc,rfl⟩:=bA gh.ls;have Ir:=fun n=>PN ob ua n uc;clear gh hb1 b0 k0 dJ ca cg xu Dk;go_wp2_with fail
  refine (aq kx).mono ?_;rintro e w2 ⟨rfl,hb2⟩;have mH:ak w.heap.size w w2:=aJ.out.trans (hb2.mono aJ.out.size);have aZ:=af mH;have k2:=HH.out.up mH;have fC:=af k2;have E3:Hid (cN E D m v vs m v vs w w2):=cN.bh mH;have c2:w2.cell? ⟨E,0,none⟩=some (.pointer (some ⟨D,0,none⟩)):=k2.eg.sc 0 (.inl (by decide));clear hb2 mH kx k2;go_wp2_with fail
  go_ret;exact ⟨rfl,m,v,vs,fC.out,E3.out⟩
 have Lj:¬(1500:Int)<((ah (bV g)).size:Int):=by rw [bZ];omega
 have dR:Hid ((ah (bV g)).size=(bV g).length):=bZ _;have mG:Hid ((ah (bV g)).size<=140737488351232):=by unfold Hid;rw [bZ];omega
 have qD:=af (fun vs' w' (h':cK D d vs' w')=>abq D d vs' ((1 - g.ar:Nat):Int) w' h');have eA:cT bO g d (1 - g.ar)=if (jw d ((1 - g.ar:Nat):Int)).1=0 then (if (ep bO g (jw d ((1 - g.ar:Nat):Int)).2 ((1 - g.ar:Nat):Int) (bV g)).1=0 then (0,newE g (1 - g.ar) (bV g).length,(ep bO g (jw d ((1 - g.ar:Nat):Int)).2 ((1 - g.ar:Nat):Int) (bV g)).2.2) else (15,dg g,(ep bO g (jw d ((1 - g.ar:Nat):Int)).2 ((1 - g.ar:Nat):Int) (bV g)).2.2)) else (15,dg g,(jw d ((1 - g.ar:Nat):Int)).2):=by unfold cT;rw [if_neg hsp,if_neg hlo];rfl
 rw [eA];clear eA hsp hlo eG;generalize jw d ((1 - g.ar:Nat):Int)=rC at *;obtain ⟨a1,d1⟩:=rC;simp only at qD⊢;by_cases ha:a1=0
 ·subst ha;rw [if_pos rfl];have m8:=af (fun vs' w' (h':dG E D g d1 m v vs' w')=>acL E D g d1 m v vs' (1 - g.ar) (ah (bV g)) w' h' mG.out);rw [kG] at m8;have hcs:=acR bO g d1 ((1 - g.ar:Nat):Int) (bV g);generalize ep bO g d1 ((1 - g.ar:Nat):Int) (bV g)=rL at *;obtain ⟨a2,g2,d2⟩:=rL;simp only at hcs m8⊢;rcases hcs with ⟨rfl,rfl⟩ | ⟨rfl,rfl⟩
  ·rw [if_pos rfl];simp only;unfold newE;have qY:=af (fun m' v' w' (h':bH E D {g2 with ar:=1 - g2.ar,gn:=g2.gn+1,sz:=(ah (bV g2)).size} m' v' w') (ht':bF w')=>acQ E D _ m' v' w' h' ht' (fK.out.Dj _ jW.out p7.out));have BJ:=af (fun (d':aL) (m' v' vs':Nat->aj) w' (h':dG E D g2 d' m' v' vs' w') W=>h'.Dj (1 - g2.ar) (g2.gn+1) (ah (bV g2)).size W);rw [<-dR.out];generalize ah (bV g2)=FR at *;generalize E4:1 - g2.ar=ai at *;generalize eG:g2.gn+1=g1 at *;clear eG E4;go_enter RA,RB;go_wp2_with fail
   go_quiet (fail)
   go_wp2_with fail
   have b0:ak w.heap.size w (w.drewN nq):=dH (aA _ _) _;have k0:=HH.out.up b0;have UX:=af k0;have bM:=af b0;refine (aq xu _ k0.eg (HT.out _ b0)).mono ?_;rintro e w1 ⟨mv,nv,rfl,gh,hb1⟩;have dJ:ak w.heap.size w w1:=b0.trans hb1;have aJ:=af dJ;have m9:=af (HH.out.up dJ);have Iq:Hid (cN E D m v vs m v vs w w1):=cN.bh dJ;have kx:=af (Dk.out w1 _ nv gh.ls);obtain ⟨ob,rfl⟩:=gh.map;obtain ⟨ua,uc,rfl⟩:=bA gh.ls;have Ir:=fun n=>PN ob ua n uc;clear gh hb1 b0 k0 dJ ca cg xu Dk;go_wp2_with fail
   refine (aq kx).mono ?_;rintro e w2 ⟨rfl,hb2⟩;have mH:ak w.heap.size w w2:=aJ.out.trans (hb2.mono aJ.out.size);have aZ:=af mH;have k2:=HH.out.up mH;have fC:=af k2;have E3:Hid (cN E D m v vs m v vs w w2):=cN.bh mH;have c2:w2.cell? ⟨E,0,none⟩=some (.pointer (some ⟨D,0,none⟩)):=k2.eg.sc 0 (.inl (by decide));clear hb2 mH kx k2;go_wp2_with fail
   refine (aq qD _ _ fC.out.dv).mono ?_;rintro e w3 ⟨rfl,vs3,hd3,yE⟩;obtain ⟨k3,f3⟩:=fC.out.dev hd3 yE;have fM:=af k3;have Ll:=af (E3.out.trans f3);clear hd3 yE k3 f3 qD c2;go_wp2_with fail
   refine (aq uD _).mono ?_;rintro e w' ⟨rfl,hw'⟩;obtain rfl:=hw'.symm;go_wp2_with fail
   refine (aq m8 _ _ fM.out).mono ?_;rintro e w4 ⟨rfl,m4,v4,BK,k4,f4⟩;have iz:=af k4;have Lm:=af (Ll.out.trans f4);have c4:=k4.eg.sc 146 (.inr (by decide));have c5:=k4.eg.sc 147 (.inr (by decide));have c6:=k4.eg.sc 148 (.inr (by decide));have Iu:=k4.eg.fz 146;have xw:=k4.eg.fz 147;have f6':=k4.eg.fz 148;generalize gU D g2 146=u4 at *;generalize gU D g2 147=u5 at *;generalize gU D g2 148=u6 at *;clear k4 f4 m8 Ir;go_wp2_with fail
   obtain ⟨k5,f5⟩:=BJ.out _ _ _ _ _ iz.out _ rfl;have acW:=af (Lm.out.trans f5);have gV:=af k5;refine (aq qY _ _ _ k5.eg (pW.out _ _ _ _ acW.out)).mono ?_;rintro e w6 ⟨rfl,m6,v6,he6,Iv,eo6⟩;have HE6:=af (gV.out.Di he6 Iv eo6);clear k5 f5 he6 Iv eo6 qY;go_wp2_with fail
   go_ret;exact ⟨rfl,m6,v6,BK,HE6.out.1,acW.out.trans HE6.out.2⟩
  ·rw [if_neg (by decide)];simp only;generalize ah (bV g)=FR at *;generalize E4:1 - g.ar=ai at *;generalize eG:g.gn+1=g1 at *;clear eG E4;go_enter RA,RB;go_wp2_with fail
   go_quiet (fail)
   go_wp2_with fail
   have b0:ak w.heap.size w (w.drewN nq):=dH (aA _ _) _;have k0:=HH.out.up b0;have UX:=af k0;have bM:=af b0;refine (aq xu _ k0.eg (HT.out _ b0)).mono ?_;rintro e w1 ⟨mv,nv,rfl,gh,hb1⟩;have dJ:ak w.heap.size w w1:=b0.trans hb1;have aJ:=af dJ;have m9:=af (HH.out.up dJ);have Iq:Hid (cN E D m v vs m v vs w w1):=cN.bh dJ;have kx:=af (Dk.out w1 _ nv gh.ls);obtain ⟨ob,rfl⟩:=gh.map;obtain ⟨ua,uc,rfl⟩:=bA gh.ls;have Ir:=fun n=>PN ob ua n uc;clear gh hb1 b0 k0 dJ ca cg xu Dk;go_wp2_with fail
   refine (aq kx).mono ?_;rintro e w2 ⟨rfl,hb2⟩;have mH:ak w.heap.size w w2:=aJ.out.trans (hb2.mono aJ.out.size);have aZ:=af mH;have k2:=HH.out.up mH;have fC:=af k2;have E3:Hid (cN E D m v vs m v vs w w2):=cN.bh mH;have c2:w2.cell? ⟨E,0,none⟩=some (.pointer (some ⟨D,0,none⟩)):=k2.eg.sc 0 (.inl (by decide));clear hb2 mH kx k2;go_wp2_with fail
   refine (aq qD _ _ fC.out.dv).mono ?_;rintro e w3 ⟨rfl,vs3,hd3,yE⟩;obtain ⟨k3,f3⟩:=fC.out.dev hd3 yE;have fM:=af k3;have Ll:=af (E3.out.trans f3);clear hd3 yE k3 f3 qD c2;go_wp2_with fail
   refine (aq uD _).mono ?_;rintro e w' ⟨rfl,hw'⟩;obtain rfl:=hw'.symm;go_wp2_with fail
   refine (aq m8 _ _ fM.out).mono ?_;rintro e w4 ⟨rfl,m4,v4,BK,k4,f4⟩;have iz:=af k4;have Lm:=af (Ll.out.trans f4);clear k4 f4 m8 Ir;go_wp2_with fail
   go_ret;exact ⟨rfl,m4,v4,BK,iz.out,Lm.out⟩
 ·rw [if_neg ha];simp only;have fo:=af (fun vs' w' (h':dG E D g d1 m v vs' w')=>PK E D g d1 m v vs' a1 w' h' ha);clear ha;generalize ah (bV g)=FR at *;generalize E4:1 - g.ar=ai at *;generalize eG:g.gn+1=g1 at *;clear eG E4;go_enter RA,RB;go_wp2_with fail
  go_quiet (fail)
  go_wp2_with fail
  have b0:ak w.heap.size w (w.drewN nq):=dH (aA _ _) _;have k0:=HH.out.up b0;have UX:=af k0;have bM:=af b0;refine (aq xu _ k0.eg (HT.out _ b0)).mono ?_;rintro e w1 ⟨mv,nv,rfl,gh,hb1⟩;have dJ:ak w.heap.size w w1:=b0.trans hb1;have aJ:=af dJ;have m9:=af (HH.out.up dJ);have Iq:Hid (cN E D m v vs m v vs w w1):=cN.bh dJ;have kx:=af (Dk.out w1 _ nv gh.ls);obtain ⟨ob,rfl⟩:=gh.map;obtain ⟨ua,uc,rfl⟩:=bA gh.ls;have Ir:=fun n=>PN ob ua n uc;clear gh hb1 b0 k0 dJ ca cg xu Dk;go_wp2_with fail
  refine (aq kx).mono ?_;rintro e w2 ⟨rfl,hb2⟩;have mH:ak w.heap.size w w2:=aJ.out.trans (hb2.mono aJ.out.size);have aZ:=af mH;have k2:=HH.out.up mH;have fC:=af k2;have E3:Hid (cN E D m v vs m v vs w w2):=cN.bh mH;have c2:w2.cell? ⟨E,0,none⟩=some (.pointer (some ⟨D,0,none⟩)):=k2.eg.sc 0 (.inl (by decide));clear hb2 mH kx k2;go_wp2_with fail
  refine (aq qD _ _ fC.out.dv).mono ?_;rintro e w3 ⟨rfl,vs3,hd3,yE⟩;obtain ⟨k3,f3⟩:=fC.out.dev hd3 yE;have fM:=af k3;have Ll:=af (E3.out.trans f3);clear hd3 yE k3 f3 qD c2;go_wp2_with fail
  refine (aq fo _ _ fM.out).mono ?_;rintro e w4 ⟨rfl,m4,v4,BK,k4,f4⟩;have iz:=af k4;have Lm:=af (Ll.out.trans f4);clear k4 f4 fo Ir;go_wp2_with fail
  go_ret;exact ⟨rfl,m4,v4,BK,iz.out,Lm.out⟩
def mI {α:Type} (o:qc α) (g:ay) (d:α):Int×ay×α×List UInt8×List UInt8:=
 if (o.sync d 0).1=0 then
  (if (o.sync (o.sync d 0).2 1).1=0 then
    (if (o.read (o.sync (o.sync d 0).2 1).2 0).2.1=0 then
      (if (o.read (o.read (o.sync (o.sync d 0).2 1).2 0).2.2 1).2.1=0 then (0,g,(o.read (o.read (o.sync (o.sync d 0).2 1).2 0).2.2 1).2.2,(o.read (o.sync (o.sync d 0).2 1).2 0).1,(o.read (o.read (o.sync (o.sync d 0).2 1).2 0).2.2 1).1)
       else (15,dg g,(o.read (o.read (o.sync (o.sync d 0).2 1).2 0).2.2 1).2.2,[],[]))
     else (15,dg g,(o.read (o.sync (o.sync d 0).2 1).2 0).2.2,[],[]))
   else (15,dg g,(o.sync (o.sync d 0).2 1).2,[],[]))
 else (15,dg g,(o.sync d 0).2,[],[])
theorem dG.E5 {E D:Nat} {g:ay} {d:aL} {m v vs:Nat->aj} {w:World} (h:dG E D g d m v vs w) {x:Nat} (hx:¬dc E m v x∧¬ig D vs x) (j:Nat) (u:aj):dG E D g d m v vs (w.setCell ⟨x,j,none⟩ u):=
 ⟨h.eg.kept (fun y q=>bB (fun e=>hx.1 (e▸q))),h.dv.kept (by rw [fW];exact ax _) (fun y q=>bB (fun e=>hx.2 (e▸q))),h.sep⟩
theorem cN.E5 {E D:Nat} {m v vs m' v' vs':Nat->aj} {w w':World} (h:cN E D m v vs m' v' vs' w w') {x:Nat} (hx:w.heap.size<=x) (j:Nat) (u:aj):cN E D m v vs m' v' vs' w (w'.setCell ⟨x,j,none⟩ u):=
 ⟨h.bD.trans (fun y q=>.inr (by rw [q];exact hx)) (aM.set w' x j u),h.eo,h.vo⟩
def dl (a b:ByteArray):Array aj:=#[.string a,.string b]
def ac0 (E D:Nat) (m v vs:Nat->aj) (w:World) (r:Int×ay×aL×List UInt8×List UInt8) (e':Ending) (w':World):Prop:=
 ∃t0 t1,e'= .returned (.tuple #[.agg (dl t0 t1),.int .i64 r.1])∧(r.1=0->t0=ah r.2.2.2.1∧t1=ah r.2.2.2.2)∧∃m' v' vs',dG E D r.2.1 r.2.2.1 m' v' vs' w'∧cN E D m v vs m' v' vs' w w'
theorem anm:(Tryz.prog.info? 177).map (·.size)=some 2:=by kernel_rfl
theorem Ln {fn:Func} {p u:Tmp} (h:fn.results=#[.cell p 177,.tmp u]) (tmps:Array aj) (w:World) (x:Nat) (a b:ByteArray)
 (hp:tmps.getD p undef= .pointer (some ⟨x,0,none⟩)) (hg:w.heap[x]? =some (.cells (dl a b) 177 (0,0))) (y:aj) (hu:tmps.getD u undef=y):
 (results fn tmps).run au w= .ok (.tuple #[.agg (dl a b),y]) w:=by
 rw [results_cell_tmp h,hp,hu];simp only [asAddr,Sem.run_pure,kN];rw [run_loadVar_row w x 177 177 (dl a b) (0,0) _ hg Tryz.underlying177 rfl (by rw [anm];rfl)]
structure qZ (E D:Nat) (g:ay) (m v vs:Nat->aj) (w:World) (t0 t1:ByteArray) (d':aL) (vs':Nat->aj) (wr:World):Prop where
 k:dG E D g d' m v vs' wr
 f:cN E D m v vs m v vs' w wr
 nb:∀b,b=w.heap.size∨b=w.heap.size+1->¬dc E m v b∧¬ig D vs' b
 r0:wr.heap[w.heap.size]? =some (.cells (dl ⟨#[]⟩ ⟨#[]⟩) 177 (0,0))
 r1:wr.heap[w.heap.size+1]? =some (.cells (dl t0 t1) 177 (0,0))
theorem qZ.new {E D:Nat} {g:ay} {d:aL} {m v vs:Nat->aj} {w:World} (h:dG E D g d m v vs w) (W:World) (hW:W=(w.alloc (.cells (dl ⟨#[]⟩ ⟨#[]⟩) 177)).alloc (.cells (dl ⟨#[]⟩ ⟨#[]⟩) 177)):qZ E D g m v vs w ⟨#[]⟩ ⟨#[]⟩ d vs W:=by
 have hs1:(w.alloc (.cells (dl ⟨#[]⟩ ⟨#[]⟩) 177)).heap.size=w.heap.size+1:=aB _ _;have hb:ak w.heap.size w W:=by rw [hW];exact ((aA _ _).alloc (ax _) _).alloc (by rw [aB];omega) _
 refine ⟨h.up hb,cN.bh hb,fun b hb=>⟨fun q=>?_,fun q=>?_⟩,?_,?_⟩
 ·have:=(h.eg.has q).2;omega
 ·have:=(h.dv.has q).2;omega
 ·rw [hW,cM _ _ _ (by rw [hs1];omega),bg]
 ·rw [hW,<-hs1,bg]
theorem qZ.lt {E D:Nat} {g:ay} {m v vs:Nat->aj} {w:World} {t0 t1:ByteArray} {d':aL} {vs':Nat->aj} {wr:World} (h:qZ E D g m v vs w t0 t1 d' vs' wr):w.heap.size+1<wr.heap.size:=(Array.getElem?_eq_some_iff.1 h.r1).1
theorem qZ.rows {E D:Nat} {g:ay} {m v vs:Nat->aj} {w:World} {t0 t1:ByteArray} {d':aL} {vs':Nat->aj} {wr:World} (h:qZ E D g m v vs w t0 t1 d' vs' wr) {m2 v2 gy:Nat->aj} {w2:World} (f:cN E D m v vs' m2 v2 gy wr w2):w2.heap[w.heap.size]? =some (.cells (dl ⟨#[]⟩ ⟨#[]⟩) 177 (0,0))∧w2.heap[w.heap.size+1]? =some (.cells (dl t0 t1) 177 (0,0)):=by
 have hl:=h.lt;exact ⟨(f.bD.other _ (by omega) (fun q=>q.elim (h.nb _ (.inl rfl)).1 (h.nb _ (.inl rfl)).2)).trans h.r0,(f.bD.other _ (by omega) (fun q=>q.elim (h.nb _ (.inr rfl)).1 (h.nb _ (.inr rfl)).2)).trans h.r1⟩
theorem qZ.dev {E D:Nat} {g:ay} {m v vs:Nat->aj} {w:World} {t0 t1:ByteArray} {d' d2:aL} {vs' gy:Nat->aj} {wr w2:World} (h:qZ E D g m v vs w t0 t1 d' vs' wr) (hd:cK D d2 gy w2) (hf:jh D vs' gy wr w2):qZ E D g m v vs w t0 t1 d2 gy w2:=by
 obtain ⟨k2,f2⟩:=h.k.dev hd hf;have hl:=h.lt;obtain ⟨r0,r1⟩:=h.rows f2;refine ⟨k2,h.f.trans f2,fun b hb=>⟨(h.nb b hb).1,fun q=>?_⟩,r0,r1⟩;rcases f2.vo b q with a | a
 ·exact (h.nb b hb).2 a
 ·omega
theorem qZ.text {E D:Nat} {g:ay} {m v vs:Nat->aj} {w:World} {t0 t1:ByteArray} {d':aL} {vs':Nat->aj} {wr:World} (h:qZ E D g m v vs w t0 t1 d' vs' wr) (j:Nat) (t s0 s1:ByteArray) (hs:(dl t0 t1).setIfInBounds j (.string t)=dl s0 s1):qZ E D g m v vs w s0 s1 d' vs' (wr.setCell ⟨w.heap.size+1,j,none⟩ (.string t)):=by
 refine ⟨h.k.E5 (h.nb _ (.inr rfl)) j _,h.f.E5 (jk _) j _,h.nb,(bB (by omega)).trans h.r0,?_⟩;rw [<-hs];simp [qP,sO,h.r1]
theorem qZ.fin {E D:Nat} {g:ay} {m v vs:Nat->aj} {w:World} {t0 t1:ByteArray} {d':aL} {vs':Nat->aj} {wr:World} (h:qZ E D g m v vs w t0 t1 d' vs' wr) {g2:ay} {d2:aL} {m2 v2 gy:Nat->aj} {w2:World} (k:dG E D g2 d2 m2 v2 gy w2) (f:cN E D m v vs' m2 v2 gy wr w2) (r:Int×ay×aL×List UInt8×List UInt8) (h1:r.2.1=g2) (h2:r.2.2.1=d2) (h3:r.1=0->t0=ah r.2.2.2.1∧t1=ah r.2.2.2.2) (n:Int) (hn:r.1=n) (Wf:World) (hW:Wf=(w2.setCell ⟨w.heap.size,0,none⟩ (.string t0)).setCell ⟨w.heap.size,1,none⟩ (.string t1)):
 Wf.heap[w.heap.size]? =some (.cells (dl t0 t1) 177 (0,0))∧ac0 E D m v vs w r (.returned (.tuple #[.agg (dl t0 t1),.int .i64 n])) Wf:=by
 obtain ⟨r0,_⟩:=h.rows f;have hl:=h.lt;have hx:¬dc E m2 v2 w.heap.size∧¬ig D gy w.heap.size:=by
  refine ⟨fun q=>?_,fun q=>?_⟩
  ·rcases f.eo _ q with a | a
   ·exact (h.nb _ (.inl rfl)).1 a
   ·omega
  ·rcases f.vo _ q with a | a
   ·exact (h.nb _ (.inl rfl)).2 a
   ·omega
 refine ⟨by rw [hW];simp [qP,sO,r0,dl],t0,t1,by rw [hn],h3,m2,v2,gy,?_,?_⟩
 ·rw [h1,h2,hW];exact (k.E5 hx 0 _).E5 hx 1 _
 ·rw [hW];exact ((h.f.trans f).E5 (ax _) 0 _).E5 (ax _) 1 _
theorem Iw (g:ay) (d:aL):mI bO g d=if (cG d 0).1=0 then
 (if (cG (cG d 0).2 1).1=0 then
   (if (dn (cG (cG d 0).2 1).2 0).2.1=0 then
     (if (dn (dn (cG (cG d 0).2 1).2 0).2.2 1).2.1=0 then (0,g,(dn (dn (cG (cG d 0).2 1).2 0).2.2 1).2.2,(dn (cG (cG d 0).2 1).2 0).1,(dn (dn (cG (cG d 0).2 1).2 0).2.2 1).1)
      else (15,dg g,(dn (dn (cG (cG d 0).2 1).2 0).2.2 1).2.2,[],[]))
    else (15,dg g,(dn (cG (cG d 0).2 1).2 0).2.2,[],[]))
  else (15,dg g,(cG (cG d 0).2 1).2,[],[]))
 else (15,dg g,(cG d 0).2,[],[]):=rfl
theorem ann (E D:Nat) (g:ay) (d:aL) (m v vs:Nat->aj) (w:World) (h:dG E D g d m v vs w):
 av au 149 #[.pointer (some ⟨E,0,none⟩)] w (ac0 E D m v vs w (mI bO g d)):=by
 obtain ⟨W0,bq⟩:∃W0,W0=(w.alloc (.cells (dl ⟨#[]⟩ ⟨#[]⟩) 177)).alloc (.cells (dl ⟨#[]⟩ ⟨#[]⟩) 177):=⟨_,rfl⟩;have H0:=af (qZ.new h W0 bq);have fV:=af bq;have uD:=af (fun w'=>UQ E w');have yD:∀d' vs' wr,dG E D g d' m v vs' wr->wr.cell? ⟨E,0,none⟩=some (.pointer (some ⟨D,0,none⟩)):=fun d' vs' wr k=>k.eg.sc 0 (.inl (by decide));have mg:=af yD;have fo:=af (fun d' vs' w' a (h':dG E D g d' m v vs' w') (ha:a≠0)=>PK E D g d' m v vs' a w' h' ha);have Iy:Hid (∀vs' w',cK D d vs' w'->av au 56 #[.pointer (some ⟨D,0,none⟩),.int .i64 0] w' (qB D vs' w' (cG d 0).1 (cG d 0).2)):=fun vs' w' h'=>OY D d vs' 0 w' h';rw [Iw];generalize cG d 0=s1 at *;obtain ⟨a1,d1⟩:=s1;simp only at Iy⊢;have E6:Hid (∀vs' w',cK D d1 vs' w'->av au 56 #[.pointer (some ⟨D,0,none⟩),.int .i64 1] w' (qB D vs' w' (cG d1 1).1 (cG d1 1).2)):=fun vs' w' h'=>OY D d1 vs' 1 w' h';generalize cG d1 1=s2 at *;obtain ⟨a2,d2⟩:=s2;simp only at E6⊢;have xx:Hid (∀vs' w',cK D d2 vs' w'->av au 100 #[.pointer (some ⟨D,0,none⟩),.int .i64 0] w' fun e' w''=>e'= .returned (.tuple #[.string (ah (dn d2 0).1),.int .i64 (dn d2 0).2.1])∧∃vs'',cK D (dn d2 0).2.2 vs'' w''∧jh D vs' vs'' w' w''):=fun vs' w' h'=>Tg D d2 vs' 0 w' h';generalize dn d2 0=s3 at *;obtain ⟨x1,a3,d3⟩:=s3;simp only at xx⊢;have BL:Hid (∀vs' w',cK D d3 vs' w'->av au 100 #[.pointer (some ⟨D,0,none⟩),.int .i64 1] w' fun e' w''=>e'= .returned (.tuple #[.string (ah (dn d3 1).1),.int .i64 (dn d3 1).2.1])∧∃vs'',cK D (dn d3 1).2.2 vs'' w''∧jh D vs' vs'' w' w''):=fun vs' w' h'=>Tg D d3 vs' 1 w' h';generalize dn d3 1=s4 at *;obtain ⟨x2,a4,d4⟩:=s4;simp only at BL⊢;obtain ⟨RR,mh⟩:∃RR:Int×ay×aL×List UInt8×List UInt8,RR=(if a1=0 then (if a2=0 then (if a3=0 then (if a4=0 then (0,g,d4,x1,x2) else (15,dg g,d4,[],[])) else (15,dg g,d3,[],[])) else (15,dg g,d2,[],[])) else (15,dg g,d1,[],[])):=⟨_,rfl⟩;rw [<-mh];have jA:=af mh;clear h bq mh yD;go_enter Tryz.func149,Tryz.ntmps149;go_wp2_with fail
 have BF:=fV.out;unfold dl at BF;rw [<-BF];clear BF;go_loopw [11] (fun i wr=>∃d' vs',Hid (qZ E D g m v vs w ⟨#[]⟩ ⟨#[]⟩ d' vs' wr)∧((i= .int .i64 0∧d'=d)∨(i= .int .i64 1∧d'=d1∧a1=0)∨(i= .int .i64 2∧d'=d2∧a1=0∧a2=0))) (fun i _=>2 - (aI i).toNat)
 case atStart=>exact ⟨d,vs,H0.out,.inl ⟨rfl,rfl⟩⟩
 case round=>
  obtain ⟨d',vs',HI,⟨rfl,rfl⟩ | ⟨rfl,rfl,rfl⟩ | ⟨rfl,rfl,rfl,rfl⟩⟩:=hrel
  ·have c0:=mg.out _ _ _ HI.out.k;go_wp2_with fail
   refine (aq Iy _ _ HI.out.k.dv).mono ?_;rintro e w1 ⟨rfl,vs1,hd1,hf1⟩;have iA:=af (HI.out.dev hd1 hf1);clear hd1 hf1 c0;by_cases ha:a1=0
   ·subst ha;go_wp2_with fail
    refine (aq uD _).mono ?_;rintro e w' ⟨rfl,hw'⟩;obtain rfl:=hw'.symm;go_wp2_with fail
    exact ⟨⟨_,_,iA.out,.inr (.inl ⟨rfl,rfl,trivial⟩)⟩,by simp [aI]⟩
   ·have HN:=af (fo.out _ _ _ a1 iA.out.k ha);have HR:Hid (RR=(15,dg g,d1,[],[])):=by unfold Hid;rw [jA.out];simp [ha]
    clear ha;go_wp2_with fail
    refine (aq HN).mono ?_;rintro e w2 ⟨rfl,m2,v2,gy,k2,f2⟩;have HF:=af (fun Wf=>iA.out.fin k2 f2 RR (by rw [HR.out]) (by rw [HR.out]) (fun q=>by rw [HR.out] at q;cases q) 15 (by rw [HR.out]) Wf);obtain ⟨r0,r1⟩:=iA.out.rows f2;have s0:w2.cell? ⟨w.heap.size+1,0,none⟩=some (.string ⟨#[]⟩):=by simp [cU,r1,dl]
    have s1:w2.cell? ⟨w.heap.size+1,1,none⟩=some (.string ⟨#[]⟩):=by simp [cU,r1,dl]
    have q0:w2.cell? ⟨w.heap.size,0,none⟩=some (.string ⟨#[]⟩):=by simp [cU,r0,dl]
    have q1:w2.cell? ⟨w.heap.size,1,none⟩=some (.string ⟨#[]⟩):=by simp [cU,r0,dl]
    have g0:w2.frozen? ⟨w.heap.size,0,none⟩=false:=by simp [ij,r0]
    have g1:w2.frozen? ⟨w.heap.size,1,none⟩=false:=by simp [ij,r0]
    clear r0 r1 k2 f2 HN;go_wp2_with fail
    exact cL (v:=.tuple #[.agg (dl ⟨#[]⟩ ⟨#[]⟩),.int .i64 15]) (Ln RC _ _ w.heap.size _ _ rfl (HF.out _ rfl).1 _ rfl) rfl (HF.out _ rfl).2
  ·have c0:=mg.out _ _ _ HI.out.k;go_wp2_with fail
   refine (aq E6 _ _ HI.out.k.dv).mono ?_;rintro e w1 ⟨rfl,vs1,hd1,hf1⟩;have iA:=af (HI.out.dev hd1 hf1);clear hd1 hf1 c0;by_cases ha:a2=0
   ·subst ha;go_wp2_with fail
    refine (aq uD _).mono ?_;rintro e w' ⟨rfl,hw'⟩;obtain rfl:=hw'.symm;go_wp2_with fail
    exact ⟨⟨_,_,iA.out,.inr (.inr ⟨rfl,rfl,trivial,trivial⟩)⟩,by simp [aI]⟩
   ·have HN:=af (fo.out _ _ _ a2 iA.out.k ha);have HR:Hid (RR=(15,dg g,d2,[],[])):=by unfold Hid;rw [jA.out];simp [ha]
    clear ha;go_wp2_with fail
    refine (aq HN).mono ?_;rintro e w2 ⟨rfl,m2,v2,gy,k2,f2⟩;have HF:=af (fun Wf=>iA.out.fin k2 f2 RR (by rw [HR.out]) (by rw [HR.out]) (fun q=>by rw [HR.out] at q;cases q) 15 (by rw [HR.out]) Wf);obtain ⟨r0,r1⟩:=iA.out.rows f2;have s0:w2.cell? ⟨w.heap.size+1,0,none⟩=some (.string ⟨#[]⟩):=by simp [cU,r1,dl]
    have s1:w2.cell? ⟨w.heap.size+1,1,none⟩=some (.string ⟨#[]⟩):=by simp [cU,r1,dl]
    have q0:w2.cell? ⟨w.heap.size,0,none⟩=some (.string ⟨#[]⟩):=by simp [cU,r0,dl]
    have q1:w2.cell? ⟨w.heap.size,1,none⟩=some (.string ⟨#[]⟩):=by simp [cU,r0,dl]
    have g0:w2.frozen? ⟨w.heap.size,0,none⟩=false:=by simp [ij,r0]
    have g1:w2.frozen? ⟨w.heap.size,1,none⟩=false:=by simp [ij,r0]
    clear r0 r1 k2 f2 HN;go_wp2_with fail
    exact cL (v:=.tuple #[.agg (dl ⟨#[]⟩ ⟨#[]⟩),.int .i64 15]) (Ln RC _ _ w.heap.size _ _ rfl (HF.out _ rfl).1 _ rfl) rfl (HF.out _ rfl).2
  ·go_wp2_with fail
   obtain ⟨wo,Ep⟩:∃wo,wo=wr:=⟨_,rfl⟩;subst Ep;go_loopw [27] (fun i wr=>∃dq vs' t0 t1,Hid (qZ E D g m v vs w t0 t1 dq vs' wr)∧((i= .int .i64 0∧dq=d'∧t0=⟨#[]⟩∧t1=⟨#[]⟩)∨(i= .int .i64 1∧dq=d3∧a3=0∧t0=ah x1∧t1=⟨#[]⟩)∨(i= .int .i64 2∧dq=d4∧a3=0∧a4=0∧t0=ah x1∧t1=ah x2))) (fun i _=>2 - (aI i).toNat)
   case atStart=>exact ⟨_,_,_,_,HI.out,.inl ⟨rfl,rfl,rfl,rfl⟩⟩
   case round=>
   clear HI;obtain ⟨dq,vs',t0,t1,HI,⟨rfl,rfl,rfl,rfl⟩ | ⟨rfl,rfl,rfl,rfl,rfl⟩ | ⟨rfl,rfl,rfl,rfl,rfl,rfl⟩⟩:=hrel
   ·have c0:=mg.out _ _ _ HI.out.k;go_wp2_with fail
    refine (aq xx _ _ HI.out.k.dv).mono ?_;rintro e w1 ⟨rfl,vs1,hd1,hf1⟩;have iA:=af (HI.out.dev hd1 hf1);clear hd1 hf1 c0;by_cases ha:a3=0
    ·subst ha;have jB:=af (iA.out.text 0 (ah x1) (ah x1) ⟨#[]⟩ rfl);have r1:=iA.out.r1;have s0:w1.cell? ⟨w.heap.size+1,0,none⟩=some (.string ⟨#[]⟩):=by simp [cU,r1,dl]
     have g0:w1.frozen? ⟨w.heap.size+1,0,none⟩=false:=by simp [ij,r1]
     clear r1;go_wp2_with fail
     refine (aq uD _).mono ?_;rintro e w' ⟨rfl,hw'⟩;obtain rfl:=hw'.symm;go_wp2_with fail
     exact ⟨⟨_,_,_,_,jB.out,.inr (.inl ⟨rfl,rfl,trivial,rfl,rfl⟩)⟩,by simp [aI]⟩
    ·have HN:=af (fo.out _ _ _ a3 iA.out.k ha);have HR:Hid (RR=(15,dg g,d3,[],[])):=by unfold Hid;rw [jA.out];simp [ha]
     clear ha;go_wp2_with fail
     refine (aq HN).mono ?_;rintro e w2 ⟨rfl,m2,v2,gy,k2,f2⟩;have HF:=af (fun Wf=>iA.out.fin k2 f2 RR (by rw [HR.out]) (by rw [HR.out]) (fun q=>by rw [HR.out] at q;cases q) 15 (by rw [HR.out]) Wf);obtain ⟨r0,r1⟩:=iA.out.rows f2;have s0:w2.cell? ⟨w.heap.size+1,0,none⟩=some (.string ⟨#[]⟩):=by simp [cU,r1,dl]
     have s1:w2.cell? ⟨w.heap.size+1,1,none⟩=some (.string ⟨#[]⟩):=by simp [cU,r1,dl]
     have q0:w2.cell? ⟨w.heap.size,0,none⟩=some (.string ⟨#[]⟩):=by simp [cU,r0,dl]
     have q1:w2.cell? ⟨w.heap.size,1,none⟩=some (.string ⟨#[]⟩):=by simp [cU,r0,dl]
     have g0:w2.frozen? ⟨w.heap.size,0,none⟩=false:=by simp [ij,r0]
     have g1:w2.frozen? ⟨w.heap.size,1,none⟩=false:=by simp [ij,r0]
     clear r0 r1 k2 f2 HN;go_wp2_with fail
     exact cL (v:=.tuple #[.agg (dl ⟨#[]⟩ ⟨#[]⟩),.int .i64 15]) (Ln RC _ _ w.heap.size _ _ rfl (HF.out _ rfl).1 _ rfl) rfl (HF.out _ rfl).2
   ·have c0:=mg.out _ _ _ HI.out.k;go_wp2_with fail
    refine (aq BL _ _ HI.out.k.dv).mono ?_;rintro e w1 ⟨rfl,vs1,hd1,hf1⟩;have iA:=af (HI.out.dev hd1 hf1);clear hd1 hf1 c0;by_cases ha:a4=0
    ·subst ha;have jB:=af (iA.out.text 1 (ah x2) (ah x1) (ah x2) rfl);have r1:=iA.out.r1;have s0:w1.cell? ⟨w.heap.size+1,1,none⟩=some (.string ⟨#[]⟩):=by simp [cU,r1,dl]
     have g0:w1.frozen? ⟨w.heap.size+1,1,none⟩=false:=by simp [ij,r1]
     clear r1;go_wp2_with fail
     refine (aq uD _).mono ?_;rintro e w' ⟨rfl,hw'⟩;obtain rfl:=hw'.symm;go_wp2_with fail
     exact ⟨⟨_,_,_,_,jB.out,.inr (.inr ⟨rfl,rfl,trivial,trivial,rfl,rfl⟩)⟩,by simp [aI]⟩
    ·have HN:=af (fo.out _ _ _ a4 iA.out.k ha);have HR:Hid (RR=(15,dg g,d4,[],[])):=by unfold Hid;rw [jA.out];simp [ha]
     clear ha;go_wp2_with fail
     refine (aq HN).mono ?_;rintro e w2 ⟨rfl,m2,v2,gy,k2,f2⟩;have HF:=af (fun Wf=>iA.out.fin k2 f2 RR (by rw [HR.out]) (by rw [HR.out]) (fun q=>by rw [HR.out] at q;cases q) 15 (by rw [HR.out]) Wf);obtain ⟨r0,r1⟩:=iA.out.rows f2;have s0:w2.cell? ⟨w.heap.size+1,0,none⟩=some (.string (ah x1)):=by simp [cU,r1,dl]
     have s1:w2.cell? ⟨w.heap.size+1,1,none⟩=some (.string ⟨#[]⟩):=by simp [cU,r1,dl]
     have q0:w2.cell? ⟨w.heap.size,0,none⟩=some (.string ⟨#[]⟩):=by simp [cU,r0,dl]
     have q1:w2.cell? ⟨w.heap.size,1,none⟩=some (.string ⟨#[]⟩):=by simp [cU,r0,dl]
     have g0:w2.frozen? ⟨w.heap.size,0,none⟩=false:=by simp [ij,r0]
     have g1:w2.frozen? ⟨w.heap.size,1,none⟩=false:=by simp [ij,r0]
     clear r0 r1 k2 f2 HN;go_wp2_with fail
     exact cL (v:=.tuple #[.agg (dl (ah x1) ⟨#[]⟩),.int .i64 15]) (Ln RC _ _ w.heap.size _ _ rfl (HF.out _ rfl).1 _ rfl) rfl (HF.out _ rfl).2
   ·have HR:Hid (RR=(0,g,dq,x1,x2)):=by unfold Hid;rw [jA.out];simp
    have HF:=af (fun Wf=>HI.out.fin HI.out.k (cN.refl _ _ _ _ _ _) RR (by rw [HR.out]) (by rw [HR.out]) (fun _=>by rw [HR.out];exact ⟨rfl,rfl⟩) 0 (by rw [HR.out]) Wf);have r0:=HI.out.r0;have r1:=HI.out.r1;have s0:wr.cell? ⟨w.heap.size+1,0,none⟩=some (.string (ah x1)):=by simp [cU,r1,dl]
    have s1:wr.cell? ⟨w.heap.size+1,1,none⟩=some (.string (ah x2)):=by simp [cU,r1,dl]
    have q0:wr.cell? ⟨w.heap.size,0,none⟩=some (.string ⟨#[]⟩):=by simp [cU,r0,dl]
    have q1:wr.cell? ⟨w.heap.size,1,none⟩=some (.string ⟨#[]⟩):=by simp [cU,r0,dl]
    have g0:wr.frozen? ⟨w.heap.size,0,none⟩=false:=by simp [ij,r0]
    have g1:wr.frozen? ⟨w.heap.size,1,none⟩=false:=by simp [ij,r0]
    clear r0 r1;go_wp2_with fail
    exact cL (v:=.tuple #[.agg (dl (ah x1) (ah x2)),.int .i64 0]) (Ln RC _ _ w.heap.size _ _ rfl (HF.out _ rfl).1 _ rfl) rfl (HF.out _ rfl).2
end Go.Proofs.YtmmflekajbeamaaGreatDoor
