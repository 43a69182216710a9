/- Texts of ours, joined, in few bytes. -/
import Derived.Test.YtmmflekajbeamaaGreatDoorE20
open Array renaming getElem?_append_left->Ru
open Bool renaming and_eq_true->gG
open Go.Act renaming put->xN
open Go renaming Calls->av,Exit->lF,Oper->bI,Program->mM,TypeId->cE,Value->aj,block_lt_of_cell->mA,execOp->kF,heap_alloc_new->bg,wpList_append_lies->vV,wpStill->Jw,wpStill_nil->jC
open Go.Instr renaming build->Nu,fill->JQ,loadAt->kR
open Go.Proofs.Tryz renaming prog->au,underlying125->AR
open Go.Region renaming Mode->pN,free->JI,free_spec->Gk,noSelect->vR,noSelect_spec->Gj,ready->oL,wanted->xM
open Go.Result renaming andThen->kN,andThen_ok->DI
open Go.RowKit renaming Below->ak,wrap64->aY
open Go.RowKit.Below renaming heap_alloc->cM,refl->aA
open Go.Sem renaming run->qi,run_bind->kB,run_pure->zk
open Go.Value renaming int->cI,pointer->Gw
open Go.World renaming cell?_of_block->aP,new_ne->XY,news_of_block->mP
open List renaming all_eq_true->oh,getD_cons_succ->Gp,getD_cons_zero->JG,getD_eq_getElem?_getD->bP,getElem?_eq_getElem->bE,getElem_cons_succ->xO,getElem_cons_zero->vY,getElem_mem->lC,getElem_toArray->vX,length_cons->jM,length_nil->vT,mem_range->mL,range->jL,replicate->uM,set_append_right->tY
open Nat renaming add_sub_cancel_left->D5,le_refl->ax,le_trans->aT,zero_add->ol,zero_le->bK
open Option renaming map_some->AO
open Option.some renaming injEq->Ci
namespace Go.Proofs.YtmmflekajbeamaaGreatDoor
set_option maxRecDepth 100000
set_option maxHeartbeats 8000000
section
open Go.RowKit Go.Maps Go.WideMaps
theorem anO (D:Nat) (d:aL) (vs:Nat->aj) (w:World) (h:cK D d vs w):
 av au 96 #[.pointer (some ⟨D,0,none⟩)] w (qB D vs w (aY (d.wk+1)) {d with wk:=aY (d.wk+1)}):=by
 have c5:=h.wk;have f5:=h.fz 5;have HS:=af (h.abB (aY (d.wk+1)));clear h;go_enter Tryz.func96,Tryz.ntmps96;go_wp2_with fail
 go_ret;exact ⟨rfl,vs,HS.out.1,HS.out.2⟩
theorem anP (D:Nat) (k n:Int) (w:World) (c5:w.cell? ⟨D,5,none⟩=some (.int .i64 k)):
 av au 138 #[.pointer (some ⟨D,0,none⟩),.int .i64 n] w fun e' w'=>e'= .returned (.bool (n == k))∧w'=w:=by
 go_enter Tryz.func138,Tryz.ntmps138;go_wp2_with fail
 go_ret;exact ⟨rfl,rfl⟩
def iN (g:ay) (wk:Int):Bool:=g.fl || !(g.wk == wk)
theorem IC (E D:Nat) (g:ay) (d:aL) (m v vs:Nat->aj) (w:World) (h:dG E D g d m v vs w):
 av au 88 #[.pointer (some ⟨E,0,none⟩)] w fun e' w'=>e'= .returned (.bool (iN g d.wk))∧∃n,w'=w.drewN n:=by
 have c0:w.cell? ⟨E,0,none⟩=some (.pointer (some ⟨D,0,none⟩)):=h.eg.sc 0 (.inl (by decide));have c1:w.cell? ⟨E,1,none⟩=some (.int .i64 g.wk):=h.eg.sc 1 (.inl (by decide));have c2:w.cell? ⟨E,2,none⟩=some (.bool g.fl):=h.eg.sc 2 (.inl (by decide));have c5:=h.dv.wk;have PU:=af (fun w' (c:w'.cell? ⟨D,5,none⟩=some (.int .i64 d.wk))=>anP D d.wk g.wk w' c);cases hf:g.fl
 ·rw [hf] at c2;have he:iN g d.wk= !(g.wk == d.wk):=by unfold iN;rw [hf];rfl
  rw [he];clear h he hf;go_enter Tryz.func88,Tryz.ntmps88;go_wp2_with fail
  go_quiet ((go_at_call 138;exact Calls.quiet_of_same (aq PU _ (by simpa using c5))))
  go_wp2_with fail
  go_ret;exact ⟨rfl,_,rfl⟩
 ·rw [hf] at c2;have he:iN g d.wk=true:=by unfold iN;rw [hf];rfl
  rw [he];clear h he hf;go_enter Tryz.func88,Tryz.ntmps88;go_wp2_with fail
  go_quiet (fail)
  go_wp2_with fail
  go_ret;exact ⟨rfl,_,rfl⟩
def tI:Array aj:=(#[.pointer none,.int .i64 0,.bool false] ++ S bT) ++ #[.int .i64 0,.int .i64 0,.int .i64 0,.int .i64 0,.int .i64 0,.int .i64 0,.int .i64 0,.int .i64 0,.map none,.slice none 0 0,.map none,.slice none 0 0,.map none,.slice none 0 0]
def ac8:Array (Nat×Nat):=#[(0,1),(1,1),(2,1),(3,138),(141,5),(146,1),(147,1),(148,1),(149,2),(151,2),(153,2)]
theorem anQ:(match Tryz.prog.underlying 133 with | some (.struct fs)=>fs.toList.mapM (fun f=>(Tryz.prog.info? f.type).map fun i=>(f.offset,i.size)) | _=>none)=some ac8.toList:=by kernel_rfl
theorem anR:∃i,Tryz.prog.info? 133=some i∧i.zero=some (.agg tI):=by
 have h:(Tryz.prog.info? 133).map (fun i=>i.zero)=some (some (.agg tI)):=by kernel_rfl
 cases hq:Tryz.prog.info? 133 with
 | none=>rw [hq] at h;cases h
 | some i=>
   rw [hq] at h;simp only [AO,Ci] at h;exact ⟨i,rfl,h⟩
theorem anS (parts:List (Nat×aj)):Tryz.prog.built 133 parts=JQ (fun x=>ac8[x]?) tI parts:=by
 obtain ⟨i,hi,hz⟩:=anR;have hp:=anQ;unfold Program.built;rw [hi];rw [Tryz.underlying133] at hp⊢;simp only [hz] at hp⊢;rw [hp];rfl
theorem ID (f:Nat->Option (Nat×Nat)) (cs:Array aj) (p:Nat) (v:aj) (r:List (Nat×aj)) (o s:Nat) (hp:f p=some (o,s)) (hs:v.cells.size=s) (h:o+s<=cs.size):JQ f cs ((p,v) :: r)=JQ f (mV o v.cells cs) r:=by
 simp only [JQ,hp];rw [if_neg (by simp [hs];omega)];rfl
theorem ac9:tI.size=155:=by unfold tI;simp [bQ,bT]
def yI (D:Nat) (k:Int) (z:List Int):Array aj:=mV 3 (S z) (mV 1 #[.int .i64 k] (mV 0 #[.pointer (some ⟨D,0,none⟩)] tI))
theorem PV (D:Nat) (k:Int) (z:List Int) (hz:z.length=138) (j:Nat):(yI D k z).size=155∧(yI D k z)[j]? =if 3<=j∧j<141 then (S z)[j - 3]? else if j=1 then some (.int .i64 k) else if j=0 then some (.pointer (some ⟨D,0,none⟩)) else tI[j]?:=by
 have s0:=ac9;have e1:(mV 0 #[.pointer (some ⟨D,0,none⟩)] tI).size=155:=by rw [Ag _ _ _ (by rw [s0];simp),s0]
 have e2:(mV 1 #[.int .i64 k] (mV 0 #[.pointer (some ⟨D,0,none⟩)] tI)).size=155:=by rw [Ag _ _ _ (by rw [e1];simp),e1]
 have zs:(S z).size=138:=by rw [bQ,hz]
 unfold yI;refine ⟨by rw [Ag _ _ _ (by rw [e2,zs];decide),e2],?_⟩;rw [Ij _ _ _ (by rw [e2,zs];decide),zs];by_cases h1:3<=j∧j<141
 ·rw [if_pos (by omega),if_pos h1]
 ·rw [if_neg (by omega),if_neg h1,Ij _ _ _ (by rw [e1];simp)];by_cases h2:j=1
  ·subst h2;rfl
  ·rw [if_neg (by simp;omega),if_neg h2,Ij _ _ _ (by rw [s0];simp)];by_cases h3:j=0
   ·subst h3;rfl
   ·rw [if_neg (by simp;omega),if_neg h3]
theorem Vd (j:Nat) (h:141<=j):tI[j]? =#[cI .i64 0,.int .i64 0,.int .i64 0,.int .i64 0,.int .i64 0,.int .i64 0,.int .i64 0,.int .i64 0,.map none,.slice none 0 0,.map none,.slice none 0 0,.map none,.slice none 0 0][j - 141]?:=by
 unfold tI;have hs:(#[Gw none,.int .i64 0,.bool false] ++ S bT).size=141:=by simp [bQ,bT]
 rw [Array.getElem?_append_right (by rw [hs];exact h),hs]
theorem anT:tI[2]? =some (.bool false):=by
 unfold tI;have hs:(#[Gw none,.int .i64 0,.bool false] ++ S bT).size=141:=by simp [bQ,bT]
 rw [Ru (by rw [hs];decide),Ru (by decide)];rfl
theorem anU (D:Nat) (k:Int) (z:List Int) (hz:z.length=138) (w:World):(Nu 133 #[(0,.pointer (some ⟨D,0,none⟩)),(1,.int .i64 k),(3,.agg (S z))]).run au w= .ok (.agg (yI D k z)) w:=by
 refine run_build w 133 _ _ ?_;have s0:=ac9;have e1:(mV 0 #[.pointer (some ⟨D,0,none⟩)] tI).size=155:=by rw [Ag _ _ _ (by rw [s0];simp),s0]
 have e2:(mV 1 #[.int .i64 k] (mV 0 #[.pointer (some ⟨D,0,none⟩)] tI)).size=155:=by rw [Ag _ _ _ (by rw [e1];simp),e1]
 have zs:(S z).size=138:=by rw [bQ,hz]
 rw [anS];show JQ _ _ [(0,_),(1,_),(3,_)]=_
 rw [ID _ _ 0 _ _ 0 1 rfl rfl (by rw [s0];decide),ID _ _ 1 _ _ 1 1 rfl rfl (by rw [show (Gw (some ⟨D,0,none⟩)).cells=#[.pointer (some ⟨D,0,none⟩)] from rfl,e1];decide)];rw [ID _ _ 3 (.agg (S z)) _ 3 138 rfl zs (by rw [show (Gw (some ⟨D,0,none⟩)).cells=#[.pointer (some ⟨D,0,none⟩)] from rfl,show (cI .i64 k).cells=#[.int .i64 k] from rfl,e2];decide)];rfl
def newG (k:Int) (z:List Int):ay:=⟨k,false,z,fun _=>0,0,0,0,fun _=>[]⟩
def PY:Nat->aj:=fun _=>.map none
theorem bH.new (D:Nat) (k:Int) (z:List Int) (hz:z.length=138) (w:World) (W:World) (hW:W=w.alloc (.cells (yI D k z) 133)):bH w.heap.size D (newG k z) PY um W:=by
 have r:W.heap[w.heap.size]? =some (.cells (yI D k z) 133 (0,0)):=by rw [hW,bg]
 have hc:∀j,W.cell? ⟨w.heap.size,j,none⟩=(yI D k z)[j]?:=fun j=>cF r j;refine ⟨fun j=>by simp [World.frozen?,r],fun j hj=>?_,fun j u q=>?_,hz,fun i hi=>?_,fun i j _ _ _ x q=>by rcases q with q | q<;>cases q⟩
 ·rw [hc,(PV D k z hz j).2];unfold nV at hj;rcases hj with hj | hj
  ·rw [if_neg (by omega)]
   match j,hj with
   | 0,_=>rfl
   | 1,_=>rfl
   | 2,_=>exact anT
  ·rw [if_neg (by omega),if_neg (by omega),if_neg (by omega),Vd j hj.1];obtain ⟨i,rfl⟩:∃i,j=141+i:=⟨j - 141,by omega⟩;have hi:i<8:=by omega
   rw [D5]
   match i,hi with
   | 0,_=>rfl
   | 1,_=>rfl
   | 2,_=>rfl
   | 3,_=>rfl
   | 4,_=>rfl
   | 5,_=>rfl
   | 6,_=>rfl
   | 7,_=>rfl
 ·have hj:j<138:=by have:=(List.getElem?_eq_some_iff.1 q).1;rw [List.length_map] at this;have hz':(newG k z).z.length=138:=hz;omega
  rw [hc,(PV D k z hz (3+j)).2,if_pos (by omega),D5,<-q];unfold S newG;simp
 ·refine (oF.none _ W).at' ?_ ?_ (fun e=>by cases e)
  ·rw [hc,(PV D k z hz _).2,if_neg (by omega),if_neg (by omega),if_neg (by omega),Vd _ (by omega)]
   match i,hi with
   | 0,_=>rfl
   | 1,_=>rfl
   | 2,_=>rfl
  ·rw [hc,(PV D k z hz _).2,if_neg (by omega),if_neg (by omega),if_neg (by omega),Vd _ (by omega)]
   match i,hi with
   | 0,_=>rfl
   | 1,_=>rfl
   | 2,_=>rfl
theorem anV {o:bI} {a:Act} {w:World} {K:Act->World->Prop} {Q:lF->Act->World->Prop} (ty:cE) (i j k:Nat) (x y z:Operand) (ho:o.op= .build ty #[(i,x),(j,y),(k,z)])
 (u v t r:aj) (hx:a.eval x=u) (hy:a.eval y=v) (hz:a.eval z=t) (hr:(Nu ty #[(i,u),(j,v),(k,t)]).run au w= .ok r w)
 (h:K (a.put o.dst r) w):o.wp au a w K Q:=by
 unfold Oper.wp kF;simp only [ho,kB,zk,DI,List.map_toArray,List.map_cons,List.map_nil,hx,hy,hz,hr];exact h
theorem Lx (w:World) (x:Nat) (z:List Int) (hz:z.length=138) (h:w.heap[x]? =some (.cells (S z) 28 (0,0))):(kR 28 (.pointer (some ⟨x,0,none⟩))).run au w= .ok (.agg (S z)) w:=by
 simp only [kR,Instr.sureAddr,kB,zk,DI];rw [run_loadVar_row w x 28 28 (S z) (0,0) _ h Tryz.underlying28 rfl (by rw [mD,bQ,hz])]
def anW (D:Nat) (vs:Nat->aj) (w:World) (n:Int) (g':ay) (d':aL) (e':Ending) (w':World):Prop:=
 ∃vs',cK D d' vs' w'∧aM (ig D vs) w w'∧(∀x,ig D vs' x->ig D vs x∨w.heap.size<=x)∧
  ((n≠0∧e'= .returned (.tuple #[.pointer none,.int .i64 n]))∨(n=0∧∃E m' v',w.heap.size<=E∧e'= .returned (.tuple #[.pointer (some ⟨E,0,none⟩),.int .i64 0])∧dG E D g' d' m' v' vs' w'∧∀x,dc E m' v' x->w.heap.size<=x))
def pH (d:aL):aL:={d with wk:=aY (d.wk+1)}
theorem ada (k:Int) (z:List Int):oG (newG k z):=⟨bK _,bK _,fun _ _=>bK _,fun _ _ _ h=>by cases h⟩
theorem anX (D:Nat) (z:List Int) (w:World) (hz:z.length=138) (hb:cV z=false):
 av au 45 #[.pointer (some ⟨D,0,none⟩),.agg (S z)] w fun e' w'=>e'= .returned (.tuple #[.pointer none,.int .i64 8])∧ak w.heap.size w w':=by
 have HI:=af (fun w'=>GG z w' hz);rw [hb] at HI;have R0:bf (w.alloc (.cells (S z) 28)) w.heap.size 138=true:=by rw [kV _ _ _ _ _ rfl];simp [bQ,hz]
 have D0:bW (w.alloc (.cells (S z) 28)) w.heap.size=S z:=zF _ _ _ _ rfl;have bM:Hid (ak w.heap.size w (w.alloc (.cells (S z) 28))):=zO _;go_enter Tryz.func45,Tryz.ntmps45;go_wp2_with (refine fH rfl _ rfl _ rfl R0 _ D0 ?_)
 refine (aq HI _).mono ?_;rintro e w1 ⟨rfl,hb1⟩;have aJ:Hid (ak w.heap.size w w1):=bM.out.trans (hb1.mono bM.out.size);clear hb1 HI;go_wp2_with fail
 go_ret2
 exact ⟨rfl,aJ.out⟩
theorem anY (z:List Int) (w:World):
 av au 45 #[.pointer none,.agg (S z)] w fun e' w'=>e'= .returned (.tuple #[.pointer none,.int .i64 1])∧ak w.heap.size w w':=by
 have bM:Hid (ak w.heap.size w (w.alloc (.cells (S z) 28))):=zO _;go_enter Tryz.func45,Tryz.ntmps45;go_wp2_with fail
 go_ret2
 exact ⟨rfl,bM.out⟩
theorem anZ (D:Nat) (d:aL) (vs:Nat->aj) (z:List Int) (w:World) (h:cK D d vs w) (ht:bF w) (hz:z.length=138) (hs:cV z=true):
 av au 45 #[.pointer (some ⟨D,0,none⟩),.agg (S z)] w (anW D vs w (gC bO (newG (aY (d.wk+1)) z) (pH d)).1 (gC bO (newG (aY (d.wk+1)) z) (pH d)).2.1 (gC bO (newG (aY (d.wk+1)) z) (pH d)).2.2):=by
 have HI:=af (fun w'=>GG z w' hz);rw [hs] at HI;have R0:bf (w.alloc (.cells (S z) 28)) w.heap.size 138=true:=by rw [kV _ _ _ _ _ rfl];simp [bQ,hz]
 have D0:bW (w.alloc (.cells (S z) 28)) w.heap.size=S z:=zF _ _ _ _ rfl;have bM:Hid (ak w.heap.size w (w.alloc (.cells (S z) 28))):=zO _;have gR:Hid ((w.alloc (.cells (S z) 28)).heap[w.heap.size]? =some (.cells (S z) 28 (0,0))):=bg w _;have HH:=af h;have HT:=af ht;have HZ:=af hz;have nY:=af (fun w' x=>Lx w' x z hz);generalize hk:aY (d.wk+1)=k at *;have E9:Hid (∀w',cK D d vs w'->av au 96 #[.pointer (some ⟨D,0,none⟩)] w' (qB D vs w' k (pH d))):=fun w' h'=>by
  have:=anO D d vs w' h';rw [hk] at this;have e:pH d= {d with wk:=k}:=by unfold pH;rw [hk]
  rw [e];exact this
 have Ly:=af (fun w'=>anU D k z hz w');clear h ht hz hs hk;go_enter Tryz.func45,Tryz.ntmps45;go_wp2_with (refine fH rfl _ rfl _ rfl R0 _ D0 ?_)
 refine (aq HI _).mono ?_;rintro e w1 ⟨rfl,hb1⟩;have dJ:ak w.heap.size w w1:=bM.out.trans (hb1.mono bM.out.size);have r1:w1.heap[w.heap.size]? =some (.cells (S z) 28 (0,0)):=(hb1.block _ (by rw [aB];exact Nat.lt_succ_self _)).trans gR.out;have aJ:=af dJ;have hdw:cK D d vs w1.drew:=HH.out.kept dJ.size (fun x q=>dJ.block x (HH.out.has q).2);have ye:=af (E9.out _ hdw);have lQ:w.heap.size<w1.heap.size:=(Array.getElem?_eq_some_iff.1 r1).1;have hDx:¬ig D vs w.heap.size:=fun q=>by have:=(HH.out.has q).2;omega
 clear hb1 HI R0 D0 hdw E9;go_upto_region 5 with fail
 refine EO 4 [0,1,3] [2,4,5,6] 4 (fun w'=>w'.heap[w.heap.size]? =some (.cells (S z) 28 (0,0))) (by kernel_rfl) (by kernel_rfl) (fun d _ _ _ _ h=>by cases d<;>exact h) r1 ?_
 iterate 2
  refine l7 ?_ rfl rfl ?_ ?_
  rotate_left
  ·rintro w' d0;go_simp;rfl
  go_simp
 refine l7 (.agg (S z)) rfl rfl ?_ ?_
 ·rintro w' d0;have hl:=nY.out w' _ d0;simp only [kF,vX,xO,vY,kB];show kN (qi au (kR 28 (.pointer (some ⟨w.heap.size,0,none⟩))) w') _=_
  rw [hl];rfl
 go_simp;refine sj ?_;refine gA rfl rfl (fun K hK=>?_);go_simp;refine (aq ye).mono ?_;rintro e w2 ⟨rfl,gy,hd2,vr⟩;have r2:w2.heap[w.heap.size]? =some (.cells (S z) 28 (0,0)):=(vr.bD.other _ lQ hDx).trans r1;go_simp;refine hK _ _ (fun _=>r2) ?_;clear hK K;refine gA rfl rfl (fun K hK=>?_);refine anV 133 0 1 3 _ _ _ rfl _ _ _ (.agg (yI D k z)) rfl rfl rfl (Ly.out _) ?_;refine hK _ _ (fun h=>absurd h (by decide)) ?_;clear hK K;refine gA rfl rfl (fun K hK=>?_);go_simp;refine hK _ _ (fun h=>absurd h (by decide)) ?_;clear hK K;refine gA rfl rfl (fun K hK=>?_);go_simp;refine hK _ _ (fun h=>absurd h (by decide)) ?_;clear hK K;refine wY ?_;have hb2:ak w2.heap.size w2 (w2.alloc (.cells (yI D k z) 133)):=(aA _ _).alloc (ax _) _;have hw2:w.heap.size<=w2.heap.size:=aT dJ.size vr.below.size;have hc2:aM (ig D vs) w w2:=(aM.bh dJ).trans (fun x q=>.inl q) (aM.trans (F:=ig D vs) (w:=w1) (w1:=w1.drew) (aM.bh ((aA _ _).drew)) (fun x q=>.inl q) vr.bD);have IE:∀x,ig D gy x->ig D vs x∨w.heap.size<=x:=fun x q=>by
  rcases q with q | ⟨i,hi,q⟩
  ·exact .inl (.inl q)
  ·rcases vr.own i hi x q with a | a
   ·exact .inl (.inr ⟨i,hi,a⟩)
   ·exact .inr (aT dJ.size a)
 have hd3:=hd2.kept hb2.size (fun x q=>hb2.block x (hd2.has q).2);have Hs:dc w2.heap.size PY um=fun x=>x=w2.heap.size:=by
  funext x;refine propext ⟨fun q=>?_,fun q=>.inl q⟩;rcases q with q | ⟨i,_,q | q⟩
  ·exact q
  ·cases q
  ·cases q
 have k3:dG w2.heap.size D (newG k z) (pH d) PY um gy (w2.alloc (.cells (yI D k z) 133)):=by
  refine ⟨bH.new D k z HZ.out w2 _ rfl,hd3,fun x q1 q2=>?_⟩;rw [Hs] at q1;have:=(hd2.has q2).2;omega
 have ht3:bF (w2.alloc (.cells (yI D k z) 133)):=by
  have hp:0<D:=by
   obtain ⟨a,c,e⟩:=bA (HH.out.own 0 (by decide));refine UU HT.out (HH.out.bytes 0 (by decide)) (fun q=>?_);rw [e] at q;cases q
  have hz0:=HT.out.pos;exact HT.out.below (B:=1) (by decide) ((hc2.below hz0 (fun x q=>by have:=(HH.out.has q).1;omega)).trans (hb2.mono (by omega)))
 have tC:=af (anB w2.heap.size D (newG k z) (pH d) PY um gy _ k3 ht3 (ada k z));have jX:=af hc2;have nP:=af IE;have l6:=af hw2;have KE:=af Hs;have aZ:=af hb2;clear hd2 vr hb2 hw2 hc2 IE hd3 Hs k3 ht3 r1 r2 dJ lQ hDx ye Ly nY;generalize gC bO (newG k z) (pH d)=R at *;obtain ⟨n,g',d'⟩:=R;simp only at tC⊢;go_wp2_with fail
 refine (aq tC).mono ?_;rintro e w4 ⟨rfl,m4,v4,BK,k4,f4⟩;have si:Hid (aM (ig D vs) w w4):=by
  refine jX.out.trans (F1:=fun x=>ig D gy x∨w2.heap.size<=x) (fun x q=>q.elim (nP.out x) (fun a=>.inr (aT l6.out a))) ?_;refine (aM.bh aZ.out).trans (fun x q=>.inl q) (f4.bD.weak (fun x q=>.inl ?_));rcases q with q | q
  ·rw [KE.out] at q;exact .inr (Nat.le_of_eq q.symm)
  ·exact .inl q
 have HV4:Hid (∀x,ig D BK x->ig D vs x∨w.heap.size<=x):=fun x q=>by
  rcases f4.vo x q with a | a
  ·exact nP.out x a
  ·exact .inr (aT l6.out (aT aZ.out.size a))
 have vm:Hid (∀x,dc w2.heap.size m4 v4 x->w.heap.size<=x):=fun x q=>by
  rcases f4.eo x q with a | a
  ·rw [KE.out] at a;have a':x=w2.heap.size:=a;rw [a'];exact l6.out
  ·exact aT l6.out (aT aZ.out.size a)
 have iz:=af k4;clear k4 f4 tC;by_cases hn:n=0
 ·subst hn;go_wp2_with fail
  go_ret2
  exact ⟨BK,iz.out.dv,si.out,HV4.out,.inr ⟨rfl,_,m4,v4,l6.out,rfl,iz.out,vm.out⟩⟩
 ·have hn':(n == 0)=false:=by simpa using hn
  have HN:=af hn;clear hn;go_wp2_with fail
  go_ret2
  exact ⟨BK,iz.out.dv,si.out,HV4.out,.inl ⟨HN.out,rfl⟩⟩
end
section
open Go
section
variable {P:mM} {ops:Array bI} {Q:lF->Act->World->Prop} {md:pN} {S:World->Prop} {q:Nat}
theorem adh {w:World} {Q1:Act->Prop} (hQ:∀a,Q1 a->Q .normal a w):∀(fuel:Nat) (listed:Array Bool) (a:Act),(∀i,i<q->listed.getD i true=true)->wpAnyS P md ops w Q1 fuel listed a->wpAnyQ P md ops Q S q fuel listed a w
 | 0,_,_,_,h=>⟨h.1,hQ _ h.2⟩
 | fuel+1,listed,_,hL,h=>by
   refine ⟨fun h0=>hQ _ (h.1 h0),fun i hi=>?_⟩;have h1:=(mem_ready.1 hi).1;have hq:¬i<q:=fun hlt=>by rw [hL i hlt] at h1;cases h1
   refine wpOp_of_stOp (fun a' h'=>⟨fun hlt=>absurd hlt hq,adh hQ fuel _ a' (fun j hj=>?_) h'⟩) (h.2 i hi);by_cases hij:i=j
   ·subst hij;exact absurd hj hq
   ·rw [getD_set_ne true hij];exact hL j hj
def BN (P:mM) (ops:Array bI) (Q:lF->Act->World->Prop) (S:World->Prop) (q:Nat) (L:Act->World->Prop):List Nat->Act->World->Prop
 | [],a,w=>L a w
 | k :: ts,a,w=>∃o,ops[k]? =some o∧∀K:Act->World->Prop,(∀a' w',(k<q->S w')->BN P ops Q S q L ts a' w'->K a' w')->if xM o (yielded ops a.tmps) then o.wp P a w K Q else K (a.put o.dst undef) w
theorem IG {L:Act->World->Prop} {a:Act} {w:World} (h:L a w):BN P ops Q S q L [] a w:=h
theorem Dn {L:Act->World->Prop} {k:Nat} {o:bI} {ts:List Nat} {a:Act} {w:World} (hk:ops[k]? =some o) (hg:o.guard=none) (h:∀K:Act->World->Prop,(∀a' w',(k<q->S w')->BN P ops Q S q L ts a' w'->K a' w')->o.wp P a w K Q):BN P ops Q S q L (k :: ts) a w:=
 ⟨o,hk,fun K hK=>by
   rw [if_pos (by simp [xM,hg])]
   exact h K hK⟩
def LA (md:pN) (ops:Array bI) (q k n:Nat):List Nat->Array Bool->Bool
 | [],listed=>(jL q).all (fun i=>listed.getD i true) && Region.lexFrom md ops n k listed
 | j :: ts,listed=>decide (oL md ops listed=[j]) && LA md ops q k n ts (listed.setIfInBounds j true)
theorem adi {k:Nat} {l:List bI} (hsel:vR ops=true) (hl:∀j,l[j]? =ops[k+j]?):∀(ts:List Nat) (listed:Array Bool) (a:Act) (w:World),LA md ops q k l.length ts listed=true->BN P ops Q S q (fun a' w'=>Jw P ops w' (fun a''=>Q .normal a'' w') l a') ts a w->wpAnyQ P md ops Q S q (ts.length+l.length) listed a w
 | [],listed,a,w,hB,h=>by
   simp only [LA,gG] at hB;rw [vT,ol];exact adh (fun _ h=>h) _ _ _ (fun i hi=>oh.1 hB.1 i (mL.2 hi)) (wpAnyS_lex hsel l k listed a hl hB.2 h)
 | j :: ts,listed,a,w,hB,h=>by
   simp only [LA,gG,decide_eq_true_eq] at hB;obtain ⟨o,h0,h2⟩:=h;rw [jM,show ts.length+1+l.length=ts.length+l.length+1 by omega];refine ⟨fun h1=>(by rw [hB.1] at h1;cases h1),fun i hi=>?_⟩;rw [hB.1] at hi;have hik:i=j:=by simpa using hi
   subst hik;have h3:=h2 (fun a' w'=>(i<q->S w')∧BN P ops Q S q (fun a' w'=>Jw P ops w' (fun a''=>Q .normal a'' w') l a') ts a' w') (fun _ _ h1 h2=>⟨h1,h2⟩);have hw:wpOp P ops Q i (fun a' w'=>(i<q->S w')∧BN P ops Q S q (fun a' w'=>Jw P ops w' (fun a''=>Q .normal a'' w') l a') ts a' w') a w:=by
    unfold wpOp;simp only [h0];split
    ·rename_i hq;rw [if_pos hq] at h3;exact .inl h3
    ·rename_i hq;rw [if_neg hq] at h3;exact h3
   exact wpOp_mono (fun a' w' h'=>⟨h'.1,adi hsel hl ts _ a' w' hB.2 h'.2⟩) hw
def PZ (md:pN) (ops:Array bI) (F q k n:Nat) (ts:List Nat):List Nat->Array Bool->Bool
 | [],listed=>LA md ops q k n ts listed
 | i :: rs,listed=>(oL md ops listed).contains i && JI md ops listed i && KN md ops F i listed && PZ md ops F q k n ts rs (listed.setIfInBounds i true)
theorem adj {ts:List Nat} {w:World} {F k:Nat} {l:List bI} (hsel:vR ops=true) (hl:∀j,l[j]? =ops[k+j]?) (hQ:∀d v c a w,Q (.panic c) (xN a d v) w->Q (.panic c) a w) (hS:S w):
 ∀(rs:List Nat) (listed:Array Bool) (a:Act),(rs.all fun i=>decide (i<q) && (jL ops.size).all fun j=>decide (j<q) || tq md ops F j i)=true->PZ md ops F q k l.length ts rs listed=true->
  wX P ops S (fun a'=>BN P ops Q S q (fun a' w'=>Jw P ops w' (fun a''=>Q .normal a'' w') l a') ts a' w) rs a->wpAnyQ P md ops Q S q (rs.length+(ts.length+l.length)) listed a w
 | [],listed,a,_,hB,h=>by
   rw [vT,ol];exact adi hsel hl ts listed a w hB h
 | i :: rs,listed,a,P0,hB,h=>by
   simp only [PZ,gG] at hB;simp only [List.all_cons,gG,decide_eq_true_eq] at P0;obtain ⟨⟨⟨hr,hf⟩,hlt⟩,hB'⟩:=hB;obtain ⟨o,v,h0,hy,hK⟩:=h;rw [jM,show rs.length+1+(ts.length+l.length)=(rs.length+(ts.length+l.length))+1 by omega];refine O9 h0 (Gj hsel) (hQ o.dst v) (fun j hj hjs=>?_) P0.1.1 (rs.length+(ts.length+l.length)) listed a w (Gk h0 hf) (Pa hlt) (by simpa using hr) hy hS (adj hsel hl hQ hS rs _ _ P0.2 hB' hK);have h1:=oh.1 P0.1.2 j (mL.2 hjs);simp only [Bool.or_eq_true,decide_eq_true_eq] at h1;rcases h1 with h1 | h1
   ·omega
   ·exact h1
def adk (ops:Array bI) (F:Nat) (rs ts:List Nat) (q k:Nat):Bool:=
 vR ops && decide (rs.length+(ts.length+(ops.size - k))=ops.size) && (rs.all fun i=>decide (i<q) && (jL ops.size).all fun j=>decide (j<q) || tq .any ops F j i) && PZ .any ops F q k (ops.size - k) ts rs (Array.replicate ops.size false)
theorem LB {id:Nat} {a:Act} {w:World} (F:Nat) (rs ts:List Nat) (q k:Nat) (S:World->Prop) (hm:P.follows .mixedOrders=true) (hB:adk ops F rs ts q k=true)
 (hQ:∀d v c a w,Q (.panic c) (xN a d v) w->Q (.panic c) a w) (hS:S w.drew)
 (h:wX P ops S (fun a'=>BN P ops Q S q (fun a' w'=>Jw P ops w' (fun a''=>Q .normal a'' w') (ops.toList.drop k) a') ts a' w.drew) rs a):(Code.region id ops true).wp P Q a w:=by
 simp only [adk,gG,decide_eq_true_eq] at hB;obtain ⟨⟨⟨hsel,hlen⟩,hlast⟩,hhead⟩:=hB;have hl:(ops.toList.drop k).length=ops.size - k:=by simp
 have H:=adj (P:=P) (md:=.any) (Q:=Q) (S:=S) (q:=q) (w:=w.drew) (F:=F) (k:=k) (l:=ops.toList.drop k) hsel (fun j=>by simp) hQ hS rs _ a hlast (by rw [hl];exact hhead) h;refine wp_region_any hm ?_;have H2:=Eg _ _ _ _ H;rw [hl,hlen] at H2;exact H2
end
end
section
open Go.RowKit Go.Maps Go.WideMaps
def an0 (D:Nat) (vs:Nat->aj) (w:World) (n:Int) (g':ay) (d':aL) (e':Ending) (w':World):Prop:=
 ∃vs',cK D d' vs' w'∧aM (ig D vs) w w'∧(∀x,ig D vs' x->ig D vs x∨w.heap.size<=x)∧
  ((n≠0∧e'= .returned (.tuple #[.pointer none,.int .i64 n]))∨(n=0∧∃X E m' v',w.heap.size<=E∧w.heap.size<=X∧e'= .returned (.tuple #[.pointer (some ⟨X,0,none⟩),.int .i64 0])∧kI X E w'∧dG E D g' d' m' v' vs' w'∧(∀x,dc E m' v' x->w.heap.size<=x∧x≠X)∧∀x,ig D vs' x->x≠X))
theorem an1 (w:World):av au 46 #[.pointer none] w fun e' w'=>e'= .returned (.pointer none)∧w'=w:=by
 go_enter Tryz.func46,Tryz.ntmps46;go_wp2_with fail
 go_ret;exact ⟨rfl,rfl⟩
theorem an2 (z:List Int) (w:World) (hz:z.length=138):
 av au 18 #[.pointer none,.agg (S z)] w fun e' w'=>e'= .returned (.tuple #[.pointer none,.int .i64 1])∧ak w.heap.size w w':=by
 have Dp:=af (fun w'=>an1 w');have cH:=af (fun w'=>anY z w');have gR:Hid ((w.alloc (.cells (S z) 28)).heap[w.heap.size]? =some (.cells (S z) 28 (0,0))):=bg w _;have bM:Hid (ak w.heap.size w (w.alloc (.cells (S z) 28))):=zO _;have nY:=af (fun w' x=>Lx w' x z hz);obtain ⟨W0,bq⟩:∃W0,W0=w.alloc (.cells (S z) 28):=⟨_,rfl⟩;have hwd:=bq;rw [<-bq] at gR bM;have fV:=af bq;have r0:=gR.out;clear bq hwd hz;go_enter Tryz.func18,Tryz.ntmps18;go_upto_region 1 with fail
 rw [<-fV.out];refine LB 6 [0,2] [1,3] 3 4 (fun w'=>w'.heap[w.heap.size]? =some (.cells (S z) 28 (0,0))) (by kernel_rfl) (by kernel_rfl) (fun d _ _ _ _ h=>by cases d<;>exact h) r0 ?_;refine l7 ?_ rfl rfl ?_ ?_
 rotate_left
 ·rintro w' d0;go_simp;rfl
 go_simp;refine l7 (.agg (S z)) rfl rfl ?_ ?_
 ·rintro w' d0;have hl:=nY.out w' _ d0;simp only [kF,vX,xO,vY,kB];show kN (qi au (kR 28 (.pointer (some ⟨w.heap.size,0,none⟩))) w') _=_
  rw [hl];rfl
 go_simp;refine sj ?_;refine Dn rfl rfl (fun K hK=>?_);go_simp;refine (aq Dp _).mono ?_;rintro e w' ⟨rfl,hw'⟩;obtain rfl:=hw'.symm;go_simp;refine hK _ _ (fun _=>r0) ?_;clear hK K;refine Dn rfl rfl (fun K hK=>?_);go_simp;refine (aq cH _).mono ?_;rintro e w2 ⟨rfl,hb2⟩;have aZ:Hid (ak w.heap.size w w2):=(bM.out.drew).trans (hb2.mono bM.out.size);go_simp;refine hK _ _ (fun h=>absurd h (by decide)) ?_;clear hK K hb2 cH;refine IG ?_
 repeat still_step
 refine jC ?_;go_wp2_with fail
 go_ret2
 exact ⟨rfl,aZ.out⟩
theorem an3 (X0 D:Nat) (z:List Int) (w:World) (hx:kI X0 D w) (hz:z.length=138) (hs:cV z=false):
 av au 18 #[.pointer (some ⟨X0,0,none⟩),.agg (S z)] w fun e' w'=>e'= .returned (.tuple #[.pointer none,.int .i64 8])∧ak w.heap.size w w':=by
 have Dp:=af (fun w' (h:kI X0 D w')=>CX X0 D w' h);have cH:=af (fun w'=>anX D z w' hz hs);have gR:Hid ((w.alloc (.cells (S z) 28)).heap[w.heap.size]? =some (.cells (S z) 28 (0,0))):=bg w _;have bM:Hid (ak w.heap.size w (w.alloc (.cells (S z) 28))):=zO _;have nY:=af (fun w' x=>Lx w' x z hz);obtain ⟨W0,bq⟩:∃W0,W0=w.alloc (.cells (S z) 28):=⟨_,rfl⟩;have hwd:=bq;rw [<-bq] at gR bM;have fV:=af bq;have r0:=gR.out;have hx0:kI X0 D W0.drew:=(aP (bM.out.block X0 (mA hx))).trans hx;clear bq hwd hz hx;go_enter Tryz.func18,Tryz.ntmps18;go_upto_region 1 with fail
 rw [<-fV.out];refine LB 6 [0,2] [1,3] 3 4 (fun w'=>w'.heap[w.heap.size]? =some (.cells (S z) 28 (0,0))) (by kernel_rfl) (by kernel_rfl) (fun d _ _ _ _ h=>by cases d<;>exact h) r0 ?_;refine l7 ?_ rfl rfl ?_ ?_
 rotate_left
 ·rintro w' d0;go_simp;rfl
 go_simp;refine l7 (.agg (S z)) rfl rfl ?_ ?_
 ·rintro w' d0;have hl:=nY.out w' _ d0;simp only [kF,vX,xO,vY,kB];show kN (qi au (kR 28 (.pointer (some ⟨w.heap.size,0,none⟩))) w') _=_
  rw [hl];rfl
 go_simp;refine sj ?_;refine Dn rfl rfl (fun K hK=>?_);go_simp;refine (aq Dp _ hx0).mono ?_;rintro e w' ⟨rfl,hw'⟩;obtain rfl:=hw'.symm;go_simp;refine hK _ _ (fun _=>r0) ?_;clear hK K;refine Dn rfl rfl (fun K hK=>?_);go_simp;refine (aq cH _).mono ?_;rintro e w2 ⟨rfl,hb2⟩;have aZ:Hid (ak w.heap.size w w2):=(bM.out.drew).trans (hb2.mono bM.out.size);go_simp;refine hK _ _ (fun h=>absurd h (by decide)) ?_;clear hK K hb2 cH;refine IG ?_
 repeat still_step
 refine jC ?_;go_wp2_with fail
 go_ret2
 exact ⟨rfl,aZ.out⟩
theorem an4 (X0 D:Nat) (d:aL) (vs:Nat->aj) (z:List Int) (w:World) (hx:kI X0 D w) (h:cK D d vs w) (ht:bF w) (hz:z.length=138) (hs:cV z=true):
 av au 18 #[.pointer (some ⟨X0,0,none⟩),.agg (S z)] w (an0 D vs w (gC bO (newG (aY (d.wk+1)) z) (pH d)).1 (gC bO (newG (aY (d.wk+1)) z) (pH d)).2.1 (gC bO (newG (aY (d.wk+1)) z) (pH d)).2.2):=by
 have Dp:=af (fun w' (h:kI X0 D w')=>CX X0 D w' h);have cH:=af (fun w' (h':cK D d vs w') (ht':bF w')=>anZ D d vs z w' h' ht' hz hs);have HH:=af h;have HT:=af ht;generalize gC bO (newG (aY (d.wk+1)) z) (pH d)=R at *;obtain ⟨n,g',d'⟩:=R;simp only at cH⊢;clear h ht hs;have gR:Hid ((w.alloc (.cells (S z) 28)).heap[w.heap.size]? =some (.cells (S z) 28 (0,0))):=bg w _;have bM:Hid (ak w.heap.size w (w.alloc (.cells (S z) 28))):=zO _;have nY:=af (fun w' x=>Lx w' x z hz);obtain ⟨W0,bq⟩:∃W0,W0=w.alloc (.cells (S z) 28):=⟨_,rfl⟩;have hwd:=bq;rw [<-bq] at gR bM;have fV:=af bq;have r0:=gR.out;have hx0:kI X0 D W0.drew:=(aP (bM.out.block X0 (mA hx))).trans hx;have Ve:cK D d vs W0.drew:=HH.out.kept bM.out.size (fun x q=>bM.out.block x (HH.out.has q).2);have Vf:bF W0.drew:=HT.out.below HT.out.pos bM.out.drew;clear bq hwd hz hx;go_enter Tryz.func18,Tryz.ntmps18;go_upto_region 1 with fail
 rw [<-fV.out];refine LB 6 [0,2] [1,3] 3 4 (fun w'=>w'.heap[w.heap.size]? =some (.cells (S z) 28 (0,0))) (by kernel_rfl) (by kernel_rfl) (fun d _ _ _ _ h=>by cases d<;>exact h) r0 ?_;refine l7 ?_ rfl rfl ?_ ?_
 rotate_left
 ·rintro w' d0;go_simp;rfl
 go_simp;refine l7 (.agg (S z)) rfl rfl ?_ ?_
 ·rintro w' d0;have hl:=nY.out w' _ d0;simp only [kF,vX,xO,vY,kB];show kN (qi au (kR 28 (.pointer (some ⟨w.heap.size,0,none⟩))) w') _=_
  rw [hl];rfl
 go_simp;refine sj ?_;refine Dn rfl rfl (fun K hK=>?_);go_simp;refine (aq Dp _ hx0).mono ?_;rintro e w' ⟨rfl,hw'⟩;obtain rfl:=hw'.symm;go_simp;refine hK _ _ (fun _=>r0) ?_;clear hK K;refine Dn rfl rfl (fun K hK=>?_);go_simp;refine (aq cH _ Ve Vf).mono ?_;rintro e w2 ⟨gy,hd2,hc2,IE,hres⟩;have jX:Hid (aM (ig D vs) w w2):=(aM.bh (bM.out.drew)).trans (fun x q=>.inl q) hc2;have nP:Hid (∀x,ig D gy x->ig D vs x∨w.heap.size<=x):=fun x q=>(IE x q).imp id (fun a=>aT bM.out.size a);have P1:=af hd2;rcases hres with ⟨hn,rfl⟩ | ⟨rfl,E,m',v',hE,rfl,k2,eo⟩
 ·have HN:=af hn;have hn':(n == 0)=false:=by simpa using hn
  go_simp;refine hK _ _ (fun h=>absurd h (by decide)) ?_;clear hK K hd2 hc2 IE cH hn;refine IG ?_
  repeat still_step
  refine jC ?_;go_wp2_with fail
  go_ret2
  exact ⟨gy,P1.out,jX.out,nP.out,.inl ⟨HN.out,rfl⟩⟩
 ·have fC:=af k2;have HEo:Hid (∀x,dc E m' v' x->w.heap.size<=x):=fun x q=>aT bM.out.size (eo x q);have HE:Hid (w.heap.size<=E):=aT bM.out.size hE;go_simp;refine hK _ _ (fun h=>absurd h (by decide)) ?_;clear hK K hd2 hc2 IE cH k2 eo hE;refine IG ?_
  repeat still_step
  refine jC ?_;go_wp2_with fail
  go_ret2
  have bn:ak w2.heap.size w2 (w2.alloc (.cells #[.pointer (some ⟨E,0,none⟩)] 96)):=(aA _ _).alloc (ax _) _;refine ⟨gy,P1.out.kept bn.size (fun x q=>bn.block x (P1.out.has q).2),jX.out.trans (fun x q=>.inl q) (aM.bh bn),nP.out,.inr ⟨rfl,w2.heap.size,E,m',v',HE.out,jX.out.size,rfl,cF (bg w2 _) 0,fC.out.up bn,fun x q=>⟨HEo.out x q,?_⟩,fun x q=>?_⟩⟩
  ·have:=(fC.out.eg.has q).2;omega
  ·have:=(P1.out.has q).2;omega
end
section
open Go
section
variable {P:mM} {ops:Array bI} {Q:lF->Act->World->Prop} {md:pN} {S:World->Prop} {q:Nat}
end
end
section
open Go.RowKit
theorem adl {ps:List aH} {k:Nat} {p:aH} (h:ps[k]? =some p):(ps.take (k+1)).foldl lJ lK=lJ ((ps.take k).foldl lJ lK) p:=wC _ _ _ _ _ h
theorem an6 (k:Nat):qq (k:Int)=lI k:=by
 unfold qq lI;rw [Bool.eq_iff_iff,decide_eq_true_eq,decide_eq_true_eq];omega
theorem an7:(Tryz.prog.info? 123).map (·.size)=some 5:=by kernel_rfl
theorem an8 (q:aH):eM q=S (fU q):=rfl
theorem Vg {ops:Array bI} {rest:List bI} {op:bI} {a:Act} {w:World} {Q:lF->Act->World->Prop} (hgd:op.guard=none) (x y:Operand) (ho:op.op= .store 123 x y)
 (b o:Nat) (q:aH) (hx:a.eval x= .pointer (some ⟨b,o,none⟩)) (hy:a.eval y= .agg (eM q))
 (ht:w.there b o 5) (w':World) (hw:w.setCells b o (eM q).toList=w') (h:wpList au ops Q rest (a.put op.dst undef) w'):wpList au ops Q (op :: rest) a w:=by
 subst hw;exact wpList_store_mid hgd 123 x y ho b o (eM q) hx hy ht an7 (by rw [an8];exact zE _) h
def LC (z:List Int) (o:Nat) (q:aH):List Int:=((((z.set o (q.kind:Int)).set (o+1) (q.d:Int)).set (o+1+1) (q.a:Int)).set (o+1+1+1) (q.b:Int)).set (o+1+1+1+1) (q.k:Int)
theorem an9 (a z:List Int) (o:Nat) (q:aH):LC (a ++ z) (o+a.length) q=a ++ LC z o q:=by
 unfold LC;rw [tY _ _ (by omega),tY _ _ (by omega),tY _ _ (by omega),tY _ _ (by omega),tY _ _ (by omega)];simp only [Nat.add_sub_cancel];rw [show o+a.length+1 - a.length=o+1 by omega,show o+a.length+1+1 - a.length=o+1+1 by omega,show o+a.length+1+1+1 - a.length=o+1+1+1 by omega,show o+a.length+1+1+1+1 - a.length=o+1+1+1+1 by omega]
theorem adm (q:aH):∀(l:List aH) (d:Nat),d<l.length->LC (nU l) (d * 5) q=nU (l.set d q)
 | [],d,h=>by simp at h
 | p :: l,0,_=>rfl
 | p :: l,d+1,h=>by
   have e1:nU (p :: l)=fU p ++ nU l:=by simp [nU]
   have e2:nU ((p :: l).set (d+1) q)=fU p ++ nU (l.set d q):=by simp [nU]
   rw [e1,e2,show (d+1) * 5=d * 5+(fU p).length by rw [Nat.succ_mul];rfl,an9,adm q l d (by simpa using h)]
theorem P2 (w:World) (b o:Nat) (q:aH):w.setCells b o (eM q).toList=((((w.setCell ⟨b,o,none⟩ (.int .i64 (q.kind:Int))).setCell ⟨b,o+1,none⟩ (.int .i64 (q.d:Int))).setCell ⟨b,o+1+1,none⟩ (.int .i64 (q.a:Int))).setCell ⟨b,o+1+1+1,none⟩ (.int .i64 (q.b:Int))).setCell ⟨b,o+1+1+1+1,none⟩ (.int .i64 (q.k:Int)):=rfl
theorem P3 (w:World) (b o:Nat) (q:aH) (g:Nat) (h:g≠b):(w.setCells b o (eM q).toList).heap[g]? =w.heap[g]?:=by
 rw [P2];exact (dU _ _ h).trans ((dU _ _ h).trans ((dU _ _ h).trans ((dU _ _ h).trans (dU _ _ h))))
theorem Vh {w:World} {b:Nat} {t:cE} {z:List Int} (h:aK w b t z) (o:Nat) (q:aH):aK (w.setCells b o (eM q).toList) b t (LC z o q):=by
 rw [P2];exact ((((h.set o _).set (o+1) _).set (o+1+1) _).set (o+1+1+1) _).set (o+1+1+1+1) _
theorem aK.there {w:World} {b:Nat} {t:cE} {z:List Int} (h:aK w b t z) (o n:Nat) (ho:o+n<=z.length):w.there b o n:=fun j hj=>
 ⟨by rw [h.cell _ (by omega)];rfl,h.frozen _⟩
theorem LD {w0 w:World} {B b:Nat} (h:ak B w0 w) (hb:B<=b) (o:Nat) (q:aH):ak B w0 (w.setCells b o (eM q).toList):=by
 rw [P2];exact ((((h.setCell (p:=⟨b,o,none⟩) hb _).setCell (p:=⟨b,o+1,none⟩) hb _).setCell (p:=⟨b,o+1+1,none⟩) hb _).setCell (p:=⟨b,o+1+1+1,none⟩) hb _).setCell (p:=⟨b,o+1+1+1+1,none⟩) hb _
theorem adn {N:Nat} {wr wc:World} {l:List aH} {d k:Nat} {q:aH} {v:aj} {xs:List aj} (hrow:aK wr N 308 (nU l)) (h8:l.length=8) (hd:d<8) (hbc:ak wr.heap.size wr wc) (hp:aK wc wr.heap.size 123 (fU q)) (hown:wr.ownsRow (N+1) 123 5 v k xs):
 wc.there N (d * 5) 5∧∃wS,wc.setCells N (d * 5) (eM q).toList=wS∧aK wS N 308 (nU (l.set d q))∧ak N wc wS∧aK wS wr.heap.size 123 (fU q)∧wS.ownsRow (N+1) 123 5 v k xs∧wr.heap.size<wS.heap.size:=by
 have hN:=hrow.lt;have hrc:aK wc N 308 (nU l):=hrow.keep (hbc.block _ hN);have hl:(nU l).length=40:=by rw [aaK,h8]
 have hp':aK (wc.setCells N (d * 5) (eM q).toList) wr.heap.size 123 (fU q):=hp.keep (P3 _ _ _ _ _ (by omega));refine ⟨hrc.there _ _ (by omega),_,rfl,?_,LD (aA _ _) (ax _) _ _,hp',?_,hp'.lt⟩
 ·rw [<-adm q l d (by omega)];exact Vh hrc _ _
 ·refine dz hown (fun g hg=>?_);have:=aR hown g hg;exact (P3 _ _ _ _ _ (by omega)).trans (hbc.block _ this.2)
theorem aoa (B:Nat) (pv:aj) (ps:List aH) (w:World) (ho:w.ownsRow B 123 5 pv ps.length (dM ps)) (hl:ps.length<=8) (hw:∀p∈ps,okB p):
 av au 215 #[pv] w fun e' w'=>ak w.heap.size w w'∧∃v,e'= .returned v∧w'.ownsRow w.heap.size 123 5 v (wE ps).length (dM (wE ps)):=by
 obtain ⟨inf,cJ,hz,cW,hby⟩:=G0;have gJ:=af cJ;have HZ:=af hz;have dR:=af cW;have gK:=af hby;clear cJ hz cW hby;obtain ⟨fa',fc',rfl⟩:=bA ho;have HF:=af ho;have HW:=af hw;have hl':(ps.length:Int)<=8:=by omega
 have av8:=ajA;have lO:Hid (aK (w.alloc (.cells (S (nU (uM 8 dP))) 308)) w.heap.size 308 (nU lK.1)):=bg w _;have hb1:=af ((aA w.heap.size w).alloc (ax _) (.cells (S (nU (uM 8 dP))) 308));clear ho hw;go_enter Tryz.func215,Tryz.ntmps215;go_wp2_with fail
 go_loopw [4,11] (fun v i wr=>∃(k:Nat) (st:List aH×List aH),k<=ps.length∧i= .int .i64 k∧Hid (st=(ps.take k).foldl lJ lK)∧wr.ownsRow (w.heap.size+1) 123 5 v k (dM st.2)∧aK wr w.heap.size 308 (nU st.1)∧ak w.heap.size w wr) (fun _ i _=>ps.length - (intOf i).toNat)
 case atStart=>exact ⟨0,lK,bK _,rfl,rfl,World.ownsRow_nil _ _ _ _,lO.out,hb1.out⟩
 case round=>
  obtain ⟨k,st,hk,rfl,cH,hown,hrow,hbl⟩:=hrel;obtain ⟨va,vc,hv⟩:=bA hown;subst hv;have HO:=af hown;have bU:=af hbl;have l5:=af hrow;have dY:w.heap.size<wr.heap.size:=hrow.lt;have hkn:=wF.fold HW.out k hk;rw [<-cH.out] at hkn;by_cases hlt:k<ps.length
  ·have hlt':(k:Int)<(ps.length:Int):=by omega
   obtain ⟨g,cap,hform,_,hgl⟩:=HF.out.form (by omega);cases hform;have hx:ps[k]? =some ps[k]:=bE hlt;have hok:=HW.out ps[k] (lC _);obtain ⟨x0,x1,x2,x3,x4⟩:=wP (dX HF.out (hbl.mono (ax _))) k ps[k] hx;have qt:Hid (lJ st ps[k]=(ps.take (k+1)).foldl lJ lK):=by unfold Hid;rw [adl hx,<-cH.out]
   generalize ps[k]=p at *;have P4:(nU st.1).length=40:=by rw [aaK,hkn.l8]
   have hla:∀j,j<5->wr.cell? ⟨w.heap.size,p.a * 5+j,none⟩=some (.int .i64 ((fU (st.1.getD p.a dP)).getD j 0)):=fun j hj=>by
    rw [hrow.cell _ (by rw [P4];have:=hok.2.2.2.1;omega),aaL _ _ (by rw [hkn.l8];exact hok.2.2.2.1) j hj]
   have hlb:∀j,j<5->wr.cell? ⟨w.heap.size,p.b * 5+j,none⟩=some (.int .i64 ((fU (st.1.getD p.b dP)).getD j 0)):=fun j hj=>by
    rw [hrow.cell _ (by rw [P4];have:=hok.2.2.2.2.1;omega),aaL _ _ (by rw [hkn.l8];exact hok.2.2.2.2.1) j hj]
   have hld:∀j,j<5->∃y,wr.cell? ⟨w.heap.size,p.d * 5+j,none⟩=some y:=fun j hj=>⟨_,hrow.cell _ (by rw [P4];have:=hok.2.2.1;omega)⟩;have LF:lJ st p=(st.1.set p.d (pP st.1 p),st.2 ++ [pP st.1 p]):=rfl;rw [LF] at qt;have Fa:pP st.1 p=if lI p.kind=true∧(st.1.getD p.a dP).kind=1∧(st.1.getD p.b dP).kind=1 then ⟨1,p.d,0,0,(wk p.kind (st.1.getD p.a dP).k (st.1.getD p.b dP).k).toNat⟩ else p:=rfl
   have II:wr.cell? ⟨w.heap.size,p.a * 5,none⟩=_:=hla 0 (by decide);have LG:wr.cell? ⟨w.heap.size,p.a * 5+1,none⟩=_:=hla 1 (by decide);have LI:wr.cell? ⟨w.heap.size,p.a * 5+1+1,none⟩=_:=hla 2 (by decide);have LJ:wr.cell? ⟨w.heap.size,p.a * 5+1+1+1,none⟩=_:=hla 3 (by decide);have LK:wr.cell? ⟨w.heap.size,p.a * 5+1+1+1+1,none⟩=_:=hla 4 (by decide);have LL:wr.cell? ⟨w.heap.size,p.b * 5,none⟩=_:=hlb 0 (by decide);have LM:wr.cell? ⟨w.heap.size,p.b * 5+1,none⟩=_:=hlb 1 (by decide);have LN:wr.cell? ⟨w.heap.size,p.b * 5+1+1,none⟩=_:=hlb 2 (by decide);have LO:wr.cell? ⟨w.heap.size,p.b * 5+1+1+1,none⟩=_:=hlb 3 (by decide);have LP:wr.cell? ⟨w.heap.size,p.b * 5+1+1+1+1,none⟩=_:=hlb 4 (by decide);simp only [fU,JG,Gp] at II LG LI LJ LK LL LM LN LO LP;have HXb:Hid ((st.1.getD p.a dP).k<4294967296):=hkn.bd _ (by rw [bP,bE (by rw [hkn.l8];exact hok.2.2.2.1)];exact lC _);have HYb:Hid ((st.1.getD p.b dP).k<4294967296):=hkn.bd _ (by rw [bP,bE (by rw [hkn.l8];exact hok.2.2.2.2.1)];exact lC _);generalize st.1.getD p.a dP=X at *;generalize st.1.getD p.b dP=Y at *;obtain ⟨p0,p1,p2,p3,p4⟩:=p;obtain ⟨q1,q2,q3,q4,q5,q6,_⟩:=hok;simp only at q1 q2 q3 q4 q5 q6 x0 x1 x2 x3 x4 II LG LI LJ LK LL LM LN LO LP Fa;obtain ⟨X0,X1,X2,X3,X4⟩:=X;obtain ⟨Y0,Y1,Y2,Y3,Y4⟩:=Y;simp only at II LG LI LJ LK LL LM LN LO LP Fa;have q3':(p2:Int)<8:=by omega
   have q4':(p3:Int)<8:=by omega
   have q5':(p1:Int)<8:=by omega
   clear hown hbl hrow hx hla hlb;obtain ⟨W,hW⟩:∃W,W=wr.alloc (.cells #[.int .i64 (p0:Int),.int .i64 (p1:Int),.int .i64 (p2:Int),.int .i64 (p3:Int),.int .i64 (p4:Int)] 123):=⟨_,rfl⟩;have hzW:W.heap.size=wr.heap.size+1:=by rw [hW,aB]
   have hbW:ak wr.heap.size wr W:=by rw [hW];exact (aA _ _).alloc (ax _) _
   have hpb:∀j x,#[cI .i64 (p0:Int),.int .i64 (p1:Int),.int .i64 (p2:Int),.int .i64 (p3:Int),.int .i64 (p4:Int)][j]? =some x->W.cell? ⟨wr.heap.size,j,none⟩=some x:=fun j x hj=>by rw [hW,World.cell?_alloc_at (hn:=rfl)];exact hj
   have OQ:Hid (aK W wr.heap.size 123 (fU ⟨p0,p1,p2,p3,p4⟩)):=by unfold Hid aK;rw [hW,bg];rfl
   have d0:=hpb 0 _ rfl;have d1:=hpb 1 _ rfl;have d2:=hpb 2 _ rfl;have d3:=hpb 3 _ rfl;have d4:=hpb 4 _ rfl;have II:=(dZ hbW w.heap.size _ dY).trans II;have LG:=(dZ hbW w.heap.size _ dY).trans LG;have LI:=(dZ hbW w.heap.size _ dY).trans LI;have LJ:=(dZ hbW w.heap.size _ dY).trans LJ;have LK:=(dZ hbW w.heap.size _ dY).trans LK;have LL:=(dZ hbW w.heap.size _ dY).trans LL;have LM:=(dZ hbW w.heap.size _ dY).trans LM;have LN:=(dZ hbW w.heap.size _ dY).trans LN;have LO:=(dZ hbW w.heap.size _ dY).trans LO;have LP:=(dZ hbW w.heap.size _ dY).trans LP;have n1:=XY W _ II;have n2:=XY W _ d0;have E7:=af hbW;have BD:=af hW;have awb:=af hld;clear hbW hpb hld LF hW P4;have IJ:Hid (∀a b,((W.alloc a).alloc b).drew.heap[wr.heap.size+1]? =some a∧((W.alloc a).alloc b).drew.heap[wr.heap.size+1+1]? =some b∧ak W.heap.size W ((W.alloc a).alloc b).drew):=fun a b=>by
    refine ⟨?_,?_,(((aA _ _).alloc (ax _) _).alloc (by rw [aB];omega) _).drew⟩
    ·show ((W.alloc a).alloc b).heap[wr.heap.size+1]? =_
     rw [cM _ _ _ (by rw [aB];omega),<-hzW,bg]
    ·show ((W.alloc a).alloc b).heap[wr.heap.size+1+1]? =_
     rw [<-hzW,<-aB W a,bg]
   have lP:=af Fa;clear Fa;go_upto_region 6 with fail
   rw [<-BD.out];go_cut [7,8] from 15 to 54 (fun x y wx=>∃bX bY:Nat,x= .pointer (some ⟨bX,0,none⟩)∧y= .pointer (some ⟨bY,0,none⟩)∧Hid (wr.heap.size<bX∧wr.heap.size<bY∧wx.heap[bX]? =some (.cells #[.int .i64 (X0:Int),.int .i64 (X1:Int),.int .i64 (X2:Int),.int .i64 (X3:Int),.int .i64 (X4:Int)] 123)∧wx.heap[bY]? =some (.cells #[.int .i64 (Y0:Int),.int .i64 (Y1:Int),.int .i64 (Y2:Int),.int .i64 (Y3:Int),.int .i64 (Y4:Int)] 123)∧ak W.heap.size W wx))
   case first=>
    go_region_held3 (fun w'=>w'.cell? ⟨wr.heap.size,2,none⟩=some (.int .i64 (p2:Int))∧w'.cell? ⟨wr.heap.size,3,none⟩=some (.int .i64 (p3:Int))∧w'.cell? ⟨w.heap.size,p2 * 5,none⟩=some (.int .i64 (X0:Int))∧w'.cell? ⟨w.heap.size,p2 * 5+1,none⟩=some (.int .i64 (X1:Int))∧w'.cell? ⟨w.heap.size,p2 * 5+1+1,none⟩=some (.int .i64 (X2:Int))∧w'.cell? ⟨w.heap.size,p2 * 5+1+1+1,none⟩=some (.int .i64 (X3:Int))∧w'.cell? ⟨w.heap.size,p2 * 5+1+1+1+1,none⟩=some (.int .i64 (X4:Int))∧w'.cell? ⟨w.heap.size,p3 * 5,none⟩=some (.int .i64 (Y0:Int))∧w'.cell? ⟨w.heap.size,p3 * 5+1,none⟩=some (.int .i64 (Y1:Int))∧w'.cell? ⟨w.heap.size,p3 * 5+1+1,none⟩=some (.int .i64 (Y2:Int))∧w'.cell? ⟨w.heap.size,p3 * 5+1+1+1,none⟩=some (.int .i64 (Y3:Int))∧w'.cell? ⟨w.heap.size,p3 * 5+1+1+1+1,none⟩=some (.int .i64 (Y4:Int))) (go_keep) (fail)
    all_goals
     go_wp2_with fail
     go_meet
     first
     | exact ⟨_,_,rfl,rfl,by omega,by omega,(IJ.out _ _).1,(IJ.out _ _).2.1,(IJ.out _ _).2.2⟩
     | exact ⟨_,_,rfl,rfl,by omega,by omega,(IJ.out _ _).2.1,(IJ.out _ _).1,(IJ.out _ _).2.2⟩
   case rest=>
   obtain ⟨bX,bY,rfl,rfl,HC⟩:=hcut;obtain ⟨lX,lY,gX,gY,hbc⟩:=HC.out;have xc:=fun j=>cF gX j;have yc:=fun j=>cF gY j;have xx0:=xc 0;have LQ:=xc 4;have yy0:=yc 0;have LR:=yc 4;simp only [List.getElem?_toArray,List.getElem?_cons_zero,List.getElem?_cons_succ] at xx0 LQ yy0 LR;have d0:=(dZ hbc wr.heap.size 0 (by omega)).trans d0;have d1:=(dZ hbc wr.heap.size 1 (by omega)).trans d1;have d2:=(dZ hbc wr.heap.size 2 (by omega)).trans d2;have d3:=(dZ hbc wr.heap.size 3 (by omega)).trans d3;have d4:=(dZ hbc wr.heap.size 4 (by omega)).trans d4;have Fb:=af (fun w'=>CH (p0:Int) w');have Fc:=af hbc;clear xc yc gX gY hbc;rw [an6] at Fb;by_cases hkk:lI p0=true∧X0=1∧Y0=1
   ·obtain ⟨h1,rfl,rfl⟩:=hkk;rw [if_pos ⟨h1,rfl,rfl⟩] at lP;rw [h1] at Fb;have hx4:X4<4294967296:=HXb.out;have hy4:Y4<4294967296:=HYb.out;have hr:=fun w'=>Ec p0 X4 Y4 w' (by omega) (by omega) (by omega) (by omega) (by unfold lI at h1;rw [decide_eq_true_eq] at h1;omega) (by unfold lI at h1;rw [decide_eq_true_eq] at h1;omega);have je:=A8 p0 X4 Y4 (by omega) (by omega) (by omega) (by omega);obtain ⟨c,hc⟩:=Int.eq_ofNat_of_zero_le je.1;rw [hc] at hr lP;rw [Int.toNat_natCast] at lP;have Vi:=af hr;clear hr je hc;go_wp2_with fail
    refine (aq Fb _).mono ?_;rintro e w' ⟨rfl,hw'⟩;obtain rfl:=hw'.symm;go_wp2_with fail
    refine ug 8 2 (fun w'=>w'.cell? ⟨wr.heap.size,0,none⟩=some (.int .i64 (p0:Int))∧w'.cell? ⟨wr.heap.size,1,none⟩=some (.int .i64 (p1:Int))∧w'.cell? ⟨bX,4,none⟩=some (.int .i64 (X4:Int))∧w'.cell? ⟨bY,4,none⟩=some (.int .i64 (Y4:Int))) (by kernel_rfl) (by kernel_rfl) (fun d _ _ _ _ h=>by cases d<;>exact h) ⟨d0,d1,LQ,LR⟩ ?_;simp only [List.take_succ_cons,List.take_zero,List.drop_succ_cons,List.drop_zero]
    iterate 8
     refine mT ?_ rfl ?_ ?_
     rotate_left
     ·rintro w' ⟨d0,d1,d2,d3⟩;go_simp;rfl
     go_simp
    refine uf ?_;refine iQ rfl (fun K hK=>?_);go_simp;refine (aq Vi _).mono ?_;rintro e w' ⟨rfl,hw'⟩;obtain rfl:=hw'.symm;go_simp;refine hK _ _ ⟨d0,d1,LQ,LR⟩ ?_;clear hK K;refine iQ rfl (fun K hK=>?_);go_simp;refine hK _ _ ⟨d0,d1,LQ,LR⟩ ?_;clear hK K;unfold oy;obtain ⟨wD,P5⟩:∃wD,wc.drew.setCells wr.heap.size 0 (eM ⟨1,p1,0,0,c⟩).toList=wD:=⟨_,rfl⟩;have HwD:=af P5;have hpc:aK wc.drew wr.heap.size 123 (fU ⟨p0,p1,p2,p3,p4⟩):=OQ.out.keep (Fc.out.block _ (by omega));have HDt:Hid (wc.drew.there wr.heap.size 0 5):=hpc.there 0 5 (by simp [fU]);have IK:Hid (aK wD wr.heap.size 123 (fU ⟨1,p1,0,0,c⟩)):=by unfold Hid;rw [<-P5];exact Vh hpc 0 _
    have HDb:Hid (ak wr.heap.size wr wD):=by unfold Hid;rw [<-P5];exact LD ((E7.out.trans (Fc.out.mono (by omega))).drew) (ax _) 0 _
    clear P5 hpc d0 d1 d2 d3 d4 xx0 LQ yy0 LR;have d0:=IK.out.cell 0 (by simp [fU]);have d1:=IK.out.cell 1 (by simp [fU]);have d2:=IK.out.cell 2 (by simp [fU]);have d3:=IK.out.cell 3 (by simp [fU]);have d4:=IK.out.cell 4 (by simp [fU]);simp only [gz,fU,JG,Gp] at d0 d1 d2 d3 d4;go_upto_region 9 with (refine Vg rfl _ _ rfl wr.heap.size 0 ⟨1,p1,0,0,c⟩ rfl rfl HDt.out wD HwD.out ?_)
    have Vj:=adn (d:=p1) (q:=⟨1,p1,0,0,c⟩) l5.out hkn.l8 q3 HDb.out IK.out HO.out;obtain ⟨LU,wS,LV,r1,b1,r2,o1,l1⟩:=Vj;have s0:=r2.cell 0 (by simp [fU]);have s1:=r2.cell 1 (by simp [fU]);have s2:=r2.cell 2 (by simp [fU]);have s3:=r2.cell 3 (by simp [fU]);have s4:=r2.cell 4 (by simp [fU]);simp only [gz,fU,JG,Gp] at s0 s1 s2 s3 s4;have IL:=af LU;have Vk:=af LV;have dm:=af r1;have jy:=af o1;have aJ:Hid (ak w.heap.size w wS):=(bU.out.trans (HDb.out.mono (by omega))).trans b1;clear LU LV r1 b1 r2 o1;go_wp2_with (first | (refine Vg rfl _ _ rfl w.heap.size (p1 * 5) ⟨1,p1,0,0,c⟩ rfl rfl IL.out wS Vk.out ?_) | (at_builtin;refine vV _ rfl _ _ 125 rfl (w.heap.size+1) 123 inf _ 5 40 AR gJ.out HZ.out dR.out gK.out rfl (by decide) (.slice va k vc) k (dM st.2) rfl (jy.out.alloc _) ⟨wS.heap.size,0,none⟩ 1 1 [.int .i64 1,.int .i64 (p1:Int),.int .i64 0,.int .i64 0,.int .i64 (c:Int)] rfl rfl (mP (bg wS _)) (fun u hu=>by simp at hu;rcases hu with rfl | rfl | rfl | rfl | rfl<;>rfl) (by decide) (by unfold maxLen;omega) (by omega) (by rw [aB];omega) (wS.heap.size+1) (by rw [aB]) ?_;intro wL cap2 w3 jQ js nO sY;have iR:=af jQ;have j8:=af js;clear jQ js nO))
    refine ⟨⟨k+1,(st.1.set p1 ⟨1,p1,0,0,c⟩,st.2 ++ [⟨1,p1,0,0,c⟩]),by omega,by go_num,?_,?_,?_,?_⟩,by simp [intOf];omega⟩
    ·exact (by rw [lP.out] at qt;exact qt.out)
    ·rw [En];exact iR.out
    ·refine dm.out.keep ((j8.out.block _ (by rw [aB];have:=dm.out.lt;omega) (fun e=>?_)).trans (cM wS _ _ dm.out.lt));have:=(aR jy.out _ e.symm).1;omega
    ·exact (aJ.out.alloc (by have:=dm.out.lt;omega) _).grown j8.out (by rw [aB];have:=dm.out.lt;omega) (fun q hq=>by have:=(aR jy.out q hq).1;omega)
   ·rw [if_neg hkk] at lP;have aof:lI p0=false∨(lI p0=true∧((X0:Int) == 1)=false)∨(lI p0=true∧((X0:Int) == 1)=true∧((Y0:Int) == 1)=false):=by
     cases h1:lI p0
     ·exact .inl rfl
     ·refine .inr ?_;by_cases h2:X0=1
      ·exact .inr ⟨rfl,by rw [beq_iff_eq];omega,by rw [beq_eq_false_iff_ne];exact fun h=>hkk ⟨h1,h2,by omega⟩⟩
      ·exact .inl ⟨rfl,by rw [beq_eq_false_iff_ne];omega⟩
    clear hkk;rcases aof with h1 | ⟨h1,h2⟩ | ⟨h1,h2,h3⟩
    all_goals
     rw [h1] at Fb;go_wp2_with fail
     refine (aq Fb _).mono ?_;rintro e w' ⟨rfl,hw'⟩;obtain rfl:=hw'.symm;go_upto_region 9 with fail
     have Vj:=adn (d:=p1) (q:=⟨p0,p1,p2,p3,p4⟩) l5.out hkn.l8 q3 (E7.out.trans (Fc.out.mono (by omega))) (OQ.out.keep (Fc.out.block _ (by omega))) HO.out;obtain ⟨LU,wS,LV,r1,b1,r2,o1,l1⟩:=Vj;have s0:=r2.cell 0 (by simp [fU]);have s1:=r2.cell 1 (by simp [fU]);have s2:=r2.cell 2 (by simp [fU]);have s3:=r2.cell 3 (by simp [fU]);have s4:=r2.cell 4 (by simp [fU]);simp only [gz,fU,JG,Gp] at s0 s1 s2 s3 s4;have IL:=af LU;have Vk:=af LV;have dm:=af r1;have jy:=af o1;have aJ:Hid (ak w.heap.size w wS):=(bU.out.trans ((E7.out.trans (Fc.out.mono (by omega))).mono (by omega))).trans b1;clear LU LV r1 b1 r2 o1;go_wp2_with (first | (refine Vg rfl _ _ rfl w.heap.size (p1 * 5) ⟨p0,p1,p2,p3,p4⟩ rfl rfl IL.out wS Vk.out ?_) | (at_builtin;refine vV _ rfl _ _ 125 rfl (w.heap.size+1) 123 inf _ 5 40 AR gJ.out HZ.out dR.out gK.out rfl (by decide) (.slice va k vc) k (dM st.2) rfl (jy.out.alloc _) ⟨wS.heap.size,0,none⟩ 1 1 [.int .i64 (p0:Int),.int .i64 (p1:Int),.int .i64 (p2:Int),.int .i64 (p3:Int),.int .i64 (p4:Int)] rfl rfl (mP (bg wS _)) (fun u hu=>by simp at hu;rcases hu with rfl | rfl | rfl | rfl | rfl<;>rfl) (by decide) (by unfold maxLen;omega) (by omega) (by rw [aB];omega) (wS.heap.size+1) (by rw [aB]) ?_;intro wL cap2 w3 jQ js nO sY;have iR:=af jQ;have j8:=af js;clear jQ js nO))
     refine ⟨⟨k+1,(st.1.set p1 ⟨p0,p1,p2,p3,p4⟩,st.2 ++ [⟨p0,p1,p2,p3,p4⟩]),by omega,by go_num,?_,?_,?_,?_⟩,by simp [intOf];omega⟩
     ·exact (by rw [lP.out] at qt;exact qt.out)
     ·rw [En];exact iR.out
     ·refine dm.out.keep ((j8.out.block _ (by rw [aB];have:=dm.out.lt;omega) (fun e=>?_)).trans (cM wS _ _ dm.out.lt));have:=(aR jy.out _ e.symm).1;omega
     ·exact (aJ.out.alloc (by have:=dm.out.lt;omega) _).grown j8.out (by rw [aB];have:=dm.out.lt;omega) (fun q hq=>by have:=(aR jy.out q hq).1;omega)
  ·have hlt':¬(k:Int)<(ps.length:Int):=by omega
   have hkn:k=ps.length:=by omega
   subst hkn;rw [List.take_length] at cH;have HE:Hid (st.2=wE ps):=by unfold Hid;rw [cH.out];rfl
   have HL:Hid ((wE ps).length=ps.length):=(JW HW.out).2;clear hown hbl hrow;go_wp2_with fail
   go_ret;refine ⟨bU.out,_,rfl,?_⟩;rw [HL.out,<-HE.out];exact ⟨HO.out.1,HO.out.2.imp id (fun ⟨g,cap,cur,q1,q2,q3⟩=>⟨g,cap,cur,q1,by omega,q3⟩)⟩
end
end Go.Proofs.YtmmflekajbeamaaGreatDoor
