/- Texts of ours, joined, in few bytes. -/
import Derived.Test.YtmmflekajbeamaaGreatDoorE30
open Array renaming getElem?_append_left->Ru
open Bool renaming eq_iff_iff->Ck
open ByteArray renaming size_append->Rj
open Go renaming Calls->av,Value->aj,below_drewN->dH,execOp->kF,heap_alloc_new->bg,run_string_add_sum->JD
open Go.Instr renaming build->Nu,fill->JQ
open Go.Op renaming stringOp->Cl
open Go.Proofs.Tryz renaming func216->RK,ntmps216->RL,prog->au
open Go.Result renaming andThen->kN,andThen_ok->DI
open Go.RowKit renaming Below->ak,intOf->aI,wrap64->aY
open Go.RowKit.Below renaming refl->aA
open Go.Sem renaming run_bind->kB
open Go.Value renaming pointer->Gw
open Go.World renaming ownsRow_nil->j7
open List renaming getD_eq_getElem?_getD->bP,getElem?_eq_getElem->bE,getElem?_eq_some_iff->fG,getElem?_map->iX,getElem_mem->lC,length_append->dK,mem_of_getElem?->oK,replicate->uM,take_of_length_le->mO
open Nat renaming add_sub_cancel_left->D5,le_refl->ax,lt_of_lt_of_le->dB,zero_le->bK
open Option renaming map_some->AO
open Option.some renaming injEq->Ci
namespace Go.Proofs.YtmmflekajbeamaaGreatDoor
set_option maxRecDepth 100000
set_option maxHeartbeats 20000000
section
open Go.RowKit Go.Maps Go.WideMaps
def tR:Array aj:=(#[.pointer none,.int .i64 0,.bool false] ++ S bT) ++ #[.int .i64 0,.int .i64 0,.int .i64 0,.slice none 0 0,.slice none 0 0,.slice none 0 0,.int .i64 0,.int .i64 0,.int .i64 0,.int .i64 0,.int .i64 0]
def ae5:Array (Nat×Nat):=#[(0,1),(1,1),(2,1),(3,138),(141,1),(142,1),(143,1),(144,1),(145,1),(146,1),(147,5)]
theorem arI:(match Tryz.prog.underlying 181 with | some (.struct fs)=>fs.toList.mapM (fun f=>(Tryz.prog.info? f.type).map fun i=>(f.offset,i.size)) | _=>none)=some ae5.toList:=by kernel_rfl
theorem arJ:∃i,Tryz.prog.info? 181=some i∧i.zero=some (.agg tR):=by
 have h:(Tryz.prog.info? 181).map (fun i=>i.zero)=some (some (.agg tR)):=by kernel_rfl
 cases hq:Tryz.prog.info? 181 with
 | none=>rw [hq] at h;cases h
 | some i=>
   rw [hq] at h;simp only [AO,Ci] at h;exact ⟨i,rfl,h⟩
theorem arK (parts:List (Nat×aj)):Tryz.prog.built 181 parts=JQ (fun x=>ae5[x]?) tR parts:=by
 obtain ⟨i,hi,hz⟩:=arJ;have hp:=arI;unfold Program.built;rw [hi];rw [Tryz.underlying181] at hp⊢;simp only [hz] at hp⊢;rw [hp];rfl
theorem ae6:tR.size=152:=by unfold tR;simp [bQ,bT]
def Az (R:Nat) (k:Int) (z:List Int):Array aj:=mV 1 #[.int .i64 k] (mV 3 (S z) (mV 0 #[.pointer (some ⟨R,0,none⟩)] tR))
theorem Wr (R:Nat) (k:Int) (z:List Int) (hz:z.length=138) (j:Nat):(Az R k z).size=152∧(Az R k z)[j]? =if j=1 then some (.int .i64 k) else if 3<=j∧j<141 then (S z)[j - 3]? else if j=0 then some (.pointer (some ⟨R,0,none⟩)) else tR[j]?:=by
 have s0:=ae6;have zs:(S z).size=138:=by rw [bQ,hz]
 have e1:(mV 0 #[.pointer (some ⟨R,0,none⟩)] tR).size=152:=by rw [Ag _ _ _ (by rw [s0];simp),s0]
 have e2:(mV 3 (S z) (mV 0 #[.pointer (some ⟨R,0,none⟩)] tR)).size=152:=by rw [Ag _ _ _ (by rw [e1,zs];decide),e1]
 unfold Az;refine ⟨by rw [Ag _ _ _ (by rw [e2];simp),e2],?_⟩;rw [Ij _ _ _ (by rw [e2];simp)];by_cases h2:j=1
 ·subst h2;rfl
 ·rw [if_neg (by simp;omega),if_neg h2,Ij _ _ _ (by rw [e1,zs];decide),zs];by_cases h1:3<=j∧j<141
  ·rw [if_pos (by omega),if_pos h1]
  ·rw [if_neg (by omega),if_neg h1,Ij _ _ _ (by rw [s0];simp)];by_cases h3:j=0
   ·subst h3;rfl
   ·rw [if_neg (by simp;omega),if_neg h3]
theorem Ws (j:Nat) (h:141<=j):tR[j]? =#[Value.int .i64 0,.int .i64 0,.int .i64 0,.slice none 0 0,.slice none 0 0,.slice none 0 0,.int .i64 0,.int .i64 0,.int .i64 0,.int .i64 0,.int .i64 0][j - 141]?:=by
 unfold tR;have hs:(#[Gw none,.int .i64 0,.bool false] ++ S bT).size=141:=by simp [bQ,bT]
 rw [Array.getElem?_append_right (by rw [hs];exact h),hs]
theorem arL:tR[2]? =some (.bool false):=by
 unfold tR;have hs:(#[Gw none,.int .i64 0,.bool false] ++ S bT).size=141:=by simp [bQ,bT]
 rw [Ru (by rw [hs];decide),Ru (by decide)];rfl
theorem arM (R:Nat) (k:Int) (z:List Int) (hz:z.length=138) (w:World):(Nu 181 #[(0,.pointer (some ⟨R,0,none⟩)),(3,.agg (S z)),(1,.int .i64 k)]).run au w= .ok (.agg (Az R k z)) w:=by
 refine run_build w 181 _ _ ?_;have s0:=ae6;have zs:(S z).size=138:=by rw [bQ,hz]
 have e1:(mV 0 #[.pointer (some ⟨R,0,none⟩)] tR).size=152:=by rw [Ag _ _ _ (by rw [s0];simp),s0]
 have e2:(mV 3 (S z) (mV 0 #[.pointer (some ⟨R,0,none⟩)] tR)).size=152:=by rw [Ag _ _ _ (by rw [e1,zs];decide),e1]
 rw [arK];show JQ _ _ [(0,_),(3,_),(1,_)]=_
 rw [ID _ _ 0 _ _ 0 1 rfl rfl (by rw [s0];decide),ID _ _ 3 (.agg (S z)) _ 3 138 rfl zs (by rw [show (Gw (some ⟨R,0,none⟩)).cells=#[.pointer (some ⟨R,0,none⟩)] from rfl,e1];decide)];rw [ID _ _ 1 _ _ 1 1 rfl rfl (by rw [show (Gw (some ⟨R,0,none⟩)).cells=#[.pointer (some ⟨R,0,none⟩)] from rfl,show (Value.agg (S z)).cells=S z from rfl,e2];decide)];rfl
theorem dA.new (R:Nat) (k:Int) (z:List Int) (hz:z.length=138) (w:World) (W:World) (hW:W=w.alloc (.cells (Az R k z) 181)):dA w.heap.size R (newG k z) um W:=by
 have r:W.heap[w.heap.size]? =some (.cells (Az R k z) 181 (0,0)):=by rw [hW,bg]
 have hc:∀j,W.cell? ⟨w.heap.size,j,none⟩=(Az R k z)[j]?:=fun j=>cF r j;refine ⟨fun j=>by simp [World.frozen?,r],fun j hj=>?_,fun j u q=>?_,hz,fun i hi=>?_,fun i hi=>j7 _ _ _ _,fun i j _ _ _ x q=>by cases q⟩
 ·rw [hc,(Wr R k z hz j).2];unfold sI at hj;rcases hj with hj | hj | hj
  ·match j,hj with
   | 0,_=>rfl
   | 1,_=>rfl
   | 2,_=>exact arL
  ·rw [if_neg (by omega),if_neg (by omega),if_neg (by omega),Ws j hj.1];obtain ⟨i,rfl⟩:∃i,j=141+i:=⟨j - 141,by omega⟩;have hi:i<3:=by omega
   rw [D5]
   match i,hi with
   | 0,_=>rfl
   | 1,_=>rfl
   | 2,_=>rfl
  ·rw [if_neg (by omega),if_neg (by omega),if_neg (by omega),Ws j (by omega)];obtain ⟨i,rfl⟩:∃i,j=147+i:=⟨j - 147,by omega⟩;have hi:i<5:=by omega
   match i,hi with
   | 0,_=>rfl
   | 1,_=>rfl
   | 2,_=>rfl
   | 3,_=>rfl
   | 4,_=>rfl
 ·have hj:j<138:=by have:=(fG.1 q).1;rw [List.length_map] at this;have hz':(newG k z).z.length=138:=hz;omega
  rw [hc,(Wr R k z hz (3+j)).2,if_neg (by omega),if_pos (by omega),D5,<-q];unfold S newG;simp
 ·rw [hc,(Wr R k z hz _).2];have hb:=Qo i;rw [if_neg (by omega),if_neg (by omega),if_neg (by omega),Ws _ (by omega)]
  match i,hi with
  | 0,_=>rfl
  | 1,_=>rfl
  | 2,_=>rfl
theorem cO.arO {R:Nat} {r:aN} {w:World} (h:cO R r w) (n:Int):cO R {r with en:=n} (w.setCell ⟨R,8,none⟩ (.int .i64 n)):=
 ⟨by rw [fW];exact h.lt,fun j=>by rw [World.frozen?_setCell];exact h.fz j,fun i hi=>(cZ (by omega)).trans (h.tg i hi),fun i hi=>(cZ (by omega)).trans (h.tj i hi),(cZ (by decide)).trans h.tu,(cZ (by decide)).trans h.du,(cZ (by decide)).trans h.cr,(cZ (by decide)).trans h.us,World.cell?_setCell_same _ _ _ h.en⟩
def sK (r:aN):aN:={r with en:=aY (r.en+1),us:=0}
def arP (R:Nat) (w:World) (k n:Int) (g':ay) (r':aN) (e':Ending) (w':World):Prop:=
 aM (fun x=>x=R) w w'∧
  ((n≠0∧e'= .returned (.tuple #[.pointer none,.int .i64 n])∧cO R r' w')∨(n=0∧∃E v',w.heap.size<=E∧e'= .returned (.tuple #[.pointer (some ⟨E,0,none⟩),.int .i64 0])∧dL E R g' {r' with us:=k} v' w'∧∀x,cX E v' x->w.heap.size<=x))
theorem arQ (z:List Int) (w:World):
 av au 76 #[.pointer none,.agg (S z)] w fun e' w'=>e'= .returned (.tuple #[.pointer none,.int .i64 1])∧ak w.heap.size w w':=by
 have bM:Hid (ak w.heap.size w (w.alloc (.cells (S z) 28))):=zO _;go_enter Tryz.func76,Tryz.ntmps76;go_wp2_with fail
 go_ret2
 exact ⟨rfl,bM.out⟩
theorem arR (R:Nat) (z:List Int) (w:World) (hz:z.length=138) (hb:cV z=false):
 av au 76 #[.pointer (some ⟨R,0,none⟩),.agg (S z)] w fun e' w'=>e'= .returned (.tuple #[.pointer none,.int .i64 8])∧ak w.heap.size w w':=by
 have HI:=af (fun w'=>ue z w' hz);rw [hb] at HI;have R0:bf (w.alloc (.cells (S z) 28)) w.heap.size 138=true:=by rw [kV _ _ _ _ _ rfl];simp [bQ,hz]
 have D0:bW (w.alloc (.cells (S z) 28)) w.heap.size=S z:=zF _ _ _ _ rfl;have bM:Hid (ak w.heap.size w (w.alloc (.cells (S z) 28))):=zO _;go_enter Tryz.func76,Tryz.ntmps76;go_wp2_with (refine fH rfl _ rfl _ rfl R0 _ D0 ?_)
 refine (aq HI _).mono ?_;rintro e w1 ⟨rfl,hb1⟩;have aJ:Hid (ak w.heap.size w w1):=bM.out.trans (hb1.mono bM.out.size);clear hb1 HI;go_wp2_with fail
 go_ret2
 exact ⟨rfl,aJ.out⟩
theorem Wt {α:Type} (o:qc α) (g:ay) (d:α) (i:Nat):(cT o g d i).2.1.wk=g.wk:=by
 unfold cT
 (repeat' split)<;>rfl
theorem arS {α:Type} (o:qc α) (g:ay) (d:α) (t0 t1:List UInt8):(mo o g d t0 t1).2.1.wk=g.wk:=by
 unfold mo
 (repeat' split)<;>first | exact Wt _ _ _ _ | rfl
theorem ae7 {α:Type} (o:qc α) (g:ay) (d:α):(mI o g d).2.1.wk=g.wk:=by
 unfold mI
 (repeat' split)<;>rfl
theorem ae8 {α:Type} (o:qc α) (g:ay) (d:α):(gC o g d).2.1.wk=g.wk:=by
 unfold gC;split
 ·rw [arS,ae7]
 ·exact ae7 _ _ _
theorem arU {o:Oper} {a:Act} {w:World} (ty:TypeId) (i j k:Nat) (x y z:Operand) (ho:o.op= .build ty #[(i,x),(j,y),(k,z)])
 (u v t r:aj) (hx:a.eval x=u) (hy:a.eval y=v) (hz:a.eval z=t) (hr:(Nu ty #[(i,u),(j,v),(k,t)]).run au w= .ok r w):(kF a.eval o).run au w= .ok (.value r) w:=by
 unfold kF;simp only [ho,kB,Sem.run_pure,DI,List.map_toArray,List.map_cons,List.map_nil,hx,hy,hz,hr]
theorem arW (R:Nat) (r:aN) (z:List Int) (w:World) (h:cO R r w) (hr:lA r 7) (hz:z.length=138) (hs:cV z=true):
 av au 76 #[.pointer (some ⟨R,0,none⟩),.agg (S z)] w (arP R w (aY (r.en+1)) (gC cC (newG (aY (r.en+1)) z) (sK r)).1 (gC cC (newG (aY (r.en+1)) z) (sK r)).2.1 (gC cC (newG (aY (r.en+1)) z) (sK r)).2.2):=by
 have HI:=af (fun w'=>ue z w' hz);rw [hs] at HI;have R0:bf (w.alloc (.cells (S z) 28)) w.heap.size 138=true:=by rw [kV _ _ _ _ _ rfl];simp [bQ,hz]
 have D0:bW (w.alloc (.cells (S z) 28)) w.heap.size=S z:=zF _ _ _ _ rfl;have bM:Hid (ak w.heap.size w (w.alloc (.cells (S z) 28))):=zO _;have gR:Hid ((w.alloc (.cells (S z) 28)).heap[w.heap.size]? =some (.cells (S z) 28 (0,0))):=bg w _;have HH:=af h;have HZ:=af hz;have MG:Hid (lA (sK r) 7):=hr;have nY:=af (fun w' x=>Lx w' x z hz);have hRw:R<w.heap.size:=h.lt;have HEr:Hid (sK r= {r with en:=aY (r.en+1),us:=0}):=rfl;generalize hk:aY (r.en+1)=k at *;have Ly:=af (fun w'=>arM R k z hz w');clear h hz hs hr;go_enter Tryz.func76,Tryz.ntmps76;go_wp2_with (refine fH rfl _ rfl _ rfl R0 _ D0 ?_)
 refine (aq HI _).mono ?_;rintro e w1 ⟨rfl,hb1⟩;have dJ:ak w.heap.size w w1:=bM.out.trans (hb1.mono bM.out.size);have r1:w1.heap[w.heap.size]? =some (.cells (S z) 28 (0,0)):=(hb1.block _ (by rw [aB];exact Nat.lt_succ_self _)).trans gR.out;have aJ:=af dJ;have hd1:cO R r w1:=HH.out.up dJ.size (dJ.block R hRw);have lQ:w.heap.size<w1.heap.size:=(Array.getElem?_eq_some_iff.1 r1).1;have c8:=hd1.en;have f8:=hd1.fz 8;have c7:=hd1.us;have f7:=hd1.fz 7;have sw:=af hd1;have dm:=af r1;clear hb1 HI R0 D0 hd1 r1 dJ;go_upto_region 8 with fail
 rw [hk];obtain ⟨W2,kK⟩:∃W2,W2=(w1.setCell ⟨R,8,none⟩ (.int .i64 k)).setCell ⟨R,7,none⟩ (.int .i64 0):=⟨_,rfl⟩;rw [<-kK];have d2:cO R (sK r) W2:=by rw [HEr.out,kK];exact (sw.out.arO k).Tm 0
 have r2:W2.heap[w.heap.size]? =some (.cells (S z) 28 (0,0)):=by rw [kK,bB (by omega),bB (by omega)];exact dm.out
 have e2:W2.cell? ⟨R,8,none⟩=some (.int .i64 k):=by have:=d2.en;rw [HEr.out] at this;exact this
 have s2:W2.heap.size=w1.heap.size:=by rw [kK,fW,fW]
 have hc2:aM (fun x=>x=R) w W2:=by
  refine (aM.bh aJ.out).trans (fun x q=>.inl q) ?_;rw [kK];exact (aM.set w1 R 8 _).trans (fun x q=>.inl q) (aM.set _ R 7 _)
 have l6:=af kK;have qE:=af s2;clear c8 f8 c7 f7 kK s2;refine yQ 8 [0,2,3,4] [(some true,1),(some true,5),(some true,6),(some false,7),(some false,8)] 7 (fun w'=>w'.heap[w.heap.size]? =some (.cells (S z) 28 (0,0))∧w'.cell? ⟨R,8,none⟩=some (.int .i64 k)) (by kernel_rfl) (by kernel_rfl) (fun d _ _ _ _ h=>by cases d<;>exact h) ⟨r2,e2⟩ ?_
 iterate 4
  refine yP ?_ rfl rfl ?_ ?_
  rotate_left
  ·intro w';go_simp;rfl
  go_simp
 refine yO ?_;refine qK (.agg (S z)) rfl rfl ?_ ?_
 ·rintro w' ⟨d0,d1⟩;have hl:=nY.out w' _ d0;simp only [kF,List.getElem_toArray,List.getElem_cons_succ,List.getElem_cons_zero,kB];show kN (Sem.run au (Instr.loadAt 28 (.pointer (some ⟨w.heap.size,0,none⟩))) w') _=_
  rw [hl];rfl
 go_simp;refine qK ?_ rfl rfl ?_ ?_
 rotate_left
 ·rintro w' ⟨d0,d1⟩;go_simp;rfl
 go_simp;refine qK (.agg (Az R k z)) rfl rfl ?_ ?_
 ·rintro w' ⟨d0,d1⟩;refine arU 181 0 3 1 (.tmp 26) (.tmp 27) (.tmp 31) rfl (.pointer (some ⟨R,0,none⟩)) (.agg (S z)) (.int .i64 k) (.agg (Az R k z)) ?_ ?_ ?_ (Ly.out w')<;>rfl
 go_simp
 iterate 2
  refine jI rfl rfl (fun K hK=>?_);go_simp;refine hK _ _ (fun h=>absurd h (by decide)) ?_;clear hK K
 refine uH ?_;obtain ⟨W3,eY⟩:∃W3,W3=(W2.alloc (.cells (Az R k z) 181)).drew:=⟨_,rfl⟩;rw [<-eY];have bn:ak W2.heap.size W2 W3:=by rw [eY];exact ((aA _ _).alloc (ax _) _).drew
 have Qu:R<W2.heap.size:=by have:=qE.out;omega
 have k3:dL W2.heap.size R (newG k z) (sK r) um W3:=by
  refine ⟨?_,d2.up bn.size (bn.block R Qu),Qu⟩;have q:=dA.new R k z HZ.out W2 _ rfl;refine q.kept (fun x _=>?_);rw [eY];rfl
 have uk:=af eY;have xh:=af (arC W2.heap.size R (newG k z) (sK r) um W3 k3 (ada k z) (iO.new k z) MG.out);have I4:Hid (aM (fun x=>x=R) w W3):=hc2.trans (F1:=fun x=>x=R) (fun x q=>.inl q) (aM.bh bn);have lp:Hid (w.heap.size<=W2.heap.size):=by have:=qE.out;unfold Hid;omega
 have HRW:=af Qu;clear r2 e2 d2 hc2 bn eY k3 Ly nY Qu lQ;have PU:Hid ((gC cC (newG k z) (sK r)).2.1.wk=k):=ae8 _ _ _;generalize gC cC (newG k z) (sK r)=RO at *;obtain ⟨n,g',r'⟩:=RO;simp only at xh PU⊢;go_wp2_with fail
 refine (aq xh).mono ?_;rintro e w4 ⟨rfl,v4,g4,k4,f4,Wu⟩
 have si:Hid (aM (fun x=>x=R) w w4):=I4.out.trans (F1:=fun x=>x=R∨W2.heap.size<=x) (fun x q=>q.elim .inl (fun a=>.inr (Nat.le_trans lp.out a))) (f4.bD.weak (fun x q=>by
  rcases q with q | q
  ·rcases q with q | ⟨i,_,q⟩
   ·exact .inl (.inr (Nat.le_of_eq q.symm))
   ·cases q
  ·exact .inl (.inl q)))
 have vm:Hid (∀x,cX W2.heap.size v4 x->w.heap.size<=x):=fun x q=>by
  have:=(k4.eg.has q).1;have:=lp.out;omega
 have c1:=k4.eg.sc 1 (.inl (by decide));have c7:=k4.dv.us;have f7:=k4.dv.fz 7;have iz:=af k4;clear k4 f4 xh I4;by_cases hn:n=0
 ·obtain rfl:=Wu hn;subst hn;have hx1:gF R g4 1= .int .i64 g4.wk:=rfl;rw [hx1,PU.out] at c1;have GZ:Hid (∀W,W=w4.setCell ⟨R,7,none⟩ (.int .i64 k)->dL W2.heap.size R g4 {r' with us:=k} v4 W∧aM (fun x=>x=R) w W):=fun W hW=>by
   have hR:∀x,cX W2.heap.size v4 x->x≠R:=fun x q=>by have:=(iz.out.eg.has q).1;have:=HRW.out;omega
   refine ⟨⟨iz.out.eg.kept (fun x q=>by rw [hW];exact bB (hR x q)),by rw [hW];exact iz.out.dv.Tm k,iz.out.lt⟩,?_⟩;rw [hW];exact si.out.trans (fun x q=>.inl q) (aM.set w4 R 7 _)
  clear Wu;go_wp2_with fail
  go_ret2
  exact ⟨(GZ.out _ rfl).2,.inr ⟨rfl,W2.heap.size,v4,lp.out,rfl,(GZ.out _ rfl).1,vm.out⟩⟩
 ·have hn':(n == 0)=false:=by simpa using hn
  have HN:=af hn;clear hn c1 c7 f7 Wu;go_wp2_with fail
  go_ret2
  exact ⟨si.out,.inl ⟨HN.out,rfl,iz.out.dv⟩⟩
end
section
open Go.RowKit
theorem arZ (p:aH) (q:Nat) (w:World):
 av au 216 #[.agg (eM p),.int .i64 (q:Int)] w fun e' w'=>e'= .returned (.bool (oq p q))∧ak w.heap.size w w':=by
 obtain ⟨k,d,a,b,c⟩:=p;have HB:Hid (∀o,ak w.heap.size w (w.alloc o)):=fun o=>(aA _ _).alloc (ax _) _;have ea:((a:Int) == (q:Int))=decide (a=q):=by rw [Ck,beq_iff_eq,decide_eq_true_eq];omega
 have eb:((b:Int) == (q:Int))=decide (b=q):=by rw [Ck,beq_iff_eq,decide_eq_true_eq];omega
 unfold eM;by_cases h1:k=1
 ·subst h1;have HE:Hid (oq ⟨1,d,a,b,c⟩ q=false):=rfl;go_enter RK,RL;go_wp2_with fail
  go_ret;exact ⟨iv HE.out.symm,HB.out _⟩
 ·have h1':((k:Int) == 1)=false:=by simp;omega
  by_cases h6:k=6
  ·subst h6;have HE:Hid (oq ⟨6,d,a,b,c⟩ q=decide (a=q)):=rfl;go_enter RK,RL;go_wp2_with fail
   go_ret;exact ⟨iv (by rw [HE.out]),HB.out _⟩
  ·have h6':((k:Int) == 6)=false:=by simp;omega
   by_cases h7:k=7
   ·subst h7;have HE:Hid (oq ⟨7,d,a,b,c⟩ q=decide (a=q)):=rfl;go_enter RK,RL;go_wp2_with fail
    go_ret;exact ⟨iv (by rw [HE.out]),HB.out _⟩
   ·have h7':((k:Int) == 7)=false:=by simp;omega
    have HE:Hid (oq ⟨k,d,a,b,c⟩ q=decide (a=q∨b=q)):=by
     unfold Hid oq;rw [if_neg h1,if_neg (fun h=>h.elim h6 h7)]
    by_cases hq:a=q
    ·have dQ:((a:Int) == (q:Int))=true:=by rw [ea];exact decide_eq_true hq
     have HT:Hid (oq ⟨k,d,a,b,c⟩ q=true):=by unfold Hid;rw [HE.out];exact decide_eq_true (.inl hq)
     clear hq ea eb;go_enter RK,RL;go_wp2_with fail
     go_ret;exact ⟨iv HT.out.symm,HB.out _⟩
    ·have dQ:((a:Int) == (q:Int))=false:=by rw [ea];exact decide_eq_false hq
     have HT:Hid (oq ⟨k,d,a,b,c⟩ q=((b:Int) == (q:Int))):=by
      unfold Hid;rw [HE.out,eb,Ck,decide_eq_true_eq,decide_eq_true_eq];exact ⟨fun h=>h.resolve_left hq,.inr⟩
     clear hq ea eb;go_enter RK,RL;go_wp2_with fail
     go_ret;exact ⟨iv HT.out.symm,HB.out _⟩
theorem ar1 {l:List aH} {j:Nat} {p:aH} (h:l[j]? =some p) (q:Nat):nd (l.drop j) q=if nd (l.drop (j+1)) p.d=true then (if oq p q=true then true else if p.d=q then false else nd (l.drop (j+1)) q) else nd (l.drop (j+1)) q:=by
 rw [Zk h,nd]
theorem getD_some {l:List aH} {j:Nat} (h:j<l.length):l[j]? =some (l.getD j dP):=by
 rw [bP,bE h];rfl
theorem ar2 (B:Nat) (l:List aH) (G9:l.length<=8):∀(m i:Nat),l.length - i<=m->i<l.length->∀(lv:aj) (w:World),w.ownsRow B 123 5 lv l.length (dM l)->
 av au 177 #[lv,.int .i64 (i:Int)] w fun e' w'=>e'= .returned (.bool (nd (l.drop (i+1)) (l.getD i dP).d))∧ak w.heap.size w w':=by
 intro m
 induction m with
 | zero=>intro i h1 h2;omega
 | succ m ih=>
   intro i him hi lv w hown;obtain ⟨g,cap,rfl,_,hgl⟩:=hown.form (by omega);have HIH:=af ih;have HO:=af hown;have HI:=af hi;have hi':(i:Int)<(l.length:Int):=by omega
   have Kv:(l.length:Int)<=8:=by omega
   have HLi:=af (getD_some hi);generalize l.getD i dP=pi at *;clear ih hown;go_enter Tryz.func177,Tryz.ntmps177;go_wp2_with fail
   go_loopw [5] (fun x wr=>∃j:Nat,i+1<=j∧j<=l.length∧x= .int .i64 j∧Hid (nd (l.drop j) pi.d=nd (l.drop (i+1)) pi.d∧ak w.heap.size w wr)) (fun x _=>l.length - (aI x).toNat)
   case atStart=>exact ⟨i+1,ax _,by omega,by go_num,rfl,aA _ _⟩
   case round=>
    obtain ⟨j,hij,hjl,rfl,HR⟩:=hrel;obtain ⟨hnd,hbl⟩:=HR.out;have dY:=hbl.size;have bU:=af hbl;by_cases hlt:j<l.length
    ·have hlt':(j:Int)<(l.length:Int):=by omega
     have za:=dX HO.out hbl;have Qv:=af (HIH.out j (by omega) hlt _ wr za);have hj:=getD_some hlt;have hst:=ar1 hj pi.d;rw [hnd] at hst;generalize l.getD j dP=pj at *;obtain ⟨x0,x1,x2,x3,x4⟩:=wP za j pj hj;obtain ⟨_,y1,_,_,_⟩:=wP za i pi HLi.out;have jy:=af za;clear za hnd hbl hj;cases hq:nd (l.drop (j+1)) pj.d
     ·rw [hq,if_neg (by decide)] at hst;rw [hq] at Qv;have cH:=af hst;clear hst x0 x1 x2 x3 x4 y1;go_wp2_with fail
      refine (aq Qv).mono ?_;rintro e w1 ⟨rfl,hb1⟩;have aJ:Hid (ak w.heap.size w w1):=bU.out.trans (hb1.mono dY);clear hb1;go_wp2_with fail
      exact ⟨⟨j+1,by omega,by omega,by go_num,cH.out.symm,aJ.out⟩,by simp [aI];omega⟩
     ·rw [hq,if_pos rfl] at hst;rw [hq] at Qv;have j9:=af (fun w'=>arZ pj pi.d w');have Jg:g<wr.heap.size:=by omega
      have cH:=af hst;clear hst hq;generalize hrd:oq pj pi.d=rd at *;have aw5:=af hrd;clear hrd;obtain ⟨k0,k1,k2,k3,k4⟩:=pj;simp only [eM] at j9;simp only at x0 x1 x2 x3 x4;go_wp2_with fail
      refine (aq Qv).mono ?_;rintro e w1 ⟨rfl,hb1⟩;have aJ:Hid (ak w.heap.size w w1):=bU.out.trans (hb1.mono dY);have hz1:=hb1.size;have x0:=(dZ hb1 g (j * 5) Jg).trans x0;have x1:=(dZ hb1 g (j * 5+1) Jg).trans x1;have x2:=(dZ hb1 g (j * 5+1+1) Jg).trans x2;have x3:=(dZ hb1 g (j * 5+1+1+1) Jg).trans x3;have x4:=(dZ hb1 g (j * 5+1+1+1+1) Jg).trans x4;have y1:=(dZ hb1 g (i * 5+1) Jg).trans y1;have ar5:g<w1.heap.size:=by omega
      clear hb1;go_wp2_with fail
      go_region_held3 (fun w'=>w'.cell? ⟨g,j * 5,none⟩=some (.int .i64 (k0:Int))∧w'.cell? ⟨g,j * 5+1,none⟩=some (.int .i64 (k1:Int))∧w'.cell? ⟨g,j * 5+1+1,none⟩=some (.int .i64 (k2:Int))∧w'.cell? ⟨g,j * 5+1+1+1,none⟩=some (.int .i64 (k3:Int))∧w'.cell? ⟨g,j * 5+1+1+1+1,none⟩=some (.int .i64 (k4:Int))∧w'.cell? ⟨g,i * 5+1,none⟩=some (.int .i64 (pi.d:Int))) (go_keep) ((go_at_call 216;refine (aq j9 _).mono ?_;rintro e w2 ⟨rfl,hb2⟩;have kk:=fun j=>dZ hb2 g j ar5))
      have aZ:Hid (ak w.heap.size w w2):=(aJ.out.drew).trans (hb2.mono (by show w.heap.size<=w1.heap.size;omega));have X1:w2.cell? ⟨g,j * 5+1,none⟩=some (.int .i64 (k1:Int)):=(kk _).trans x1;have Y1:w2.cell? ⟨g,i * 5+1,none⟩=some (.int .i64 (pi.d:Int)):=(kk _).trans y1;clear kk hb2 x0 x1 x2 x3 x4 y1;cases rd
      ·rw [if_neg (by decide)] at cH;by_cases hd:k1=pi.d
       ·have hd':((k1:Int) == (pi.d:Int))=true:=by rw [beq_iff_eq];omega
        rw [if_pos hd] at cH;clear hd;go_wp2_with fail
        go_quiet (fail)
        go_wp2_with fail
        go_ret;exact ⟨iv cH.out.symm,dH aZ.out nq⟩
       ·have hd':((k1:Int) == (pi.d:Int))=false:=by rw [beq_eq_false_iff_ne];omega
        rw [if_neg hd] at cH;clear hd;go_wp2_with fail
        go_quiet (fail)
        go_wp2_with fail
        exact ⟨⟨j+1,by omega,by omega,by go_num,cH.out.symm,dH aZ.out nq⟩,by simp [aI];omega⟩
      ·rw [if_pos rfl] at cH;go_wp2_with fail
       go_ret;exact ⟨iv cH.out.symm,aZ.out⟩
    ·have hlt':¬(j:Int)<(l.length:Int):=by omega
     have hjn:j=l.length:=by omega
     have HE:Hid (nd (l.drop (i+1)) pi.d=true):=by
      unfold Hid;rw [<-hnd,hjn,List.drop_length];rfl
     clear hnd hbl;go_wp2_with fail
     go_ret;exact ⟨iv HE.out.symm,bU.out⟩
theorem ar6 (x:Nat):∃op a b c kk:Nat,bu (x:Int)=op∧fa (x:Int)=a∧fb (x:Int)=b∧fc (x:Int)=c∧fk (x:Int)=kk∧dI (x:Int)=if op=1 then ⟨1,a,0,0,kk⟩ else if op=6 then ⟨6,a,b,0,kk⟩ else ⟨op,a,b,c,0⟩:=by
 have h0:=vZ (x:Int);have h1:=uQ (x:Int);have h2:=wj (x:Int);have h3:=xP (x:Int);have h4:=wm (x:Int);refine ⟨(bu x).toNat,(fa x).toNat,(fb x).toNat,(fc x).toNat,(fk x).toNat,by omega,by omega,by omega,by omega,by omega,?_⟩;unfold dI;by_cases e1:bu (x:Int)=1
 ·rw [if_pos e1,if_pos (show (bu (x:Int)).toNat=1 by omega)]
 ·rw [if_neg e1,if_neg (show ¬(bu (x:Int)).toNat=1 by omega)];by_cases e6:bu (x:Int)=6
  ·rw [if_pos e6,if_pos (show (bu (x:Int)).toNat=6 by omega)]
  ·rw [if_neg e6,if_neg (show ¬(bu (x:Int)).toNat=6 by omega)]
def tS (ix:List Nat):List Int:=ix.map fun n:Nat=>(n:Int)
theorem Wv (ix:List Nat):(tS ix).length=ix.length:=by simp [tS]
theorem ar7 (ix:List Nat) (i:Nat):gz (tS ix) i=(ix.getD i 0:Nat):=by
 unfold gz tS;rw [bP,bP,iX];cases ix[i]?<;>rfl
theorem ar8 (ix:List Nat) (i v:Nat):(tS ix).set i (v:Int)=tS (ix.set i v):=by
 unfold tS;rw [List.map_set]
theorem ar9 (w:World):(Instr.makeSlice 121 (.int .i64 8) (.int .i64 8)).run au w= .ok (.slice (some ⟨w.heap.size,0,none⟩) 8 8) (w.alloc (.cells (S (tS (uM 8 0))) 3)):=by kernel_rfl
theorem asa {L:List aH} {m:Nat} {p:aH} (h:L[m]? =some p):idle (L.drop m)=if nd (L.drop (m+1)) p.d=true then p :: idle (L.drop (m+1)) else idle (L.drop (m+1)):=by
 rw [Zk h,idle]
theorem Qw (v:Nat) (h:v<256):aS 1 v=[UInt8.ofNat v]:=by
 simp only [aS,Nat.pow_zero,Nat.div_one];rw [Nat.mod_eq_of_lt h]
def eU (n:Int) (v:Nat):ByteArray:=ah (aS n.toNat v)
theorem asb (v:Nat) (n:Int) (w:World) (h:n=1∨n=4) (hv:v<9223372036854775808):
 av au 137 #[.int .i64 (v:Int),.int .i64 n] w fun e' w'=>e'= .returned (.string (eU n v))∧ak w.heap.size w w':=by
 rcases h with rfl | rfl
 ·exact qu v 1 w (by decide) hv
 ·exact qu v 4 w (by decide) hv
theorem asc (s:ByteArray) (w:World) (hs:s.size<=maxLen):
 av au 121 #[.string s] w (Fe s w):=by
 by_cases h:gi s
 ·have hs4:=h.1;have alI:=h.2.1;have hm4:=h.2.2.1;have lS:=af h;have uw:=af (TN s w h);have hnp:=uS s;have alK:s.size / 4 - 1<=jo s:=by unfold jo;split<;>omega
  have hbl:(dD s).length=jo s:=Eb s;have KW:∀k,k<jo s->(dD s)[k]? =some (dI (aX s k:Nat)):=fun k hk=>by
   unfold dD;rw [iX,List.getElem?_range hk];rfl
  have Bn:=af KW;have Ww:=af (Cr h);obtain ⟨inf,cJ,hz,cW,hby⟩:=G0;have gJ:=af cJ;have HZ:=af hz;have dR:=af cW;have gK:=af hby;have gR:Hid (aK (w.alloc (.cells (S (tS (uM 8 0))) 3)) w.heap.size 3 (tS (uM 8 0))):=bg w _;have bM:=af ((aA w.heap.size w).alloc (ax _) (.cells (S (tS (uM 8 0))) 3));clear KW h cJ hz cW hby;have mk8:=ar9;go_enter Tryz.func121,Tryz.ntmps121;go_wp2_with fail
  refine (aq uw).mono ?_;rintro e w' ⟨rfl,hw⟩;obtain rfl:=hw.symm;clear uw;go_wp2_with fail
  clear mk8;go_loopw [5,7] (fun v i wr=>∃(k j:Nat) (st:List aH×List aH) (ix:List Nat),k<=s.size / 4∧j=4 * k∧i= .int .i64 j∧Hid (st=((dD s).take k).foldl lJ lK∧Cs st.1 st.2 ix)∧wr.ownsRow (w.heap.size+1) 123 5 v st.2.length (dM st.2)∧aK wr w.heap.size 3 (tS ix)∧ak w.heap.size w wr) (fun _ i _=>s.size - (aI i).toNat)
  case atStart=>exact ⟨0,0,lK,uM 8 0,bK _,rfl,rfl,⟨rfl,Cs.zero⟩,j7 _ _ _ _,gR.out,bM.out⟩
  case round=>
   obtain ⟨k,j,st,ix,hk,hj,rfl,cH,hown,hrow,Ae⟩:=hrel;obtain ⟨va,vc,hv⟩:=bA hown;subst hv;have HO:=af hown;have bU:=af Ae;have l5:=af hrow;have HJ:=af hj;have dY:w.heap.size<wr.heap.size:=hrow.lt;by_cases hlt:k<s.size / 4
   ·have hlt':(j:Int)<(s.size:Int):=by omega
    have hj4:j+4<=s.size:=by omega
    have lQ:=JU s k;have hv:∀w',av au 169 #[.string s,.int .i64 (j:Int),.int .i64 4] w' fun e' w''=>e'= .returned (.int .i64 (aX s k:Nat))∧w''=w':=fun w'=>by
     have:=CG s j 4 w' (by decide) (by omega) (by omega);unfold aX;rw [<-hj];exact this
    have HV:=af hv;have hpl:=fun w'=>GF (aX s k:Nat) w' (by omega) (by omega);by_cases hkp:k<jo s
    ·have hpk:eV (aX s k:Nat)=true:=JV lS.out hkp;have qV:nH (bu (aX s k:Nat)) (fa (aX s k:Nat)) (fb (aX s k:Nat)) (fc (aX s k:Nat))=true:=hpk;rw [qV] at hpl;have gu:=af hpl;have hkn:=wF.fold Ww.out k (by omega);rw [<-cH.out.1] at hkn;have hok:=Ww.out _ (oK (Bn.out k hkp));have qt:Hid (lJ st (dI (aX s k:Nat))=((dD s).take (k+1)).foldl lJ lK):=by unfold Hid;rw [adl (Bn.out k hkp),<-cH.out.1]
     have Wx:lJ st (dI (aX s k:Nat))=(st.1.set (dI (aX s k:Nat)).d (pP st.1 (dI (aX s k:Nat))),st.2 ++ [pP st.1 (dI (aX s k:Nat))]):=rfl;rw [Wx] at qt;have afa:=hok.kn hkn.bd;have o9:=cH.out.2.step hkn.l8 hok.2.2.1;rw [Wx] at o9;have Fa:pP st.1 (dI (aX s k:Nat))=if lI (dI (aX s k:Nat)).kind=true∧(st.1.getD (dI (aX s k:Nat)).a dP).kind=1∧(st.1.getD (dI (aX s k:Nat)).b dP).kind=1 then ⟨1,(dI (aX s k:Nat)).d,0,0,(wk (dI (aX s k:Nat)).kind (st.1.getD (dI (aX s k:Nat)).a dP).k (st.1.getD (dI (aX s k:Nat)).b dP).k).toNat⟩ else dI (aX s k:Nat):=rfl
     have lP:=af Fa;generalize pP st.1 (dI (aX s k:Nat))=q at *;have o1:=af (fun w'=>uX (aX s k:Nat) w' (by omega) (by omega));have o2:=af (fun w'=>uY (aX s k:Nat) w' (by omega) (by omega));have o3:=af (fun w'=>uZ (aX s k:Nat) w' (by omega) (by omega));have o4:=af (fun w'=>wI (aX s k:Nat) w' (by omega) (by omega));have o5:=af (fun w'=>xT (aX s k:Nat) w' (by omega) (by omega));generalize aX s k=x at *;obtain ⟨op,a,b,c,kk,e0,e1,e2,e3,e4,yB⟩:=ar6 x;rw [e0] at o1;rw [e1] at o2;rw [e2] at o3;rw [e3] at o4;rw [e4] at o5;generalize dI (x:Int)=p at *;have hob:op<256∧a<16∧b<16∧c<16∧kk<4096:=by
      have h0:=vZ (x:Int);have h1:=uQ (x:Int);have h2:=wj (x:Int);have h3:=xP (x:Int);have h4:=wm (x:Int);omega
     clear Fa Wx;clear e0 e1 e2 e3 e4 hpk qV hpl hv hown hrow Ae hj;go_upto_region 10 with fail
     refine (aq HV _).mono ?_;rintro e w' ⟨rfl,hw⟩;obtain rfl:=hw.symm;go_upto_region 11 with fail
     refine (aq gu _).mono ?_;rintro e w' ⟨rfl,hw⟩;obtain rfl:=hw.symm;go_upto_region 13 with fail
     refine (aq o1 _).mono ?_;rintro e w' ⟨rfl,hw⟩;obtain rfl:=hw.symm;go_upto_region 14 with fail
     refine (aq o2 _).mono ?_;rintro e w' ⟨rfl,hw⟩;obtain rfl:=hw.symm;go_upto_region 15 with fail
     refine (aq o3 _).mono ?_;rintro e w' ⟨rfl,hw⟩;obtain rfl:=hw.symm;go_upto_region 16 with fail
     refine (aq o4 _).mono ?_;rintro e w' ⟨rfl,hw⟩;obtain rfl:=hw.symm;go_upto_region 17 with fail
     refine (aq o5 _).mono ?_;rintro e w' ⟨rfl,hw⟩;obtain rfl:=hw.symm;go_upto_region 17 with fail
     go_cut [15] from 25 to 134 (fun x wx=>x= .pointer (some ⟨wr.heap.size,0,none⟩)∧wx=wr.alloc (.cells #[.int .i64 (op:Int),.int .i64 (a:Int),.int .i64 (b:Int),.int .i64 (c:Int),.int .i64 0] 123))
     case first=>
      go_wp2_with fail
      go_meet
      exact ⟨rfl,rfl⟩
     case rest=>
     obtain ⟨rfl,rfl⟩:=hcut;rename_i LF;refine LF _ _ (wp_seq_k fun K2 rG=>?_);clear LF;go_cut [15] from 25 to 134 (fun y wx=>y= .pointer (some ⟨wr.heap.size,0,none⟩)∧Hid (ak wr.heap.size wr wx∧aK wx wr.heap.size 123 (fU q)))
     case first=>
      have pJ:Hid (∀o,ak wr.heap.size wr (wr.alloc o)):=fun o=>(aA _ _).alloc (ax _) _;have Wy:Hid (∀r:aH,aK (wr.alloc (.cells #[.int .i64 (r.kind:Int),.int .i64 (r.d:Int),.int .i64 (r.a:Int),.int .i64 (r.b:Int),.int .i64 (r.k:Int)] 123)) wr.heap.size 123 (fU r)):=fun r=>bg wr _;obtain ⟨k1,k6,d8,a8,b8,kb,_⟩:=hok;clear o9 qt afa HV gu o1 o2 o3 o4 o5 rG;by_cases h1:op=1
      ·subst h1;rw [if_pos rfl] at yB;subst yB;have hq:q=⟨1,a,0,0,kk⟩:=by rw [lP.out,if_neg (fun h=>by have:=h.1;simp [lI] at this)]
       subst hq;clear lP;go_wp2_with fail
       go_meet
       exact ⟨rfl,pJ.out _,Wy.out ⟨1,a,0,0,kk⟩⟩
      have h1':((op:Int) == 1)=false:=by rw [beq_eq_false_iff_ne];omega
      rw [if_neg h1] at yB;by_cases h6:op=6
      ·subst h6;rw [if_pos rfl] at yB;subst yB;have hq:q=⟨6,a,b,0,kk⟩:=by rw [lP.out,if_neg (fun h=>by have:=h.1;simp [lI] at this)]
       subst hq;clear lP;go_wp2_with fail
       go_meet
       exact ⟨rfl,pJ.out _,Wy.out ⟨6,a,b,0,kk⟩⟩
      have h6':((op:Int) == 6)=false:=by rw [beq_eq_false_iff_ne];omega
      rw [if_neg h6] at yB;subst yB;simp only at k1 k6 d8 a8 b8 lP;have har:lI op=true:=by unfold lI;rw [decide_eq_true_eq];omega
      obtain ⟨lb1,lb2,Jh⟩:=cH.out.2.at' b a8;obtain ⟨lc1,lc2,Ji⟩:=cH.out.2.at' c b8;have cb:=l5.out.cell b (by rw [Wv,cH.out.2.n8];exact a8);have cc:=l5.out.cell c (by rw [Wv,cH.out.2.n8];exact b8);rw [ar7] at cb cc;have a8':(b:Int)<8:=by omega
      have b8':(c:Int)<8:=by omega
      have pY:=af (Wy.out ⟨op,a,b,c,0⟩);generalize ix.getD b 0=ib at *;generalize ix.getD c 0=ic at *;have hXk:(st.1.getD b dP).k<4294967296:=hkn.bd _ (by rw [bP,bE (by rw [hkn.l8];exact a8)];exact lC _);have hYk:(st.1.getD c dP).k<4294967296:=hkn.bd _ (by rw [bP,bE (by rw [hkn.l8];exact b8)];exact lC _);generalize st.1.getD b dP=X at *;generalize st.1.getD c dP=Y at *;have hsame:¬(X.kind=1∧Y.kind=1)->q=⟨op,a,b,c,0⟩:=fun h=>by rw [lP.out,if_neg (fun hh=>h hh.2)]
      cases ib with
      | zero=>
        have hq:=hsame (fun h=>by rw [lb2 rfl] at h;exact absurd h.1 (by decide));subst hq;clear lP Jh Ji hsame;go_wp2_with fail
        go_meet
        exact ⟨rfl,pJ.out _,pY.out⟩
      | succ jb=>
        have UN:=Jh jb rfl;have hib:(0:Int)<((jb+1:Nat):Int):=by omega
        have axb:((jb+1:Nat):Int) - 1=(jb:Int):=by omega
        have hjl:jb<st.2.length:=(fG.1 UN).1;have hkl:st.2.length<=8:=by have:=hkn.len;omega
        obtain ⟨g,cap,hform,_,hgl⟩:=HO.out.form (by omega);cases hform;obtain ⟨x0,x1,x2,x3,x4⟩:=wP HO.out jb X UN;have L3:(jb:Int)<(st.2.length:Int):=by omega
        cases ic with
        | zero=>
          have hq:=hsame (fun h=>by rw [lc2 rfl] at h;exact absurd h.2 (by decide));subst hq;clear lP Jh Ji hsame;go_wp2_with fail
          go_meet
          exact ⟨rfl,pJ.out _,pY.out⟩
        | succ jc=>
          have hjc:=Ji jc rfl;have hic:(0:Int)<((jc+1:Nat):Int):=by omega
          have axc:((jc+1:Nat):Int) - 1=(jc:Int):=by omega
          have hjm:jc<st.2.length:=(fG.1 hjc).1;have axe:(jc:Int)<(st.2.length:Int):=by omega
          obtain ⟨y0,y1,y2,y3,y4⟩:=wP HO.out jc Y hjc;by_cases BT:X.kind=1
          ·have VL:((X.kind:Int) == 1)=true:=by rw [beq_iff_eq];omega
           by_cases hY1:Y.kind=1
           ·have asg:((Y.kind:Int) == 1)=true:=by rw [beq_iff_eq];omega
            have hr:=fun w'=>Sc op X.k Y.k w' (by omega) (by omega) (by omega) (by omega) (by unfold lI at har;rw [decide_eq_true_eq] at har;omega) (by unfold lI at har;rw [decide_eq_true_eq] at har;omega);have je:=A8 op X.k Y.k (by omega) (by omega) (by omega) (by omega);have hq:q=⟨1,a,0,0,(wk op X.k Y.k).toNat⟩:=by rw [lP.out,if_pos ⟨har,BT,hY1⟩]
            obtain ⟨cz,hcz⟩:=Int.eq_ofNat_of_zero_le je.1;rw [hcz] at hr hq;rw [Int.toNat_natCast] at hq;have Vi:=af hr;subst hq;clear lP Jh Ji hsame hr je hcz;go_wp2_with fail
            go_quiet ((go_at_call 166;exact Calls.quiet_of_same (aq Vi _)))
            go_wp2_with fail
            go_meet
            exact ⟨rfl,LD (dH (pJ.out _) nq) (ax _) 0 ⟨1,a,0,0,cz⟩,Vh (aK.keep (w':=(wr.alloc (.cells #[.int .i64 (op:Int),.int .i64 (a:Int),.int .i64 (b:Int),.int .i64 (c:Int),.int .i64 0] 123)).drewN nq) pY.out rfl) 0 ⟨1,a,0,0,cz⟩⟩
           ·have asg:((Y.kind:Int) == 1)=false:=by rw [beq_eq_false_iff_ne];omega
            have hq:=hsame (fun h=>hY1 h.2);subst hq;clear lP Jh Ji hsame;go_wp2_with fail
            go_meet
            exact ⟨rfl,pJ.out _,pY.out⟩
          ·have VL:((X.kind:Int) == 1)=false:=by rw [beq_eq_false_iff_ne];omega
           have hq:=hsame (fun h=>BT h.1);subst hq;clear lP Jh Ji hsame;go_wp2_with fail
           go_meet
           exact ⟨rfl,pJ.out _,pY.out⟩
     case rest=>
     obtain ⟨rfl,HC⟩:=hcut;obtain ⟨hbc,hpc⟩:=HC.out;have hpd:p.d=a:=by
      rw [yB];split
      ·rfl
      ·split<;>rfl
     have Qq:=hok.2.2.1;rw [hpd] at qt o9 Qq;have s0:=hpc.cell 0 (by simp [fU]);have s1:=hpc.cell 1 (by simp [fU]);have s2:=hpc.cell 2 (by simp [fU]);have s3:=hpc.cell 3 (by simp [fU]);have s4:=hpc.cell 4 (by simp [fU]);simp only [gz,fU,List.getD_cons_zero,List.getD_cons_succ] at s0 s1 s2 s3 s4;have Wz:=dX HO.out hbc;have hwc:=hbc.size;have hcl:=hpc.lt;have hrc:aK wc w.heap.size 3 (tS ix):=l5.out.keep (hbc.block _ dY);have Fc:Hid (ak w.heap.size w wc):=bU.out.trans (hbc.mono (by omega));have hkl:st.2.length<=8:=by have:=hkn.len;omega
     have jA:Hid (∀o w3,(wc.alloc o).grownBy w3 (Value.slice va st.2.length vc).ownBlock->aK w3 w.heap.size 3 (tS ix)):=fun o w3 hg=>by
      refine hrc.keep ((hg.block _ (by rw [aB];omega) (fun e=>?_)).trans (Below.heap_alloc wc _ _ (by omega)));have:=(aR Wz _ e.symm).1;omega
     have hil:(tS ix).length=8:=by rw [Wv,cH.out.2.n8]
     have axf:(a:Int)<8:=by omega
     have jy:=af Wz;have ash:=af o9;clear o9 Wz hrc hbc hpc lP hok afa yB HV gu o1 o2 o3 o4 o5 hpd hkn;obtain ⟨q0,q1,q2,q3,q4⟩:=q;simp only at s0 s1 s2 s3 s4;refine rG _ _ ?_;go_wp2_with (at_builtin;refine wpList_append_lies _ rfl _ _ 125 rfl (w.heap.size+1) 123 inf _ 5 40 Tryz.underlying125 gJ.out HZ.out dR.out gK.out rfl (by decide) (.slice va st.2.length vc) st.2.length (dM st.2) rfl (jy.out.alloc _) ⟨wc.heap.size,0,none⟩ 1 1 [.int .i64 (q0:Int),.int .i64 (q1:Int),.int .i64 (q2:Int),.int .i64 (q3:Int),.int .i64 (q4:Int)] rfl rfl (World.news_of_block (bg wc _)) (fun u hu=>by simp at hu;rcases hu with rfl | rfl | rfl | rfl | rfl<;>rfl) (by decide) (by unfold maxLen;omega) (by omega) (by rw [aB];omega) (wc.heap.size+1) (by rw [aB]) ?_;intro wL cap2 w3 jQ js nO sY;have iR:=af jQ;have j8:=af js;have hrr:=jA.out _ w3 js;have ca:=hrr.cell a (by omega);have fz:=hrr.frozen a;have asi:=af hrr;clear jQ js nO hrr)
     refine ⟨⟨k+1,j+4,(st.1.set a ⟨q0,q1,q2,q3,q4⟩,st.2 ++ [⟨q0,q1,q2,q3,q4⟩]),ix.set a (st.2.length+1),by omega,by have:=HJ.out;omega,by go_num,⟨qt.out,ash.out⟩,?_,?_,?_⟩,by simp [aI];omega⟩
     ·rw [En,dK];refine dz iR.out (fun g hg=>dU _ _ ?_);have:=(aR iR.out g hg).1;omega
     ·rw [<-ar8,show ((st.2.length+1:Nat):Int)=(st.2.length:Int)+1 by omega];exact asi.out.set a _
     ·exact ((Fc.out.alloc (by omega) _).grown j8.out (by rw [aB];omega) (fun g hg=>by have:=(aR jy.out g hg).1;omega)).setCell (p:=⟨w.heap.size,a,none⟩) (ax _) _
    ·have hnk:jo s=k:=by omega
     have hpk:eV (aX s k:Nat)=false:=by
      cases hq:eV (aX s k:Nat)
      ·rfl
      ·exfalso;unfold jo at hkp;have e:s.size / 4 - 1=k:=by omega
       rw [e,hq,if_pos rfl] at hkp;exact hkp hlt
     have qV:nH (bu (aX s k:Nat)) (fa (aX s k:Nat)) (fb (aX s k:Nat)) (fc (aX s k:Nat))=false:=hpk;rw [qV] at hpl;have gu:=af hpl;have asj:Hid (st=((dD s).take (k+1)).foldl lJ lK∧Cs st.1 st.2 ix):=by
      refine ⟨?_,cH.out.2⟩;rw [mO (by omega)];have:=cH.out.1;rw [mO (by omega)] at this;exact this
     clear hpk qV hpl hv hown hrow Ae hj hkp hnk;generalize aX s k=x at *;go_wp2_with fail
     refine (aq HV _).mono ?_;rintro e w' ⟨rfl,hw⟩;obtain rfl:=hw.symm;go_wp2_with fail
     refine (aq gu _).mono ?_;rintro e w' ⟨rfl,hw⟩;obtain rfl:=hw.symm;go_wp2_with fail
     exact ⟨⟨k+1,j+4,st,ix,by omega,by have:=HJ.out;omega,by go_num,asj.out,HO.out,l5.out,bU.out⟩,by simp [aI];omega⟩
   ·have hlt':¬(j:Int)<(s.size:Int):=by omega
    have hL:st.2=wE (dD s):=by
     have:=cH.out.1;rw [mO (by omega)] at this;rw [this];rfl
    have WA:=JW Ww.out;rw [<-hL,hbl] at WA;have HP:Hid (gQ (xR s)=gQ (idle st.2)):=by unfold Hid xR;rw [<-hL]
    have G9:st.2.length<=8:=by omega
    have asl:=af WA.1;generalize st.2=L at *;have hwr:=bU.out.size;clear hown hrow Ae hj hL WA cH;obtain ⟨wo,Ep⟩:∃wo,wo=wr:=⟨_,rfl⟩;subst Ep;go_wp2_with fail
    go_loopw [17,18] (fun t i wx=>∃(m:Nat) (T:List UInt8),m<=L.length∧i= .int .i64 m∧t= .string (ah T)∧T.length<=8 * m∧Hid (T ++ gQ (idle (L.drop m))=gQ (idle L))∧Hid (ak wo.heap.size wo wx)) (fun _ i _=>L.length - (aI i).toNat)
    case atStart=>exact ⟨0,[],bK _,rfl,rfl,ax _,rfl,aA _ _⟩
    case round=>
     obtain ⟨m,T,hm,rfl,rfl,hTl,HT,pM⟩:=hrel;by_cases sY:m<L.length
     ·have asn:(m:Int)<(L.length:Int):=by omega
      have za:=dX HO.out pM.out;have Qx:=af (ar2 (w.heap.size+1) L G9 _ m (ax _) sY _ wr za);have hp:=getD_some sY;have hid:=asa hp;have Bp:=asl.out _ (oK hp);generalize L.getD m dP=p at *;obtain ⟨g,cap,hform,_,hgl⟩:=za.form (by omega);cases hform;have aJ:Hid (ak w.heap.size w wr):=bU.out.trans (pM.out.mono hwr);cases hq:nd (L.drop (m+1)) p.d
      ·rw [hq] at Qx;rw [hq,if_neg (by decide)] at hid;rw [hid] at HT;clear za hp hid hq Bp;go_wp2_with fail
       refine (aq Qx).mono ?_;rintro e w1 ⟨rfl,hb1⟩;have aZ:Hid (ak wo.heap.size wo w1):=pM.out.trans (hb1.mono pM.out.size);clear hb1;go_wp2_with fail
       exact ⟨⟨m+1,T,by omega,by go_num,rfl,by omega,HT.out,aZ.out⟩,by simp [aI];omega⟩
      ·rw [hq] at Qx;rw [hq,if_pos rfl] at hid;rw [hid] at HT;obtain ⟨x0,x1,x2,x3,x4⟩:=wP za m p hp;have Ap:Hid ((T ++ rT p) ++ gQ (idle (L.drop (m+1)))=gQ (idle L)):=by
        unfold Hid;rw [<-HT.out];simp [gQ]
       have afe:(T ++ rT p).length<=8 * (m+1):=by rw [dK,R5];omega
       have aso:=af afe;obtain ⟨p0,p1,p2,p3,p4⟩:=p;obtain ⟨k1,k6,d8,a8,b8,kb,_⟩:=Bp;simp only at k1 k6 d8 a8 b8 kb x0 x1 x2 x3 x4;have NR:=af asb;have HD:Hid (((((ah T ++ eU 1 p0) ++ eU 1 p1) ++ eU 1 p2) ++ eU 1 p3) ++ eU 4 p4=ah (T ++ rT ⟨p0,p1,p2,p3,p4⟩)):=by
        unfold Hid eU;simp only [Int.reduceToNat];rw [Qw p0 (by omega),Qw p1 (by omega),Qw p2 (by omega),Qw p3 (by omega)];simp only [mC];simp [rT]
       have z0:(eU 1 p0).size<=8:=by unfold eU;rw [bZ,iF];decide
       have z1:(eU 1 p1).size<=8:=by unfold eU;rw [bZ,iF];decide
       have z2:(eU 1 p2).size<=8:=by unfold eU;rw [bZ,iF];decide
       have z3:(eU 1 p3).size<=8:=by unfold eU;rw [bZ,iF];decide
       have z4:(eU 4 p4).size<=8:=by unfold eU;rw [bZ,iF];decide
       have zt:(ah T).size<=64:=by rw [bZ];omega
       generalize ah T=DT at *;have c1:∀w',(Cl .add DT (eU 1 p0)).run au w'= .ok (.string (DT ++ (eU 1 p0))) w':=fun w'=>JD w' DT (eU 1 p0) (by omega);have c2:∀w',(Cl .add (DT ++ (eU 1 p0)) (eU 1 p1)).run au w'= .ok (.string (DT ++ (eU 1 p0) ++ (eU 1 p1))) w':=fun w'=>JD w' _ (eU 1 p1) (by simp only [Rj];omega);have c3:∀w',(Cl .add (DT ++ (eU 1 p0) ++ (eU 1 p1)) (eU 1 p2)).run au w'= .ok (.string (DT ++ (eU 1 p0) ++ (eU 1 p1) ++ (eU 1 p2))) w':=fun w'=>JD w' _ (eU 1 p2) (by simp only [Rj];omega);have c4:∀w',(Cl .add (DT ++ (eU 1 p0) ++ (eU 1 p1) ++ (eU 1 p2)) (eU 1 p3)).run au w'= .ok (.string (DT ++ (eU 1 p0) ++ (eU 1 p1) ++ (eU 1 p2) ++ (eU 1 p3))) w':=fun w'=>JD w' _ (eU 1 p3) (by simp only [Rj];omega);have c5:∀w',(Cl .add (DT ++ (eU 1 p0) ++ (eU 1 p1) ++ (eU 1 p2) ++ (eU 1 p3)) (eU 4 p4)).run au w'= .ok (.string (DT ++ (eU 1 p0) ++ (eU 1 p1) ++ (eU 1 p2) ++ (eU 1 p3) ++ (eU 4 p4))) w':=fun w'=>JD w' _ (eU 4 p4) (by simp only [Rj];omega);have b0:p0<9223372036854775808:=by omega
       have b1:p1<9223372036854775808:=by omega
       have b2:p2<9223372036854775808:=by omega
       have b3:p3<9223372036854775808:=by omega
       have b4:p4<9223372036854775808:=by omega
       have B0:=af b0;have B1:=af b1;have B2:=af b2;have B3:=af b3;have B4:=af b4;clear z0 z1 z2 z3 z4 zt b0 b1 b2 b3 b4 k1 k6 d8 a8 b8 kb afe;clear za hp hid hq HT;go_wp2_with fail
       refine (aq Qx).mono ?_;rintro e w1 ⟨rfl,hb1⟩;have aZ:Hid (ak wo.heap.size wo w1):=pM.out.trans (hb1.mono pM.out.size);have x0:=(dZ hb1 g _ hgl).trans x0;have x1:=(dZ hb1 g _ hgl).trans x1;have x2:=(dZ hb1 g _ hgl).trans x2;have x3:=(dZ hb1 g _ hgl).trans x3;have x4:=(dZ hb1 g _ hgl).trans x4;have hgl:=dB hgl hb1.size;clear hb1;go_upto_region 33 with fail
       go_region_held3 (fun w'=>w'.cell? ⟨g,m * 5,none⟩=some (.int .i64 (p0:Int))∧w'.cell? ⟨g,m * 5+1,none⟩=some (.int .i64 (p1:Int))∧w'.cell? ⟨g,m * 5+1+1,none⟩=some (.int .i64 (p2:Int))∧w'.cell? ⟨g,m * 5+1+1+1,none⟩=some (.int .i64 (p3:Int))∧w'.cell? ⟨g,m * 5+1+1+1+1,none⟩=some (.int .i64 (p4:Int))) (go_keep) ((go_at_call 137;refine (aq NR _ _ _ (by first | exact .inl rfl | exact .inr rfl) (by first | exact B0.out | exact B1.out | exact B2.out | exact B3.out | exact B4.out)).mono ?_;rintro e w2 ⟨rfl,hb2⟩;have aZ:Hid (ak wo.heap.size wo w2):=(by first | exact aZ.out.trans (hb2.mono aZ.out.size) | exact aZ.out.drew.trans (hb2.mono aZ.out.drew.size));have kk:=fun j=>dZ hb2 g j (by first | exact hgl | assumption);have hgl:g<w2.heap.size:=dB (by first | exact hgl | assumption) hb2.size))
       go_wp2_with fail
       exact ⟨⟨m+1,T ++ rT ⟨p0,p1,p2,p3,p4⟩,by omega,by go_num,by rw [HD.out],aso.out,Ap.out,aZ.out⟩,by simp [aI];omega⟩
     ·have asn:¬(m:Int)<(L.length:Int):=by omega
      have hme:m=L.length:=by omega
      have HE:Hid (T=gQ (xR s)):=by
       unfold Hid;have:=HT.out;rw [hme,List.drop_length] at this;rw [HP.out,<-this];simp [gQ,idle]
      have Bo:Hid (ak w.heap.size w wr):=bU.out.trans (pM.out.mono hwr);go_wp2_with fail
      go_ret2
      refine ⟨Bo.out,.inl ⟨lS.out,?_⟩⟩;rw [<-HE.out];rfl
 ·have uw:=af (TP s w h hs);have HN:=af h;clear h;go_enter Tryz.func121,Tryz.ntmps121;go_wp2_with fail
  refine (aq uw).mono ?_;rintro e w' ⟨rfl,hw⟩;obtain rfl:=hw.symm;go_wp2_with fail
  go_ret2
  exact ⟨aA _ _,.inr ⟨HN.out,rfl⟩⟩
end
end Go.Proofs.YtmmflekajbeamaaGreatDoor
