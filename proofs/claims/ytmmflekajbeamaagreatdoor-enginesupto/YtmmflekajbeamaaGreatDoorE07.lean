/- Texts of ours, joined, in few bytes. -/
import Derived.Test.YtmmflekajbeamaaGreatDoorE06
import Derived.Lib.BufferRead
open ByteArray renaming size_extract->rP
open Go renaming Calls->av,Value->aj,block_lt_of_cell->mA,bodyPost_ret->cL,heap_alloc_new->bg,maxLen->cP,results->zm,wpList_append_lies->vV
open Go.Proofs.Tryz renaming func219->X6,ntmps219->X7,prog->au,results189->Ya,underlying136->DV,underlying187->nE,underlying5->XR,underlying9->Cj
open Go.Result renaming andThen->kN
open Go.RowKit renaming Below->ak,intOf->aI
open Go.RowKit.Below renaming heap_alloc->cM,refl->aA
open Go.World renaming cell?_alloc_at->kC,news_of_block->mP,ownsRow_nil->j7
open Int renaming toNat_of_nonneg->vW
open List renaming append_assoc->DK,getD_eq_getElem?_getD->bP,getElem?_eq_getElem->bE,getElem_mem->lC,length_append->dK,set_cons_zero->X8
open Nat renaming add_comm->DR,le_of_lt->iP,le_refl->ax,zero_le->bK
open Option renaming map_some->AO
open Option.some renaming injEq->Ci
open Prod.mk renaming injEq->vU
open UInt8 renaming ofNat->iC
namespace Go.Proofs.YtmmflekajbeamaaGreatDoor
set_option maxRecDepth 100000
set_option maxHeartbeats 2000000
open Go.RowKit
def xY (v:Int):Array aj:=#[.int .i64 (bu v),.int .i64 (fa v),.int .i64 (fb v),.int .i64 (fc v),.int .i64 (fk v)]
theorem SE {op a b c:Int} (h:op=1∨op=6∨qq op=true):nH op a b c=gW op a b c:=by
 unfold qq at h;rw [decide_eq_true_eq] at h;exact RP op a b c (by omega) (by omega) (by omega) (by omega) (by omega)
theorem ai0 {op a b c:Int} (h1:¬op=1) (h6:¬op=6) (ha:qq op=false):nH op a b c=false:=by
 unfold qq at ha;rw [decide_eq_false_iff_not] at ha;unfold nH;rw [if_neg h1,if_neg ha,if_neg h6]
theorem ai1 (v:Int) (w:World) (ht:bF w):
 av au 219 #[.agg (xY v)] w fun e' w'=>e'= .returned (.bool (eV v))∧ak w.heap.size w w':=by
 have hf:=vZ v;unfold eV xY;have HA:=af (fun w'=>CH (bu v) w');have HI:=af (fun w' (hb:ak w.heap.size w w')=>Se (bu v) (fa v) (fb v) (fc v) (fk v) w' hf.1 (ht.below ht.pos hb));generalize bu v=op at *;generalize fa v=a at *;generalize fb v=b at *;generalize fc v=c at *;generalize fk v=k at *;have hb1:=af ((aA w.heap.size w).alloc (ax _) (.cells #[.int .i64 op,.int .i64 a,.int .i64 b,.int .i64 c,.int .i64 k] 212));have hfin:∀w1,ak (w.alloc (.cells #[.int .i64 op,.int .i64 a,.int .i64 b,.int .i64 c,.int .i64 k] 212)).heap.size (w.alloc (.cells #[.int .i64 op,.int .i64 a,.int .i64 b,.int .i64 c,.int .i64 k] 212)) w1->ak w.heap.size w w1:=fun w1 h=>hb1.out.trans (h.mono (by rw [aB];omega));have eO:=af hfin;clear hfin;by_cases h1:op=1
 ·subst h1;have HE:Hid (nH 1 a b c=gW 1 a b c):=SE (.inl rfl);go_enter X6,X7;go_wp2_with fail
  refine (aq HI _ hb1.out).mono ?_;rintro e w1 ⟨rfl,hb2⟩;have aZ:=af hb2;clear hb2;go_wp2_with fail
  go_ret;exact ⟨iv HE.out.symm,eO.out _ aZ.out⟩
 ·have h1':(op == 1)=false:=by simpa using h1
  by_cases h6:op=6
  ·subst h6;have HE:Hid (nH 6 a b c=gW 6 a b c):=SE (.inr (.inl rfl));go_enter X6,X7;go_wp2_with fail
   refine (aq HI _ hb1.out).mono ?_;rintro e w1 ⟨rfl,hb2⟩;have aZ:=af hb2;clear hb2;go_wp2_with fail
   go_ret;exact ⟨iv HE.out.symm,eO.out _ aZ.out⟩
  ·have h6':(op == 6)=false:=by simpa using h6
   cases har:qq op
   ·have HE:Hid (nH op a b c=false):=ai0 h1 h6 har;rw [har] at HA;clear har h1 h6;go_enter X6,X7;go_wp2_with fail
    refine (aq HA _).mono ?_;rintro e w' ⟨rfl,hw⟩;obtain rfl:=hw.symm;go_wp2_with fail
    go_ret;exact ⟨iv HE.out.symm,hb1.out⟩
   ·have HE:Hid (nH op a b c=gW op a b c):=SE (.inr (.inr har));rw [har] at HA;clear har h1 h6;go_enter X6,X7;go_wp2_with fail
    refine (aq HA _).mono ?_;rintro e w' ⟨rfl,hw⟩;obtain rfl:=hw.symm;go_wp2_with fail
    refine (aq HI _ hb1.out).mono ?_;rintro e w1 ⟨rfl,hb2⟩;have aZ:=af hb2;clear hb2;go_wp2_with fail
    go_ret;exact ⟨iv HE.out.symm,eO.out _ aZ.out⟩
def aD (ws:List Nat):List Int:=(ws.length:Int) :: (nI ws ++ zr (8 - ws.length))
theorem nT {ws:List Nat} (h:ws.length<=8):(aD ws).length=9:=by simp [aD,nS,rZ];omega
theorem CO (ws:List Nat):gz (aD ws) 0=ws.length:=rfl
theorem Ku {ws:List Nat} {i:Nat} (h:i<ws.length):gz (aD ws) (1+i)=(ws.getD i 0:Nat):=by
 rw [<-SD];unfold gz aD;rw [bP,bP,DR 1 i,List.getElem?_cons_succ,List.getElem?_append_left (by rw [nS];exact h)]
theorem ai2 (n:Nat):zr (n+1)=0 :: zr n:=rfl
theorem ai3 {ws:List Nat} (h:ws.length<8) (v:Nat):((aD ws).set (1+ws.length) (v:Int)).set 0 ((ws.length:Int)+1)=aD (ws ++ [v]):=by
 unfold aD;rw [DR 1 ws.length,List.set_cons_succ,X8,List.set_append_right _ _ (by rw [nS];exact ax _),nS,Nat.sub_self,show 8 - ws.length=(8 - (ws.length+1))+1 by omega,ai2,X8,dK,List.length_singleton];congr 1;have e:nI (ws ++ [v])=nI ws ++ [(v:Int)]:=by simp [nI]
 rw [e,DK];rfl
def iw (ws:List Nat):Nat:=if 0<ws.length∧eV (ws.getD (ws.length - 1) 0:Nat)=false then ws.length - 1 else ws.length
theorem iT:(Tryz.prog.info? 187).map (·.size)=some 9:=by kernel_rfl
theorem Ey (w:World):(zeroValue 187).run au w= .ok (.agg (S (aD []))) w:=by kernel_rfl
theorem SF (ws:List Nat) (w:World) (ht:bF w) (hl:ws.length<=8) (hw:∀v∈ws,v<4294967296):
 av au 183 #[.agg (S (aD ws))] w fun e' w'=>e'= .returned (.int .i64 (iw ws:Nat))∧ak w.heap.size w w':=by
 have h0:=gP (aD ws) 0 (by rw [nT hl];decide);rw [CO] at h0;have hb1:=af ((aA w.heap.size w).alloc (ax _) (.cells (S (aD ws)) 187));by_cases hp:0<ws.length
 ·obtain ⟨m,hm⟩:∃m,ws.length=m+1:=⟨ws.length - 1,by omega⟩;have h1:=gP (aD ws) (1+m) (by rw [nT hl];omega);rw [Ku (by omega)] at h1;have hv:ws.getD m 0<4294967296:=by
   rw [bP,bE (by omega)];exact hw _ (lC _)
  have HN:Hid (iw ws=if eV (ws.getD m 0:Nat)=false then m else m+1):=by
   unfold Hid iw;rw [hm,Nat.add_sub_cancel];by_cases hq:eV (ws.getD m 0:Nat)=false
   ·rw [if_pos ⟨by omega,hq⟩,if_pos hq]
   ·rw [if_neg (fun h=>hq h.2),if_neg hq]
  have CP:=af (fun w'=>NN (ws.getD m 0:Nat) w' (by omega) (by omega));have gu:=af (fun w' (hb:ak w.heap.size w w')=>ai1 (ws.getD m 0:Nat) w' (ht.below ht.pos hb));simp only [xY] at gu;rw [hm] at h0;have e0:((m+1:Nat):Int)=(m:Int)+1:=by omega
  rw [e0] at h0;have Oi:(m:Int)<8:=by omega
  have hm7:m<8:=by omega
  generalize ws.getD m 0=v at *;clear hm hp e0;generalize aD ws=z at *;cases hq:eV (v:Int)
  ·rw [hq] at gu HN;clear hq;go_enter Tryz.func183,Tryz.ntmps183;go_wp2_with fail
   refine (aq CP _).mono ?_;rintro e w1 ⟨rfl,hb2⟩;have fY:ak w.heap.size w w1:=hb1.out.trans (hb2.mono (by rw [aB];omega));have c0:w1.cell? ⟨w.heap.size,0,none⟩=some (.int .i64 ((m:Int)+1)):=by rw [dZ hb2 _ _ (by rw [aB];omega),kC (hn:=rfl)];exact h0
   have aZ:=af fY;have hz2:w.heap.size<w1.heap.size:=mA c0;clear hb2 fY;go_wp2_with fail
   refine (aq gu _ aZ.out).mono ?_;rintro e w2 ⟨rfl,bn⟩;have d0:w2.cell? ⟨w.heap.size,0,none⟩=some (.int .i64 ((m:Int)+1)):=by rw [dZ bn _ _ hz2];exact c0
   have iM:Hid (ak w.heap.size w w2):=aZ.out.trans (bn.mono (iP hz2));clear bn;go_wp2_with fail
   go_ret;exact ⟨xS (by rw [HN.out];simp),iM.out⟩
  ·rw [hq] at gu HN;clear hq;go_enter Tryz.func183,Tryz.ntmps183;go_wp2_with fail
   refine (aq CP _).mono ?_;rintro e w1 ⟨rfl,hb2⟩;have fY:ak w.heap.size w w1:=hb1.out.trans (hb2.mono (by rw [aB];omega));have c0:w1.cell? ⟨w.heap.size,0,none⟩=some (.int .i64 ((m:Int)+1)):=by rw [dZ hb2 _ _ (by rw [aB];omega),kC (hn:=rfl)];exact h0
   have aZ:=af fY;have hz2:w.heap.size<w1.heap.size:=mA c0;clear hb2 fY;go_wp2_with fail
   refine (aq gu _ aZ.out).mono ?_;rintro e w2 ⟨rfl,bn⟩;have d0:w2.cell? ⟨w.heap.size,0,none⟩=some (.int .i64 ((m:Int)+1)):=by rw [dZ bn _ _ hz2];exact c0
   have iM:Hid (ak w.heap.size w w2):=aZ.out.trans (bn.mono (iP hz2));clear bn;go_wp2_with fail
   go_ret;exact ⟨xS (by rw [HN.out];simp),iM.out⟩
 ·have hn:ws.length=0:=by omega
  rw [hn] at h0;have HN:Hid (iw ws=0):=by unfold Hid iw;rw [if_neg (fun h=>hp h.1),hn]
  clear hp hn;generalize aD ws=z at *;have h0':(S z)[0]? =some (.int .i64 0):=h0;clear h0;go_enter Tryz.func183,Tryz.ntmps183;go_wp2_with fail
  go_ret;exact ⟨xS (by rw [HN.out];rfl),hb1.out⟩
attribute [local go_sem] Go.wp_at_zero Go.wp_at_succ
theorem S9 {z:List Int} (h:z.length=9):S z=#[.int .i64 (gz z 0),.int .i64 (gz z 1),.int .i64 (gz z 2),.int .i64 (gz z 3),.int .i64 (gz z 4),.int .i64 (gz z 5),.int .i64 (gz z 6),.int .i64 (gz z 7),.int .i64 (gz z 8)]:=by
 match z,h with
 | [a,b,c,d,e,f,g,x,y],_=>rfl
def wQ (ws:List Nat):Bool:=decide (ws.length<8∧iw ws=ws.length)
theorem aam (ws:List Nat) (w:World) (ht:bF w) (hl:ws.length<=8) (hw:∀v∈ws,v<4294967296):
 av au 180 #[.agg (S (aD ws))] w fun e' w'=>e'= .returned (.bool (wQ ws))∧ak w.heap.size w w':=by
 have hzl:=nT hl;have hx:∀i,i<9->(S (aD ws))[i]? =some (.int .i64 (gz (aD ws) i)):=fun i hi=>gP _ i (by omega);have h0:=hx 0 (by decide);rw [CO] at h0;have hb1:=af ((aA w.heap.size w).alloc (ax _) (.cells (S (aD ws)) 187));by_cases h8:ws.length<8
 ·have h8':(ws.length:Int)<8:=by omega
  have HP:=af (fun w' (hb:ak w.heap.size w w')=>SF ws w' (ht.below ht.pos hb) hl hw);rw [S9 hzl,CO] at HP;have x1:=hx 1 (by decide);have x2:=hx 2 (by decide);have x3:=hx 3 (by decide);have x4:=hx 4 (by decide);have x5:=hx 5 (by decide);have x6:=hx 6 (by decide);have x7:=hx 7 (by decide);have x8:=hx 8 (by decide);have HG:Hid ((((iw ws:Nat):Int) == (ws.length:Int))=wQ ws):=by
   unfold Hid wQ;rw [Bool.eq_iff_iff,beq_iff_eq,decide_eq_true_eq];omega
  clear hx hzl;generalize aD ws=z at *;generalize wQ ws=gr at *;generalize iw ws=pn at *;generalize ws.length=n at *;go_enter Tryz.func180,Tryz.ntmps180;go_wp2_with fail
  go_region_held3 (fun w'=>w'.cell? ⟨w.heap.size,0,none⟩=some (.int .i64 (n:Int))∧w'.cell? ⟨w.heap.size,1,none⟩=some (.int .i64 (gz z 1))∧w'.cell? ⟨w.heap.size,2,none⟩=some (.int .i64 (gz z 2))∧w'.cell? ⟨w.heap.size,3,none⟩=some (.int .i64 (gz z 3))∧w'.cell? ⟨w.heap.size,4,none⟩=some (.int .i64 (gz z 4))∧w'.cell? ⟨w.heap.size,5,none⟩=some (.int .i64 (gz z 5))∧w'.cell? ⟨w.heap.size,6,none⟩=some (.int .i64 (gz z 6))∧w'.cell? ⟨w.heap.size,7,none⟩=some (.int .i64 (gz z 7))∧w'.cell? ⟨w.heap.size,8,none⟩=some (.int .i64 (gz z 8))) (go_keep) ((go_at_call 183;refine (aq HP _ hb1.out.drew).mono ?_;rintro e w1 ⟨rfl,hb2⟩;have kk:=fun j=>dZ hb2 w.heap.size j (by show w.heap.size<(w.alloc _).heap.size;rw [aB];omega)))
  have aZ:Hid (ak w.heap.size w w1):=(hb1.out.drew).trans (hb2.mono (by show w.heap.size<=(w.alloc _).heap.size;rw [aB];omega));clear hb2 kk;go_wp2_with fail
  go_ret;exact ⟨iv HG.out,aZ.out⟩
 ·have h8':decide ((ws.length:Int)<8)=false:=by simp;omega
  have HG:Hid (wQ ws=false):=by unfold Hid wQ;rw [decide_eq_false_iff_not];exact fun h=>h8 h.1
  clear hx hzl;generalize aD ws=z at *;go_enter Tryz.func180,Tryz.ntmps180;go_wp2_with fail
  go_quiet (fail)
  go_wp2_with fail
  go_ret;exact ⟨iv HG.out.symm,below_drewN hb1.out nq⟩
theorem aan (N:Nat) (ws:List Nat) (v:Nat) (w:World) (h:aK w N 187 (aD ws)) (hl:ws.length<8):
 av au 181 #[.pointer (some ⟨N,0,none⟩),.int .i64 (v:Int)] w fun e' w'=>e'= .returned (.tuple #[])∧aK w' N 187 (aD (ws ++ [v]))∧(∀B,B<=N->ak B w w')∧∀g,g≠N->w'.heap[g]? =w.heap[g]?:=by
 have hzl:=nT (iP hl);have c0:=h.cell 0 (by omega);rw [CO] at c0;have c1:=h.cell (1+ws.length) (by omega);have f0:=h.frozen 0;have f1:=h.frozen (1+ws.length);have HF:Hid (aK ((w.drew.setCell ⟨N,1+ws.length,none⟩ (.int .i64 (v:Int))).setCell ⟨N,0,none⟩ (.int .i64 ((ws.length:Int)+1))) N 187 (aD (ws ++ [v]))):=by
  have:=((aK.keep (w':=w.drew) h rfl).set (1+ws.length) (v:Int)).set 0 ((ws.length:Int)+1);rw [ai3 hl] at this;exact this
 have hl':(ws.length:Int)<8:=by omega
 generalize ws.length=n at *;generalize gz (aD ws) (1+n)=y at *;clear h hzl;go_enter Tryz.func181,Tryz.ntmps181;go_wp2_with fail
 refine qp 9 (by kernel_rfl) (by kernel_rfl) ?_;simp only [List.take_succ_cons,List.take_zero,List.drop_succ_cons,List.drop_zero]
 repeat still_step
 refine wpStill_nil ?_;go_wp2_with fail
 go_end0
 refine ⟨rfl,HF.out,fun B hB=>(((aA B w).drew).setCell hB _).setCell hB _,fun g hg=>?_⟩;exact (dU _ _ hg).trans (dU _ _ hg)
def dV (s:ByteArray) (k:Nat):List Nat:=(List.range k).map (aX s)
theorem qx (s:ByteArray) (k:Nat):(dV s k).length=k:=by simp [dV]
theorem aao (s:ByteArray) (k:Nat):dV s (k+1)=dV s k ++ [aX s k]:=by simp [dV,List.range_succ]
theorem G8 (s:ByteArray) (k:Nat):∀v∈dV s k,v<4294967296:=fun v hv=>by
 obtain ⟨j,_,rfl⟩:=List.mem_map.1 hv;exact JU s j
theorem aap (s:ByteArray) {k j:Nat} (h:j<k):(dV s k).getD j 0=aX s j:=by
 unfold dV;rw [bP,List.getElem?_map,List.getElem?_range h];rfl
theorem ai5 (s:ByteArray) (k:Nat):wQ (dV s k)=true↔k<8∧(0<k->eV (aX s (k - 1))=true):=by
 unfold wQ iw;rw [decide_eq_true_eq,qx];by_cases h:0<k
 ·rw [aap s (by omega)];by_cases hp:eV (aX s (k - 1))=true
  ·rw [if_neg (fun h=>by rw [hp] at h;exact absurd h.2 (by decide))];exact ⟨fun q=>⟨q.1,fun _=>hp⟩,fun q=>⟨q.1,rfl⟩⟩
  ·rw [if_pos ⟨h,by simpa using hp⟩];exact ⟨fun q=>by omega,fun q=>absurd (q.2 h) hp⟩
 ·rw [if_neg (fun q=>h q.1)];exact ⟨fun q=>⟨q.1,fun q=>absurd q h⟩,fun q=>⟨q.1,rfl⟩⟩
theorem Ov {fn:Func} {p u:Tmp} (h:fn.results=#[.cell p 187,.tmp u]) (tmps:Array aj) (w:World) (g:Nat) (z:List Int) (hz:z.length=9)
 (hp:tmps.getD p undef= .pointer (some ⟨g,0,none⟩)) (hg:aK w g 187 z) (x:aj) (hu:tmps.getD u undef=x):
 (zm fn tmps).run au w= .ok (.tuple #[.agg (S z),x]) w:=by
 rw [results_cell_tmp h,hp,hu];simp only [asAddr,Sem.run_pure,kN];rw [run_loadVar_row w g 187 187 (S z) (0,0) _ hg nE rfl (by rw [iT,bQ,hz])]
theorem aK.setRow {w:World} {g:Nat} {t:TypeId} {z:List Int} (h:aK w g t z) (z':List Int):aK (w.setRow g (S z')) g t z':=setRow_heap w g _ _ t (0,0) h
def aaq (s:ByteArray) (w:World) (e':Ending) (w':World):Prop:=
 ak w.heap.size w w'∧((gi s∧e'= .returned (.tuple #[.agg (S (aD (dV s (s.size / 4)))),.bool true]))∨(¬gi s∧e'= .returned (.tuple #[.agg (S (aD [])),.bool false])))
theorem Ow (s:ByteArray) (w:World) (ht:bF w) (hs:s.size<=cP):
 av au 189 #[.string s] w (aaq s w):=by
 unfold cP at hs;have z9:=Ey;have hr0:aK ((w.alloc (.cells (S (aD [])) 187)).alloc (.cells (S (aD [])) 187)) w.heap.size 187 (aD []):=by
  unfold aK;rw [cM _ _ _ (by rw [aB];omega),bg]
 have hr1:aK ((w.alloc (.cells (S (aD [])) 187)).alloc (.cells (S (aD [])) 187)) (w.heap.size+1) 187 (aD []):=by
  unfold aK;have:=bg (w.alloc (.cells (S (aD [])) 187)) (.cells (S (aD [])) 187);rw [aB] at this;exact this
 have hb0:ak w.heap.size w ((w.alloc (.cells (S (aD [])) 187)).alloc (.cells (S (aD [])) 187)):=((aA _ _).alloc (ax _) _).alloc (by rw [aB];omega) _;have gR:=af hr0;have dm:=af hr1;have bM:=af hb0;have pW:=af ht;have hpos:=ht.pos;clear hr0 hr1 hb0 ht;have Ez:Hid (∀w',ak w.heap.size w w'->¬gi s->aaq s w (.returned (.tuple #[.agg (S (aD [])),.bool false])) w'):=fun w' hb hn=>⟨hb,.inr ⟨hn,rfl⟩⟩;by_cases h0:s.size=0
 ·have h0':(s.size:Int)=0:=by omega
  have HN:Hid (¬gi s):=fun h=>by have:=h.1;omega
  clear h0;go_enter Tryz.func189,Tryz.ntmps189;go_wp2_with (first | (refine s7 rfl nE iT rfl _ rfl (w.heap.size+1) rfl (dm.out.isRow 9 rfl) _ dm.out.bW ?_) | (refine pU iT rfl _ _ rfl w.heap.size rfl (aD []) rfl rfl (gR.out.isRow 9 rfl) _ rfl ?_))
  exact cL (v:=.tuple #[.agg (S (aD [])),.bool false]) (Ov Ya _ _ w.heap.size (aD []) rfl rfl (gR.out.setRow (aD [])) _ rfl) rfl (Ez.out _ (iI bM.out (ax _) _) HN.out)
 ·have h0':((s.size:Int) == 0)=false:=beq_eq_false_iff_ne.2 (by omega);by_cases h4:s.size % 4=0
  ·have h4':(s.size:Int) % 4=0:=by omega
   go_enter Tryz.func189,Tryz.ntmps189;go_wp2_with fail
   go_loopw [5] (fun i wr=>∃k j:Nat,4 * k<=s.size∧j=4 * k∧i= .int .i64 j∧Hid (k<=8∧aK wr w.heap.size 187 (aD [])∧aK wr (w.heap.size+1) 187 (aD (dV s k))∧ak w.heap.size w wr∧∀q,q+1<k->eV (aX s q)=true)) (fun i _=>s.size - (aI i).toNat)
   case atStart=>exact ⟨0,0,bK _,rfl,rfl,bK _,gR.out,dm.out,bM.out,fun q hq=>by omega⟩
   case round=>
    obtain ⟨k,j,hk,hj,rfl,HR⟩:=hrel;obtain ⟨k8,rr,lZ,hbl,hpl⟩:=HR.out;have HJ:=af hj;have hlen:=nT (ws:=dV s k) (by rw [qx];exact k8);have SG:=rr.isRow 9 rfl;have rI:=lZ.isRow 9 hlen;have rD:=lZ.bW;have dY:w.heap.size+1<wr.heap.size:=lZ.lt;by_cases hlt:j<s.size
    ·have hlt':(j:Int)<(s.size:Int):=by omega
     have zV:=af (aam (dV s k) wr (pW.out.below hpos hbl) (by rw [qx];exact k8) (G8 s k));have hgr:=ai5 s k;cases hq:wQ (dV s k)
     ·rw [hq] at zV hgr;have HN:Hid (¬gi s):=fun h=>by
       have h32:=h.2.1;by_cases h8:k<8
       ·by_cases hk0:0<k
        ·have:=h.2.2.2 (k - 1) (by omega);exact absurd (hgr.2 ⟨h8,fun _=>this⟩) (by decide)
        ·exact absurd (hgr.2 ⟨h8,fun q=>absurd q hk0⟩) (by decide)
       ·omega
      have bU:=af hbl;have lO:=af rr;clear hq hgr hpl hbl hj hk h4 h4' k8 rr lZ;go_wp2_with (refine s7 rfl nE iT rfl _ rfl (w.heap.size+1) rfl rI _ rD ?_)
      refine (aq zV).mono ?_;rintro e w1 ⟨rfl,hb1⟩;have aJ:Hid (ak w.heap.size w w1):=bU.out.trans (hb1.mono (by omega));have dm:Hid (aK w1 w.heap.size 187 (aD [])):=lO.out.keep (hb1.block _ (by omega));clear hb1;go_wp2_with (refine pU iT rfl _ _ rfl w.heap.size rfl (aD []) rfl rfl (dm.out.isRow 9 rfl) _ rfl ?_)
      exact cL (v:=.tuple #[.agg (S (aD [])),.bool false]) (Ov Ya _ _ w.heap.size (aD []) rfl rfl (dm.out.setRow (aD [])) _ rfl) rfl (Ez.out _ (iI aJ.out (ax _) _) HN.out)
     ·rw [hq] at zV hgr;obtain ⟨h8,hpk⟩:=hgr.1 rfl;have hj4:(j:Int)+4<=(s.size:Int):=by omega
      have ai6:j+4<=s.size:=by omega
      have SH:=fun w'=>Oe (s.extract j (j+4)) w' (by rw [rP];omega);have hsz:(s.extract j (j+4)).size=4:=by rw [rP];omega
      have hwd:aU (s.extract j (j+4)) 0 4=aX s k:=by
       have:=Og s j 4 0 ai6 4 (by omega);rw [this,Nat.add_zero];unfold aX;rw [hj]
      rw [hsz,hwd] at SH;have HNr:=af SH;have eO:Hid (∀w1 w2,ak wr.heap.size wr w1->aK w2 (w.heap.size+1) 187 (aD (dV s k ++ [aX s k]))->(∀B,B<=w.heap.size+1->ak B w1 w2)->(∀g,g≠w.heap.size+1->w2.heap[g]? =w1.heap[g]?)->(k+1<=8∧aK w2 w.heap.size 187 (aD [])∧aK w2 (w.heap.size+1) 187 (aD (dV s (k+1)))∧ak w.heap.size w w2∧∀q,q+1<k+1->eV (aX s q)=true)):=by
       intro w1 w2 b1 b2 b3 b4;refine ⟨by omega,rr.keep ((b4 _ (by omega)).trans (b1.block _ (by omega))),by rw [aao];exact b2,(hbl.trans (b1.mono (by omega))).trans (b3 _ (by omega)),fun q dQ=>?_⟩;by_cases hqk:q+1<k
       ·exact hpl q hqk
       ·have:q=k - 1:=by omega
        rw [this];exact hpk (by omega)
      have G9:(dV s k).length<8:=by rw [qx];exact h8
      have l5:=af lZ;clear hq hgr hpl hbl hj hk h4 h4' k8 rr lZ SH hsz hwd hpk;go_wp2_with (refine s7 rfl nE iT rfl _ rfl (w.heap.size+1) rfl rI _ rD ?_)
      refine (aq zV).mono ?_;rintro e w1 ⟨rfl,hb1⟩;have aJ:=af hb1;have HAdd:=af (aan (w.heap.size+1) (dV s k) (aX s k) w1 (l5.out.keep (hb1.block _ (by omega))) G9);clear hb1;go_wp2_with fail
      refine (aq HNr _).mono ?_;rintro e w' ⟨rfl,hw⟩;obtain rfl:=hw.symm;go_wp2_with fail
      refine (aq HAdd).mono ?_;rintro e w2 ⟨rfl,b2,b3,b4⟩;have HE:=af (eO.out w1 w2 aJ.out b2 b3 b4);clear b2 b3 b4;go_wp2_with fail
      refine ⟨⟨k+1,j+4,?_,?_,by go_num,HE.out⟩,by simp [aI];omega⟩
      ·have:=HJ.out;omega
      ·have:=HJ.out;omega
    ·have hlt':¬(j:Int)<(s.size:Int):=by omega
     have hkn:k=s.size / 4:=by omega
     have CI:Hid (gi s):=⟨by omega,by omega,h4,fun q hq=>hpl q (by omega)⟩;have lO:=af rr;have l5:=af lZ;have bU:=af hbl;have qT:=af hlen;have jg:=af hkn;clear hpl hbl hj hk h4 h4' k8 rr lZ hlen hkn;go_wp2_with (first | (refine s7 rfl nE iT rfl _ rfl (w.heap.size+1) rfl rI _ rD ?_) | (refine pU iT rfl _ _ rfl w.heap.size rfl (aD (dV s k)) rfl qT.out SG _ rfl ?_))
     refine cL (v:=.tuple #[.agg (S (aD (dV s k))),.bool true]) (Ov Ya _ _ w.heap.size (aD (dV s k)) qT.out rfl (lO.out.setRow (aD (dV s k))) _ rfl) rfl ⟨iI bU.out (ax _) _,.inl ⟨CI.out,?_⟩⟩;rw [jg.out]
  ·have h4':((s.size:Int) % 4 == 0)=false:=by simp;omega
   have HN:Hid (¬gi s):=fun h=>h4 h.2.2.1;clear h4;go_enter Tryz.func189,Tryz.ntmps189;go_wp2_with (first | (refine s7 rfl nE iT rfl _ rfl (w.heap.size+1) rfl (dm.out.isRow 9 rfl) _ dm.out.bW ?_) | (refine pU iT rfl _ _ rfl w.heap.size rfl (aD []) rfl rfl (gR.out.isRow 9 rfl) _ rfl ?_))
   exact cL (v:=.tuple #[.agg (S (aD [])),.bool false]) (Ov Ya _ _ w.heap.size (aD []) rfl rfl (gR.out.setRow (aD [])) _ rfl) rfl (Ez.out _ (iI bM.out (ax _) _) HN.out)
def xZ (l:List Nat):List aj:=l.flatMap fun v:Nat=>(xY (v:Int)).toList
theorem ai8 (l:List Nat) (v:Nat):xZ (l ++ [v])=xZ l ++ (xY (v:Int)).toList:=by simp [xZ]
theorem ai9:∃i,Tryz.prog.info? 212=some i∧i.zero=some (.agg #[.int .i64 0,.int .i64 0,.int .i64 0,.int .i64 0,.int .i64 0])∧i.size=5∧i.bytes=40:=by
 have h:(Tryz.prog.info? 212).map (fun i=>(i.zero,i.size,i.bytes))=some (some (.agg #[.int .i64 0,.int .i64 0,.int .i64 0,.int .i64 0,.int .i64 0]),5,40):=by kernel_rfl
 cases hq:Tryz.prog.info? 212 with
 | none=>rw [hq] at h;cases h
 | some i=>
   rw [hq] at h;simp only [AO,Ci,vU] at h;exact ⟨i,rfl,h.1,h.2.1,h.2.2⟩
theorem aat (ws:List Nat):iw ws<=ws.length:=by unfold iw;split<;>omega
theorem He {α:Type} {l:List α} {k:Nat} {x:α} (h:l[k]? =some x):l.take (k+1)=l.take k ++ [x]:=by
 rw [List.take_add_one,h];rfl
theorem SI (ws:List Nat) (w:World) (ht:bF w) (hl:ws.length<=8) (hw:∀v∈ws,v<4294967296):
 av au 209 #[.agg (S (aD ws))] w fun e' w'=>ak w.heap.size w w'∧∃v,e'= .returned v∧w'.ownsRow w.heap.size 212 5 v (iw ws) (xZ (ws.take (iw ws))):=by
 obtain ⟨inf,cJ,hz,cW,hby⟩:=ai9;have gJ:=af cJ;have HZ:=af hz;have dR:=af cW;have gK:=af hby;clear cJ hz cW hby;have hzl:=nT hl;have hr:aK (w.alloc (.cells (S (aD ws)) 187)) w.heap.size 187 (aD ws):=bg w _;have hb1:=af ((aA w.heap.size w).alloc (ax _) (.cells (S (aD ws)) 187));have HP:=af (SF ws (w.alloc (.cells (S (aD ws)) 187)) (ht.below ht.pos hb1.out) hl hw);have Kv:iw ws<=8:=Nat.le_trans (aat ws) hl;have avx:((iw ws:Nat):Int)<=8:=by omega
 have hnl:=aat ws;have rI:=hr.isRow 9 hzl;have rD:=hr.bW;have lO:=af hr;have Bj:Hid (∀k,k<iw ws->ws[k]? =some (ws.getD k 0)∧ws.getD k 0<4294967296∧gz (aD ws) (1+k)=(ws.getD k 0:Nat)):=fun k hk=>by
  have hk':k<ws.length:=by omega
  refine ⟨by rw [bP,bE hk'];rfl,?_,Ku hk'⟩;rw [bP,bE hk'];exact hw _ (lC _)
 clear hr;generalize hnn:iw ws=n at *;clear hnn ht hw;go_enter Tryz.func209,Tryz.ntmps209;go_wp2_with (refine s7 rfl nE iT rfl _ rfl w.heap.size rfl rI _ rD ?_)
 refine (aq HP).mono ?_;rintro e w1 ⟨rfl,hb2⟩;have dm:=af (lO.out.keep (hb2.block _ (by rw [aB];omega)));have aJ:Hid (ak w.heap.size w w1):=hb1.out.trans (hb2.mono (by rw [aB];omega));have hz1:w.heap.size<w1.heap.size:=dm.out.lt;clear hb2 rI rD HP;go_wp2_with fail
 go_loopw [3,11] (fun v i wr=>∃k:Nat,k<=n∧i= .int .i64 k∧wr.ownsRow (w.heap.size+1) 212 5 v k (xZ (ws.take k))∧aK wr w.heap.size 187 (aD ws)∧ak w.heap.size w wr) (fun _ i _=>n - (aI i).toNat)
 case atStart=>exact ⟨0,bK _,rfl,j7 _ _ _ _,dm.out,aJ.out⟩
 case round=>
  obtain ⟨k,hk,rfl,hown,hrow,hbl⟩:=hrel;obtain ⟨va,vc,hv⟩:=bA hown;subst hv;have HO:=af hown;have bU:=af hbl;have l5:=af hrow;have dY:w.heap.size<wr.heap.size:=hrow.lt;by_cases hlt:k<n
  ·have hlt':(k:Int)<(n:Int):=by omega
   obtain ⟨e1,e2,e3⟩:=Bj.out k hlt;have cc:=hrow.cell (1+k) (by omega);rw [e3] at cc;have HS:Hid (xZ (ws.take (k+1))=xZ (ws.take k) ++ (xY (ws.getD k 0:Nat)).toList):=by unfold Hid;rw [He e1,ai8]
   have CP:=af (fun w'=>NN (ws.getD k 0:Nat) w' (by omega) (by omega));simp only [xY] at HS;generalize ws.getD k 0=x at *;generalize bu (x:Int)=f0 at *;generalize fa (x:Int)=f1 at *;generalize fb (x:Int)=f2 at *;generalize fc (x:Int)=f3 at *;generalize fk (x:Int)=f4 at *;clear e1 e2 e3 hown hrow hbl;go_wp2_with fail
   refine (aq CP _).mono ?_;rintro e w2 ⟨rfl,hb2⟩;have aZ:=af hb2;have hz2:=hb2.size;have nN:=af (dX HO.out hb2);clear hb2;go_wp2_with (at_builtin;refine vV _ rfl _ _ 273 rfl (w.heap.size+1) 212 inf _ 5 40 Tryz.underlying273 gJ.out HZ.out dR.out gK.out rfl (by decide) (.slice va k vc) k (xZ (ws.take k)) rfl (nN.out.alloc _) ⟨w2.heap.size,0,none⟩ 1 1 [.int .i64 f0,.int .i64 f1,.int .i64 f2,.int .i64 f3,.int .i64 f4] rfl rfl (mP (bg w2 _)) (fun u hu=>by simp at hu;rcases hu with rfl | rfl | rfl | rfl | rfl<;>rfl) (by decide) (by unfold cP;omega) (by omega) (by rw [aB];omega) (w2.heap.size+1) (by rw [aB]) ?_;intro wL cap2 w3 jQ js nO sY;have iR:=af jQ;have j8:=af js;clear jQ js nO)
   refine ⟨⟨k+1,by omega,by go_num,?_,?_,?_⟩,by simp [aI];omega⟩
   ·rw [HS.out];exact iR.out
   ·refine (l5.out.keep (aZ.out.block _ dY)).keep ((j8.out.block _ (by show w.heap.size<(w2.alloc _).heap.size;rw [aB];omega) (fun e=>?_)).trans (cM w2 _ _ (by omega)));have:=(aR nN.out _ e.symm).1;omega
   ·exact ((bU.out.trans (aZ.out.mono (by omega))).alloc (by omega) _).grown j8.out (by rw [aB];omega) (fun q hq=>by have:=(aR nN.out q hq).1;omega)
  ·have hlt':¬(k:Int)<(n:Int):=by omega
   obtain rfl:n=k:=by omega
   have CQ:Hid (wr.ownsRow w.heap.size 212 5 (.slice va n vc) n (xZ (ws.take n))):=⟨HO.out.1,HO.out.2.imp id (fun ⟨g,cap,cur,q1,q2,q3⟩=>⟨g,cap,cur,q1,by omega,q3⟩)⟩;clear hown hrow hbl;go_wp2_with fail
   go_ret;exact ⟨bU.out,_,rfl,CQ.out⟩
theorem aja {v:Int} (h:bu v=1):eM (dI v)=#[.int .i64 1,.int .i64 (fa v),.int .i64 0,.int .i64 0,.int .i64 (fk v)]:=by
 have a:=uQ v;have k:=wm v;unfold dI eM;rw [if_pos h];simp only [vW a.1,vW k.1];rfl
theorem ajb {v:Int} (h:bu v=6):eM (dI v)=#[.int .i64 6,.int .i64 (fa v),.int .i64 (fb v),.int .i64 0,.int .i64 (fk v)]:=by
 have a:=uQ v;have b:=wj v;have k:=wm v;unfold dI eM;rw [if_neg (by omega),if_pos h];simp only [vW a.1,vW b.1,vW k.1];rfl
theorem ajc {v:Int} (h1:¬bu v=1) (h6:¬bu v=6):eM (dI v)=#[.int .i64 (bu v),.int .i64 (fa v),.int .i64 (fb v),.int .i64 (fc v),.int .i64 0]:=by
 have o:=vZ v;have a:=uQ v;have b:=wj v;have c:=xP v;unfold dI eM;rw [if_neg h1,if_neg h6];simp only [vW o.1,vW a.1,vW b.1,vW c.1];rfl
theorem ajd (v:Int) (w:World):
 av au 240 #[.agg (xY v)] w fun e' w'=>e'= .returned (.agg (eM (dI v)))∧ak w.heap.size w w':=by
 have hb2:∀o1 o2,ak w.heap.size w ((w.alloc o1).alloc o2):=fun o1 o2=>((aA _ _).alloc (ax _) _).alloc (by rw [aB];omega) _;have HB:=af hb2;clear hb2;unfold xY;by_cases h1:bu v=1
 ·have HE:=af (aja h1);rw [h1];generalize fa v=a at *;generalize fb v=b at *;generalize fc v=c at *;generalize fk v=k at *;clear h1;go_enter Tryz.func240,Tryz.ntmps240;go_wp2_with fail
  rw [HE.out];exact cL (v:=.agg #[.int .i64 1,.int .i64 a,.int .i64 0,.int .i64 0,.int .i64 k]) (by simp [zm,Tryz.results240,go_sem]) rfl ⟨rfl,HB.out _ _⟩
 ·have h1':(bu v == 1)=false:=by simpa using h1
  by_cases h6:bu v=6
  ·have HE:=af (ajb h6);rw [h6];generalize fa v=a at *;generalize fb v=b at *;generalize fc v=c at *;generalize fk v=k at *;clear h1 h6 h1';go_enter Tryz.func240,Tryz.ntmps240;go_wp2_with fail
   rw [HE.out];exact cL (v:=.agg #[.int .i64 6,.int .i64 a,.int .i64 b,.int .i64 0,.int .i64 k]) (by simp [zm,Tryz.results240,go_sem]) rfl ⟨rfl,HB.out _ _⟩
  ·have h6':(bu v == 6)=false:=by simpa using h6
   have HE:=af (ajc h1 h6);generalize bu v=o at *;generalize fa v=a at *;generalize fb v=b at *;generalize fc v=c at *;generalize fk v=k at *;clear h1 h6;go_enter Tryz.func240,Tryz.ntmps240;go_wp2_with fail
   rw [HE.out];exact cL (v:=.agg #[.int .i64 o,.int .i64 a,.int .i64 b,.int .i64 c,.int .i64 0]) (by simp [zm,Tryz.results240,go_sem]) rfl ⟨rfl,HB.out _ _⟩
theorem aje {w:World} {B:Nat} {g cap:Nat} {l:List Nat} (h:w.ownsRow B 212 5 (.slice (some ⟨g,0,none⟩) l.length cap) l.length (xZ l)) (n:Nat) (v:Nat) (hn:l[n]? =some v):
 w.cell? ⟨g,n * 5,none⟩=some (.int .i64 (bu v))∧w.cell? ⟨g,n * 5+1,none⟩=some (.int .i64 (fa v))∧w.cell? ⟨g,n * 5+1+1,none⟩=some (.int .i64 (fb v))∧w.cell? ⟨g,n * 5+1+1+1,none⟩=some (.int .i64 (fc v))∧w.cell? ⟨g,n * 5+1+1+1+1,none⟩=some (.int .i64 (fk v)):=by
 have hlt:n<l.length:=(List.getElem?_eq_some_iff.1 hn).1;have key:=Oo (fun v:Nat=>(xY (v:Int)).toList) 5 (fun _=>rfl) l n v hn;have k0:=key 0 (by decide);have k1:=key 1 (by decide);have k2:=key 2 (by decide);have k3:=key 3 (by decide);have k4:=key 4 (by decide);refine ⟨?_,?_,?_,?_,?_⟩
 ·rw [h.cellAt _ (by omega)];exact k0
 ·rw [h.cellAt _ (by omega)];exact k1
 ·rw [h.cellAt _ (by omega)];exact k2
 ·rw [h.cellAt _ (by omega)];exact k3
 ·rw [h.cellAt _ (by omega)];exact k4
def zW (l:List Nat):List aH:=l.map fun v:Nat=>dI (v:Int)
theorem ajf (l:List Nat) (v:Nat):zW (l ++ [v])=zW l ++ [dI (v:Int)]:=by simp [zW]
theorem aau (B':Nat) (fv:aj) (l:List Nat) (w:World) (hf:w.ownsRow B' 212 5 fv l.length (xZ l)) (hl:l.length<=8):
 av au 208 #[fv] w fun e' w'=>ak w.heap.size w w'∧∃v,e'= .returned v∧w'.ownsRow w.heap.size 123 5 v l.length (dM (zW l)):=by
 obtain ⟨inf,cJ,hz,cW,hby⟩:=G0;have gJ:=af cJ;have HZ:=af hz;have dR:=af cW;have gK:=af hby;clear cJ hz cW hby;obtain ⟨fa',fc',rfl⟩:=bA hf;have HF:=af hf;clear hf;go_enter Tryz.func208,Tryz.ntmps208;go_wp2_with fail
 go_loopw [3,8] (fun v i wr=>∃k:Nat,k<=l.length∧i= .int .i64 k∧wr.ownsRow w.heap.size 123 5 v k (dM (zW (l.take k)))∧ak w.heap.size w wr) (fun _ i _=>l.length - (aI i).toNat)
 case atStart=>exact ⟨0,bK _,rfl,j7 _ _ _ _,aA _ _⟩
 case round=>
  obtain ⟨k,hk,rfl,hown,hbl⟩:=hrel;obtain ⟨va,vc,hv⟩:=bA hown;subst hv;have HO:=af hown;have bU:=af hbl;have dY:=hbl.size;by_cases hlt:k<l.length
  ·have hlt':(k:Int)<(l.length:Int):=by omega
   obtain ⟨g,cap,hform,_,hgl⟩:=HF.out.form (by omega);cases hform;have hx:l[k]? =some l[k]:=bE hlt;obtain ⟨x0,x1,x2,x3,x4⟩:=aje (dX HF.out hbl) k l[k] hx;have HS:Hid (dM (zW (l.take (k+1)))=dM (zW (l.take k)) ++ (eM (dI (l[k]:Nat))).toList):=by unfold Hid;rw [He hx,ajf,En]
   have Bk:=af (fun w'=>ajd (l[k]:Nat) w');simp only [xY] at Bk;generalize l[k]=x at *;generalize dI (x:Int)=p at *;generalize bu (x:Int)=f0 at *;generalize fa (x:Int)=f1 at *;generalize fb (x:Int)=f2 at *;generalize fc (x:Int)=f3 at *;generalize fk (x:Int)=f4 at *;obtain ⟨p0,p1,p2,p3,p4⟩:=p;simp only [eM] at Bk HS;clear hx hown hbl;go_wp2_with fail
   refine (aq Bk _).mono ?_;rintro e w2 ⟨rfl,hb2⟩;have aZ:=af hb2;have hz2:=hb2.size;rw [aB] at hz2;have nN:=af (dX (dX HO.out ((aA _ _).alloc (ax _) _)) hb2);clear hb2;go_wp2_with (at_builtin;refine vV _ rfl _ _ 125 rfl w.heap.size 123 inf _ 5 40 Tryz.underlying125 gJ.out HZ.out dR.out gK.out rfl (by decide) (.slice va k vc) k (dM (zW (l.take k))) rfl (nN.out.alloc _) ⟨w2.heap.size,0,none⟩ 1 1 [.int .i64 (p0:Int),.int .i64 (p1:Int),.int .i64 (p2:Int),.int .i64 (p3:Int),.int .i64 (p4:Int)] rfl rfl (mP (bg w2 _)) (fun u hu=>by simp at hu;rcases hu with rfl | rfl | rfl | rfl | rfl<;>rfl) (by decide) (by unfold cP;omega) (by omega) (by rw [aB];omega) (w2.heap.size+1) (by rw [aB]) ?_;intro wL cap2 w3 jQ js nO sY;have iR:=af jQ;have j8:=af js;clear jQ js nO)
   refine ⟨⟨k+1,by omega,by go_num,?_,?_⟩,by simp [aI];omega⟩
   ·rw [HS.out];exact iR.out
   ·exact (((bU.out.alloc dY _).trans (aZ.out.mono (by rw [aB];omega))).alloc (by omega) _).grown j8.out (by rw [aB];omega) (fun q hq=>(aR nN.out q hq).1)
  ·have hlt':¬(k:Int)<(l.length:Int):=by omega
   have hkn:k=l.length:=by omega
   subst hkn;rw [List.take_length] at HO;clear hown hbl;go_wp2_with fail
   go_ret;exact ⟨bU.out,_,rfl,HO.out⟩
def eW (l:List UInt8):List aj:=l.map fun b=>.int .u8 (b.toNat:Int)
theorem Hf (l m:List UInt8):eW (l ++ m)=eW l ++ eW m:=by simp [eW]
theorem Kw:∃i,Tryz.prog.info? 5=some i∧i.zero=some (.int .u8 0)∧i.size=1∧i.bytes=1:=by
 have h:(Tryz.prog.info? 5).map (fun i=>(i.zero,i.size,i.bytes))=some (some (.int .u8 0),1,1):=by kernel_rfl
 cases hq:Tryz.prog.info? 5 with
 | none=>rw [hq] at h;cases h
 | some i=>
   rw [hq] at h;simp only [AO,Ci,vU] at h;exact ⟨i,rfl,h.1,h.2.1,h.2.2⟩
theorem ajg (v m:Nat):((iC (v / 256 ^ m % 256)).toNat:Int)=((v / 256 ^ m:Nat):Int) % 256:=by
 rw [UInt8.toNat_ofNat',Nat.mod_mod];simp
theorem ajh (m:Nat):256 ^ m=2 ^ (8 * m):=by rw [Nat.pow_mul]
theorem EA {w:World} {B:Nat} {v:aj} {l:List UInt8} (h:w.ownsRow B 5 1 v l.length (eW l)):(convert 136 9 v).run au w= .ok (.string (ah l)) w:=by
 by_cases h0:l.length=0
 ·obtain rfl:l=[]:=List.length_eq_zero_iff.1 h0;rcases h.2 with ⟨rfl,_⟩ | ⟨g,cap,cur,rfl,_⟩
  ·exact Lib.run_convert_nil_bytes _ _ _ 5 _ DV XR Cj
  ·exact run_convert_bytes_back _ _ _ 5 ⟨g,0,none⟩ cap [] DV XR Cj (fun j hj=>by cases hj)
 ·obtain ⟨g,cap,rfl,_,hgl⟩:=h.form (by omega);refine run_convert_bytes_back _ _ _ 5 ⟨g,0,none⟩ cap l DV XR Cj (fun j hj=>?_);have e:(⟨g,0,none⟩:Addr).add j=⟨g,j,none⟩:=by simp [Addr.add];omega
  rw [e,h.cellAt _ (by omega)];simp [eW,bE hj]
theorem EB (B:Nat) (bv:aj) (xs:List UInt8) (v k:Nat) (w:World) (hB:B<=w.heap.size) (hb:w.ownsRow B 5 1 bv xs.length (eW xs)) (hx:xs.length<=100000) (hk8:k<=7):
 av au 102 #[bv,.int .i64 (v:Int),.int .i64 (k:Int)] w fun e' w'=>∃v',e'= .returned v'∧w'.ownsRow B 5 1 v' (xs ++ aS k v).length (eW (xs ++ aS k v))∧ak B w w'∧∀g,g<w.heap.size->bv.ownBlock≠some g->w'.heap[g]? =w.heap[g]?:=by
 obtain ⟨inf,cJ,hz,cW,hby⟩:=Kw;have gJ:=af cJ;have HZ:=af hz;have dR:=af cW;have gK:=af hby;clear cJ hz cW hby;obtain ⟨ba,bc,rfl⟩:=bA hb;have HO:=af hb;clear hb;go_enter Tryz.func102,Tryz.ntmps102;go_wp2_with fail
 go_loopw [0,7] (fun x i wr=>∃(m:Nat) (D:List UInt8),m<=k∧i= .int .i64 ((m:Int) - 1)∧Hid (D ++ aS m v=aS k v)∧Hid (wr.ownsRow B 5 1 x (xs ++ D).length (eW (xs ++ D)))∧Hid (ak B w wr)∧Hid (∀g,g<w.heap.size->(Value.slice ba xs.length bc).ownBlock≠some g->wr.heap[g]? =w.heap[g]?∧x.ownBlock≠some g)) (fun _ i _=>((aI i)+1).toNat)
 case atStart=>exact ⟨k,[],ax _,rfl,rfl,by rw [List.append_nil];exact HO.out,aA _ _,fun g _ h=>⟨rfl,h⟩⟩
 case round=>
  obtain ⟨m,D,hm,rfl,HD,yd,bU,lP⟩:=hrel;obtain ⟨va,vc,hv'⟩:=bA yd.out;subst hv';have dY:=bU.out.size;have hDl:D.length+m=k:=by have:=congrArg List.length HD.out;rw [dK,iF,iF] at this;exact this
  cases m with
  | zero=>
    have HE:Hid (xs ++ D=xs ++ aS k v):=by unfold Hid;rw [<-HD.out];simp [aS]
    go_wp2_with fail
    go_ret;refine ⟨_,rfl,?_,bU.out,fun g hg hn=>(lP.out g hg hn).1⟩;rw [<-HE.out];exact yd.out
  | succ m=>
    have hi:((m+1:Nat):Int) - 1=(m:Int):=by omega
    have HN:Hid ((D ++ [iC (v / 256 ^ m % 256)]) ++ aS m v=aS k v):=by unfold Hid;rw [<-HD.out];simp [aS]
    have hm7:(m:Int)<7:=by omega
    have hlen:(xs ++ D).length+1=(xs ++ (D ++ [iC (v / 256 ^ m % 256)])).length:=by simp;omega
    have HL:=af hlen;have hxl:(xs ++ D).length<=200000:=by rw [dK];omega
    have HCs:Hid (eW (xs ++ (D ++ [iC (v / 256 ^ m % 256)]))=eW (xs ++ D) ++ [.int .u8 ((v:Int) / 2 ^ (8 * m) % 256)]):=by
     unfold Hid;rw [<-DK,Hf];show _ ++ [Value.int .u8 ((iC (v / 256 ^ m % 256)).toNat:Int)]=_
     rw [ajg,ajh];simp
    rw [hi];clear hi hlen;generalize (xs ++ D).length=n at *;go_wp2_with (at_builtin;refine vV _ rfl _ _ 136 rfl B 5 inf _ 1 1 DV gJ.out HZ.out dR.out gK.out rfl (by decide) (.slice va n vc) n (eW (xs ++ D)) rfl (yd.out.alloc _) ⟨wr.heap.size,0,none⟩ 1 1 [.int .u8 ((v:Int) / 2 ^ (8 * m) % 256)] rfl rfl (mP (bg wr _)) (fun u hu=>by simp at hu;subst hu;rfl) (by decide) (by unfold cP;omega) (by omega) (by rw [aB];omega) (wr.heap.size+1) (by rw [aB]) ?_;intro wL cap2 w3 jQ js nO sY;have iR:=af jQ;have j8:=af js;have wR:=af nO;clear jQ js nO)
    refine ⟨⟨m,D ++ [iC (v / 256 ^ m % 256)],by omega,by go_num,HN.out,?_,?_,?_⟩,by simp [aI]⟩
    ·unfold Hid;rw [<-HL.out,HCs.out];exact iR.out
    ·exact (bU.out.alloc (by omega) _).grown j8.out (by rw [aB];omega) (fun q hq=>(aR yd.out q hq).1)
    ·intro g hg hn;obtain ⟨k1,k2⟩:=lP.out g hg hn;refine ⟨((j8.out.block _ (by rw [aB];omega) (fun e=>k2 e.symm)).trans (cM wr _ _ (by omega))).trans k1,?_⟩;rcases wR.out with h | h
     ·intro e;apply k2;rw [h];exact e
     ·intro e;have:wL=g:=by simpa [Value.ownBlock] using e
      omega
end Go.Proofs.YtmmflekajbeamaaGreatDoor
