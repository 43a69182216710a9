/-
  THE LAW Engines (P13 to P17) HOLDS for every script of steps of bulk at most 1048576 (letters and values): of the steps that are calls of devices (NewDevice, Add, Clear, Sync, Read, Trouble, Crash) and of engines (Start, Run, State, Counts, Known, Persist, Compact), in any order, of several engines over several devices, with any arguments, each answers as the document's own device and engine do; every list that came out stays the caller's; the script reads as it did.
  Its conditions: the table of instructions (crib/code.rows) reads as the program's own text lays it when the call begins; the card ties that to the text. It speaks of a pruned copy of the project: code outside of it could still write that table.
-/
import Derived.Test.YtmmflekajbeamaaGreatDoorE37
import Derived.Deep.DeepHandedRow
open Go.Proofs.Tryz renaming f4->Y5,prog->au
open Go.World renaming doorLaid->YY
open Go renaming reachBytes->JT
open List renaming all_eq_true->oh
open Option.some renaming inj->oN
namespace Go.Proofs.YtmmflekajbeamaaGreatDoor
set_option maxRecDepth 100000
open Go.ChangeShapes Go.WideShapes Go.ChangeAt Go.WideMaps Go.WideElems Go.RowKit
theorem ava (os:Os) {H:Type} (enc:TypeId×Value->H):∃places,DataW.whole enc au ((YY au 26 os).forCall (fun _ _=>0) ⟨#[],#[.slice none 0 0],[]⟩).memory Tryz.f4.params.toList Rows.enginesSpec.vars false #[Value.slice none 0 0].toList 8=some ([.nil],[],places):=
 ⟨[],by kernel_rfl⟩
theorem lifted (os:Os) (started:os.Started) (H:Type) (enc:TypeId×Value->H) (F:Stop.Interp):
 ReturnsInHanded {} Tryz.checked os 4 .any ((Rows.OpenSpec.upto Rows.enginesSpec).preRow enc au Y5 Rows.enginesUptoRow.domain false Rows.enginesUptoRow.laid) (((Rows.OpenSpec.upto Rows.enginesSpec).at F).post enc au Y5 false true false false):=by
 obtain ⟨places,hx⟩:=ava os enc;have hok:Input.okWideB au ((YY au 26 os).forCall (fun _ _=>0) ⟨#[],#[.slice none 0 0],[]⟩) 4 ⟨#[],#[.slice none 0 0],[]⟩=true:=by kernel_rfl
 refine returnsInHanded_of_row (C:=Tryz.checked) (s:=Rows.OpenSpec.upto Rows.enginesSpec) own started (by kernel_rfl) Tryz.func4
  ⟨YY au 26 os,fun _ _=>0,⟨#[],#[.slice none 0 0],[]⟩,rfl,World.shaped_of_RefB (by kernel_rfl) (by kernel_rfl),(Input.okWide_of_okWideB (base:=0) hok).1,(Input.okWide_of_okWideB hok).2,
    OpenSpec.preRow_of_cond 8 hx (by kernel_rfl) (fun k hk=>by cases hk;kernel_rfl) (by kernel_rfl) (au0 os _),by
     simp only [Assume.holds]
     exact ⟨by simp,by simp,fun _=>Modest.zero,by simp,by simp⟩⟩ ?_
 intro W base args ds gs before agy hW _ avb avc hL _ _;have hval:∀(j:Nat) t v,Tryz.f4.params[j]? =some t->args[j]? =some v->Value.okWide au W .any base t v:=agy;have BG:=hW;obtain ⟨p,q,vq,hV,rfl,hfz,hnd⟩:=hW;have hA:DataW.TrodAll enc au W 0 (fun _=>true) true Tryz.f4.params.toList args.toList ds p:=vq;rw [Tryz.params4] at hA hval;obtain ⟨v0,vs0,d0,ds0,p0,q0,hargs,rfl,rfl,h0,r0⟩:=trodAll_cons hA;obtain ⟨rfl,rfl,rfl⟩:=trodAll_nil r0;obtain rfl:args=#[v0]:=by cases args;simp_all
 obtain ⟨rfl,rfl⟩:=trodVars_none hV;have hsl:=okWide_slice Tryz.underlying22 (hval 0 22 v0 rfl rfl);have hlt:∀x∈p0,x.block<W.heap.size:=by obtain ⟨m,hm⟩:=h0;exact DataW.trod_lt m _ _ _ hm
 have hwt:∀n∈DataW.weights au 22 d0,n<=JT:=fun n hn=>by
  have hw1:(DataW.weightsEach au [22] [d0]).all (·<=JT)=true:=avc;have:=oh.1 hw1 n (by simp only [DataW.weightsEach,List.append_nil];exact hn);exact of_decide_eq_true this
 obtain ⟨n,hsc,hnb⟩:∃n,EY v0 n W∧n<=Rows.uptoBulk d0:=by
  obtain ⟨fuel,hf⟩:=h0;exact au8 hf hsl hlt hwt
 have hn7:n<=10000000:=by
  have h1:Rows.uptoBulkAll [d0]<=1048576:=of_decide_eq_true (avb _ rfl);simp only [Rows.uptoBulkAll] at h1;omega
 have hT:=auW hL;clear vq agy;refine (auS v0 n W hsc hT hn7).mono fun e W' ⟨he,cA⟩=>?_;subst he;exact ⟨_,rfl,_,_,_,[],_,[],BG,trodAll_mk1 (shut_bool Tryz.underlying4 _),(trodAll_cons_mk (Below.trod laidOut (by kernel_rfl) (of_decide_eq_true (by kernel_rfl)) h0 cA hlt) trodAll_mk0),rfl,cA.frame _,fun h=>by cases h⟩
theorem avf:Rows.EnginesUptoSaid:=
 OpenClaim.holds_of_cond 4 Y5 rfl rfl rfl rfl rfl rfl rfl ⟨rfl,rfl,rfl,rfl,rfl⟩ rfl rfl rfl rfl rfl (by kernel_rfl) Tryz.func4 (by kernel_rfl)
  (of_decide_eq_true (by kernel_rfl)) (by unfold Func.isWrapper;first | (rw [if_pos (by decide +kernel)];kernel_rfl) | (rw [if_neg (by decide +kernel)];exact ⟨rfl,rfl⟩))
  (fun os started H enc _ F=>by rw [OpenClaim.pre_eq_preRow];exact lifted os started H enc F)
theorem enginesupto_card_holds:Rows.EnginesUptoCardSaid:=
 Claim7.holds_tied_plain_at .later [] [.data] true Rows.enginesUptoCard.stood.harness false
  avf (fun _ h=>by cases h) (by kernel_rfl) (fun _ h=>by cases h) enginesUpto_row_tie rfl ⟨rfl,rfl⟩ (by kernel_rfl) rfl
  (fun f fn hf hfn=>by
    obtain rfl:f=4:=oN ((show Tryz.prog.funcNamed "crib/criblaw.Engines" =some 4 by kernel_rfl).symm.trans hf) |>.symm;obtain rfl:fn=Y5:=(oN (Tryz.func4.symm.trans hfn)).symm
    exact ⟨by kernel_rfl,fun j t ht=>by
     rw [Tryz.params4] at ht;have hm:t∈[22]:=by simpa using Array.mem_of_getElem? ht
     have hall:([22].all fun u=>!Tryz.prog.wantsStandIn u)=true:=by kernel_rfl
     exact (show Tryz.prog.wantsStandIn t=false by simpa using oh.1 hall t hm)⟩)
  (by kernel_rfl)
#print axioms enginesupto_card_holds
end Go.Proofs.YtmmflekajbeamaaGreatDoor
