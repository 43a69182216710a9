/-
  THE LAW Warm (P20) HOLDS for every state, every list of pieces, every crash, of bulk at most 1048576 (letters and values): a program runs, in pieces; its plans are laid down (or there is no room, and Persist says so); behind a crash and a copy of the device the same program runs in the same pieces without one Translate, none refused, block for block the same, and comes to the same; what came in reads as it did.
  Its conditions: the table of instructions (crib/code.rows) reads as the program's own text lays it when the call begins; the card ties that to the text. It speaks of a pruned copy of the project: code outside of it could still write that table.
-/
import Derived.Test.YtmmflekajbeamabGreatDoorW38
import Derived.Deep.DeepHandedRow
namespace Go.Proofs.YtmmflekajbeamabGreatDoor
open Go.ChangeShapes Go.WideShapes Go.ChangeAt Go.WideMaps Go.WideElems Go.RowKit

def WsD {H : Type} : DataW H := .agg [.agg (List.replicate 8 (.lit (.int .i64 0))), .agg (List.replicate 128 (.lit (.int .i64 0))), .lit (.int .i64 0), .lit (.int .i64 0)]
theorem readsF (os : Os) {H : Type} (enc : TypeId × Value → H) : ∃ places, DataW.whole enc Tryz.prog ((World.doorLaid Tryz.prog 26 os).forCall (fun _ _ => 0) ⟨#[], #[.agg (S zeroZ), .slice none 0 0, .int .i64 0, .string ⟨#[]⟩], []⟩).memory Tryz.f4.params.toList Rows.warmSpec.vars false #[Value.agg (S zeroZ), .slice none 0 0, .int .i64 0, .string ⟨#[]⟩].toList 8 = some ([WsD, .nil, .lit (.int .i64 0), .lit (.string [])], [], places) :=
  ⟨[], by kernel_rfl⟩

set_option maxRecDepth 100000 in
theorem lifted (os : Os) (started : os.Started) (H : Type) (enc : TypeId × Value → H) (F : Stop.Interp) :
    ReturnsInHanded {} Tryz.checked os 4 .any ((Rows.OpenSpec.upto Rows.warmSpec).preRow enc Tryz.prog Tryz.f4 Rows.warmUptoRow.domain false Rows.warmUptoRow.laid) (((Rows.OpenSpec.upto Rows.warmSpec).at F).post enc Tryz.prog Tryz.f4 false true false false) := by
  obtain ⟨places, hx⟩ := readsF os enc
  have hok : Input.okWideB Tryz.prog ((World.doorLaid Tryz.prog 26 os).forCall (fun _ _ => 0) ⟨#[], #[.agg (S zeroZ), .slice none 0 0, .int .i64 0, .string ⟨#[]⟩], []⟩) 4 ⟨#[], #[.agg (S zeroZ), .slice none 0 0, .int .i64 0, .string ⟨#[]⟩], []⟩ = true := by kernel_rfl
  refine returnsInHanded_of_row (C := Tryz.checked) (s := Rows.OpenSpec.upto Rows.warmSpec) own started (by kernel_rfl) Tryz.func4
    ⟨World.doorLaid Tryz.prog 26 os, fun _ _ => 0, ⟨#[], #[.agg (S zeroZ), .slice none 0 0, .int .i64 0, .string ⟨#[]⟩], []⟩, rfl, World.shaped_of_RefB (by kernel_rfl) (by kernel_rfl), (Input.okWide_of_okWideB (base := 0) hok).1, (Input.okWide_of_okWideB hok).2,
      OpenSpec.preRow_of_cond 8 hx (by kernel_rfl) (fun k hk => by cases hk; kernel_rfl) (by kernel_rfl) (door_met os _), by
        simp only [Assume.holds]
        exact ⟨by simp, by simp, fun _ => Modest.zero, by simp, by simp⟩⟩ ?_
  intro W base args ds gs before hval0 hW _ hcond _ hL _ _
  have hval : ∀ (j : Nat) t v, Tryz.f4.params[j]? = some t → args[j]? = some v → Value.okWide Tryz.prog W .any base t v := hval0
  have hW' := hW
  obtain ⟨p, q, hA0, hV, rfl, hfz, hnd⟩ := hW
  have hA : DataW.TrodAll enc Tryz.prog W 0 (fun _ => true) true Tryz.f4.params.toList args.toList ds p := hA0
  rw [Tryz.params4] at hA hval
  obtain ⟨v0, vs0, d0, ds0, p0, q0, hargs, rfl, rfl, h0, r0⟩ := trodAll_cons hA
  obtain ⟨v1, vs1, d1, ds1, p1, q1, rfl, rfl, rfl, h1, r1⟩ := trodAll_cons r0
  obtain ⟨v2, vs2, d2, ds2, p2, q2, rfl, rfl, rfl, h2, r2⟩ := trodAll_cons r1
  obtain ⟨v3, vs3, d3, ds3, p3, q3, rfl, rfl, rfl, h3, r3⟩ := trodAll_cons r2
  obtain ⟨rfl, rfl, rfl⟩ := trodAll_nil r3
  obtain rfl : args = #[v0, v1, v2, v3] := by cases args; simp_all
  obtain ⟨rfl, rfl⟩ := trodVars_none hV
  obtain ⟨z, rfl, hl⟩ := agg_S (hval 0 25 v0 rfl rfl)
  have hzb := agg_Sb h0
  have lt0 : ∀ x ∈ p0, x.block < W.heap.size := by obtain ⟨m, hm⟩ := h0; exact DataW.trod_lt m _ _ _ hm
  have hsl := okWide_slice Tryz.underlying41 (hval 1 41 v1 rfl rfl)
  have hlt : ∀ x ∈ p1, x.block < W.heap.size := by obtain ⟨m, hm⟩ := h1; exact DataW.trod_lt m _ _ _ hm
  obtain ⟨k2, e0, e1, e2, l2⟩ := open_int Tryz.underlying3 (hval 2 3 v2 rfl rfl) h2
  obtain ⟨s3, f0, f1, f2, l3⟩ := Go.ChangeMaps.open_string Tryz.underlying9 (hval 3 9 v3 rfl rfl) h3
  subst e0 e1 e2 f0 f1 f2
  have hb1 : Rows.uptoBulk d1 ≤ 1048576 := by
    have h1 : Rows.uptoBulkAll [d0, d1, _, _] ≤ 1048576 := of_decide_eq_true (hcond _ rfl)
    simp only [Rows.uptoBulkAll] at h1
    omega
  obtain ⟨xs, hsc, hnb⟩ : ∃ xs, PiAt v1 xs W ∧ xs.length ≤ Rows.uptoBulk d1 := by
    obtain ⟨fuel, hf⟩ := h1
    exact pieces_open hf hsl hlt
  have hT := of_laid hL
  clear hA0 hval0
  refine (warm_any z v1 xs k2 s3 W hl hzb hsc hT (by omega)).mono fun e W' ⟨he, bel⟩ => ?_
  subst he
  exact ⟨_, rfl, _, _, _, [], _, [], hW', trodAll_mk1 (shut_bool Tryz.underlying4 _), (trodAll_cons_mk (Below.trod laidOut (by kernel_rfl) (of_decide_eq_true (by kernel_rfl)) h0 bel lt0) (trodAll_cons_mk (Below.trod laidOut (by kernel_rfl) (of_decide_eq_true (by kernel_rfl)) h1 bel hlt) (trodAll_cons_mk (shut_int Tryz.underlying3 l2) (trodAll_cons_mk (Go.ChangeMaps.shut_string Tryz.underlying9 l3) trodAll_mk0)))), rfl, bel.frame _, fun h => by cases h⟩

theorem warmupto_holds : Rows.WarmUptoSaid :=
  OpenClaim.holds_of_cond 4 Tryz.f4 rfl rfl rfl rfl rfl rfl rfl ⟨rfl, rfl, rfl, rfl, rfl⟩ rfl rfl rfl rfl rfl (by kernel_rfl) Tryz.func4 (by kernel_rfl)
    (of_decide_eq_true (by kernel_rfl)) (by unfold Func.isWrapper; first | (rw [if_pos (by decide +kernel)]; kernel_rfl) | (rw [if_neg (by decide +kernel)]; exact ⟨rfl, rfl⟩))
    (fun os started H enc _ F => by rw [OpenClaim.pre_eq_preRow]; exact lifted os started H enc F)

/-- THE SECOND FORM's TIED CARD. -/
theorem warmupto_card_holds : Rows.WarmUptoCardSaid :=
  Claim7.holds_tied_plain_at .later [] [.data] true Rows.warmUptoCard.stood.harness false
    warmupto_holds (fun _ h => by cases h) (by kernel_rfl) (fun _ h => by cases h) warmUpto_row_tie rfl ⟨rfl, rfl⟩ (by kernel_rfl) rfl
    (fun f fn hf hfn => by
      obtain rfl : f = 4 := Option.some.inj ((show Tryz.prog.funcNamed "crib/cribkeep.Warm" = some 4 by kernel_rfl).symm.trans hf) |>.symm
      obtain rfl : fn = Tryz.f4 := (Option.some.inj (Tryz.func4.symm.trans hfn)).symm
      exact ⟨by kernel_rfl, fun j t ht => by
        rw [Tryz.params4] at ht
        have hm : t ∈ [25, 41, 3, 9] := by simpa using Array.mem_of_getElem? ht
        have hall : ([25, 41, 3, 9].all fun u => !Tryz.prog.wantsStandIn u) = true := by kernel_rfl
        exact (show Tryz.prog.wantsStandIn t = false by simpa using List.all_eq_true.1 hall t hm)⟩)
    (by kernel_rfl)
#print axioms warmupto_card_holds
end Go.Proofs.YtmmflekajbeamabGreatDoor
