/-
  THE LAW Reread (P9, P10) HOLDS: for every state, every four numbers and every text: of the state made right, an area of a generation and of up to seven blocks with their own plans, told frame by frame by Seal, is read back by Scan as it was told, whatever bytes stand behind it as long as they begin no frame; with one byte of it another (but of a frame's length) Scan reads what stands ahead of that frame, and nothing else; the arguments read as they did.
  Its conditions: the table of instructions (crib/code.rows) reads as the program's own text lays it when the call begins; the card ties that to the text. It speaks of a pruned copy of the project: code outside of it could still write that table.
-/
import Derived.Test.YtmmflekajbeamaaDoorR32
import Derived.Test.YtmmflekajbeamaaDoorR33
namespace Go.Proofs.YtmmflekajbeamaaDoor
open Go.ChangeShapes Go.WideShapes Go.ChangeAt Go.WideMaps Go.WideElems Go.RowKit

theorem junk_bound {H : Type} (d0 : DataW H) (a b c d : Int) (s : ByteArray) (h : (DataW.weightsEach Tryd.prog [34, 3, 3, 3, 3, 9] [d0, .lit (.int .i64 a), .lit (.int .i64 b), .lit (.int .i64 c), .lit (.int .i64 d), .lit (.string s.data.toList)]).all (· ≤ reachBytes) = true) : s.size ≤ 4611686018427000000 := by
  have h1 := List.all_eq_true.1 h s.data.toList.length (by simp [DataW.weightsEach, DataW.weights])
  have h2 : s.data.toList.length ≤ reachBytes := of_decide_eq_true h1
  rw [Array.length_toList] at h2
  unfold reachBytes at h2
  have : s.size = s.data.size := rfl
  omega

set_option maxRecDepth 100000 in
theorem lifted (os : Os) (started : os.Started) (H : Type) (enc : TypeId × Value → H) :
    ReturnsInHanded {} Tryd.checked os 11 .any (fun w args => (Rows.rereadSpec.pre enc Tryd.prog Tryd.f11 [] false w args ∧ laidMetH Tryd.prog [("crib/code.rows", Rows.laid_crib_code_rows)] w) ∧ sizedMet enc Tryd.prog Tryd.f11 (OpenSpec.ofChange Rows.rereadSpec) false w args)
      (Rows.rereadSpec.post enc Tryd.prog Tryd.f11 false true false false) := by
  refine returnsInHanded_of_change_and (C := Tryd.checked) (X := fun w _ => laidMetH Tryd.prog [("crib/code.rows", Rows.laid_crib_code_rows)] w) (fun _ _ _ hh h => h.of_heap hh) own started (by kernel_rfl) Tryd.func11
    (ChangeSpec.witness_shaped (enc := enc) (C := Tryd.checked) (os := os) (X := fun w _ => laidMetH Tryd.prog [("crib/code.rows", Rows.laid_crib_code_rows)] w) false (World.doorLaid Tryd.prog 26 os) #[.agg (S zeroZ), .int .i64 0, .int .i64 0, .int .i64 0, .int .i64 0, .string ⟨#[]⟩] 8 rfl (World.shaped_of_RefB (by kernel_rfl) (by kernel_rfl)) (by kernel_rfl) (by kernel_rfl) (by kernel_rfl) (door_met os _)) ?_
  intro W base args ds gs before hval0 hW _ hwt0 hL _
  have hval : ∀ (j : Nat) t v, Tryd.f11.params[j]? = some t → args[j]? = some v → Value.okWide Tryd.prog W .any base t v := hval0
  have hW' := hW
  obtain ⟨p, q, hA0, hV, rfl, hfz, hnd⟩ := hW
  have hA : DataW.TrodAll enc Tryd.prog W 0 (fun _ => true) true Tryd.f11.params.toList args.toList ds p := hA0
  rw [Tryd.params11] at hA hval
  obtain ⟨v0, vs0, d0, ds0, p0, q0, hargs, rfl, rfl, h0, r0⟩ := trodAll_cons hA
  obtain ⟨v1, vs1, d1, ds1, p1, q1, rfl, rfl, rfl, h1, r1⟩ := trodAll_cons r0
  obtain ⟨v2, vs2, d2, ds2, p2, q2, rfl, rfl, rfl, h2, r2⟩ := trodAll_cons r1
  obtain ⟨v3, vs3, d3, ds3, p3, q3, rfl, rfl, rfl, h3, r3⟩ := trodAll_cons r2
  obtain ⟨v4, vs4, d4, ds4, p4, q4, rfl, rfl, rfl, h4, r4⟩ := trodAll_cons r3
  obtain ⟨v5, vs5, d5, ds5, p5, q5, rfl, rfl, rfl, h5, r5⟩ := trodAll_cons r4
  obtain ⟨rfl, rfl, rfl⟩ := trodAll_nil r5
  obtain rfl : args = #[v0, v1, v2, v3, v4, v5] := by cases args; simp_all
  obtain ⟨rfl, rfl⟩ := trodVars_none hV
  obtain ⟨n, e0, e1, e2, wfn⟩ := open_int Tryd.underlying3 (hval 1 3 v1 rfl rfl) h1
  obtain ⟨g, f0, f1, f2, wfg⟩ := open_int Tryd.underlying3 (hval 2 3 v2 rfl rfl) h2
  obtain ⟨at', g0, g1, g2, wfa⟩ := open_int Tryd.underlying3 (hval 3 3 v3 rfl rfl) h3
  obtain ⟨v, i0, i1, i2, wfv⟩ := open_int Tryd.underlying3 (hval 4 3 v4 rfl rfl) h4
  obtain ⟨s, j0, j1, j2, wfs⟩ := Go.ChangeMaps.open_string Tryd.underlying9 (hval 5 9 v5 rfl rfl) h5
  subst e0 e1 e2 f0 f1 f2 g0 g1 g2 i0 i1 i2 j0 j1 j2
  have hj := junk_bound d0 n g at' v s hwt0
  obtain ⟨z, rfl, hl⟩ := agg_S (hval 0 34 v0 rfl rfl)
  have hzb := agg_Sb h0
  have lt0 : ∀ x ∈ p0, x.block < W.heap.size := by obtain ⟨m, hm⟩ := h0; exact DataW.trod_lt m _ _ _ hm
  have hT := of_laid hL
  clear hA0 hval0
  refine (reread_any z n g at' v s W hT hl hzb (Go.bounds_i64 wfn) (Go.bounds_i64 wfg) (Go.bounds_i64 wfa) (Go.bounds_i64 wfv) hj).mono fun e W' ⟨he, bel⟩ => ?_
  subst he
  exact ⟨_, rfl, _, _, _, [], _, [], hW', trodAll_mk1 (shut_bool Tryd.underlying4 _), (trodAll_cons_mk (Below.trod laidOut (by kernel_rfl) (of_decide_eq_true (by kernel_rfl)) h0 bel lt0) (trodAll_cons_mk (shut_int Tryd.underlying3 wfn) (trodAll_cons_mk (shut_int Tryd.underlying3 wfg) (trodAll_cons_mk (shut_int Tryd.underlying3 wfa) (trodAll_cons_mk (shut_int Tryd.underlying3 wfv) (trodAll_cons_mk (Go.ChangeMaps.shut_string Tryd.underlying9 wfs) trodAll_mk0)))))), rfl, bel.frame _, fun h => by cases h⟩

theorem reread_holds : Rows.RereadSaid :=
  OpenClaim.holds_of_wide 11 Tryd.f11 rfl rfl rfl rfl rfl rfl rfl ⟨rfl, rfl, rfl, rfl, rfl⟩ rfl rfl rfl rfl rfl (by kernel_rfl) Tryd.func11 (by kernel_rfl)
    (of_decide_eq_true (by kernel_rfl)) (by unfold Func.isWrapper; first | (rw [if_pos (by decide +kernel)]; kernel_rfl) | (rw [if_neg (by decide +kernel)]; exact ⟨rfl, rfl⟩))
    (fun os started H enc _ => lifted os started H enc)

/-- THE TIED CARD. -/
theorem reread_card_holds : Rows.RereadCardSaid :=
  Claim7.holds_tied_plain_at .later [] [.data] true Rows.rereadCard.stood.harness false
    reread_holds (fun _ h => by cases h) (by kernel_rfl) (fun _ h => by cases h) reread_row_tie rfl ⟨rfl, rfl⟩ (by kernel_rfl) rfl
    (fun f fn hf hfn => by
      obtain rfl : f = 11 := Option.some.inj ((show Tryd.prog.funcNamed "crib/cribkeep.Reread" = some 11 by kernel_rfl).symm.trans hf) |>.symm
      obtain rfl : fn = Tryd.f11 := (Option.some.inj (Tryd.func11.symm.trans hfn)).symm
      exact ⟨by kernel_rfl, fun j t ht => by
        rw [Tryd.params11] at ht
        have hm : t ∈ [34, 3, 3, 3, 3, 9] := by simpa using Array.mem_of_getElem? ht
        have hall : ([34, 3, 3, 3, 3, 9].all fun u => !Tryd.prog.wantsStandIn u) = true := by kernel_rfl
        exact (show Tryd.prog.wantsStandIn t = false by simpa using List.all_eq_true.1 hall t hm)⟩)
    (by kernel_rfl)
#print axioms reread_card_holds
end Go.Proofs.YtmmflekajbeamaaDoor
