/-
  A region that draws its order: behind readers two operations in either order, then the rest in its order.
  The engine: a block or a step (advance).
  The engine: Run.
  Faithful: a machine behind so many steps, as long as it runs (stepped); a run is just as many.
-/
import Derived.Test.YtmmflekajbeamaaGreatDoorF29
import Derived.Test.YtmmflekajbeamaaGreatDoorF13
namespace Go.Proofs.YtmmflekajbeamaaGreatDoor
open Go

section
variable {P : Program} {ops : Array Oper} {Q : Exit → Act → World → Prop} {md : Region.Mode} {S : World → Prop} {q : Nat}

def fkB (md : Region.Mode) (ops : Array Oper) (F q a b : Nat) (ts : List Nat) : List Nat → Array Bool → Bool
  | [], listed => decide (Region.ready md ops listed = [a, b]) && tailB md ops (b :: ts) (listed.setIfInBounds a true) && tailB md ops (a :: ts) (listed.setIfInBounds b true)
  | i :: rs, listed => (Region.ready md ops listed).contains i && Region.free md ops listed i && lateB md ops F i listed && (decide (i < q) && (List.range ops.size).all fun j => decide (j < q) || deepB md ops F j i) && fkB md ops F q a b ts rs (listed.setIfInBounds i true)
theorem wpAnyQ_fk {F a b : Nat} {ts : List Nat} {w : World} (hsel : Region.noSelect ops = true) (hQ : ∀ d v c a w, Q (.panic c) (Act.put a d v) w → Q (.panic c) a w) (hS : S w) : ∀ (rs : List Nat) (listed : Array Bool) (x : Act), fkB md ops F q a b ts rs listed = true → wpTakeI P ops S (fun x' => wpTailI P ops Q S q (a :: b :: ts) x' w ∧ wpTailI P ops Q S q (b :: a :: ts) x' w) rs x → wpAnyQ P md ops Q S q (rs.length + (ts.length + 2)) listed x w
  | [], listed, x, hB, h => by
    simp only [fkB, Bool.and_eq_true, decide_eq_true_eq] at hB
    obtain ⟨⟨hr, hA⟩, hC⟩ := hB
    rw [List.length_nil, Nat.zero_add]
    refine ⟨fun h1 => (by rw [hr] at h1; cases h1), fun i hi => ?_⟩
    rw [hr] at hi
    have hik : i = a ∨ i = b := by simpa using hi
    have go : ∀ (k : Nat) (us : List Nat), us.length = ts.length + 1 → tailB md ops us (listed.setIfInBounds k true) = true → wpTailI P ops Q S q (k :: us) x w → wpOp P ops Q k (fun a' w' => (k < q → S w') ∧ wpAnyQ P md ops Q S q (ts.length + 1) (listed.setIfInBounds k true) a' w') x w := fun k us hlen hT hk => by
      obtain ⟨o, h0, h2⟩ := hk
      have h3 := h2 (fun a' w' => (k < q → S w') ∧ wpTailI P ops Q S q us a' w') (fun _ _ h1 h2 => ⟨h1, h2⟩)
      have hw : wpOp P ops Q k (fun a' w' => (k < q → S w') ∧ wpTailI P ops Q S q us a' w') x w := by
        unfold wpOp
        simp only [h0]
        split
        · rename_i hq; rw [if_pos hq] at h3; exact .inl h3
        · rename_i hq; rw [if_neg hq] at h3; exact h3
      refine wpOp_mono (fun a' w' h' => ⟨h'.1, ?_⟩) hw
      have := wpAnyQ_tailI us _ a' w' hT h'.2
      rw [hlen] at this
      exact this
    rcases hik with rfl | rfl
    · exact go i (b :: ts) rfl hA h.1
    · exact go i (a :: ts) rfl hC h.2
  | i :: rs, listed, x, hB, h => by
    simp only [fkB, Bool.and_eq_true, decide_eq_true_eq] at hB
    obtain ⟨⟨⟨⟨hr, hf⟩, hlt⟩, hiq, hlast⟩, hB'⟩ := hB
    obtain ⟨o, v, h0, hy, hK⟩ := h
    rw [List.length_cons, show rs.length + 1 + (ts.length + 2) = rs.length + (ts.length + 2) + 1 by omega]
    refine wpAnyQ_first2 h0 (Region.noSelect_spec hsel) (hQ o.dst v) (fun j hj hjs => ?_) hiq _ listed x w (Region.free_spec h0 hf) (late_of hlt) (by simpa using hr) hy hS (wpAnyQ_fk hsel hQ hS rs _ _ hB' hK)
    have h1 := List.all_eq_true.1 hlast j (List.mem_range.2 hjs)
    simp only [Bool.or_eq_true, decide_eq_true_eq] at h1
    rcases h1 with h1 | h1
    · omega
    · exact h1
def planF (ops : Array Oper) (F : Nat) (rs : List Nat) (a b : Nat) (ts : List Nat) (q : Nat) : Bool := Region.noSelect ops && decide (rs.length + (ts.length + 2) = ops.size) && fkB .any ops F q a b ts rs (Array.replicate ops.size false)
theorem held_fork {id : Nat} {x : Act} {w : World} (F : Nat) (rs : List Nat) (a b : Nat) (ts : List Nat) (q : Nat) (S : World → Prop) (hm : P.follows .mixedOrders = true) (hB : planF ops F rs a b ts q = true)
    (hQ : ∀ d v c a w, Q (.panic c) (Act.put a d v) w → Q (.panic c) a w) (hS : S w.drew)
    (h : wpTakeI P ops S (fun x' => wpTailI P ops Q S q (a :: b :: ts) x' w.drew ∧ wpTailI P ops Q S q (b :: a :: ts) x' w.drew) rs x) : (Code.region id ops true).wp P Q x w := by
  simp only [planF, Bool.and_eq_true, decide_eq_true_eq] at hB
  obtain ⟨⟨hsel, hlen⟩, hpl⟩ := hB
  refine wp_region_any hm ?_
  have H := wpAny_of_Q _ _ _ _ (wpAnyQ_fk (P := P) (md := .any) (Q := Q) (S := S) (q := q) (F := F) (a := a) (b := b) (ts := ts) (w := w.drew) hsel hQ hS rs _ x hpl h)
  rw [hlen] at H
  exact H
end
end Go.Proofs.YtmmflekajbeamaaGreatDoor

namespace Go.Proofs.YtmmflekajbeamaaGreatDoor
open Go.RowKit Go.Maps Go.WideMaps

def advE (g : EgN) (fuel : Nat) : EgN × Nat := if fuel < (wsZ g.z).length then ({ g with z := (stp g.z).1 }, 1) else (blkE g, (wsZ g.z).length)
def AdPost (E D : Nat) (m v : Nat → Value) (w : World) (r : EgN × Nat) (e' : Ending) (w' : World) : Prop := e' = .returned (.int .i64 (r.2 : Int)) ∧ GPost E D m v w r.1 w'
theorem row9_set {w : World} {X : Nat} {t : TypeId} (h : RowI w X t (wdZ [])) (z : List Int) (hz : z.length = 9) : RowI (w.setCells X 0 (S z).toList) X t z := by
  obtain ⟨a0, a1, a2, a3, a4, a5, a6, a7, a8, rfl⟩ := len9 z hz
  have h' : w.heap[X]? = some (.cells #[.int .i64 0, .int .i64 0, .int .i64 0, .int .i64 0, .int .i64 0, .int .i64 0, .int .i64 0, .int .i64 0, .int .i64 0] t (0, 0)) := h
  unfold RowI
  simp [S, World.setCells, World.setCell, Array.getElem?_modify, h']
theorem below_setCells {B X : Nat} {w0 : World} (hB : B ≤ X) : ∀ (vs : List Value) (o : Nat) (w : World), Below B w0 w → Below B w0 (w.setCells X o vs)
  | [], _, _, h => h
  | u :: r, o, _, h => below_setCells hB r (o + 1) _ (h.setCell (p := ⟨X, o, none⟩) hB u)
theorem row9_there {w : World} {X : Nat} {t : TypeId} (h : RowI w X t (wdZ [])) (z : List Int) (hz : z.length = 9) : w.there X 0 (S z).size := fun j hj => by
  rw [S_size, hz] at hj
  have h' : w.heap[X]? = some (.cells (S (wdZ [])) t (0, 0)) := h
  refine ⟨?_, by simp [World.frozen?, h']⟩
  have := h.cell (0 + j) (by rw [Nat.zero_add]; exact hj)
  rw [this]
  rfl
set_option maxRecDepth 100000 in
set_option maxHeartbeats 8000000 in
theorem advance_any (E D : Nat) (g : EgN) (m v : Nat → Value) (fuel : Nat) (w : World) (kk : Nat) (h : EgAt E D g m v w) (ht : Tab w) (hE : 0 < E) (hz : RunOK g.z) (hs : gz g.z 137 = 0) (hrd : RdOK g) (hrn : RnOK g kk) (hkk : kk ≤ 100000000000) (hpl : ∀ k ∈ g.b 0, k.2.length ≤ 1000000) :
    Calls Tryz.prog 89 #[.pointer (some ⟨E, 0, none⟩), .int .i64 (fuel : Int)] w (AdPost E D m v w (advE g fuel)) := by
  have hm128 : (memZ g.z).length = 128 := hz.parts.2.1
  have hz9 := wdZ_len hz.wok.1
  have HLm := hide (fun w' => load_m w' E 11 (memZ g.z) hm128)
  have HAt : Hid (∀ w', Tab w' → Calls Tryz.prog 139 #[.agg (S (memZ g.z)), .int .i64 (pcZ g.z : Int)] w' fun e' w'' => e' = .returned (.agg (S (wdZ (wsZ g.z)))) ∧ Below w'.heap.size w' w'') := fun w' ht' => blockAt_any (memZ g.z) (pcZ g.z) w' ht' hm128 (fun i => by
    rcases Nat.lt_or_ge i 128 with hi | hi
    · exact hz.parts.2.at hi
    · rw [List.getD_eq_getElem?_getD, List.getElem?_eq_none (by rw [hm128]; exact hi)]
      exact ⟨Int.le_refl _, by decide⟩) hz.pc.1
  have HRb := hide (fun w' (h' : EgAt E D g m v w') (ht' : Tab w') => runBlock_any E D g m v w' kk h' ht' hE hz hs hrd hrn hkk hpl)
  have HSt := hide (fun w' (h' : EgAt E D g m v w') (ht' : Tab w') => estep_any E D g m v w' h' ht')
  have HH := hide h; have HTw := hide ht
  have c1 := h.mems
  have c2 := h.pcell (r := g.z.take 8) (mem := memZ g.z) (pc := (pcZ g.z : Int)) (st := 0) hz.parts.1.1 hm128 (by rw [← hz.pc.2, ← hs]; exact z_mk hz.len)
  have hEw := h.lt
  have z9 := zero9
  have HLen : Hid (gz (wdZ (wsZ g.z)) 0 = ((wsZ g.z).length : Int)) := wdZ_0 _
  obtain ⟨PR, hPR⟩ : ∃ PR, PR = advE g fuel := ⟨_, rfl⟩
  rw [← hPR]
  have HPR := hide hPR
  have hfk : ∀ (W : World) (j : Nat), Below w.heap.size w W → W.cell? ⟨E, j, none⟩ = w.cell? ⟨E, j, none⟩ := fun W j hb => World.cell?_of_block (hb.block E hEw)
  have HFk := hide hfk
  clear h ht hE hz hs hrd hrn hkk hpl hPR hfk
  go_enter Tryz.func89, Tryz.ntmps89
  go_upto_region 1 with fail
  refine held_fork 8 [0, 1, 2, 3, 4, 5, 6, 7, 8, 9] 10 11 [12] 12 (fun w' => w'.rangeAt E 11 ((memZ g.z).map (Value.int .i64)) ∧ w'.cell? ⟨E, 139, none⟩ = some (.int .i64 (pcZ g.z : Int))) (by kernel_rfl) (by kernel_rfl) (fun d _ _ _ _ h => by cases d <;> exact h) ⟨c1, c2⟩ ?_
  iterate 4
    refine wpTakeI_step ?_ rfl rfl ?_ ?_
    rotate_left
    · rintro w' ⟨d0, d1⟩
      go_simp
      rfl
    go_simp
  refine wpTakeI_step (.agg (S (memZ g.z))) rfl rfl ?_ ?_
  · rintro w' ⟨d0, d1⟩
    have hl := HLm.out w' d0
    simp only [execOp, List.getElem_toArray, List.getElem_cons_succ, List.getElem_cons_zero, Sem.run_bind]
    show Result.andThen (Sem.run Tryz.prog (Instr.loadAt 26 (.pointer (some ⟨E, 11, none⟩))) w') _ = _
    rw [hl]
    rfl
  go_simp
  iterate 5
    refine wpTakeI_step ?_ rfl rfl ?_ ?_
    rotate_left
    · rintro w' ⟨d0, d1⟩
      go_simp
      rfl
    go_simp
  refine wpTakeI_nil ?_
  refine ⟨?_, ?_⟩
  · refine wpTailI_step rfl rfl (fun K hK => ?_)
    go_simp
    refine (unhide HAt _ (HTw.out.below HTw.out.pos ((Below.refl _ _).drew))).mono ?_
    rintro e w1 ⟨rfl, hb1'⟩
    have hb1 : Below w.heap.size w w1 := ((Below.refl _ _).drew).trans hb1'
    go_simp
    refine hK _ _ (fun _ => ⟨fun j u q => (HFk.out w1 _ hb1).trans (c1 j u q), (HFk.out w1 _ hb1).trans c2⟩) ?_
    clear hK K
    refine wpTailI_step rfl rfl (fun K hK => ?_)
    go_simp
    obtain ⟨wa, hwa⟩ : ∃ wa, wa = w1.alloc (.cells (S (wdZ [])) 187) := ⟨_, rfl⟩
    rw [← hwa]
    have hba : Below w.heap.size w wa := by rw [hwa]; exact hb1.alloc hb1.size _
    refine hK _ _ (fun _ => ⟨fun j u q => (HFk.out wa _ hba).trans (c1 j u q), (HFk.out wa _ hba).trans c2⟩) ?_
    clear hK K
    have rx : RowI wa w1.heap.size 187 (wdZ []) := by rw [hwa]; exact _root_.Go.heap_alloc_new w1 _
    have hXw : w.heap.size ≤ w1.heap.size := hb1.size
    clear hwa hb1 hb1'
    generalize w1.heap.size = X at *
    refine wpTailI_step rfl rfl (fun K hK => ?_)
    refine wp_store_mid 187 _ _ rfl X 0 (S (wdZ (wsZ g.z))) rfl rfl (row9_there rx _ hz9) (by rw [size9, S_size, hz9]) (S_one _) ?_
    refine hK _ _ (fun h => absurd h (by decide)) ?_
    clear hK K
    refine wpTailI_nil ?_
    obtain ⟨W, hW⟩ : ∃ W, W = wa.setCells X 0 (S (wdZ (wsZ g.z))).toList := ⟨_, rfl⟩
    rw [← hW]
    have rX : RowI W X 187 (wdZ (wsZ g.z)) := by rw [hW]; exact row9_set rx _ hz9
    have hbW : Below w.heap.size w W := by rw [hW]; exact below_setCells hXw _ 0 _ hba
    have kW : EgAt E D g m v W := HH.out.kept (fun x q => hbW.block x (HH.out.has q).2)
    have hTW : Tab W := HTw.out.below HTw.out.pos hbW
    have y0 : W.cell? ⟨X, 0, none⟩ = some (.int .i64 ((wsZ g.z).length : Int)) := by have := rX.cell 0 (by rw [hz9]; decide); rw [HLen.out] at this; exact this
    have hXn : ¬ eHas E m v X := fun q => by have := (HH.out.has q).2; omega
    have rI := rX.isRow 9 hz9
    have rD := rX.rowD
    have HRX := hide rX; have HBW := hide hbW
    have HS2 := hide (HSt.out W kW hTW)
    have HR2 := hide (HRb.out W kW hTW)
    clear hW rX hbW kW hTW rx hba c1 c2 HLm HAt HSt HRb
    by_cases hlt : fuel < (wsZ g.z).length
    · have hlt' : (fuel : Int) < ((wsZ g.z).length : Int) := by omega
      have HP2 : Hid (PR = ({ g with z := (stp g.z).1 }, 1)) := HPR.out.trans (if_pos hlt)
      clear hlt
      go_wp2_with fail
      refine (unhide HS2).mono ?_
      rintro e w2 ⟨rfl, k2, c2⟩
      have HG : Hid (GPost E D m v w { g with z := (stp g.z).1 } w2) := ⟨m, v, k2, (Chg.of_below HBW.out).trans (fun x q => .inl q) c2, fun _ q => .inl q⟩
      clear k2 c2 HS2 HR2
      go_wp2_with fail
      go_ret
      rw [HP2.out]
      exact ⟨rfl, HG.out⟩
    · have hlt' : ¬ (fuel : Int) < ((wsZ g.z).length : Int) := by omega
      have HP2 : Hid (PR = (blkE g, (wsZ g.z).length)) := HPR.out.trans (if_neg hlt)
      clear hlt
      go_wp2_with (first | refine wpList_loadR rfl Tryz.underlying187 size9 rfl _ rfl X rfl rI (S (wdZ (wsZ g.z))) rD ?_)
      refine (unhide HR2).mono ?_
      rintro e w2 ⟨rfl, hg⟩
      have y2 : w2.cell? ⟨X, 0, none⟩ = some (.int .i64 ((wsZ g.z).length : Int)) := by
        obtain ⟨_, _, _, c, _⟩ := hg
        exact (World.cell?_of_block (c.other X HRX.out.lt hXn)).trans y0
      have HG : Hid (GPost E D m v w (blkE g) w2) := GPost.from (Chg.of_below HBW.out) hg
      clear hg HS2 HR2 y0
      go_wp2_with fail
      go_ret
      rw [HP2.out]
      exact ⟨rfl, HG.out⟩
  · refine wpTailI_step rfl rfl (fun K hK => ?_)
    go_simp
    obtain ⟨w0, hw0⟩ : ∃ w0, w0 = (w.alloc (.cells (S (wdZ [])) 187)).drew := ⟨_, rfl⟩
    rw [← hw0]
    have hb0 : Below w.heap.size w w0 := by rw [hw0]; exact ((Below.refl _ _).alloc (Nat.le_refl _) _).drew
    have r0 : RowI w0 w.heap.size 187 (wdZ []) := by rw [hw0]; exact _root_.Go.heap_alloc_new w _
    clear hw0
    refine hK _ _ (fun _ => ⟨fun j u q => (HFk.out w0 _ hb0).trans (c1 j u q), (HFk.out w0 _ hb0).trans c2⟩) ?_
    clear hK K
    refine wpTailI_step rfl rfl (fun K hK => ?_)
    go_simp
    refine (unhide HAt _ (HTw.out.below HTw.out.pos hb0)).mono ?_
    rintro e wa ⟨rfl, hba'⟩
    have hba : Below w.heap.size w wa := hb0.trans (hba'.mono hb0.size)
    go_simp
    refine hK _ _ (fun _ => ⟨fun j u q => (HFk.out wa _ hba).trans (c1 j u q), (HFk.out wa _ hba).trans c2⟩) ?_
    clear hK K
    have rx : RowI wa w.heap.size 187 (wdZ []) := r0.keep (hba'.block _ r0.lt)
    have hXw : w.heap.size ≤ w.heap.size := Nat.le_refl _
    clear hb0 hba' r0
    refine wpTailI_step rfl rfl (fun K hK => ?_)
    refine wp_store_mid 187 _ _ rfl w.heap.size 0 (S (wdZ (wsZ g.z))) rfl rfl (row9_there rx _ hz9) (by rw [size9, S_size, hz9]) (S_one _) ?_
    refine hK _ _ (fun h => absurd h (by decide)) ?_
    clear hK K
    refine wpTailI_nil ?_
    obtain ⟨W, hW⟩ : ∃ W, W = wa.setCells w.heap.size 0 (S (wdZ (wsZ g.z))).toList := ⟨_, rfl⟩
    rw [← hW]
    have rX : RowI W w.heap.size 187 (wdZ (wsZ g.z)) := by rw [hW]; exact row9_set rx _ hz9
    have hbW : Below w.heap.size w W := by rw [hW]; exact below_setCells hXw _ 0 _ hba
    have kW : EgAt E D g m v W := HH.out.kept (fun x q => hbW.block x (HH.out.has q).2)
    have hTW : Tab W := HTw.out.below HTw.out.pos hbW
    have y0 : W.cell? ⟨w.heap.size, 0, none⟩ = some (.int .i64 ((wsZ g.z).length : Int)) := by have := rX.cell 0 (by rw [hz9]; decide); rw [HLen.out] at this; exact this
    have hXn : ¬ eHas E m v w.heap.size := fun q => by have := (HH.out.has q).2; omega
    have rI := rX.isRow 9 hz9
    have rD := rX.rowD
    have HRX := hide rX; have HBW := hide hbW
    have HS2 := hide (HSt.out W kW hTW)
    have HR2 := hide (HRb.out W kW hTW)
    clear hW rX hbW kW hTW rx hba c1 c2 HLm HAt HSt HRb
    by_cases hlt : fuel < (wsZ g.z).length
    · have hlt' : (fuel : Int) < ((wsZ g.z).length : Int) := by omega
      have HP2 : Hid (PR = ({ g with z := (stp g.z).1 }, 1)) := HPR.out.trans (if_pos hlt)
      clear hlt
      go_wp2_with fail
      refine (unhide HS2).mono ?_
      rintro e w2 ⟨rfl, k2, c2⟩
      have HG : Hid (GPost E D m v w { g with z := (stp g.z).1 } w2) := ⟨m, v, k2, (Chg.of_below HBW.out).trans (fun x q => .inl q) c2, fun _ q => .inl q⟩
      clear k2 c2 HS2 HR2
      go_wp2_with fail
      go_ret
      rw [HP2.out]
      exact ⟨rfl, HG.out⟩
    · have hlt' : ¬ (fuel : Int) < ((wsZ g.z).length : Int) := by omega
      have HP2 : Hid (PR = (blkE g, (wsZ g.z).length)) := HPR.out.trans (if_neg hlt)
      clear hlt
      go_wp2_with (first | refine wpList_loadR rfl Tryz.underlying187 size9 rfl _ rfl w.heap.size rfl rI (S (wdZ (wsZ g.z))) rD ?_)
      refine (unhide HR2).mono ?_
      rintro e w2 ⟨rfl, hg⟩
      have y2 : w2.cell? ⟨w.heap.size, 0, none⟩ = some (.int .i64 ((wsZ g.z).length : Int)) := by
        obtain ⟨_, _, _, c, _⟩ := hg
        exact (World.cell?_of_block (c.other w.heap.size HRX.out.lt hXn)).trans y0
      have HG : Hid (GPost E D m v w (blkE g) w2) := GPost.from (Chg.of_below HBW.out) hg
      clear hg HS2 HR2 y0
      go_wp2_with fail
      go_ret
      rw [HP2.out]
      exact ⟨rfl, HG.out⟩
end Go.Proofs.YtmmflekajbeamaaGreatDoor

namespace Go.Proofs.YtmmflekajbeamaaGreatDoor
open Go.RowKit Go.Maps Go.WideMaps

/-- What a run keeps to. -/
structure RunG (g : EgN) (k : Nat) : Prop where
  z : RunOK g.z
  rd : RdOK g
  rn : RnOK g k
  pl : ∀ i, i < 3 → ∀ x ∈ g.b i, x.2.length ≤ 1000000
theorem RnOK.more {g : EgN} {k n : Nat} (h : RnOK g k) (hn : k ≤ n) : RnOK g n := ⟨fun i hi => Nat.le_trans (h.1 i hi) hn, fun i hi => Nat.le_trans (h.2 i hi) hn⟩
theorem prepE_rn {g : EgN} {k : Nat} (h : RnOK g k) (ws : List Nat) : RnOK (prepE g ws).1 (k + 3) := by
  unfold prepE
  split
  · split
    · exact (h.ct 1).more (by omega)
    · exact ((h.ct 2).ct 3).lay 1 ws _
  · exact (((h.ct 3).lay 1 ws _)).more (by omega)
theorem planE_rn {g : EgN} {k : Nat} (h : RnOK g k) (ws : List Nat) : RnOK (planE g ws).1 (k + 4) := by
  unfold planE
  split
  · exact (h.ct 0).more (by omega)
  · exact (prepE_rn h ws).lay 2 ws _
theorem layB_mem {l : List KwN} {ws : List Nat} {p : List UInt8} {x : KwN} (h : x ∈ layB l ws p) : x ∈ l ∨ x = (ws, p) := by
  unfold layB at h
  split at h
  · exact (List.mem_or_eq_of_mem_set h)
  · rcases List.mem_append.1 h with q | q
    · exact .inl q
    · exact .inr (by simpa using q)
theorem prepE_b (g : EgN) (ws : List Nat) : (prepE g ws).1.b 0 = g.b 0 ∧ (prepE g ws).1.b 2 = g.b 2 ∧ ((prepE g ws).1.b 1 = g.b 1 ∨ (prepE g ws).1.b 1 = layB (g.b 1) ws (ownT ws)) := by
  unfold prepE
  split
  · split
    · exact ⟨rfl, rfl, .inl rfl⟩
    · exact ⟨rfl, rfl, .inr rfl⟩
  · exact ⟨rfl, rfl, .inr rfl⟩
theorem prepE_sh {g : EgN} {ws : List Nat} (hb : blkOK (bya (wdsT ws))) (h : ∀ x ∈ g.b 0, x.2.length ≤ 1000000) : (prepE g ws).2.length ≤ 1000000 := by
  have ho := own_sh ws hb
  unfold prepE
  cases hq : fB (g.b 0) ws with
  | some p =>
    obtain ⟨n, hn, _⟩ := fB_some hq
    have := h (ws, p) (List.mem_of_getElem? hn)
    simp only
    split
    · exact this
    · show (ownT ws).length ≤ _; omega
  | none => show (ownT ws).length ≤ _; omega
theorem planE_pl {g : EgN} {ws : List Nat} (hb : blkOK (bya (wdsT ws))) (h : ∀ i, i < 3 → ∀ x ∈ g.b i, x.2.length ≤ 1000000) : ∀ i, i < 3 → ∀ x ∈ (planE g ws).1.b i, x.2.length ≤ 1000000 := by
  have ho := own_sh ws hb
  unfold planE
  cases hq : fB (g.b 2) ws with
  | some p => exact h
  | none =>
    simp only
    intro i hi x hx
    obtain ⟨b0, b2, b1⟩ := prepE_b g ws
    by_cases i2 : i = 2
    · subst i2
      have hx' : x ∈ upd (prepE g ws).1.b 2 (layB ((prepE g ws).1.b 2) ws (prepE g ws).2) 2 := hx
      rw [upd_at, b2] at hx'
      rcases layB_mem hx' with q | q
      · exact h 2 hi x q
      · rw [q]; exact prepE_sh hb (h 0 (by decide))
    · have hx' : x ∈ upd (prepE g ws).1.b 2 (layB ((prepE g ws).1.b 2) ws (prepE g ws).2) i := hx
      rw [upd_ne _ _ _ _ i2] at hx'
      have hi01 : i = 0 ∨ i = 1 := by omega
      rcases hi01 with rfl | rfl
      · rw [b0] at hx'; exact h 0 hi x hx'
      · rcases b1 with b1 | b1
        · rw [b1] at hx'; exact h 1 hi x hx'
        · rw [b1] at hx'
          rcases layB_mem hx' with q | q
          · exact h 1 hi x q
          · rw [q]; show (ownT ws).length ≤ _; omega
theorem planE_rd {g : EgN} {ws : List Nat} (hb : blkOK (bya (wdsT ws))) (h : RdOK g) : RdOK (planE g ws).1 := by
  have ha := plan_acc h hb
  unfold planE at ha ⊢
  cases hq : fB (g.b 2) ws with
  | some p => exact h
  | none =>
    rw [hq] at ha
    simp only at ha ⊢
    intro x hx
    have hx' : x ∈ upd (prepE g ws).1.b 2 (layB ((prepE g ws).1.b 2) ws (prepE g ws).2) 2 := hx
    rw [upd_at, (prepE_b g ws).2.1] at hx'
    rcases layB_mem hx' with q | q
    · exact h x q
    · rw [q]; exact ha
theorem itS_ok {z : List Int} (h : RunOK z) (hs : gz z 137 = 0) : RunOK (itS (wsZ z).length z) := by
  obtain ⟨e1, e2, e3⟩ := blk_end h hs
  have hn := plN_ws h
  have hp := itS_plain h hs (plN (wsZ z)) (by rw [hn]; exact Nat.le_refl _)
  have h1 : RunOK (itS (plN (wsZ z)) z) := by
    rw [hp]
    exact ⟨stZ_len h.parts.1 h.parts.2 h.pc.1 _, stZ_stB h.parts.1 h.parts.2 h.pc.1 _⟩
  by_cases hl : plN (wsZ z) < (wsZ z).length
  · rw [← e2 hl]
    have h0 : gz (itS (plN (wsZ z)) z) 137 = 0 := by
      rw [hp]
      unfold stZ
      exact mkZ_st (stZ_WL h.parts.1 h.parts.2 h.pc.1 _).1 h.parts.2.1
    exact ⟨stp_len _ h1.len, (stp_stB h1.st h1.len h0).1⟩
  · rw [← e3 hl]; exact h1
theorem advE_ok {g : EgN} {k : Nat} (h : RunG g k) (hs : gz g.z 137 = 0) (fuel : Nat) : RunG (advE g fuel).1 (k + 4) ∧ 1 ≤ (advE g fuel).2 ∧ (1 ≤ fuel → (advE g fuel).2 ≤ fuel) := by
  unfold advE
  split
  · refine ⟨⟨⟨stp_len _ h.z.len, (stp_stB h.z.st h.z.len hs).1⟩, h.rd, h.rn.more (by omega), h.pl⟩, Nat.le_refl _, fun q => q⟩
  · rename_i hf
    exact ⟨⟨itS_ok h.z hs, planE_rd h.z.blk h.rd, planE_rn h.rn _, planE_pl h.z.blk h.pl⟩, h.z.pos, fun _ => by show (wsZ g.z).length ≤ fuel; omega⟩
/-- The run: blocks or steps, while there is fuel and the machine runs. -/
def runL : Nat → EgN → Nat → Nat → EgN × Nat
  | 0, g, _, n => (g, n)
  | f + 1, g, fuel, n => if gz g.z 137 = 0 ∧ n < fuel then runL f (advE g (fuel - n)).1 fuel (n + (advE g (fuel - n)).2) else (g, n)
def runE (g : EgN) (fuel : Nat) : EgN × Nat := runL (fuel + 1) g fuel 0
theorem runL_more : ∀ (f f' : Nat) (g : EgN) (k fuel n : Nat), RunG g k → fuel < n + f → fuel < n + f' → n ≤ fuel → runL f g fuel n = runL f' g fuel n
  | 0, f', g, k, fuel, n, h, h1, h2, h3 => by omega
  | f + 1, 0, g, k, fuel, n, h, h1, h2, h3 => by omega
  | f + 1, f' + 1, g, k, fuel, n, h, h1, h2, h3 => by
    rw [runL, runL]
    split
    · rename_i hc
      obtain ⟨q1, q2, q3⟩ := advE_ok h hc.1 (fuel - n)
      have := q3 (by omega)
      exact runL_more f f' _ (k + 4) fuel _ q1 (by omega) (by omega) (by omega)
    · rfl
theorem EgAt.stop {E D : Nat} {g : EgN} {m v : Nat → Value} {w : World} (h : EgAt E D g m v w) : w.cell? ⟨E, 140, none⟩ = some (.int .i64 (gz g.z 137)) := by
  refine h.st 137 (.int .i64 (gz g.z 137)) ?_
  rw [List.getElem?_map, List.getElem?_eq_getElem (by rw [h.zl]; decide)]
  unfold gz
  rw [List.getD_eq_getElem?_getD, List.getElem?_eq_getElem (by rw [h.zl]; decide)]
  rfl
end Go.Proofs.YtmmflekajbeamaaGreatDoor

namespace Go.Proofs.YtmmflekajbeamaaGreatDoor
open Go.RowKit Go.Maps Go.WideMaps

/-- Behind n steps, as long as it runs: k of them. -/
structure StR (n : Nat) (z t : List Int) (k : Nat) : Prop where
  le : k ≤ n
  eq : t = itS k z
  run : ∀ j, j < k → gz (itS j z) 137 = 0
  stop : k < n → gz (itS k z) 137 ≠ 0
theorem StR.uniq {n k k' : Nat} {z t t' : List Int} (h : StR n z t k) (h' : StR n z t' k') : t = t' ∧ k = k' := by
  have e : k = k' := by
    rcases Nat.lt_trichotomy k k' with c | c | c
    · exact absurd (h'.run k c) (h.stop (by have := h'.le; omega))
    · exact c
    · exact absurd (h.run k' c) (h'.stop (by have := h.le; omega))
  subst e
  exact ⟨h.eq.trans h'.eq.symm, rfl⟩
theorem itS_succ (k : Nat) (z : List Int) : itS (k + 1) z = (stp (itS k z)).1 := by rw [itS_add k 1]; rfl
theorem RunOK.step {z : List Int} (h : RunOK z) (hs : gz z 137 = 0) : RunOK (stp z).1 ∧ (stp z).2 = 0 := ⟨⟨stp_len _ h.len, (stp_stB h.st h.len hs).1⟩, (stp_stB h.st h.len hs).2⟩
theorem itS_run {z : List Int} (h : RunOK z) : ∀ k, (∀ j, j < k → gz (itS j z) 137 = 0) → RunOK (itS k z)
  | 0, _ => h
  | k + 1, hr => by
    rw [itS_succ]
    exact ((itS_run h k (fun j hj => hr j (by omega))).step (hr k (by omega))).1
theorem blk_runs {z : List Int} (h : RunOK z) (hs : gz z 137 = 0) {j : Nat} (hj : j < (wsZ z).length) : gz (itS j z) 137 = 0 := by
  have hn := plN_ws h
  have hp : (wsZ z).length ≤ plN (wsZ z) + 1 := by unfold plN; split <;> omega
  rw [itS_plain h hs j (by omega)]
  unfold stZ
  exact mkZ_st (stZ_WL h.parts.1 h.parts.2 h.pc.1 _).1 h.parts.2.1
theorem advE_z (g : EgN) (fuel : Nat) : (advE g fuel).1.z = itS (advE g fuel).2 g.z := by
  unfold advE
  split <;> rfl
theorem advE_runs {g : EgN} (h : RunOK g.z) (hs : gz g.z 137 = 0) (fuel : Nat) {j : Nat} (hj : j < (advE g fuel).2) : gz (itS j g.z) 137 = 0 := by
  unfold advE at hj
  split at hj
  · obtain rfl : j = 0 := by simpa using hj
    exact hs
  · exact blk_runs h hs hj
theorem runL_str : ∀ (f : Nat) (g : EgN) (k fuel n : Nat) (z0 : List Int), RunG g k → g.z = itS n z0 → (∀ j, j < n → gz (itS j z0) 137 = 0) → n ≤ fuel → fuel < n + f → StR fuel z0 (runL f g fuel n).1.z (runL f g fuel n).2
  | 0, g, k, fuel, n, z0, h, hz, hr, h1, h2 => by omega
  | f + 1, g, k, fuel, n, z0, h, hz, hr, h1, h2 => by
    rw [runL]
    split
    · rename_i hc
      obtain ⟨q1, q2, q3⟩ := advE_ok h hc.1 (fuel - n)
      have q4 := q3 (by omega)
      refine runL_str f _ (k + 4) fuel _ z0 q1 ?_ (fun j hj => ?_) (by omega) (by omega)
      · rw [advE_z, itS_add, ← hz]
      · rcases Nat.lt_or_ge j n with c | c
        · exact hr j c
        · obtain ⟨i, rfl⟩ : ∃ i, j = n + i := ⟨j - n, by omega⟩
          rw [itS_add, ← hz]
          exact advE_runs h.z hc.1 (fuel - n) (by omega)
    · rename_i hc
      exact ⟨h1, hz, hr, fun c => fun e => hc ⟨by show gz g.z 137 = 0; rw [hz]; exact e, c⟩⟩
theorem runE_str {g : EgN} {k : Nat} (h : RunG g k) (fuel : Nat) : StR fuel g.z (runE g fuel).1.z (runE g fuel).2 := runL_str (fuel + 1) g k fuel 0 g.z h rfl (fun j hj => by omega) (Nat.zero_le _) (by omega)

set_option maxRecDepth 100000 in
set_option maxHeartbeats 4000000 in
theorem stepped_run (z : List Int) (n : Nat) (w : World) (ht : Tab w) (hz : RunOK z) (hn : n ≤ 100000) :
    Calls Tryz.prog 31 #[.agg (S z), .int .i64 (n : Int)] w fun e' w' => (∃ k : Nat, StR n z (itS k z) k ∧ e' = .returned (.tuple #[.agg (S (itS k z)), .int .i64 (k : Int), .bool true])) ∧ Below w.heap.size w w' := by
  have zz := zero34
  have HZ := hide hz; have HN := hide hn
  have HT := hide (fun w' (hb : Below w.heap.size w w') => ht.below ht.pos hb)
  have HR0 : Hid (RowI (W2 z w) w.heap.size 28 z ∧ isRowB (W2 z w) (w.heap.size + 1) 138 = true ∧ Below w.heap.size w (W2 z w)) := by
    refine ⟨?_, W2_row1 _ w, W2_below _ w⟩
    unfold RowI W2
    rw [Below.heap_alloc _ _ _ (by rw [size_alloc1]; omega), _root_.Go.heap_alloc_new]
  clear ht hz
  go_enter Tryz.func31, Tryz.ntmps31
  go_wp2_with fail
  go_loopw [7] (fun i wr => ∃ k : Nat, k ≤ n ∧ i = .int .i64 k ∧ Hid ((∀ j, j < k → gz (itS j z) 137 = 0) ∧ RowI wr w.heap.size 28 (itS k z) ∧ isRowB wr (w.heap.size + 1) 138 = true ∧ Below w.heap.size w wr)) (fun i _ => n - (intOf i).toNat)
  case atStart => exact ⟨0, Nat.zero_le _, rfl, ⟨fun j hj => by omega, HR0.out⟩⟩
  case round =>
    obtain ⟨k, hk, rfl, HQ⟩ := hrel
    have HRun := hide HQ.out.1
    have HR := hide HQ.out.2
    have HOk := hide (itS_run HZ.out k HQ.out.1)
    clear HQ
    have hlk := HOk.out.len
    have rI := HR.out.1.isRow 138 hlk
    have rD := HR.out.1.rowD
    have hwz := HR.out.1.lt
    have c7 := HR.out.1.cell 137 (by rw [hlk]; omega)
    by_cases hlt : k < n
    · have hlt' : (k : Int) < (n : Int) := by omega
      by_cases hs : gz (itS k z) 137 = 0
      · rw [hs] at c7
        have HS := hide hs
        have hst := (HOk.out.step hs).2
        have HC := hide (cribStep_any (itS k z) wr hlk (HT.out _ HR.out.2.2))
        rw [hst, ← itS_succ] at HC
        have hl1 : (itS (k + 1) z).length = 138 := by rw [itS_succ]; exact (HOk.out.step hs).1.len
        have HRun1 : Hid (∀ j, j < k + 1 → gz (itS j z) 137 = 0) := fun j hj => by
          rcases Nat.lt_or_ge j k with c | c
          · exact HRun.out j c
          · obtain rfl : j = k := by omega
            exact HS.out
        clear hs hst HS HRun HOk
        go_wp2_with (refine wpList_load_S rfl _ rfl w.heap.size rfl rI _ rD ?_)
        refine (unhide HC).mono ?_
        rintro e w1 ⟨rfl, hb1⟩
        have hz1 := hb1.size
        obtain ⟨W3, hW3⟩ : ∃ W3, W3 = w1.alloc (.cells (S (itS (k + 1) z)) 28) := ⟨_, rfl⟩
        have HW := hide hW3
        have r3 : RowI W3 w1.heap.size 28 (itS (k + 1) z) := by unfold RowI; rw [hW3, _root_.Go.heap_alloc_new]
        have r0 : RowI W3 w.heap.size 28 (itS k z) := by rw [hW3]; exact (HR.out.1.keep (hb1.block _ hwz)).keep (Below.heap_alloc w1 _ _ (by omega))
        have b3 : Below w.heap.size w W3 := by rw [hW3]; exact (HR.out.2.2.trans (hb1.mono (by omega))).alloc (by omega) _
        have i3 : isRowB W3 (w.heap.size + 1) 138 = true := by
          have hlt1 : w.heap.size + 1 < wr.heap.size := by
            obtain ⟨t', hg', _⟩ := row_of HR.out.2.1
            exact (Array.getElem?_eq_some_iff.1 hg').1
          rw [hW3, isRowB_heap (Below.heap_alloc w1 _ _ (by omega)), isRowB_heap (hb1.block _ hlt1)]
          exact HR.out.2.1
        have rI3 := r3.isRow 138 hl1
        have rD3 := r3.rowD
        have rI0 := r0.isRow 138 hlk
        have HNx : Hid (RowI (W3.setRow w.heap.size (S (itS (k + 1) z))) w.heap.size 28 (itS (k + 1) z) ∧ isRowB (W3.setRow w.heap.size (S (itS (k + 1) z))) (w.heap.size + 1) 138 = true ∧ Below w.heap.size w (W3.setRow w.heap.size (S (itS (k + 1) z)))) := by
          refine ⟨setRow_heap W3 _ _ _ _ (0, 0) r0, ?_, below_setRow b3 (Nat.le_refl _) _⟩
          rw [isRowB_heap (setRow_other W3 _ _ _ (by omega))]
          exact i3
        clear hb1 hW3 r3 r0 b3 i3 rI rD c7 HC
        generalize hZe : itS (k + 1) z = Z1 at *
        have HZe := hide hZe
        clear hZe
        go_wp2_with (first | (refine wpList_store_S rfl _ _ rfl w1.heap.size rfl Z1 rfl hl1 (by rw [isRowB_alloc_at _ _ _ _ _ rfl]; simp [S_size, zeroZ]) _ (setRow_alloc_at _ _ _ _ _ rfl) ?_) | (refine wpList_load_S rfl _ rfl w1.heap.size rfl (by rw [← HW.out]; exact rI3) (S Z1) (by rw [← HW.out]; exact rD3) ?_) | (refine wpList_store_S rfl _ _ rfl w.heap.size rfl Z1 rfl hl1 (by rw [← HW.out]; exact rI0) (W3.setRow w.heap.size (S Z1)) (by rw [← HW.out]) ?_))
        exact ⟨⟨k + 1, by omega, by go_num, ⟨HRun1.out, by rw [HZe.out]; exact HNx.out⟩⟩, by simp [intOf]; omega⟩
      · have HSr : Hid (StR n z (itS k z) k) := ⟨hk, rfl, HRun.out, fun _ => hs⟩
        have hs' : (gz (itS k z) 137 == 0) = false := by rw [beq_eq_false_iff_ne]; exact hs
        obtain ⟨t, hg⟩ := heap_setRow_S HR.out.2.1 (S (itS k z))
        have HGf := hide hg
        have HBf := hide (below_setRow HR.out.2.2 (by omega : w.heap.size ≤ w.heap.size + 1) (S (itS k z)))
        have i1 := HR.out.2.1
        clear hg hs HRun HOk
        generalize hZe : itS k z = Z0 at *
        have HZe := hide hZe
        clear hZe
        generalize gz Z0 137 = st at *
        go_wp2_with (first | (refine wpList_load_S rfl _ rfl w.heap.size rfl rI _ rD ?_) | (refine wpList_store_S rfl _ _ rfl (w.heap.size + 1) rfl Z0 rfl hlk i1 _ rfl ?_))
        exact bodyPost_ret (v := .tuple #[.agg (S Z0), .int .i64 (k : Int), .bool true]) (res_S3 Tryz.results31 _ _ (w.heap.size + 1) t Z0 hlk rfl HGf.out _ _ rfl rfl) rfl ⟨⟨k, by rw [HZe.out]; exact HSr.out, by rw [HZe.out]⟩, HBf.out⟩
    · have hlt' : ¬ (k : Int) < (n : Int) := by omega
      have hke : k = n := by omega
      subst hke
      have HSr : Hid (StR k z (itS k z) k) := ⟨hk, rfl, HRun.out, fun c => absurd c (Nat.lt_irrefl _)⟩
      obtain ⟨t, hg⟩ := heap_setRow_S HR.out.2.1 (S (itS k z))
      have HGf := hide hg
      have HBf := hide (below_setRow HR.out.2.2 (by omega : w.heap.size ≤ w.heap.size + 1) (S (itS k z)))
      have i1 := HR.out.2.1
      clear hg HRun HOk c7
      go_wp2_with (first | (refine wpList_load_S rfl _ rfl w.heap.size rfl rI _ rD ?_) | (refine wpList_store_S rfl _ _ rfl (w.heap.size + 1) rfl (itS k z) rfl hlk i1 _ rfl ?_))
      exact bodyPost_ret (v := .tuple #[.agg (S (itS k z)), .int .i64 (k : Int), .bool true]) (res_S3 Tryz.results31 _ _ (w.heap.size + 1) t (itS k z) hlk rfl HGf.out _ _ rfl rfl) rfl ⟨⟨k, HSr.out, rfl⟩, HBf.out⟩
end Go.Proofs.YtmmflekajbeamaaGreatDoor
