/-
  Lists of blocks and plans: a list appended to a list; slices.Clone, slices.Concat.
  Frames of entries: strings.Builder by the kit's own law of it; frame.sealed, frame.Entries, frame.Anew.
  The program's engine, as it lies in memory, with its device; what a call leaves that turns no other block.
-/
import Derived.Test.YtmmflekajbeamaaGreatDoorF19
import Derived.Shelf.Spec.SlicesGrow
import Derived.Deep.Upon
import Derived.Test.YtmmflekajbeamaaGreatDoorF13
import Derived.Shelf.Strings.BuilderK
namespace Go.Proofs.YtmmflekajbeamaaGreatDoor
open Go.RowKit Go.Maps Go.WideMaps Go.Shelf

theorem knCs_len (l : List (List UInt8 × List UInt8)) : (knCs l).length = l.length * 2 := flat_len (fun x : List UInt8 × List UInt8 => [Value.string (bya x.1), Value.string (bya x.2)]) 2 (fun _ => rfl) l
theorem knCs_app (l m : List (List UInt8 × List UInt8)) : knCs (l ++ m) = knCs l ++ knCs m := by simp [knCs]
theorem knCs_one (l : List (List UInt8 × List UInt8)) : ∀ u ∈ knCs l, u.oneCell' = true := fun u hu => by
  unfold knCs at hu
  obtain ⟨x, _, hx⟩ := List.mem_flatMap.1 hu
  simp at hx
  rcases hx with rfl | rfl <;> rfl
/-- A list of blocks and plans behind another one. -/
theorem app_run (w : World) (ty : TypeId) {B B0 : Nat} {v x : Value} {l m : List (List UInt8 × List UInt8)} (hv : w.ownsRow B 127 2 v l.length (knCs l)) (hx : w.ownsRow B0 127 2 x m.length (knCs m)) (hB : B ≤ w.heap.size) (hl : l.length + m.length ≤ 2000000000000) :
    ∃ v' w', (Builtin.append_ #[57, 57] ty #[v, x]).run Tryz.prog w = .ok v' w' ∧ w'.ownsRow B 127 2 v' (l ++ m).length (knCs (l ++ m)) ∧ w.grownBy w' v.ownBlock ∧ (v.ownBlock = v'.ownBlock ∨ v'.ownBlock = some w.heap.size) := by
  obtain ⟨inf, hinf, hz, hsz1, hby⟩ := infoKn
  by_cases hm : m.length = 0
  · have hm0 : m = [] := List.length_eq_zero_iff.1 hm
    subst hm0
    obtain ⟨va, vc, rfl⟩ := owns_len hv
    obtain ⟨xa, xc, rfl⟩ := owns_len hx
    refine ⟨.slice va l.length vc, w, ?_, by rw [List.append_nil]; exact hv, World.grownBy.refl _ _, .inl rfl⟩
    have hle : l.length ≤ vc := by
      rcases hv.2 with ⟨q, q2⟩ | ⟨g, cap, cur, q, h1, h2, h3, h4, h5, h6⟩
      · rw [q2]; exact Nat.zero_le _
      · simp only [Value.slice.injEq] at q; obtain ⟨_, _, rfl⟩ := q; exact h3
    refine run_append_nothing w _ _ _ 127 inf Tryz.underlying57 hinf va l.length vc hle _ ?_
    cases xa with
    | none => exact ⟨.inl ⟨_, Tryz.underlying57⟩, fun w' => by simp [Builtin.lenOf], by simp [Builtin.firstCells], by simp [Builtin.firstCells], by simp, fun u hu => by cases hu⟩
    | some ad => exact ⟨.inl ⟨_, Tryz.underlying57⟩, fun w' => by simp [Builtin.lenOf], _root_.Go.run_firstCells_some w inf.size 0 ad 0 xc [] (by simp) (fun j v hj => by cases hj), _root_.Go.run_firstCells_some w.drew inf.size 0 ad 0 xc [] (by simp) (fun j v hj => by cases hj), by simp, fun u hu => by cases hu⟩
  · obtain ⟨xg, xc, rfl, _, _⟩ := hx.form (by omega)
    obtain ⟨g, cap, w', hr, h2, h3, h4, h5⟩ := run_append_lies w 57 ty B 127 inf _ 2 32 Tryz.underlying57 hinf hz hsz1 hby rfl (by decide) v l.length (knCs l) hv ⟨xg, 0, none⟩ m.length xc (knCs m) (knCs_len m) (fun j u hj => hx.cells (g := xg) rfl j u hj) (knCs_one m) (by omega) (by unfold maxLen; omega) (by omega) hB w.heap.size rfl
    exact ⟨_, w', hr, by rw [List.length_append, knCs_app]; exact h2, h3, h4.imp (fun q => q) (fun q => by rw [q]; rfl)⟩
theorem wp_app {o : Oper} {a : Act} {w : World} {K : Act → World → Prop} {Q : Exit → Act → World → Prop} (s x : Operand)
    (ho : o.op = .call { callee := .builtin .append, args := #[s, x], argTypes := #[57, 57] }) {B B0 : Nat} {v y : Value} {l m : List (List UInt8 × List UInt8)} (hs : a.eval s = v) (hx : a.eval x = y) (hv : w.ownsRow B 127 2 v l.length (knCs l)) (hy : w.ownsRow B0 127 2 y m.length (knCs m)) (hB : B ≤ w.heap.size) (hl : l.length + m.length ≤ 2000000000000)
    (h : ∀ v' w', w'.ownsRow B 127 2 v' (l ++ m).length (knCs (l ++ m)) → w.grownBy w' v.ownBlock → (v.ownBlock = v'.ownBlock ∨ v'.ownBlock = some w.heap.size) → K (a.put o.dst v') w') : o.wp Tryz.prog a w K Q := by
  obtain ⟨v', w', hr, h2, h3, h4⟩ := app_run w o.type hv hy hB hl
  unfold Oper.wp execOp
  simp only [ho, resolve, invoke, builtin, Sem.run_bind, Sem.run_pure, Result.andThen_ok, List.map_toArray, List.map_cons, List.map_nil, hs, hx, hr]
  exact h v' w' h2 h3 h4
theorem wpList_app {ops : Array Oper} {rest : List Oper} {o : Oper} {a : Act} {w : World} {Q : Exit → Act → World → Prop} (hgd : o.guard = none) (s x : Operand)
    (ho : o.op = .call { callee := .builtin .append, args := #[s, x], argTypes := #[57, 57] }) {B B0 : Nat} {v y : Value} {l m : List (List UInt8 × List UInt8)} (hs : a.eval s = v) (hx : a.eval x = y) (hv : w.ownsRow B 127 2 v l.length (knCs l)) (hy : w.ownsRow B0 127 2 y m.length (knCs m)) (hB : B ≤ w.heap.size) (hl : l.length + m.length ≤ 2000000000000)
    (h : ∀ v' w', w'.ownsRow B 127 2 v' (l ++ m).length (knCs (l ++ m)) → w.grownBy w' v.ownBlock → (v.ownBlock = v'.ownBlock ∨ v'.ownBlock = some w.heap.size) → wpList Tryz.prog ops Q rest (a.put o.dst v') w') : wpList Tryz.prog ops Q (o :: rest) a w :=
  wpList_plain hgd fun _ hK => wp_app s x ho hs hx hv hy hB hl fun v' w' h2 h3 h4 => hK _ _ (h v' w' h2 h3 h4)
def renG : Ren := ⟨fun _ => 221, fun t => if t = 0 then 0 else if t = 3 then 3 else if t = 4 then 4 else if t = 9 then 9 else if t = 20 then 20 else if t = 22 then 57 else 127, fun x => x⟩
set_option maxRecDepth 100000 in
theorem laysG : Lays8.n4 Tryz.prog renG := by
  constructor <;> first | kernel_rfl | (intro w; kernel_rfl) | exact ⟨ "slices.Grow[[]crib/api.Known,crib/api.Known]", rfl, by kernel_rfl⟩
/-- slices.Grow of no list. -/
theorem grow_any (n : Nat) (w : World) (hn : n ≤ 2000000000000) :
    Calls Tryz.prog 221 #[.slice none 0 0, .int .i64 (n : Int)] w fun e' w' => ∃ v, e' = .returned v ∧ w'.ownsRow w.heap.size 127 2 v 0 [] ∧ Below w.heap.size w w' := by
  by_cases h0 : n = 0
  · subst h0
    refine (Any8.slices_Grow_room laysG none 0 0 0 w (Nat.le_refl _) (by omega) (by omega) (Nat.le_refl _)).mono ?_
    rintro e w' ⟨rfl, rfl⟩
    exact ⟨_, rfl, World.ownsRow_nil _ _ _ _, Below.refl _ _⟩
  · obtain ⟨inf, hinf, hz, hsz1, hby⟩ := infoKn
    refine (Any8.slices_Grow_grow laysG inf _ hinf hz (by rw [hsz1]; decide) none 0 0 n [] w (Nat.le_refl _) (by omega) (by rw [hby]; omega) (by omega) (by simp) (fun _ => rfl) (fun a h => by cases h)).mono ?_
    rintro e w' ⟨rfl, rfl⟩
    have hG := grownCap_ge w (0 + n) 0 (renG.t 25)
    have hGm := grownCap_le_maxLen w (0 + n) 0 (renG.t 25) (by unfold maxLen; omega)
    generalize grownCap w (0 + n) 0 (renG.t 25) = G at *
    refine ⟨_, rfl, ⟨rfl, .inr ⟨w.heap.size, G, _, rfl, Nat.le_refl _, _root_.Go.heap_alloc_new w.drew _, Nat.zero_le _, hGm, ?_, ?_⟩⟩, (Below.refl _ _).drew.alloc (Nat.le_refl _) _⟩
    · simp only [Array.size_append, List.size_toArray, size_zeroCells, List.length_nil, Value.cells]
      show 0 + (0 + n - 0) * 2 + (G - (0 + n)) * 2 = G * 2
      omega
    · simp
set_option maxRecDepth 100000 in
set_option maxHeartbeats 2000000 in
/-- slices.Clone. -/
theorem kclone_any (B0 : Nat) (v : Value) (l : List (List UInt8 × List UInt8)) (w : World) (h : w.ownsRow B0 127 2 v l.length (knCs l)) (hl : l.length ≤ 1000000000000) :
    Calls Tryz.prog 94 #[v] w fun e' w' => ∃ v', e' = .returned v' ∧ w'.ownsRow w.heap.size 127 2 v' l.length (knCs l) ∧ Below w.heap.size w w' := by
  rcases h.2 with ⟨rfl, hl0⟩ | ⟨g, cap, cur, rfl, _⟩
  · have h0 : l = [] := List.length_eq_zero_iff.1 hl0
    subst h0
    have q : ∀ w, (binOp .eql 57 (.slice none 0 0) (.slice none 0 0)).run Tryz.prog w = .ok (.bool true) w := fun w => by rfl
    go_enter Tryz.func94, Tryz.ntmps94
    go_wp2_with fail
    go_ret
    exact ⟨_, rfl, World.ownsRow_nil _ _ _ _, Below.refl _ _⟩
  · have q : ∀ w, (binOp .eql 57 (.slice (some ⟨g, 0, none⟩) l.length cap) (.slice none 0 0)).run Tryz.prog w = .ok (.bool false) w := fun w => by rfl
    have HO : Hid (∀ ob : Obj, (w.alloc ob).ownsRow B0 127 2 (.slice (some ⟨g, 0, none⟩) l.length cap) l.length (knCs l)) := fun ob => h.alloc ob
    have HL := hide hl
    clear h hl
    go_enter Tryz.func94, Tryz.ntmps94
    go_wp2_with (at_builtin; refine wpList_app rfl _ _ rfl (B := w.heap.size) (B0 := B0) (l := []) (m := l) rfl rfl (World.ownsRow_made w #[] 0 (Nat.le_refl _) (Nat.zero_le _) rfl) (HO.out _) (by rw [size_alloc1]; exact Nat.le_succ _) (by have := HL.out; simp; omega) ?_; intro v' w' h1 h2 h3; have H1 := hide h1; have H2 := hide h2; clear h1 h2 h3)
    go_ret
    refine ⟨_, rfl, H1.out, ?_⟩
    exact ((Below.refl _ w).alloc (Nat.le_refl _) _).grown H2.out (by rw [size_alloc1]; exact Nat.le_succ _) (by intro k hk; cases hk; exact Nat.le_refl _)
/-- slices.Concat of two lists. -/
def CcPost (l : List (List UInt8 × List UInt8)) (w : World) (e' : Ending) (w' : World) : Prop := ∃ v, e' = .returned v ∧ w'.ownsRow w.heap.size 127 2 v l.length (knCs l) ∧ Below w.heap.size w w'
set_option maxRecDepth 100000 in
set_option maxHeartbeats 4000000 in
theorem concat_any (B1 B2 G : Nat) (v1 v2 : Value) (l m : List (List UInt8 × List UInt8)) (w : World) (c0 : w.cell? ⟨G, 0, none⟩ = some v1) (c1 : w.cell? ⟨G, 1, none⟩ = some v2) (h1 : w.ownsRow B1 127 2 v1 l.length (knCs l)) (h2 : w.ownsRow B2 127 2 v2 m.length (knCs m)) (hl : l.length + m.length ≤ 1000000000000) :
    Calls Tryz.prog 185 #[.slice (some ⟨G, 0, none⟩) 2 2] w (CcPost (l ++ m) w) := by
  obtain ⟨a1, n1, rfl⟩ := owns_len h1
  obtain ⟨a2, n2, rfl⟩ := owns_len h2
  have H1 := hide h1; have H2 := hide h2
  have HL := hide hl
  have HG : Hid (∀ w', Calls Tryz.prog 221 #[.slice none 0 0, .int .i64 ((l.length : Int) + (m.length : Int))] w' fun e' w'' => ∃ v, e' = .returned v ∧ w''.ownsRow w'.heap.size 127 2 v 0 [] ∧ Below w'.heap.size w' w'') := fun w' => by
    have := grow_any (l.length + m.length) w' (by omega)
    rw [Int.natCast_add] at this
    exact this
  have HLe : Hid ((l ++ m).length = l.length + m.length) := List.length_append
  have hGl : G < w.heap.size := block_lt_of_cell c0
  clear h1 h2 hl
  generalize hle1 : l.length = L1 at *
  generalize hle2 : m.length = L2 at *
  have w1 : wrap64 ((L1 : Int) + (L2 : Int)) = (L1 : Int) + (L2 : Int) := by have := HL.out; unfold wrap64; omega
  have w0 : wrap64 (L1 : Int) = (L1 : Int) := by have := HL.out; unfold wrap64; omega
  have HE1 := hide hle1; have HE2 := hide hle2
  clear hle1 hle2
  have hs0 : ¬ ((L1 : Int) < 0) := by omega
  have hs1 : ¬ ((L1 : Int) + (L2 : Int) < 0) := by omega
  go_enter Tryz.func185, Tryz.ntmps185
  go_wp2_with fail
  go_loopw [3, 11] (fun s i wr => wr = w ∧ ((s = .int .i64 0 ∧ i = .int .i64 0) ∨ (s = .int .i64 (L1 : Int) ∧ i = .int .i64 1) ∨ (s = .int .i64 ((L1 : Int) + (L2 : Int)) ∧ i = .int .i64 2))) (fun _ i _ => 2 - (intOf i).toNat)
  case atStart => exact ⟨rfl, .inl ⟨rfl, rfl⟩⟩
  case round =>
    obtain ⟨rfl, ⟨rfl, rfl⟩ | ⟨rfl, rfl⟩ | ⟨rfl, rfl⟩⟩ := hrel
    · go_wp2_with fail
      exact ⟨⟨trivial, .inr (.inl ⟨by rw [w0], rfl⟩)⟩, by simp [intOf]⟩
    · go_wp2_with fail
      exact ⟨⟨trivial, .inr (.inr ⟨by rw [w1], rfl⟩)⟩, by simp [intOf]⟩
    · go_wp2_with fail
      refine (unhide HG _).mono ?_
      rintro e w2 ⟨v, rfl, ho, hb⟩
      obtain ⟨w, hw⟩ : ∃ w, w = wr := ⟨_, rfl⟩
      subst hw
      have HO := hide ho; have HB := hide hb
      clear ho hb HG w1 w0 hs0 hs1
      go_wp2_with fail
      go_loopw [6, 27] (fun v i wr => ∃ l', Hid (wr.ownsRow w.heap.size 127 2 v (List.length l') (knCs l') ∧ Below w.heap.size w wr) ∧ ((i = .int .i64 0 ∧ l' = []) ∨ (i = .int .i64 1 ∧ l' = l) ∨ (i = .int .i64 2 ∧ l' = l ++ m))) (fun _ i _ => 2 - (intOf i).toNat)
      case atStart => exact ⟨[], ⟨HO.out, HB.out⟩, .inl ⟨rfl, rfl⟩⟩
      case round =>
        obtain ⟨l', HM, ⟨rfl, rfl⟩ | ⟨rfl, rfl⟩ | ⟨rfl, rfl⟩⟩ := hrel
        · have d0 := (World.cell?_of_block (HM.out.2.block G hGl)).trans c0
          have HS : Hid (wr.ownsRow B1 127 2 (.slice a1 L1 n1) l.length (knCs l)) := by unfold Hid; rw [HE1.out]; exact own_grow H1.out HM.out.2
          go_wp2_with (at_builtin; refine wpList_app rfl _ _ rfl (B := w.heap.size) (B0 := B1) (l := []) (m := l) rfl rfl HM.out.1 HS.out HM.out.2.size (by have := HL.out; have := HE1.out; simp; omega) ?_; intro v' w' h1 h2 h3; have K1 := hide h1; have K2 := hide h2; clear h1 h2 h3)
          refine ⟨⟨l, ⟨K1.out, HM.out.2.grown K2.out HM.out.2.size (fun k hk => (row_lt HM.out.1 k hk).1)⟩, .inr (.inl ⟨rfl, rfl⟩)⟩, by simp [intOf]⟩
        · have d1 := (World.cell?_of_block (HM.out.2.block G hGl)).trans c1
          have HS : Hid (wr.ownsRow B2 127 2 (.slice a2 L2 n2) m.length (knCs m)) := by unfold Hid; rw [HE2.out]; exact own_grow H2.out HM.out.2
          go_wp2_with (at_builtin; refine wpList_app rfl _ _ rfl (B := w.heap.size) (B0 := B2) (l := l') (m := m) rfl rfl HM.out.1 HS.out HM.out.2.size (by have := HL.out; have := HE1.out; have := HE2.out; omega) ?_; intro v' w' h1 h2 h3; have K1 := hide h1; have K2 := hide h2; clear h1 h2 h3)
          refine ⟨⟨l' ++ m, ⟨K1.out, HM.out.2.grown K2.out HM.out.2.size (fun k hk => (row_lt HM.out.1 k hk).1)⟩, .inr (.inr ⟨rfl, rfl⟩)⟩, by simp [intOf]⟩
        · go_wp2_with fail
          go_ret
          exact ⟨_, rfl, HM.out.1, HM.out.2⟩
end Go.Proofs.YtmmflekajbeamaaGreatDoor

namespace Go.Proofs.YtmmflekajbeamaaGreatDoor
open Go.RowKit Go.Shelf

def renB : Ren := ⟨fun f => if f = 166 then 142 else if f = 169 then 144 else if f = 240 then 184 else 220, fun t => if t = 0 then 0 else if t = 3 then 3 else if t = 4 then 4 else if t = 5 then 5 else if t = 9 then 9 else if t = 20 then 20 else if t = 37 then 136 else if t = 70 then 190 else if t = 72 then 192 else if t = 75 then 194 else if t = 80 then 198 else if t = 127 then 233 else 284, fun x => x⟩
set_option maxRecDepth 100000 in
theorem laysB1 : Lays.n166 Tryz.prog renB := by
  constructor <;> first | kernel_rfl | (intro w; kernel_rfl)
set_option maxRecDepth 100000 in
theorem laysB2 : Lays.n169 Tryz.prog renB := by
  constructor <;> first | kernel_rfl | (intro w; kernel_rfl)
set_option maxRecDepth 100000 in
theorem extraB : Builder.Extra Tryz.prog renB := by
  refine ⟨⟨?_, ?_⟩, ?_, ?_, ?_, ?_, ?_, ?_, ?_, ?_⟩ <;> first | kernel_rfl | (intro w; kernel_rfl) | decide
theorem isB_up {T e : TypeId} {B b : Nat} {bs : List Value} {w w' : World} (h : Lib.IsBuilderF T e B b bs w) (hb : Below w.heap.size w w') : Lib.IsBuilderF T e B b bs w' := by
  have key : ∀ p, Lib.BuilderAtF T e B b p bs w → Lib.BuilderAtF T e B b p bs w' := fun p q => by
    have hlt := q.lt
    obtain ⟨hB, v, hv, ho, hn⟩ := q
    refine ⟨hB, v, (hb.block b hlt).trans hv, ho.kept (row := none) ⟨hb.os, hb.tape, hb.output, hb.size, fun k hk _ => hb.block k hk⟩ ?_, hn⟩
    cases v.ownBlock with
    | none => exact .inl rfl
    | some g => exact .inr (fun e => by cases e)
  exact h.imp (key _) (key _)
/-- What sealing tells, of whatever payload. -/
def slT (k : Nat) (p : List UInt8) : List UInt8 := if p.length ≤ 200 then frT k p else []
theorem slT_len (k : Nat) (p : List UInt8) : (slT k p).length ≤ 208 := by
  unfold slT
  split
  · rw [frT_len]; omega
  · exact Nat.zero_le _
theorem SealPost.txt {k : Nat} {p : ByteArray} {w w' : World} {e : Ending} (h : SealPost (k : Int) p w e w') (h1 : 1 ≤ k) (h3 : k ≤ 3) : Below w.heap.size w w' ∧ ∃ n, e = .returned (.tuple #[.string (bya (slT k (lst p))), .int .i64 n]) := by
  refine ⟨h.1, ?_⟩
  rcases h.2 with ⟨ho, rfl⟩ | ⟨ho, rfl⟩
  · have : slT k (lst p) = frT k (lst p) := if_pos (by rw [lst_len]; exact ho.2.2)
    exact ⟨0, by rw [this]; rfl⟩
  · have : slT k (lst p) = [] := if_neg (fun q => ho ⟨by omega, by omega, by rw [lst_len] at q; exact q⟩)
    exact ⟨1, by rw [this]⟩
set_option maxRecDepth 100000 in
theorem sealed_any (k : Nat) (p : ByteArray) (w : World) (h1 : 1 ≤ k) (h3 : k ≤ 3) :
    Calls Tryz.prog 143 #[.int .i64 (k : Int), .string p] w fun e' w' => e' = .returned (.string (bya (slT k (lst p)))) ∧ Below w.heap.size w w' := by
  have HS := hide (frSeal_any (k : Int) p w)
  have H1 := hide h1; have H3 := hide h3
  clear h1 h3
  go_enter Tryz.func143, Tryz.ntmps143
  go_wp2_with fail
  refine (unhide HS).mono ?_
  intro e w1 hp
  obtain ⟨hb, n, rfl⟩ := hp.txt H1.out H3.out
  have HB := hide hb
  clear hb hp HS
  go_wp2_with fail
  go_ret
  exact ⟨rfl, HB.out⟩
theorem k_succ (k : Nat) : Value.int .i64 ((k : Int) + 1) = .int .i64 ((k + 1 : Nat) : Int) := rfl
theorem meas1 {n k : Nat} (h : k < n) : n - (intOf (.int .i64 ((k : Int) + 1))).toNat < n - (intOf (.int .i64 (k : Int))).toNat := by
  have h1 : (intOf (.int .i64 ((k : Int) + 1))).toNat = k + 1 := by simp [intOf]
  have h2 : (intOf (.int .i64 (k : Int))).toNat = k := by simp [intOf]
  rw [h1, h2]
  omega
/-- An entry's payload, its frame, the frames of entries. -/
def enPl (x : List UInt8 × List UInt8) : List UInt8 := numB 1 (x.1.length / 4) ++ x.1 ++ x.2
def enF (x : List UInt8 × List UInt8) : List UInt8 := slT 2 (enPl x)
def entsT (l : List (List UInt8 × List UInt8)) : List UInt8 := l.flatMap enF
theorem entsT_take {l : List (List UInt8 × List UInt8)} {k : Nat} {x : List UInt8 × List UInt8} (h : l[k]? = some x) : entsT (l.take (k + 1)) = entsT (l.take k) ++ enF x := by
  unfold entsT
  rw [take_snoc' h, List.flatMap_append]
  simp
theorem entsT_len : ∀ l : List (List UInt8 × List UInt8), (entsT l).length ≤ 208 * l.length
  | [] => Nat.zero_le _
  | x :: l => by
    have h1 := entsT_len l
    have h2 : (enF x).length ≤ 208 := slT_len _ _
    have h3 : entsT (x :: l) = enF x ++ entsT l := rfl
    rw [h3, List.length_append, List.length_cons]
    omega
theorem wr_bound {l : List (List UInt8 × List UInt8)} {k : Nat} {D : ByteArray} (hl : l.length ≤ 500000000000) (hD : D.size ≤ 208) : (u8C (entsT (l.take k))).length + D.size ≤ 140737488355328 := by
  have hel := entsT_len (l.take k)
  rw [List.length_take] at hel
  unfold u8C
  rw [List.length_map]
  omega
set_option maxRecDepth 100000 in
set_option maxHeartbeats 4000000 in
theorem entries_any (B0 : Nat) (v0 : Value) (l : List (List UInt8 × List UInt8)) (w : World) (h : w.ownsRow B0 127 2 v0 l.length (knCs l)) (hx : ∀ x ∈ l, x.1.length ≤ 1000000 ∧ x.2.length ≤ 1000000) (hl : l.length ≤ 500000000000) :
    Calls Tryz.prog 90 #[v0] w fun e' w' => e' = .returned (.string (bya (entsT l))) ∧ Below w.heap.size w w' := by
  obtain ⟨W0, hW0⟩ : ∃ W0, W0 = w.alloc (.cells #[.pointer none, .slice none 0 0] 192) := ⟨_, rfl⟩
  have hb0 : Below w.heap.size w W0 := by rw [hW0]; exact (Below.refl _ _).alloc (Nat.le_refl _) _
  have a0 : Lib.IsBuilderF 192 5 w.heap.size w.heap.size (u8C (entsT (l.take 0))) W0 := .inl ⟨Nat.le_refl _, _, by rw [hW0]; exact _root_.Go.heap_alloc_new w _, World.ownsRowF_nil _ _ _ _, fun e => by cases e⟩
  have HW0 := hide hW0
  have H0 : Hid (Lib.IsBuilderF 192 5 w.heap.size w.heap.size (u8C (entsT (l.take 0))) W0 ∧ Below w.heap.size w W0) := ⟨a0, hb0⟩
  have HO := hide h; have HX := hide hx; have HL := hide hl
  obtain ⟨va, vc, hv⟩ := owns_len h
  subst hv
  clear hb0 a0 hW0 h hx hl
  go_enter Tryz.func90, Tryz.ntmps90
  go_wp2_with fail
  rw [← HW0.out]
  go_loopw [9] (fun i wr => ∃ k : Nat, k ≤ l.length ∧ i = .int .i64 k ∧ Hid (Lib.IsBuilderF 192 5 w.heap.size w.heap.size (u8C (entsT (l.take k))) wr ∧ Below w.heap.size w wr)) (fun i _ => l.length - (intOf i).toNat)
  case atStart => exact ⟨0, Nat.zero_le _, rfl, H0.out⟩
  case round =>
    obtain ⟨k, hk, rfl, HM⟩ := hrel
    by_cases hlt : k < l.length
    · have hlt' : (k : Int) < (l.length : Int) := by omega
      obtain ⟨g, c, hv, _, hgl⟩ := HO.out.form (by omega)
      simp only [Value.slice.injEq] at hv
      obtain ⟨rfl, _, rfl⟩ := hv
      obtain ⟨d0, d1⟩ := kn_cells HO.out k l[k] (List.getElem?_eq_getElem hlt)
      have hbl := HM.out.2
      replace d0 := (World.cell?_of_block (hbl.block g hgl)).trans d0
      replace d1 := (World.cell?_of_block (hbl.block g hgl)).trans d1
      have HK := hide (entsT_take (List.getElem?_eq_getElem hlt))
      have hxl := HX.out l[k] (List.getElem_mem hlt)
      generalize l[k] = x at *
      clear hbl
      have hz1 : (bya x.1).size = x.1.length := bya_size _
      have hz2 : (bya x.2).size = x.2.length := bya_size _
      have HEn : Hid (lst (bya (numB 1 ((bya x.1).size / 4)) ++ bya x.1 ++ bya x.2) = enPl x) := by unfold Hid; rw [bya_app, bya_app, lst_bya, hz1]; rfl
      obtain ⟨N1, hN1⟩ : ∃ N1, N1 = bya (numB 1 ((bya x.1).size / 4)) := ⟨_, rfl⟩
      have hn1 : N1.size = 1 := by rw [hN1, bya_size, numB_len]
      have HAp : Hid (∀ w', Calls Tryz.prog 102 #[.slice none 0 0, .int .i64 (((bya x.1).size / 4 : Nat) : Int), .int .i64 1] w' fun e' w'' => ∃ v', e' = .returned v' ∧ (convert 136 9 v').run Tryz.prog w'' = .ok (.string N1) w'' ∧ Below w'.heap.size w' w'') := fun w' => by
        refine (numAppend_any w'.heap.size (.slice none 0 0) [] ((bya x.1).size / 4) 1 w' (Nat.le_refl _) (World.ownsRow_nil _ _ _ _) (Nat.zero_le _) (by decide)).mono ?_
        rintro e w'' ⟨v', rfl, ho, hb, _⟩
        refine ⟨v', rfl, ?_, hb⟩
        rw [hN1]
        exact u8_str ho
      have hq : ((bya x.1).size : Int).tdiv 4 = (((bya x.1).size / 4 : Nat) : Int) := by rw [Int.tdiv_eq_ediv_of_nonneg (by omega)]; omega
      have hqw : wrap64 (((bya x.1).size / 4 : Nat) : Int) = (((bya x.1).size / 4 : Nat) : Int) := by have h0 : (bya x.1).size ≤ 1000000 := (by omega); unfold wrap64; omega
      rw [← hN1] at HEn
      have hb1 : (bya x.1).size ≤ 1000000 := by omega
      have hb2 : (bya x.2).size ≤ 1000000 := by omega
      have HIs := hide HM.out.1
      have hk1 : wrap64 ((k : Int) + 1) = (k : Int) + 1 := by have := HL.out; unfold wrap64; omega
      have HBl := hide HM.out.2
      have HSl : Hid (∀ p w', Calls Tryz.prog 143 #[.int .i64 2, .string p] w' fun e' w'' => e' = .returned (.string (bya (slT 2 (lst p)))) ∧ Below w'.heap.size w' w'') := fun p w' => sealed_any 2 p w' (by decide) (by decide)
      have HWr : Hid (∀ w', Lib.IsBuilderF 192 5 w.heap.size w.heap.size (u8C (entsT (l.take k))) w' → w.heap.size ≤ w'.heap.size → ∀ D, D = bya (enF x) → Calls Tryz.prog 142 #[.pointer (some ⟨w.heap.size, 0, none⟩), .string D] w' fun e' w'' => (∃ n, e' = .returned (.tuple #[.int .i64 n, .nilIface])) ∧ Lib.IsBuilderF 192 5 w.heap.size w.heap.size (u8C (entsT (l.take (k + 1)))) w'' ∧ Below w.heap.size w' w'') := fun w' hi hs D hD => by
        have hD2 : D.size ≤ 208 := by rw [hD, bya_size]; exact slT_len _ _
        refine (Any.Builder_WriteString_k laysB1 extraB w.heap.size w.heap.size (u8C (entsT (l.take k))) D w' hi (wr_bound HL.out hD2) hs).mono ?_
        rintro e w'' ⟨rfl, h1, h2, _⟩
        refine ⟨⟨_, rfl⟩, .inr ?_, h2⟩
        rw [HK.out, u8C_app, ← lst_bya (enF x), ← strCells_u8, ← hD]
        exact h1
      clear hxl hz1 hz2 hN1 HM
      generalize bya x.1 = X1 at *
      generalize bya x.2 = X2 at *
      generalize hX4 : X1.size / 4 = X4 at *
      clear hX4
      go_wp2_with fail
      refine (unhide HAp _).mono ?_
      rintro e w1 ⟨v', rfl, hcv, hbb⟩
      have hz1 : wr.heap.size + 1 ≤ w1.heap.size := by have := hbb.size; rw [size_alloc1] at this; exact this
      have b1 := hbb.block wr.heap.size (by rw [size_alloc1]; exact Nat.lt_succ_self _)
      rw [_root_.Go.heap_alloc_new] at b1
      have q0 : w1.cell? ⟨wr.heap.size, 0, none⟩ = some (.string X1) := by simp [World.cell?, b1]
      have q1 : w1.cell? ⟨wr.heap.size, 1, none⟩ = some (.string X2) := by simp [World.cell?, b1]
      have HB1 : Hid (Below wr.heap.size wr w1) := ((Below.refl _ _).alloc (Nat.le_refl _) _).trans (hbb.mono (by rw [size_alloc1]; exact Nat.le_succ _))
      clear hbb b1 hq hqw d0 d1
      go_wp2_with fail
      refine (unhide HSl _ _).mono ?_
      rintro e w2 ⟨rfl, hb2'⟩
      have HB2 : Hid (Below wr.heap.size wr w2) := HB1.out.trans (hb2'.mono HB1.out.size)
      clear hb2' HSl HAp
      go_wp2_with fail
      refine (unhide HWr _ (isB_up HIs.out HB2.out) (Nat.le_trans HBl.out.size HB2.out.size) _ (by rw [HEn.out]; rfl)).mono ?_
      rintro e w3 ⟨⟨n, rfl⟩, hi3, hb3⟩
      have HI3 := hide hi3
      have HB3 : Hid (Below w.heap.size w w3) := (HBl.out.trans (HB2.out.mono HBl.out.size)).trans hb3
      clear hi3 hb3 HWr
      go_wp2_with fail
      rw [hk1]
      exact ⟨⟨k + 1, hlt, k_succ k, HI3.out, HB3.out⟩, meas1 hlt⟩
    · have hlt' : ¬ (k : Int) < (l.length : Int) := by omega
      obtain rfl : k = l.length := by omega
      rw [List.take_length] at HM
      have HSt : Hid (Calls Tryz.prog 144 #[.pointer (some ⟨w.heap.size, 0, none⟩)] wr fun e' w'' => e' = .returned (.string (bya (entsT l))) ∧ Below w.heap.size wr w'') := by
        unfold Hid
        by_cases h0 : entsT l = []
        · have hi := HM.out.1
          rw [h0] at hi ⊢
          exact (Any.Builder_String_empty_k laysB2 extraB w.heap.size w.heap.size wr hi HM.out.2.size).mono fun e w'' q => ⟨q.1, q.2.2.1⟩
        · exact (Any.Builder_String_k laysB2 extraB w.heap.size w.heap.size (entsT l) wr HM.out.1 h0).mono fun e w'' q => ⟨q.1, q.2.2.1⟩
      go_wp2_with fail
      refine (unhide HSt).mono ?_
      rintro e w2 ⟨rfl, hb2⟩
      have HB := hide (HM.out.2.trans hb2)
      clear hb2 HSt
      go_wp2_with fail
      go_ret
      exact ⟨rfl, HB.out⟩
/-- The frames of an area that is written anew. -/
def anewT (g : Nat) (l : List (List UInt8 × List UInt8)) : List UInt8 := slT 1 (numB 4 g) ++ entsT l ++ slT 3 []
theorem anewT_len (g : Nat) (l : List (List UInt8 × List UInt8)) : (anewT g l).length ≤ 416 + 208 * l.length := by
  unfold anewT
  rw [List.length_append, List.length_append]
  have h1 := slT_len 1 (numB 4 g); have h2 := entsT_len l; have h3 := slT_len 3 []
  omega
set_option maxRecDepth 100000 in
set_option maxHeartbeats 4000000 in
theorem anewF_any (B0 : Nat) (g : Nat) (v0 : Value) (l : List (List UInt8 × List UInt8)) (w : World) (h : w.ownsRow B0 127 2 v0 l.length (knCs l)) (hx : ∀ x ∈ l, x.1.length ≤ 1000000 ∧ x.2.length ≤ 1000000) (hl : l.length ≤ 500000000000) :
    Calls Tryz.prog 145 #[.int .i64 (g : Int), v0] w fun e' w' => e' = .returned (.string (bya (anewT g l))) ∧ Below w.heap.size w w' := by
  have HAp : Hid (∀ w', Calls Tryz.prog 102 #[.slice none 0 0, .int .i64 (g : Int), .int .i64 4] w' fun e' w'' => ∃ v', e' = .returned v' ∧ (convert 136 9 v').run Tryz.prog w'' = .ok (.string (bya (numB 4 g))) w'' ∧ Below w'.heap.size w' w'') := fun w' => by
    refine (numAppend_any w'.heap.size (.slice none 0 0) [] g 4 w' (Nat.le_refl _) (World.ownsRow_nil _ _ _ _) (Nat.zero_le _) (by decide)).mono ?_
    rintro e w'' ⟨v', rfl, ho, hb, _⟩
    exact ⟨v', rfl, u8_str ho, hb⟩
  have HS1 : Hid (∀ w', Calls Tryz.prog 143 #[.int .i64 1, .string (bya (numB 4 g))] w' fun e' w'' => e' = .returned (.string (bya (slT 1 (numB 4 g)))) ∧ Below w'.heap.size w' w'') := fun w' => by
    have := sealed_any 1 (bya (numB 4 g)) w' (by decide) (by decide)
    rw [lst_bya] at this
    exact this
  have HS3 : Hid (∀ w', Calls Tryz.prog 143 #[.int .i64 3, .string ⟨#[]⟩] w' fun e' w'' => e' = .returned (.string (bya (slT 3 []))) ∧ Below w'.heap.size w' w'') := fun w' => sealed_any 3 ⟨#[]⟩ w' (by decide) (by decide)
  have HEn : Hid (∀ w', Below w.heap.size w w' → Calls Tryz.prog 90 #[v0] w' fun e' w'' => e' = .returned (.string (bya (entsT l))) ∧ Below w'.heap.size w' w'') := fun w' hb => entries_any B0 v0 l w' (own_grow h hb) hx hl
  have l1 := slT_len 1 (numB 4 g); have l2 := entsT_len l; have l3 := slT_len 3 []
  have s1 := add_str (slT 1 (numB 4 g)) (entsT l) (by omega)
  have s2 := add_str (slT 1 (numB 4 g) ++ entsT l) (slT 3 []) (by rw [List.length_append]; omega)
  have HA : Hid (bya (slT 1 (numB 4 g) ++ entsT l ++ slT 3 []) = bya (anewT g l)) := rfl
  clear l1 l2 l3 h hx hl
  generalize hAA : slT 1 (numB 4 g) ++ entsT l = AA at *
  clear hAA
  generalize slT 1 (numB 4 g) = A1 at *
  generalize entsT l = A2 at *
  generalize slT 3 [] = A3 at *
  generalize anewT g l = A4 at *
  go_enter Tryz.func145, Tryz.ntmps145
  go_wp2_with fail
  refine (unhide HAp _).mono ?_
  rintro e w1 ⟨v', rfl, hcv, hb1⟩
  have HB1 := hide hb1
  clear hb1
  go_wp2_with fail
  refine (unhide HS1 _).mono ?_
  rintro e w2 ⟨rfl, hb2⟩
  have HB2 : Hid (Below w.heap.size w w2) := HB1.out.trans (hb2.mono HB1.out.size)
  clear hb2 hcv HAp
  go_wp2_with fail
  refine (unhide HEn _ HB2.out).mono ?_
  rintro e w3 ⟨rfl, hb3⟩
  have HB3 : Hid (Below w.heap.size w w3) := HB2.out.trans (hb3.mono HB2.out.size)
  clear hb3 HEn HS1
  go_wp2_with fail
  refine (unhide HS3 _).mono ?_
  rintro e w4 ⟨rfl, hb4⟩
  have HB4 : Hid (Below w.heap.size w w4) := HB3.out.trans (hb4.mono HB3.out.size)
  clear hb4 HS3
  go_wp2_with fail
  go_ret
  exact ⟨by rw [HA.out]; rfl, HB4.out⟩
end Go.Proofs.YtmmflekajbeamaaGreatDoor

namespace Go.Proofs.YtmmflekajbeamaaGreatDoor
open Go.RowKit Go.Maps Go.WideMaps

/-- All blocks but those of F are as they were. -/
structure Chg (F : Nat → Prop) (w w' : World) : Prop where
  os : w'.os = w.os
  tape : w'.tape = w.tape
  output : w'.output = w.output
  size : w.heap.size ≤ w'.heap.size
  other : ∀ x, x < w.heap.size → ¬ F x → w'.heap[x]? = w.heap[x]?
theorem Chg.refl (F : Nat → Prop) (w : World) : Chg F w w := ⟨rfl, rfl, rfl, Nat.le_refl _, fun _ _ _ => rfl⟩
theorem Chg.of_below {F : Nat → Prop} {w w' : World} (h : Below w.heap.size w w') : Chg F w w' := ⟨h.os, h.tape, h.output, h.size, fun x hx _ => h.block x hx⟩
theorem Chg.below {F : Nat → Prop} {w w' : World} (h : Chg F w w') {B : Nat} (hB : B ≤ w.heap.size) (hF : ∀ x, F x → B ≤ x) : Below B w w' :=
  ⟨h.os, h.tape, h.output, h.size, fun x hx => h.other x (Nat.lt_of_lt_of_le hx hB) (fun q => by have := hF x q; omega)⟩
theorem Chg.trans {F F1 : Nat → Prop} {w w1 w2 : World} (h : Chg F w w1) (own : ∀ x, F1 x → F x ∨ w.heap.size ≤ x) (k : Chg F1 w1 w2) : Chg F w w2 :=
  ⟨k.os.trans h.os, k.tape.trans h.tape, k.output.trans h.output, Nat.le_trans h.size k.size, fun x hx hn => (k.other x (Nat.lt_of_lt_of_le hx h.size) (fun q => by
    rcases own x q with a | a
    · exact hn a
    · omega)).trans (h.other x hx hn)⟩
theorem Chg.weak {F G : Nat → Prop} {w w' : World} (h : Chg F w w') (hF : ∀ x, F x → G x ∨ w.heap.size ≤ x) : Chg G w w' :=
  ⟨h.os, h.tape, h.output, h.size, fun x hx hn => h.other x hx (fun q => by
    rcases hF x q with a | a
    · exact hn a
    · omega)⟩
theorem Chg.set (w : World) (g j : Nat) (u : Value) : Chg (fun x => x = g) w (w.setCell ⟨g, j, none⟩ u) := ⟨rfl, rfl, rfl, by rw [set_size]; exact Nat.le_refl _, fun _ _ hn => set_other hn⟩
theorem DFr.chg {D : Nat} {vs vs' : Nat → Value} {w w' : World} (h : DFr D vs vs' w w') : Chg (fun x => x = D ∨ ∃ i, i < 2 ∧ (vs i).ownBlock = some x) w w' :=
  ⟨h.below.os, h.below.tape, h.below.output, h.below.size, fun x hx hn => h.other x hx (fun e => hn (.inl e)) (fun i hi e => hn (.inr ⟨i, hi, e⟩))⟩
theorem BFr.chg {B N o : Nat} {mv v : Value} {w w' : World} (h : BFr B N o mv v w w') : Chg (fun x => x = N ∨ bkHas mv v x) w w' :=
  ⟨h.below.os, h.below.tape, h.below.output, h.below.size, fun x hx hn => h.other x hx (fun e => hn (.inl e)) (fun b e q => hn (.inr (.inl (by rw [e, q])))) (fun e => hn (.inr (.inr e)))⟩
/-- An engine: its number; has a turn failed; the machine; what it counts (used, served, refused, translated); area, generation, bytes; its books (known, waiting, ready). -/
structure EgN where
  wk : Int
  fl : Bool
  z : List Int
  c : Nat → Nat
  ar : Nat
  gn : Nat
  sz : Nat
  b : Nat → List KwN
def isSc (j : Nat) : Prop := j < 3 ∨ (141 ≤ j ∧ j ≤ 148)
def scV (D : Nat) (g : EgN) (j : Nat) : Value :=
  if j = 0 then .pointer (some ⟨D, 0, none⟩) else if j = 1 then .int .i64 g.wk else if j = 2 then .bool g.fl else if j < 145 then .int .i64 (g.c (j - 141) : Int) else if j = 145 then .int .i64 0 else if j = 146 then .int .i64 (g.ar : Int) else if j = 147 then .int .i64 (g.gn : Int) else .int .i64 (g.sz : Int)
structure EgAt (E D : Nat) (g : EgN) (m v : Nat → Value) (w : World) : Prop where
  fz : ∀ j, w.frozen? ⟨E, j, none⟩ = false
  sc : ∀ j, isSc j → w.cell? ⟨E, j, none⟩ = some (scV D g j)
  st : w.rangeAt E 3 (g.z.map (Value.int .i64))
  zl : g.z.length = 138
  bk : ∀ i, i < 3 → BoAt E E (149 + i * 2) (g.b i) (m i) (v i) w
  sep : ∀ i j, i < 3 → j < 3 → i ≠ j → ∀ x, bkHas (m i) (v i) x → ¬ bkHas (m j) (v j) x
def eHas (E : Nat) (m v : Nat → Value) (x : Nat) : Prop := x = E ∨ ∃ i, i < 3 ∧ bkHas (m i) (v i) x
def dHas (D : Nat) (vs : Nat → Value) (x : Nat) : Prop := x = D ∨ ∃ i, i < 2 ∧ (vs i).ownBlock = some x
theorem EgAt.lt {E D : Nat} {g : EgN} {m v : Nat → Value} {w : World} (h : EgAt E D g m v w) : E < w.heap.size := block_lt_of_cell (h.sc 0 (.inl (by decide)))
theorem EgAt.has {E D : Nat} {g : EgN} {m v : Nat → Value} {w : World} (h : EgAt E D g m v w) {x : Nat} (hx : eHas E m v x) : E ≤ x ∧ x < w.heap.size := by
  rcases hx with rfl | ⟨i, hi, q⟩
  · exact ⟨Nat.le_refl _, h.lt⟩
  · have := (h.bk i hi).has q
    exact ⟨this.1, this.2.1⟩
theorem EgAt.ne {E D : Nat} {g : EgN} {m v : Nat → Value} {w : World} (h : EgAt E D g m v w) {i : Nat} (hi : i < 3) {x : Nat} (hx : bkHas (m i) (v i) x) : x ≠ E := ((h.bk i hi).has hx).2.2
theorem EgAt.kept {E D : Nat} {g : EgN} {m v : Nat → Value} {w w' : World} (h : EgAt E D g m v w) (hk : ∀ x, eHas E m v x → w'.heap[x]? = w.heap[x]?) : EgAt E D g m v w' := by
  have hE := hk E (.inl rfl)
  exact ⟨fun j => (World.frozen?_of_block hE).trans (h.fz j), fun j hj => (World.cell?_of_block hE).trans (h.sc j hj), fun j u q => (World.cell?_of_block hE).trans (h.st j u q), h.zl, fun i hi => (h.bk i hi).kept (fun _ _ => World.cell?_of_block hE) (fun x q => hk x (.inr ⟨i, hi, q⟩)), h.sep⟩
theorem DvAt.has {D : Nat} {d : DvN} {vs : Nat → Value} {w : World} (h : DvAt D d vs w) {x : Nat} (hx : dHas D vs x) : D ≤ x ∧ x < w.heap.size := by
  rcases hx with rfl | ⟨i, hi, q⟩
  · exact ⟨Nat.le_refl _, h.lt⟩
  · have := row_lt (h.own i hi) x q
    exact ⟨by omega, this.2⟩
theorem DvAt.kept {D : Nat} {d : DvN} {vs : Nat → Value} {w w' : World} (h : DvAt D d vs w) (hs : w.heap.size ≤ w'.heap.size) (hk : ∀ x, dHas D vs x → w'.heap[x]? = w.heap[x]?) : DvAt D d vs w' :=
  h.up hs (hk D (.inl rfl)) (fun i hi x q => hk x (.inr ⟨i, hi, q⟩))
/-- One of the engine's numbers set. -/
theorem EgAt.set {E D : Nat} {g : EgN} {m v : Nat → Value} {w : World} (h : EgAt E D g m v w) (j : Nat) (hj : isSc j) (g' : EgN) (hz : g'.z = g.z) (hb : g'.b = g.b) (hs : ∀ k, isSc k → k ≠ j → scV D g' k = scV D g k) (u : Value) (hu : u = scV D g' j) : EgAt E D g' m v (w.setCell ⟨E, j, none⟩ u) := by
  have hjb : j < 149 := by unfold isSc at hj; omega
  have hj3 : ¬ (3 ≤ j ∧ j < 141) := by unfold isSc at hj; omega
  refine ⟨fun k => by rw [World.frozen?_setCell]; exact h.fz k, fun k hk => ?_, fun k q e => ?_, by rw [hz]; exact h.zl, fun i hi => ?_, h.sep⟩
  · by_cases e : k = j
    · subst e
      rw [hu]
      exact World.cell?_setCell_same _ _ _ (h.sc k hk)
    · rw [cell_off (fun q => e q.symm), hs k hk e]
      exact h.sc k hk
  · rw [hz] at e
    have hk : k < 138 := by have := (List.getElem?_eq_some_iff.1 e).1; rw [List.length_map, h.zl] at this; exact this
    rw [cell_off (by omega)]
    exact h.st k q e
  · rw [hb]
    exact (h.bk i hi).kept (fun k hk => cell_off (by omega)) (fun x q => set_other (h.ne hi q))
theorem heap_setCells_other (b : Nat) : ∀ (vs : List Value) (o : Nat) (w : World) (x : Nat), x ≠ b → (w.setCells b o vs).heap[x]? = w.heap[x]?
  | [], _, _, _, _ => rfl
  | u :: r, o, w, x, h => by rw [World.setCells, heap_setCells_other b r (o + 1) _ x h]; exact set_other h
/-- The machine set. -/
theorem EgAt.setZ {E D : Nat} {g : EgN} {m v : Nat → Value} {w : World} (h : EgAt E D g m v w) (z : List Int) (hz : z.length = 138) : EgAt E D { g with z := z } m v (w.setCells E 3 (z.map (Value.int .i64))) := by
  have hl : (z.map (Value.int .i64)).length = 138 := by rw [List.length_map, hz]
  have hout : ∀ k, k < 3 ∨ 141 ≤ k → (w.setCells E 3 (z.map (Value.int .i64))).cell? ⟨E, k, none⟩ = w.cell? ⟨E, k, none⟩ := fun k hk => World.cell?_setCells_out E _ 3 w ⟨E, k, none⟩ (fun _ _ => by rw [hl]; show k < 3 ∨ 3 + 138 ≤ k; omega)
  refine ⟨fun k => by rw [World.frozen?_setCells]; exact h.fz k, fun k hk => (hout k (by unfold isSc at hk; omega)).trans (h.sc k hk), ?_, hz, fun i hi => ?_, h.sep⟩
  · refine World.rangeAt_setCells_same w E 3 _ (fun k hk => ⟨?_, h.fz _⟩)
    exact h.st.isSome k (by rw [List.length_map, h.zl]; rw [hl] at hk; exact hk)
  · refine (h.bk i hi).kept (fun k hk => hout k (by omega)) (fun x q => ?_)
    exact heap_setCells_other E _ 3 w x (h.ne hi q)
/-- A book another, behind laying a plan into it. -/
theorem EgAt.book {E D : Nat} {g : EgN} {m v : Nat → Value} {w w' : World} (h : EgAt E D g m v w) {i : Nat} (hi : i < 3) {l' : List KwN} {mv' v' : Value} (hb : BoAt E E (149 + i * 2) l' mv' v' w') (hf : BFr E E (149 + i * 2) (m i) (v i) w w') (own : ∀ x, bkHas mv' v' x → bkHas (m i) (v i) x ∨ w.heap.size ≤ x) :
    EgAt E D { g with b := upd g.b i l' } (upd m i mv') (upd v i v') w' := by
  have hne : ∀ j, j < 3 → j ≠ i → ∀ x, bkHas (m j) (v j) x → w'.heap[x]? = w.heap[x]? := fun j hj hji x q => by
    have hn : ¬ bkHas (m i) (v i) x := h.sep j i hj hi hji x q
    exact hf.other x ((h.bk j hj).has q).2.1 (h.ne hj q) (fun b e p => hn (.inl (by rw [e, p]))) (fun e => hn (.inr e))
  refine ⟨fun j => (hf.fz j).trans (h.fz j), fun j hj => ?_, fun j u q => ?_, h.zl, fun j hj => ?_, fun j k hj hk hjk x q1 q2 => ?_⟩
  · have hsv : scV D { g with b := upd g.b i l' } j = scV D g j := rfl
    rw [hsv]
    exact (hf.cells j (by unfold isSc at hj; omega) (by unfold isSc at hj; omega)).trans (h.sc j hj)
  · have hk : j < 138 := by have := (List.getElem?_eq_some_iff.1 q).1; rw [List.length_map, h.zl] at this; exact this
    exact (hf.cells (3 + j) (by omega) (by omega)).trans (h.st j u q)
  · by_cases hji : j = i
    · subst hji
      show BoAt E E (149 + j * 2) (upd g.b j l' j) (upd m j mv' j) (upd v j v' j) w'
      rw [upd_at, upd_at, upd_at]
      exact hb
    · show BoAt E E (149 + j * 2) (upd g.b i l' j) (upd m i mv' j) (upd v i v' j) w'
      rw [upd_ne _ _ _ _ hji, upd_ne _ _ _ _ hji, upd_ne _ _ _ _ hji]
      exact (h.bk j hj).kept (fun k hk => hf.cells k (by omega) (by omega)) (hne j hj hji)
  · by_cases hji : j = i <;> by_cases hki : k = i
    · omega
    · subst hji
      rw [upd_at, upd_at] at q1
      rw [upd_ne _ _ _ _ hki, upd_ne _ _ _ _ hki] at q2
      rcases own x q1 with a | a
      · exact h.sep j k hj hk hjk x a q2
      · have := ((h.bk k hk).has q2).2.1; omega
    · subst hki
      rw [upd_at, upd_at] at q2
      rw [upd_ne _ _ _ _ hji, upd_ne _ _ _ _ hji] at q1
      rcases own x q2 with a | a
      · exact h.sep j k hj hk hjk x q1 a
      · have := ((h.bk j hj).has q1).2.1; omega
    · rw [upd_ne _ _ _ _ hji, upd_ne _ _ _ _ hji] at q1
      rw [upd_ne _ _ _ _ hki, upd_ne _ _ _ _ hki] at q2
      exact h.sep j k hj hk hjk x q1 q2
/-- A book another, whose value lies elsewhere. -/
theorem EgAt.putBook {E D : Nat} {g : EgN} {m v : Nat → Value} {w : World} (h : EgAt E D g m v w) {i : Nat} (hi : i < 3) {l' : List KwN} {mv' v' : Value} (hb : BoV E l' mv' v' w) (hn : ∀ x, bkHas mv' v' x → ¬ eHas E m v x) (W : World) (hW : W = (w.setCell ⟨E, 149 + i * 2, none⟩ mv').setCell ⟨E, 150 + i * 2, none⟩ v') :
    EgAt E D { g with b := upd g.b i l' } (upd m i mv') (upd v i v') W ∧ Chg (fun x => x = E) w W := by
  have hE : ∀ x, x ≠ E → W.heap[x]? = w.heap[x]? := fun x hx => by rw [hW]; exact (set_other hx).trans (set_other hx)
  have hc : ∀ k, k ≠ 149 + i * 2 → k ≠ 150 + i * 2 → W.cell? ⟨E, k, none⟩ = w.cell? ⟨E, k, none⟩ := fun k h1 h2 => by rw [hW, cell_off (fun e => h2 e.symm), cell_off (fun e => h1 e.symm)]
  have hfz : ∀ k, W.frozen? ⟨E, k, none⟩ = w.frozen? ⟨E, k, none⟩ := fun k => by rw [hW, World.frozen?_setCell, World.frozen?_setCell]
  have c0 := (h.bk i hi).c0
  have c1 := (h.bk i hi).c1
  have hne : ∀ x, bkHas mv' v' x → x ≠ E := fun x q e => hn x q (.inl e)
  refine ⟨⟨fun j => (hfz j).trans (h.fz j), fun j hj => ?_, fun j u q => ?_, h.zl, fun j hj => ?_, fun j k hj hk hjk x q1 q2 => ?_⟩, ?_⟩
  · have hsv : scV D { g with b := upd g.b i l' } j = scV D g j := rfl
    rw [hsv]
    exact (hc j (by unfold isSc at hj; omega) (by unfold isSc at hj; omega)).trans (h.sc j hj)
  · have hk : j < 138 := by have := (List.getElem?_eq_some_iff.1 q).1; rw [List.length_map, h.zl] at this; exact this
    exact (hc (3 + j) (by omega) (by omega)).trans (h.st j u q)
  · by_cases hji : j = i
    · subst hji
      show BoAt E E (149 + j * 2) (upd g.b j l' j) (upd m j mv' j) (upd v j v' j) W
      rw [upd_at, upd_at, upd_at]
      refine (hb.kept (fun x q => hE x (hne x q))).at' ?_ ?_ (fun e => hne E (.inr e) rfl)
      · rw [hW, cell_off (by omega)]
        exact World.cell?_setCell_same _ _ _ c0
      · rw [hW, show 149 + j * 2 + 1 = 150 + j * 2 by omega]
        exact World.cell?_setCell_same _ _ v' (u := v j) (by rw [cell_off (by omega), show 150 + j * 2 = 149 + j * 2 + 1 by omega]; exact c1)
    · show BoAt E E (149 + j * 2) (upd g.b i l' j) (upd m i mv' j) (upd v i v' j) W
      rw [upd_ne _ _ _ _ hji, upd_ne _ _ _ _ hji, upd_ne _ _ _ _ hji]
      exact (h.bk j hj).kept (fun k hk => hc k (by omega) (by omega)) (fun x q => hE x (h.ne hj q))
  · by_cases hji : j = i <;> by_cases hki : k = i
    · omega
    · subst hji
      rw [upd_at, upd_at] at q1
      rw [upd_ne _ _ _ _ hki, upd_ne _ _ _ _ hki] at q2
      exact hn x q1 (.inr ⟨k, hk, q2⟩)
    · subst hki
      rw [upd_at, upd_at] at q2
      rw [upd_ne _ _ _ _ hji, upd_ne _ _ _ _ hji] at q1
      exact hn x q2 (.inr ⟨j, hj, q1⟩)
    · rw [upd_ne _ _ _ _ hji, upd_ne _ _ _ _ hji] at q1
      rw [upd_ne _ _ _ _ hki, upd_ne _ _ _ _ hki] at q2
      exact h.sep j k hj hk hjk x q1 q2
  · rw [hW]
    exact (Chg.set w E _ mv').trans (fun x q => .inl q) (Chg.set _ E _ v')
/-- An engine with its device. -/
structure EdAt (E D : Nat) (g : EgN) (d : DvN) (m v vs : Nat → Value) (w : World) : Prop where
  eg : EgAt E D g m v w
  dv : DvAt D d vs w
  sep : ∀ x, eHas E m v x → ¬ dHas D vs x
structure EdFr (E D : Nat) (m v vs m' v' vs' : Nat → Value) (w w' : World) : Prop where
  chg : Chg (fun x => eHas E m v x ∨ dHas D vs x) w w'
  eo : ∀ x, eHas E m' v' x → eHas E m v x ∨ w.heap.size ≤ x
  vo : ∀ x, dHas D vs' x → dHas D vs x ∨ w.heap.size ≤ x
theorem EdFr.refl (E D : Nat) (m v vs : Nat → Value) (w : World) : EdFr E D m v vs m v vs w w := ⟨Chg.refl _ _, fun _ h => .inl h, fun _ h => .inl h⟩
theorem EdFr.of_below {E D : Nat} {m v vs : Nat → Value} {w w' : World} (h : Below w.heap.size w w') : EdFr E D m v vs m v vs w w' := ⟨Chg.of_below h, fun _ h => .inl h, fun _ h => .inl h⟩
theorem EdFr.trans {E D : Nat} {m v vs m1 v1 vs1 m2 v2 vs2 : Nat → Value} {w w1 w2 : World} (h : EdFr E D m v vs m1 v1 vs1 w w1) (k : EdFr E D m1 v1 vs1 m2 v2 vs2 w1 w2) : EdFr E D m v vs m2 v2 vs2 w w2 := by
  refine ⟨h.chg.trans (fun x q => ?_) k.chg, fun x q => ?_, fun x q => ?_⟩
  · rcases q with q | q
    · exact (h.eo x q).imp .inl id
    · exact (h.vo x q).imp .inr id
  · rcases k.eo x q with a | a
    · exact h.eo x a
    · exact .inr (Nat.le_trans h.chg.size a)
  · rcases k.vo x q with a | a
    · exact h.vo x a
    · exact .inr (Nat.le_trans h.chg.size a)
theorem EdAt.up {E D : Nat} {g : EgN} {d : DvN} {m v vs : Nat → Value} {w w' : World} (h : EdAt E D g d m v vs w) (hb : Below w.heap.size w w') : EdAt E D g d m v vs w' :=
  ⟨h.eg.kept (fun x q => hb.block x (h.eg.has q).2), h.dv.kept hb.size (fun x q => hb.block x (h.dv.has q).2), h.sep⟩
/-- Behind a call of the device. -/
theorem EdAt.dev {E D : Nat} {g : EgN} {d d' : DvN} {m v vs vs' : Nat → Value} {w w' : World} (h : EdAt E D g d m v vs w) (hd : DvAt D d' vs' w') (hf : DFr D vs vs' w w') : EdAt E D g d' m v vs' w' ∧ EdFr E D m v vs m v vs' w w' := by
  have vo : ∀ x, dHas D vs' x → dHas D vs x ∨ w.heap.size ≤ x := fun x q => by
    rcases q with q | ⟨i, hi, q⟩
    · exact .inl (.inl q)
    · rcases hf.own i hi x q with a | a
      · exact .inl (.inr ⟨i, hi, a⟩)
      · exact .inr a
  refine ⟨⟨h.eg.kept (fun x q => hf.chg.other x (h.eg.has q).2 (h.sep x q)), hd, fun x q1 q2 => ?_⟩, ⟨hf.chg.weak (fun x q => .inl (.inr q)), fun x q => .inl q, vo⟩⟩
  rcases vo x q2 with a | a
  · exact h.sep x q1 a
  · have := (h.eg.has q1).2; omega
/-- Behind a change of the engine alone. -/
theorem EdAt.egs {E D : Nat} {g g' : EgN} {d : DvN} {m v vs m' v' : Nat → Value} {w w' : World} (h : EdAt E D g d m v vs w) (he : EgAt E D g' m' v' w') (hc : Chg (eHas E m v) w w') (eo : ∀ x, eHas E m' v' x → eHas E m v x ∨ w.heap.size ≤ x) : EdAt E D g' d m' v' vs w' ∧ EdFr E D m v vs m' v' vs w w' := by
  refine ⟨⟨he, h.dv.kept hc.size (fun x q => hc.other x (h.dv.has q).2 (fun p => h.sep x p q)), fun x q1 q2 => ?_⟩, ⟨hc.weak (fun x q => .inl (.inl q)), eo, fun x q => .inl q⟩⟩
  rcases eo x q1 with a | a
  · exact h.sep x a q2
  · have := (h.dv.has q2).2; omega
theorem EdAt.set {E D : Nat} {g : EgN} {d : DvN} {m v vs : Nat → Value} {w : World} (h : EdAt E D g d m v vs w) (j : Nat) (hj : isSc j) (g' : EgN) (hz : g'.z = g.z) (hb : g'.b = g.b) (hs : ∀ k, isSc k → k ≠ j → scV D g' k = scV D g k) (u : Value) (hu : u = scV D g' j) : EdAt E D g' d m v vs (w.setCell ⟨E, j, none⟩ u) ∧ EdFr E D m v vs m v vs w (w.setCell ⟨E, j, none⟩ u) :=
  h.egs (h.eg.set j hj g' hz hb hs u hu) ((Chg.set w E j u).weak (fun _ q => .inl (.inl q))) (fun _ q => .inl q)
/-- What a call of an engine leaves: its answer, the engine and the device. -/
def EPost (E D : Nat) (m v vs : Nat → Value) (w : World) (n : Int) (g' : EgN) (d' : DvN) (e' : Ending) (w' : World) : Prop :=
  e' = .returned (.int .i64 n) ∧ ∃ m' v' vs', EdAt E D g' d' m' v' vs' w' ∧ EdFr E D m v vs m' v' vs' w w'
end Go.Proofs.YtmmflekajbeamaaGreatDoor
