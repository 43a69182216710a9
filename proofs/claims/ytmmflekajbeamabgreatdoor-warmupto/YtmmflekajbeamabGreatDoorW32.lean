/-
  The document's engine: writing anew (anew).
  The document's engine: writing anew (anew), the walk.
  The document's engine: what a start reads (begun).
  Frames, the document's answer: what an area's bytes tell (cribref.Scan).
  The document's engine: what a start reads (begun), the walk.
  The document's engine: Start.
  The document's engine: Start, the walk.
  Translates, the document's answer: what a put reads, and whether it is needed (cribref.reads, needed).
  Translates, the document's answer: a block's own plan (cribref.Translate).
  The document's engine: what is counted when a block is run (counted).
  Translates: the block at a place of the memory, the document's answer (cribref.BlockAt, Block).
  The document's engine: Run.
  The document's engine: State, Counts, Known, Compact; Persist of an engine that is over, or of one in which nothing waits.
  The document's engine: Persist.
  The two engines agree: over devices that tell the same they answer the same and leave the same, but for their numbers.
  What every engine keeps to, whatever is called.
  Faithful, Kept, Warm: the bench in memory: a device, an engine over it, the machine.
-/
import Derived.Test.YtmmflekajbeamabGreatDoorW31
import Derived.Test.YtmmflekajbeamabGreatDoorW19
import Derived.Test.YtmmflekajbeamabGreatDoorW16
import Derived.Test.YtmmflekajbeamabGreatDoorW09
import Derived.Test.YtmmflekajbeamabGreatDoorW07
import Derived.Test.YtmmflekajbeamabGreatDoorW08
import Derived.Test.YtmmflekajbeamabGreatDoorW25
import Derived.BigRegion
import Derived.Deep.Cut
import Derived.Deep.CutRange
import Derived.Test.YtmmflekajbeamabGreatDoorW11
import Derived.Test.YtmmflekajbeamabGreatDoorW30
namespace Go.Proofs.YtmmflekajbeamabGreatDoor
open Go.RowKit Go.Maps Go.WideMaps

end Go.Proofs.YtmmflekajbeamabGreatDoor

namespace Go.Proofs.YtmmflekajbeamabGreatDoor
open Go.RowKit Go.Maps Go.WideMaps

end Go.Proofs.YtmmflekajbeamabGreatDoor

namespace Go.Proofs.YtmmflekajbeamabGreatDoor
open Go.RowKit Go.Maps Go.WideMaps

theorem GPu.cur {g : EgN} (h : GPu g) (c : Nat) (A : ArN) (n : Nat) : GPu (curE g c A n) := by
  refine ⟨fun i hi => ?_, fun ws hw => ?_⟩
  · show BkOK (upd g.b 0 (bookL A.list) i)
    by_cases e : i = 0
    · rw [e, upd_at]; exact BkOK.book _
    · rw [upd_ne _ _ _ _ e]; exact h.bk i hi
  · have hw' : ws ∈ bkW (upd g.b 0 (bookL A.list) 1) := hw
    show ws ∈ bkW (upd g.b 0 (bookL A.list) 2)
    rw [upd_ne _ _ _ _ (by decide)] at hw' ⊢
    exact h.sub ws hw'
end Go.Proofs.YtmmflekajbeamabGreatDoor

namespace Go.Proofs.YtmmflekajbeamabGreatDoor
open Go.RowKit

end Go.Proofs.YtmmflekajbeamabGreatDoor

namespace Go.Proofs.YtmmflekajbeamabGreatDoor
open Go.RowKit Go.Maps Go.WideMaps

end Go.Proofs.YtmmflekajbeamabGreatDoor

namespace Go.Proofs.YtmmflekajbeamabGreatDoor
open Go.RowKit Go.Maps Go.WideMaps

end Go.Proofs.YtmmflekajbeamabGreatDoor

namespace Go.Proofs.YtmmflekajbeamabGreatDoor
open Go.RowKit Go.Maps Go.WideMaps

end Go.Proofs.YtmmflekajbeamabGreatDoor

namespace Go.Proofs.YtmmflekajbeamabGreatDoor
open Go.RowKit

end Go.Proofs.YtmmflekajbeamabGreatDoor

namespace Go.Proofs.YtmmflekajbeamabGreatDoor
open Go.RowKit

end Go.Proofs.YtmmflekajbeamabGreatDoor

namespace Go.Proofs.YtmmflekajbeamabGreatDoor
open Go.RowKit Go.Maps Go.WideMaps

end Go.Proofs.YtmmflekajbeamabGreatDoor

namespace Go.Proofs.YtmmflekajbeamabGreatDoor
open Go.RowKit

end Go.Proofs.YtmmflekajbeamabGreatDoor

namespace Go.Proofs.YtmmflekajbeamabGreatDoor
open Go.RowKit Go.Maps Go.WideMaps

theorem GPu.adv {g : EgN} {k : Nat} (h : GPu g) (hg : RunG g k) (fuel : Nat) : GPu (advE g fuel).1 := by
  unfold advE
  split
  · exact h.of rfl
  · exact (h.plan hg.z.wok ((blkB_iff _).2 hg.z.blk)).of rfl
end Go.Proofs.YtmmflekajbeamabGreatDoor

namespace Go.Proofs.YtmmflekajbeamabGreatDoor
open Go.RowKit Go.Maps Go.WideMaps

end Go.Proofs.YtmmflekajbeamabGreatDoor

namespace Go.Proofs.YtmmflekajbeamabGreatDoor
open Go.RowKit Go.Maps Go.WideMaps

end Go.Proofs.YtmmflekajbeamabGreatDoor

namespace Go.Proofs.YtmmflekajbeamabGreatDoor

end Go.Proofs.YtmmflekajbeamabGreatDoor

namespace Go.Proofs.YtmmflekajbeamabGreatDoor

/-- An entry's words and plan fit a frame. -/
def payL (x : KwN) : Prop := (wdsT x.1).length + x.2.length ≤ 199
theorem foldB_pair {P : KwN → Prop} : ∀ (l : List BwN) (b : List KwN), (∀ k ∈ b, P k) → (∀ x ∈ l, blkB (bya x.1) = true → P (rdW x.1, x.2)) → ∀ k ∈ l.foldl bkAdd b, P k
  | [], b, hb, _ => hb
  | x :: l, b, hb, hl => by
    refine foldB_pair l (bkAdd b x) (fun k hk => ?_) (fun y hy => hl y (List.mem_cons_of_mem _ hy))
    unfold bkAdd at hk
    split at hk
    · rename_i hB
      rcases layB_mem hk with q | q
      · exact hb k q
      · rw [q]; exact hl x (List.mem_cons_self ..) hB
    · exact hb k hk
theorem arT_pay {a a' : ArN} {k : Nat} {p : List UInt8} (h : ∀ x ∈ a.list, x.1.length + x.2.length ≤ 199) (hp : p.length ≤ 200) (e : arT a k p = some a') : ∀ x ∈ a'.list, x.1.length + x.2.length ≤ 199 := by
  unfold arT at e
  split at e
  · split at e
    · cases e; exact h
    · cases e
  · split at e
    · split at e
      · rename_i hc
        cases e
        intro x hx
        rcases List.mem_append.1 hx with q | q
        · exact h x q
        · rw [List.mem_singleton] at q
          rw [q]
          simp only [List.length_take, List.length_drop]
          omega
      · cases e
    · split at e
      · split at e
        · cases e; exact h
        · cases e
      · cases e
theorem scn_pay : ∀ (f : Nat) (a : ArN) (l : List UInt8), (∀ x ∈ a.list, x.1.length + x.2.length ≤ 199) → ∀ x ∈ (scn f a l).list, x.1.length + x.2.length ≤ 199
  | 0, a, l, h => h
  | f + 1, a, l, h => by
    rw [scn]
    cases hf : frst l with
    | none => exact h
    | some kp =>
      obtain ⟨k, p⟩ := kp
      simp only
      cases ht : arT a k p with
      | none => exact h
      | some a' =>
        simp only
        obtain ⟨_, _, hp, _, _⟩ := frst_some hf
        exact scn_pay f a' _ (arT_pay h hp ht)
theorem scan_pay (l : List UInt8) : ∀ x ∈ (scan l).list, x.1.length + x.2.length ≤ 199 := scn_pay _ _ _ (fun _ h => by cases h)
theorem entsT_ge : ∀ l : List BwN, (∀ x ∈ l, x.1.length + x.2.length ≤ 199) → l.length ≤ (entsT l).length
  | [], _ => Nat.zero_le _
  | x :: l, h => by
    have h1 := entsT_ge l (fun y hy => h y (List.mem_cons_of_mem _ hy))
    have hx := h x (List.mem_cons_self ..)
    have hp : (enPl x).length ≤ 200 := by unfold enPl; rw [List.length_append, List.length_append, numB_len]; omega
    have h2 : 8 ≤ (enF x).length := by unfold enF slT; rw [if_pos hp, frT_len]; omega
    have h3 : entsT (x :: l) = enF x ++ entsT l := rfl
    rw [h3, List.length_append, List.length_cons]
    omega
theorem knT_pay {l : List KwN} (h : ∀ x ∈ l, payL x) : ∀ x ∈ knT l, x.1.length + x.2.length ≤ 199 := fun x hx => by
  obtain ⟨k, hk, rfl⟩ := List.mem_map.1 hx
  exact h k hk
theorem knT_ge {l : List KwN} (h : ∀ x ∈ l, payL x) : l.length ≤ (entsT (knT l)).length := by
  have := entsT_ge (knT l) (knT_pay h)
  rw [knT_len] at this
  exact this
theorem book_pay {m : List BwN} (h : ∀ x ∈ m, x.1.length + x.2.length ≤ 199) : ∀ k ∈ bookL m, payL k := foldB_pair m [] (fun _ h => by cases h) (fun x hx hb => by show (wdsT (rdW x.1)).length + x.2.length ≤ 199; rw [wds_rdW hb]; exact h x hx)
theorem togB_pay {g : EgN} (h : ∀ i, i < 2 → ∀ x ∈ g.b i, payL x) : ∀ x ∈ togB g, payL x := book_pay (fun x hx => by
  rcases List.mem_append.1 hx with q | q
  · exact knT_pay (h 0 (by decide)) x q
  · exact knT_pay (h 1 (by decide)) x q)
theorem frE_ge {g : EgN} (h : ∀ i, i < 2 → ∀ x ∈ g.b i, payL x) : (togB g).length ≤ (frE g).length := by
  have h1 := knT_ge (togB_pay h)
  unfold frE anewT
  rw [List.length_append, List.length_append]
  omega
structure GOK (g : EgN) (k : Nat) : Prop where
  run : RunG g k
  pu : GPu g
  ar : g.ar ≤ 1
  gn : g.gn ≤ 4294967295
  sz : g.sz ≤ 1500
  sm : (g.b 0).length + (g.b 1).length ≤ k
  kn : (g.b 0).length ≤ g.sz
  pay : ∀ i, i < 2 → ∀ x ∈ g.b i, payL x
theorem GOK.eg {g : EgN} {k : Nat} (h : GOK g k) (hk : k ≤ 200000000000) : EgOK g := ⟨h.ar, h.gn, fun i hi => Nat.le_trans (h.run.rn.1 i hi) hk, fun i hi x hx => h.run.pl i hi x hx⟩
theorem GOK.more {g : EgN} {k n : Nat} (h : GOK g k) (hn : k ≤ n) : GOK g n := ⟨⟨h.run.z, h.run.rd, h.run.rn.more hn, h.run.pl⟩, h.pu, h.ar, h.gn, h.sz, Nat.le_trans h.sm hn, h.kn, h.pay⟩
theorem GOK.fail {g : EgN} {k : Nat} (h : GOK g k) : GOK (failE g) k := ⟨⟨h.run.z, h.run.rd, h.run.rn, h.run.pl⟩, h.pu.of rfl, h.ar, h.gn, h.sz, h.sm, h.kn, h.pay⟩
theorem GOK.nums {g : EgN} {k : Nat} (h : GOK g k) {a n s : Nat} (ha : a ≤ 1) (hn : n ≤ 4294967295) (hs : s ≤ 1500) (hb : (g.b 0).length ≤ s) : GOK { g with ar := a, gn := n, sz := s } k := ⟨⟨h.run.z, h.run.rd, h.run.rn, h.run.pl⟩, h.pu.of rfl, ha, hn, hs, h.sm, hb, h.pay⟩
theorem togB_few (g : EgN) : (togB g).length ≤ (g.b 0).length + (g.b 1).length := by
  have := bookL_len (knT (g.b 0) ++ knT (g.b 1))
  rw [List.length_append, knT_len, knT_len] at this
  exact this
theorem togB_pl {g : EgN} (h : ∀ i, i < 3 → ∀ x ∈ g.b i, x.2.length ≤ 1000000) : ∀ x ∈ togB g, x.2.length ≤ 1000000 := by
  refine foldB_plan (P := fun p => p.length ≤ 1000000) _ [] (fun _ h => by cases h) (fun y hy => ?_)
  rcases List.mem_append.1 hy with q | q
  · obtain ⟨k', hk', rfl⟩ := List.mem_map.1 q
    exact h 0 (by decide) k' hk'
  · obtain ⟨k', hk', rfl⟩ := List.mem_map.1 q
    exact h 1 (by decide) k' hk'
theorem learn_b (g : EgN) : (learnE g).b 0 = togB g ∧ (learnE g).b 1 = [] ∧ (learnE g).b 2 = g.b 2 := ⟨by show upd (upd g.b 0 (togB g)) 1 [] 0 = _; rw [upd_ne _ _ _ _ (by decide), upd_at], by show upd (upd g.b 0 (togB g)) 1 [] 1 = _; rw [upd_at], by show upd (upd g.b 0 (togB g)) 1 [] 2 = _; rw [upd_ne _ _ _ _ (by decide), upd_ne _ _ _ _ (by decide)]⟩
theorem GOK.learn {g : EgN} {k : Nat} (h : GOK g k) {a n s : Nat} (ha : a ≤ 1) (hn : n ≤ 4294967295) (hs : s ≤ 1500) (hb : (togB g).length ≤ s) : GOK (learnE { g with ar := a, gn := n, sz := s }) k := by
  obtain ⟨e0, e1, e2⟩ := learn_b { g with ar := a, gn := n, sz := s }
  have et : togB { g with ar := a, gn := n, sz := s } = togB g := rfl
  have e2' : ({ g with ar := a, gn := n, sz := s } : EgN).b = g.b := rfl
  rw [et] at e0
  rw [e2'] at e2
  have hl : ∀ i, i < 3 → ((learnE { g with ar := a, gn := n, sz := s }).b i).length ≤ k := fun i hi => by
    have : i = 0 ∨ i = 1 ∨ i = 2 := by omega
    rcases this with rfl | rfl | rfl
    · rw [e0]; exact Nat.le_trans (togB_few g) h.sm
    · rw [e1]; exact Nat.zero_le _
    · rw [e2]; exact h.run.rn.1 2 (by decide)
  refine ⟨⟨h.run.z, fun x hx => ?_, ⟨hl, h.run.rn.2⟩, fun i hi x hx => ?_⟩, (h.pu.of (g' := { g with ar := a, gn := n, sz := s }) rfl).learn, ha, hn, hs, ?_, ?_, fun i hi x hx => ?_⟩
  · rw [e2] at hx; exact h.run.rd x hx
  · have : i = 0 ∨ i = 1 ∨ i = 2 := by omega
    rcases this with rfl | rfl | rfl
    · rw [e0] at hx; exact togB_pl h.run.pl x hx
    · rw [e1] at hx; cases hx
    · rw [e2] at hx; exact h.run.pl 2 (by decide) x hx
  · rw [e0, e1]
    have := togB_few g
    have := h.sm
    show (togB g).length + 0 ≤ k
    omega
  · rw [e0]; exact hb
  · have : i = 0 ∨ i = 1 := by omega
    rcases this with rfl | rfl
    · rw [e0] at hx; exact togB_pay h.pay x hx
    · rw [e1] at hx; cases hx
theorem GOK.anew {α : Type} {o : Dev α} {g : EgN} {k : Nat} (h : GOK g k) (d : α) {i : Nat} (hi : i ≤ 1) : GOK (anewE o g d i).2.1 k := by
  unfold anewE
  by_cases q1 : 4294967295 < g.gn + 1
  · rw [if_pos q1]; exact h
  · rw [if_neg q1]
    by_cases q2 : 1500 < (frE g).length
    · rw [if_pos q2]; exact h
    · rw [if_neg q2]
      split
      · split
        · exact h.learn hi (by omega) (by omega) (frE_ge h.pay)
        · exact h.fail
      · exact h.fail
theorem GOK.pers {α : Type} {o : Dev α} {g : EgN} {k : Nat} (h : GOK g k) (d : α) : GOK (persE o g d).2.1 k := by
  unfold persE
  split
  · exact h
  · split
    · exact h.anew d (by omega)
    · rename_i q
      split
      · exact h.learn (s := g.sz + (entsT (knT (g.b 1))).length) h.ar h.gn (by omega) (by have h1 := togB_few g; have h2 := knT_ge (h.pay 1 (by decide)); have h3 := h.kn; omega)
      · exact h.fail
theorem prepE_sum (g : EgN) (ws : List Nat) : ((prepE g ws).1.b 0).length + ((prepE g ws).1.b 1).length ≤ (g.b 0).length + (g.b 1).length + 1 := by
  obtain ⟨e0, _, e1⟩ := prepE_b g ws
  rw [e0]
  rcases e1 with e1 | e1
  · rw [e1]; omega
  · rw [e1]; have := layB_len (g.b 1) ws (ownT ws); omega
theorem planE_sum (g : EgN) (ws : List Nat) : ((planE g ws).1.b 0).length + ((planE g ws).1.b 1).length ≤ (g.b 0).length + (g.b 1).length + 1 := by
  unfold planE
  cases fB (g.b 2) ws with
  | some p => exact Nat.le_succ _
  | none =>
    have := prepE_sum g ws
    show (upd (prepE g ws).1.b 2 (layB ((prepE g ws).1.b 2) ws (prepE g ws).2) 0).length + (upd (prepE g ws).1.b 2 (layB ((prepE g ws).1.b 2) ws (prepE g ws).2) 1).length ≤ _
    rw [upd_ne _ _ _ _ (by decide), upd_ne _ _ _ _ (by decide)]
    exact this
theorem planE_num (g : EgN) (ws : List Nat) : (planE g ws).1.ar = g.ar ∧ (planE g ws).1.gn = g.gn ∧ (planE g ws).1.sz = g.sz ∧ (planE g ws).1.wk = g.wk ∧ (planE g ws).1.fl = g.fl := by
  have hp : (prepE g ws).1.ar = g.ar ∧ (prepE g ws).1.gn = g.gn ∧ (prepE g ws).1.sz = g.sz ∧ (prepE g ws).1.wk = g.wk ∧ (prepE g ws).1.fl = g.fl := by
    unfold prepE
    cases fB (g.b 0) ws with
    | some p => simp only; split <;> exact ⟨rfl, rfl, rfl, rfl, rfl⟩
    | none => exact ⟨rfl, rfl, rfl, rfl, rfl⟩
  unfold planE
  cases fB (g.b 2) ws with
  | some p => exact ⟨rfl, rfl, rfl, rfl, rfl⟩
  | none => exact hp
theorem planE_pay {g : EgN} {ws : List Nat} (hw : wOK ws) (hb : blkOK (bya (wdsT ws))) (h : ∀ i, i < 2 → ∀ x ∈ g.b i, payL x) : (planE g ws).1.b 0 = g.b 0 ∧ ∀ i, i < 2 → ∀ x ∈ (planE g ws).1.b i, payL x := by
  unfold planE
  cases fB (g.b 2) ws with
  | some p => exact ⟨rfl, h⟩
  | none =>
    obtain ⟨e0, _, e1⟩ := prepE_b g ws
    have f0 : (layG (prepE g ws).1 2 ws (prepE g ws).2).b 0 = g.b 0 := (show upd (prepE g ws).1.b 2 (layB ((prepE g ws).1.b 2) ws (prepE g ws).2) 0 = g.b 0 from (upd_ne _ _ _ _ (by decide)).trans e0)
    have f1 : (layG (prepE g ws).1 2 ws (prepE g ws).2).b 1 = (prepE g ws).1.b 1 := (show upd (prepE g ws).1.b 2 (layB ((prepE g ws).1.b 2) ws (prepE g ws).2) 1 = (prepE g ws).1.b 1 from upd_ne _ _ _ _ (by decide))
    refine ⟨f0, fun i hi x hx => ?_⟩
    have : i = 0 ∨ i = 1 := by omega
    rcases this with rfl | rfl
    · simp only [f0] at hx
      exact h 0 (by decide) x hx
    · simp only [f1] at hx
      rcases e1 with e1 | e1
      · rw [e1] at hx; exact h 1 (by decide) x hx
      · rw [e1] at hx
        rcases layB_mem hx with q | q
        · exact h 1 (by decide) x q
        · rw [q]
          have h1 := wds_sh hw
          have h2 := own_sh ws hb
          show (wdsT ws).length + (ownT ws).length ≤ 199
          omega
theorem GOK.adv {g : EgN} {k : Nat} (h : GOK g k) (hs : gz g.z 137 = 0) (f : Nat) : GOK (advE g f).1 (k + 4) ∧ (advE g f).1.wk = g.wk := by
  obtain ⟨q1, _, _⟩ := advE_ok h.run hs f
  have hp := h.pu.adv h.run f
  have key2 : (advE g f).1.b 0 = g.b 0 ∧ ∀ i, i < 2 → ∀ x ∈ (advE g f).1.b i, payL x := by
    unfold advE
    split
    · exact ⟨rfl, h.pay⟩
    · exact planE_pay h.run.z.wok h.run.z.blk h.pay
  obtain ⟨a5b, a6⟩ := key2
  have key : (advE g f).1.ar = g.ar ∧ (advE g f).1.gn = g.gn ∧ (advE g f).1.sz = g.sz ∧ (advE g f).1.wk = g.wk ∧ ((advE g f).1.b 0).length + ((advE g f).1.b 1).length ≤ (g.b 0).length + (g.b 1).length + 1 := by
    unfold advE
    split
    · exact ⟨rfl, rfl, rfl, rfl, Nat.le_succ _⟩
    · obtain ⟨a1, a2, a3, a4, _⟩ := planE_num g (wsZ g.z)
      exact ⟨a1, a2, a3, a4, planE_sum g (wsZ g.z)⟩
  obtain ⟨a1, a2, a3, a4, a5⟩ := key
  exact ⟨⟨q1, hp, by rw [a1]; exact h.ar, by rw [a2]; exact h.gn, by rw [a3]; exact h.sz, by have := h.sm; omega, by rw [a5b, a3]; exact h.kn, a6⟩, a4⟩
theorem GOK.runL (fuel : Nat) : ∀ (f : Nat) (g : EgN) (k n : Nat), GOK g k → GOK (runL f g fuel n).1 (k + 4 * f) ∧ (runL f g fuel n).1.wk = g.wk
  | 0, g, k, n, h => ⟨h, rfl⟩
  | f + 1, g, k, n, h => by
    rw [Go.Proofs.YtmmflekajbeamabGreatDoor.runL]
    split
    · rename_i q
      obtain ⟨a1, a2⟩ := h.adv q.1 (fuel - n)
      obtain ⟨b1, b2⟩ := GOK.runL fuel f _ (k + 4) (n + (advE g (fuel - n)).2) a1
      exact ⟨b1.more (by omega), b2.trans a2⟩
    · exact ⟨h.more (by omega), rfl⟩
theorem GOK.runE {g : EgN} {k : Nat} (h : GOK g k) (fuel : Nat) : GOK (runE g fuel).1 (k + 4 * (fuel + 1)) ∧ (Go.Proofs.YtmmflekajbeamabGreatDoor.runE g fuel).1.wk = g.wk := GOK.runL fuel (fuel + 1) g k 0 h
theorem GOK.new {z : List Int} (hz : RunOK z) (k : Int) : GOK (newG k z) 1500 := ⟨⟨hz, fun _ h => (by cases h), ⟨fun _ _ => Nat.zero_le _, fun _ _ => Nat.zero_le _⟩, fun _ _ _ h => (by cases h)⟩, GPu.new k z, Nat.zero_le _, Nat.zero_le _, Nat.zero_le _, Nat.zero_le _, Nat.zero_le _, fun _ _ _ h => (by cases h)⟩
theorem GOK.cur {z : List Int} (hz : RunOK z) (k : Int) {c : Nat} (hc : c ≤ 1) (t : List UInt8) (ht : t.length ≤ 1500) : GOK (curE (newG k z) c (scan t) t.length) 1500 := by
  obtain ⟨hA, hG⟩ := scan_ok t
  have hf : (scan t).list.length ≤ 1500 := Nat.le_trans (scan_few t) ht
  have hb : (bookL (scan t).list).length ≤ 1500 := Nat.le_trans (bookL_len _) hf
  have h0 : (curE (newG k z) c (scan t) t.length).b 0 = bookL (scan t).list := (show upd (newG k z).b 0 (bookL (scan t).list) 0 = _ from upd_at _ _ _)
  have h1 : ∀ i, i ≠ 0 → (curE (newG k z) c (scan t) t.length).b i = [] := fun i hi => (show upd (newG k z).b 0 (bookL (scan t).list) i = _ from upd_ne _ _ _ _ hi)
  refine ⟨⟨hz, fun x hx => ?_, ⟨fun i hi => ?_, fun _ _ => Nat.zero_le _⟩, fun i hi x hx => ?_⟩, (GPu.new k z).cur _ _ _, hc, hA.gen, ht, ?_, ?_, fun i hi x hx => ?_⟩
  · rw [h1 2 (by decide)] at hx; cases hx
  · by_cases e : i = 0
    · rw [e, h0]; exact hb
    · rw [h1 i e]; exact Nat.zero_le _
  · by_cases e : i = 0
    · rw [e, h0] at hx
      exact foldB_plan (P := fun p => p.length ≤ 1000000) _ [] (fun _ h => by cases h) (fun y hy => by have := (hA.sh y hy).2; omega) x hx
    · rw [h1 i e] at hx; cases hx
  · rw [h0, h1 1 (by decide)]; exact hb
  · rw [h0]; exact Nat.le_trans (bookL_len _) (scan_few t)
  · by_cases e : i = 0
    · rw [e, h0] at hx; exact book_pay (scan_pay t) x hx
    · rw [h1 i e] at hx; cases hx
theorem GOK.open {z : List Int} (hz : RunOK z) (k : Int) (d : DvN) (hd : ∀ i, i < 2 → (d.b i).length ≤ 1500) : GOK (openE dOps (newG k z) d).2.1 1500 := by
  obtain ⟨l0, l1⟩ := readE_len (g := newG k z) (d := d) hd
  have hn := GOK.new hz k
  unfold openE
  split
  · rename_i q
    rw [readE_ok q]
    generalize (readE dOps (newG k z) d).2.2.2.1 = t0 at *
    generalize (readE dOps (newG k z) d).2.2.2.2 = t1 at *
    unfold findE
    split
    · exact (GOK.nums hn (a := 1) (n := 0) (s := 0) (by decide) (by decide) (by decide) (Nat.zero_le _)).anew _ (by decide)
    · split
      · split
        · exact (GOK.cur hz k (by decide) t0 l0).anew _ (by decide)
        · exact GOK.cur hz k (by decide) t0 l0
      · split
        · exact (GOK.cur hz k (by decide) t1 l1).anew _ (by decide)
        · exact GOK.cur hz k (by decide) t1 l1
  · have : ∀ d, (readE dOps (newG k z) d).2.1 = newG k z ∨ (readE dOps (newG k z) d).2.1 = failE (newG k z) := fun d => by
      unfold readE
      (repeat' split) <;> first | exact .inl rfl | exact .inr rfl
    show GOK (readE dOps (newG k z) d).2.1 1500
    rcases this d with e | e
    · rw [e]; exact hn
    · rw [e]; exact hn.fail
end Go.Proofs.YtmmflekajbeamabGreatDoor

namespace Go.Proofs.YtmmflekajbeamabGreatDoor
open Go.RowKit Go.Maps Go.WideMaps

/-- What a bench holds: where its device lies, what it holds; the machine; what must be known. -/
structure Bn where
  X : Nat
  D : Nat
  d : DvN
  vs : Nat → Value
  z : List Int
  mv : Value
/-- An engine of it. -/
structure En where
  X : Nat
  E : Nat
  g : EgN
  m : Nat → Value
  v : Nat → Value
def Bn.has (b : Bn) (x : Nat) : Prop := x = b.X ∨ dHas b.D b.vs x
def En.has (e : En) (x : Nat) : Prop := x = e.X ∨ eHas e.E e.m e.v x
structure BdAt (N B : Nat) (b : Bn) (m : Nat) (w : World) : Prop where
  lt : B < w.heap.size
  fz : ∀ j, w.frozen? ⟨B, j, none⟩ = false
  c0 : w.cell? ⟨B, 0, none⟩ = some (.pointer (some ⟨b.X, 0, none⟩))
  c1 : ∃ v, w.cell? ⟨B, 1, none⟩ = some v
  st : w.rangeAt B 2 (b.z.map (Value.int .i64))
  mu : w.cell? ⟨B, 140, none⟩ = some b.mv
  x : XAt b.X b.D w
  dv : DvAt b.D b.d b.vs w
  ok : DvOK b.d
  wk : 0 ≤ b.d.wk ∧ b.d.wk ≤ (m : Int)
  z : RunOK b.z
  ge : N ≤ B ∧ ∀ x, b.has x → N ≤ x
  nB : ¬ b.has B
  nX : ¬ dHas b.D b.vs b.X
structure EbAt (N B : Nat) (b : Bn) (e : En) (k : Nat) (w : World) : Prop where
  c1 : w.cell? ⟨B, 1, none⟩ = some (.pointer (some ⟨e.X, 0, none⟩))
  x : XAt e.X e.E w
  eg : EgAt e.E b.D e.g e.m e.v w
  ok : GOK e.g k
  z : e.g.z = b.z
  ge : ∀ x, e.has x → N ≤ x
  nB : ¬ e.has B
  nX : ¬ eHas e.E e.m e.v e.X
  sp : ∀ x, e.has x → ¬ b.has x
def BnAt (N B : Nat) (b : Bn) (oe : Option En) (m k : Nat) (w : World) : Prop :=
  BdAt N B b m w ∧ (oe = none → w.cell? ⟨B, 1, none⟩ = some (.pointer none)) ∧ ∀ e, oe = some e → EbAt N B b e k w
/-- The bench's own blocks. -/
def ownB (B : Nat) (b : Bn) (oe : Option En) (x : Nat) : Prop := x = B ∨ b.has x ∨ ∃ e, oe = some e ∧ e.has x
/-- What a call of the bench leaves: all blocks but its own; its own are old ones or new. -/
structure FrB (B : Nat) (b : Bn) (oe : Option En) (b' : Bn) (oe' : Option En) (w w' : World) : Prop where
  chg : Chg (ownB B b oe) w w'
  new : ∀ x, ownB B b' oe' x → ownB B b oe x ∨ w.heap.size ≤ x
theorem FrB.of_below {B : Nat} {b : Bn} {oe : Option En} {w w' : World} (h : Below w.heap.size w w') : FrB B b oe b oe w w' := ⟨Chg.of_below h, fun _ q => .inl q⟩
theorem FrB.refl (B : Nat) (b : Bn) (oe : Option En) (w : World) : FrB B b oe b oe w w := ⟨Chg.refl _ _, fun _ q => .inl q⟩
theorem FrB.trans {B : Nat} {b b1 b2 : Bn} {oe oe1 oe2 : Option En} {w w1 w2 : World} (h : FrB B b oe b1 oe1 w w1) (k : FrB B b1 oe1 b2 oe2 w1 w2) : FrB B b oe b2 oe2 w w2 :=
  ⟨h.chg.trans h.new k.chg, fun x q => (k.new x q).elim (h.new x) (fun c => .inr (Nat.le_trans h.chg.size c))⟩
/-- Behind it blocks more, and the bench's own cells others. -/
theorem FrB.up {B : Nat} {b b1 : Bn} {oe oe1 : Option En} {w w1 w2 : World} (h : FrB B b oe b1 oe1 w w1) (k : Below w1.heap.size w1 w2) : FrB B b oe b1 oe1 w w2 := h.trans (FrB.of_below k)
theorem FrB.at {B : Nat} {b b1 b2 : Bn} {oe oe1 oe2 : Option En} {w w1 w2 : World} (h : FrB B b oe b1 oe1 w w1) (k : Chg (fun x => x = B) w1 w2) (hn : ∀ x, ownB B b2 oe2 x → ownB B b1 oe1 x ∨ w.heap.size ≤ x) : FrB B b oe b2 oe2 w w2 :=
  ⟨h.chg.trans (F1 := fun x => x = B) (fun _ q => .inl (.inl q)) k, fun x q => (hn x q).elim (h.new x) .inr⟩
theorem FrB.below {N B : Nat} {b b' : Bn} {oe oe' : Option En} {w w' : World} (h : FrB B b oe b' oe' w w') (hN : N ≤ w.heap.size) (ge : ∀ x, ownB B b oe x → N ≤ x) : Below N w w' := h.chg.below hN ge
theorem BnAt.ge {N B : Nat} {b : Bn} {oe : Option En} {m k : Nat} {w : World} (h : BnAt N B b oe m k w) : ∀ x, ownB B b oe x → N ≤ x := fun x q => by
  rcases q with rfl | q | ⟨e, he, q⟩
  · exact h.1.ge.1
  · exact h.1.ge.2 x q
  · exact (h.2.2 e he).ge x q
theorem BdAt.gn {N B : Nat} {b : Bn} {m : Nat} {w : World} (h : BdAt N B b m w) : ∀ x, ownB B b none x → N ≤ x := fun x q => by
  rcases q with rfl | q | ⟨e, he, _⟩
  · exact h.ge.1
  · exact h.ge.2 x q
  · cases he
theorem BdAt.xlt {N B : Nat} {b : Bn} {m : Nat} {w : World} (h : BdAt N B b m w) : b.X < w.heap.size := block_lt_of_cell h.x
theorem BdAt.has {N B : Nat} {b : Bn} {m : Nat} {w : World} (h : BdAt N B b m w) {x : Nat} (hx : b.has x) : x < w.heap.size := by
  rcases hx with rfl | q
  · exact h.xlt
  · exact (h.dv.has q).2
theorem EbAt.xlt {N B : Nat} {b : Bn} {e : En} {k : Nat} {w : World} (h : EbAt N B b e k w) : e.X < w.heap.size := block_lt_of_cell h.x
theorem EbAt.has {N B : Nat} {b : Bn} {e : En} {k : Nat} {w : World} (h : EbAt N B b e k w) {x : Nat} (hx : e.has x) : x < w.heap.size := by
  rcases hx with rfl | q
  · exact block_lt_of_cell h.x
  · exact (h.eg.has q).2
/-- The bench, its block and its device's box as they were, the device another. -/
theorem BdAt.turn {N B : Nat} {b : Bn} {m m' : Nat} {w w' : World} {d' : DvN} {vs' : Nat → Value} (h : BdAt N B b m w) (hs : w.heap.size ≤ w'.heap.size) (hN : N ≤ w.heap.size) (hB : w'.heap[B]? = w.heap[B]?) (hX : w'.heap[b.X]? = w.heap[b.X]?) (hd : DvAt b.D d' vs' w') (ok : DvOK d') (wk : 0 ≤ d'.wk ∧ d'.wk ≤ (m' : Int)) (vo : ∀ x, dHas b.D vs' x → dHas b.D b.vs x ∨ w.heap.size ≤ x) : BdAt N B { b with d := d', vs := vs' } m' w' := by
  refine ⟨Nat.lt_of_lt_of_le h.lt hs, fun j => (World.frozen?_of_block hB).trans (h.fz j), (World.cell?_of_block hB).trans h.c0, ?_, fun j u q => (World.cell?_of_block hB).trans (h.st j u q), (World.cell?_of_block hB).trans h.mu, (World.cell?_of_block hX).trans h.x, hd, ok, wk, h.z, ⟨h.ge.1, fun x q => ?_⟩, fun q => ?_, fun q => ?_⟩
  · obtain ⟨v, q⟩ := h.c1
    exact ⟨v, (World.cell?_of_block hB).trans q⟩
  · rcases q with q | q
    · exact h.ge.2 x (.inl q)
    · rcases vo x q with c | c
      · exact h.ge.2 x (.inr c)
      · omega
  · rcases q with q | q
    · exact h.nB (.inl q)
    · rcases vo B q with c | c
      · exact h.nB (.inr c)
      · have := h.lt; omega
  · rcases vo _ q with c | c
    · exact h.nX c
    · have := h.xlt
      have c' : w.heap.size ≤ b.X := c
      omega
theorem BdAt.up {N B : Nat} {b : Bn} {m : Nat} {w w' : World} (h : BdAt N B b m w) (hN : N ≤ w.heap.size) (hb : Below w.heap.size w w') : BdAt N B b m w' := by
  have := h.turn hb.size hN (hb.block _ h.lt) (hb.block _ h.xlt) (h.dv.kept hb.size (fun x q => hb.block x (h.dv.has q).2)) h.ok h.wk (fun _ q => .inl q)
  exact this
/-- The engine as it was, the bench's device another. -/
theorem EbAt.turn {N B : Nat} {b : Bn} {e : En} {k : Nat} {w w' : World} {d' : DvN} {vs' : Nat → Value} (h : EbAt N B b e k w) (hB : w'.heap[B]? = w.heap[B]?) (he : ∀ x, e.has x → w'.heap[x]? = w.heap[x]?) (vo : ∀ x, dHas b.D vs' x → dHas b.D b.vs x ∨ w.heap.size ≤ x) : EbAt N B { b with d := d', vs := vs' } e k w' := by
  refine ⟨(World.cell?_of_block hB).trans h.c1, (World.cell?_of_block (he _ (.inl rfl))).trans h.x, h.eg.kept (fun x q => he x (.inr q)), h.ok, h.z, h.ge, h.nB, h.nX, fun x q1 q2 => ?_⟩
  rcases q2 with q2 | q2
  · exact h.sp x q1 (.inl q2)
  · rcases vo x q2 with c | c
    · exact h.sp x q1 (.inr c)
    · have := h.has q1; omega
theorem EbAt.up {N B : Nat} {b : Bn} {e : En} {k : Nat} {w w' : World} (h : EbAt N B b e k w) (hB : B < w.heap.size) (hb : Below w.heap.size w w') : EbAt N B b e k w' :=
  h.turn (d' := b.d) (vs' := b.vs) (hb.block _ hB) (fun x q => hb.block x (h.has q)) (fun _ q => .inl q)
theorem BnAt.up {N B : Nat} {b : Bn} {oe : Option En} {m k : Nat} {w w' : World} (h : BnAt N B b oe m k w) (hN : N ≤ w.heap.size) (hb : Below w.heap.size w w') : BnAt N B b oe m k w' :=
  ⟨h.1.up hN hb, fun e => (World.cell?_of_block (hb.block _ h.1.lt)).trans (h.2.1 e), fun e he => (h.2.2 e he).up h.1.lt hb⟩
theorem BdAt.more {N B : Nat} {b : Bn} {m m' : Nat} {w : World} (h : BdAt N B b m w) (hm : m ≤ m') : BdAt N B b m' w := ⟨h.lt, h.fz, h.c0, h.c1, h.st, h.mu, h.x, h.dv, h.ok, ⟨h.wk.1, by have := h.wk.2; omega⟩, h.z, h.ge, h.nB, h.nX⟩
theorem EbAt.more {N B : Nat} {b : Bn} {e : En} {k k' : Nat} {w : World} (h : EbAt N B b e k w) (hk : k ≤ k') : EbAt N B b e k' w := ⟨h.c1, h.x, h.eg, h.ok.more hk, h.z, h.ge, h.nB, h.nX, h.sp⟩
theorem BnAt.more {N B : Nat} {b : Bn} {oe : Option En} {m k m' k' : Nat} {w : World} (h : BnAt N B b oe m k w) (hm : m ≤ m') (hk : k ≤ k') : BnAt N B b oe m' k' w := ⟨h.1.more hm, h.2.1, fun e he => (h.2.2 e he).more hk⟩
/-- The engine with its device. -/
theorem BnAt.ed {N B : Nat} {b : Bn} {e : En} {m k : Nat} {w : World} (h : BnAt N B b (some e) m k w) : EdAt e.E b.D e.g b.d e.m e.v b.vs w := ⟨(h.2.2 e rfl).eg, h.1.dv, fun x q c => (h.2.2 e rfl).sp x (.inr q) (.inr c)⟩
/-- A call of the engine; the machine's copy in the bench is not what the engine's is. -/
theorem BnAt.eng {N B : Nat} {b : Bn} {e : En} {m m' k k' : Nat} {w w' : World} {g' : EgN} {d' : DvN} {m1 v1 vs' : Nat → Value} (h : BnAt N B b (some e) m k w) (hN : N ≤ w.heap.size) (a : EdAt e.E b.D g' d' m1 v1 vs' w') (f : EdFr e.E b.D e.m e.v b.vs m1 v1 vs' w w') (ok : DvOK d') (wk : 0 ≤ d'.wk ∧ d'.wk ≤ (m' : Int)) (hg : GOK g' k') :
    BdAt N B { b with d := d', vs := vs' } m' w' ∧ (g'.z = b.z → EbAt N B { b with d := d', vs := vs' } { e with g := g', m := m1, v := v1 } k' w') ∧ EbAt N B { b with d := d', vs := vs', z := g'.z } { e with g := g', m := m1, v := v1 } k' w' ∧ FrB B b (some e) { b with d := d', vs := vs' } (some { e with g := g', m := m1, v := v1 }) w w' := by
  have hE := h.2.2 e rfl
  have nB : ¬ (eHas e.E e.m e.v B ∨ dHas b.D b.vs B) := fun q => q.elim (fun c => hE.nB (.inr c)) (fun c => h.1.nB (.inr c))
  have hB := f.chg.other B h.1.lt nB
  have hX := f.chg.other b.X h.1.xlt (fun q => q.elim (fun c => hE.sp _ (.inr c) (.inl rfl)) h.1.nX)
  have heX : w'.heap[e.X]? = w.heap[e.X]? := f.chg.other e.X (block_lt_of_cell hE.x) (fun q => q.elim hE.nX (fun c => hE.sp _ (.inl rfl) (.inr c)))
  have ge : ∀ x, eHas e.E m1 v1 x → N ≤ x := fun x q => by
    rcases f.eo x q with c | c
    · exact hE.ge x (.inr c)
    · omega
  have nB1 : ¬ eHas e.E m1 v1 B := fun q => by
    rcases f.eo B q with c | c
    · exact hE.nB (.inr c)
    · have := h.1.lt; omega
  have nX1 : ¬ eHas e.E m1 v1 e.X := fun q => by
    rcases f.eo _ q with c | c
    · exact hE.nX c
    · have := hE.xlt; omega
  have sp : ∀ x, (x = e.X ∨ eHas e.E m1 v1 x) → ¬ (x = b.X ∨ dHas b.D vs' x) := fun x q1 q2 => by
    rcases q1 with q1 | q1
    · rcases q2 with q2 | q2
      · exact hE.sp x (.inl q1) (.inl q2)
      · rcases f.vo x q2 with c | c
        · exact hE.sp x (.inl q1) (.inr c)
        · have := hE.xlt; omega
    · rcases q2 with q2 | q2
      · rcases f.eo x q1 with c | c
        · exact hE.sp x (.inr c) (.inl q2)
        · have := h.1.xlt; omega
      · exact a.sep x q1 q2
  have one : ∀ z, g'.z = z → EbAt N B { b with d := d', vs := vs', z := z } { e with g := g', m := m1, v := v1 } k' w' := fun z hz =>
    ⟨(World.cell?_of_block hB).trans hE.c1, (World.cell?_of_block heX).trans hE.x, a.eg, hg, hz, fun x q => q.elim (fun c => hE.ge x (.inl c)) (ge x), fun q => q.elim (fun c => hE.nB (.inl c)) nB1, nX1, sp⟩
  refine ⟨h.1.turn f.chg.size hN hB hX a.dv ok wk f.vo, one b.z, one g'.z rfl, ⟨f.chg.weak (fun x q => .inl (q.elim (fun c => .inr (.inr ⟨e, rfl, .inr c⟩)) (fun c => .inr (.inl (.inr c))))), fun x q => ?_⟩⟩
  rcases q with q | (q | q) | ⟨e', he', q⟩
  · exact .inl (.inl q)
  · exact .inl (.inr (.inl (.inl q)))
  · exact (f.vo x q).imp (fun c => .inr (.inl (.inr c))) id
  · cases he'
    rcases q with q | q
    · exact .inl (.inr (.inr ⟨e, rfl, .inl q⟩))
    · exact (f.eo x q).imp (fun c => .inr (.inr ⟨e, rfl, .inr c⟩)) id
theorem setCells_size (b : Nat) : ∀ (vs : List Value) (o : Nat) (w : World), (w.setCells b o vs).heap.size = w.heap.size
  | [], _, _ => rfl
  | u :: r, o, w => by rw [World.setCells, setCells_size b r (o + 1) _]; exact set_size
/-- The machine's copy set. -/
theorem BdAt.setZ {N B : Nat} {b : Bn} {m : Nat} {w : World} (h : BdAt N B b m w) (z : List Int) (hz : RunOK z) : BdAt N B { b with z := z } m (w.setCells B 2 (z.map (Value.int .i64))) ∧ (∀ x, x ≠ B → (w.setCells B 2 (z.map (Value.int .i64))).heap[x]? = w.heap[x]?) ∧ (∀ k, k < 2 ∨ 140 ≤ k → (w.setCells B 2 (z.map (Value.int .i64))).cell? ⟨B, k, none⟩ = w.cell? ⟨B, k, none⟩) ∧ (w.setCells B 2 (z.map (Value.int .i64))).heap.size = w.heap.size := by
  have hl : (z.map (Value.int .i64)).length = 138 := by rw [List.length_map, hz.len]
  have hout : ∀ k, k < 2 ∨ 140 ≤ k → (w.setCells B 2 (z.map (Value.int .i64))).cell? ⟨B, k, none⟩ = w.cell? ⟨B, k, none⟩ := fun k hk => World.cell?_setCells_out B _ 2 w ⟨B, k, none⟩ (fun _ _ => by rw [hl]; show k < 2 ∨ 2 + 138 ≤ k; omega)
  have hoth : ∀ x, x ≠ B → (w.setCells B 2 (z.map (Value.int .i64))).heap[x]? = w.heap[x]? := fun x hx => heap_setCells_other B _ 2 w x hx
  have hsz : (w.setCells B 2 (z.map (Value.int .i64))).heap.size = w.heap.size := setCells_size B _ 2 w
  have hne : ∀ x, b.has x → x ≠ B := fun x q e => h.nB (by rw [← e]; exact q)
  refine ⟨⟨by rw [hsz]; exact h.lt, fun k => by rw [World.frozen?_setCells]; exact h.fz k, (hout 0 (by decide)).trans h.c0, ?_, ?_, (hout 140 (by decide)).trans h.mu, (World.cell?_of_block (hoth _ (hne _ (.inl rfl)))).trans h.x, h.dv.kept (by rw [hsz]; exact Nat.le_refl _) (fun x q => hoth x (hne x (.inr q))), h.ok, h.wk, hz, h.ge, h.nB, h.nX⟩, hoth, hout, hsz⟩
  · obtain ⟨v, q⟩ := h.c1
    exact ⟨v, (hout 1 (by decide)).trans q⟩
  · refine World.rangeAt_setCells_same w B 2 _ (fun k hk => ⟨?_, h.fz _⟩)
    exact h.st.isSome k (by rw [List.length_map, h.z.len]; rw [hl] at hk; exact hk)
theorem chg_setCells (B : Nat) : ∀ (vs : List Value) (o : Nat) (w : World), Chg (fun x => x = B) w (w.setCells B o vs)
  | [], _, w => Chg.refl _ w
  | u :: r, o, w => (Chg.set w B o u).trans (F1 := fun x => x = B) (fun _ q => .inl q) (chg_setCells B r (o + 1) _)
/-- The engine's cell set. -/
theorem BdAt.setE {N B : Nat} {b : Bn} {m : Nat} {w : World} (h : BdAt N B b m w) (u : Value) : BdAt N B b m (w.setCell ⟨B, 1, none⟩ u) := by
  have hne : ∀ x, b.has x → x ≠ B := fun x q e => h.nB (by rw [← e]; exact q)
  obtain ⟨v, q⟩ := h.c1
  refine ⟨by rw [set_size]; exact h.lt, fun k => by rw [World.frozen?_setCell]; exact h.fz k, (cell_off (by decide)).trans h.c0, ⟨u, World.cell?_setCell_same _ _ _ q⟩, fun j x e => (cell_off (by omega)).trans (h.st j x e), (cell_off (by decide)).trans h.mu, (World.cell?_of_block (set_other (hne _ (.inl rfl)))).trans h.x, h.dv.kept (by rw [set_size]; exact Nat.le_refl _) (fun x q => set_other (hne x (.inr q))), h.ok, h.wk, h.z, h.ge, h.nB, h.nX⟩
end Go.Proofs.YtmmflekajbeamabGreatDoor
