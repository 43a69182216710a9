/-
  Lists that the caller writes full of a mark and appends marks to, of whatever elements: whatever they share, all of them read marks alone. E: the elements' type, k: their cells, mc: a mark's cells.
  The law's book, of whatever elements: the lists that came out, each beside what was appended to it.
  The law's own marks (markInt).
  The law's book of blocks and plans: marks, two lists the same (markPlan, samePlans).
  Frames: a copy of a text (strings.Clone), by the kit's own law of it; a block's words as a text again.
  Plans, the document's answer: are these the words of a block (IsBlock); what slots are at first (begin).
-/
import Derived.Test.YtmmflekajbeamaaGreatDoorD09
import Derived.Test.YtmmflekajbeamaaGreatDoorD14
import Derived.Maps.AppendAt
import Derived.Test.YtmmflekajbeamaaGreatDoorD12
import Derived.Test.YtmmflekajbeamaaGreatDoorD02
import Derived.Test.YtmmflekajbeamaaGreatDoorD13
import Derived.Test.YtmmflekajbeamaaGreatDoorD22
import Derived.Test.YtmmflekajbeamaaGreatDoorD19
import Derived.Shelf.Pu.Clone
namespace Go.Proofs.YtmmflekajbeamaaGreatDoor
open Go.RowKit

section
variable {E : TypeId} {k : Nat} {mc : List Value}
/-- What writing marks leaves: blocks below B as they were; in rows of E marks stay marks; other blocks as they were. -/
structure KG (E : TypeId) (k : Nat) (mc : List Value) (B : Nat) (w w' : World) : Prop where
  below : Below B w w'
  keep : ∀ (g : Nat) (cur : Array Value), w.heap[g]? = some (.cells cur E (0, 0)) → ∃ cur' : Array Value, w'.heap[g]? = some (.cells cur' E (0, 0)) ∧ cur'.size = cur.size ∧ ∀ (j : Nat) (u : Value), mc[j % k]? = some u → cur[j]? = some u → cur'[j]? = some u
  other : ∀ g, g < w.heap.size → (∀ cur, w.heap[g]? ≠ some (.cells cur E (0, 0))) → w'.heap[g]? = w.heap[g]?
theorem KG.refl (B : Nat) (w : World) : KG E k mc B w w := ⟨Below.refl _ _, fun _ cur h => ⟨cur, h, rfl, fun _ _ _ h => h⟩, fun _ _ _ => rfl⟩
theorem KG.trans {B : Nat} {a b c : World} (h : KG E k mc B a b) (q : KG E k mc B b c) : KG E k mc B a c := by
  refine ⟨h.below.trans q.below, fun g cur hg => ?_, fun g hg hn => ?_⟩
  · obtain ⟨c1, h1, h2, h3⟩ := h.keep g cur hg
    obtain ⟨c2, k1, k2, k3⟩ := q.keep g c1 h1
    exact ⟨c2, k1, k2.trans h2, fun j u hu hj => k3 j u hu (h3 j u hu hj)⟩
  · have h1 := h.other g hg hn
    exact (q.other g (Nat.lt_of_lt_of_le hg h.below.size) (fun cur e => hn cur (h1 ▸ e))).trans h1
theorem KG.above {B : Nat} {a b : World} (hB : B ≤ a.heap.size) (h : Below a.heap.size a b) : KG E k mc B a b :=
  ⟨h.mono hB, fun g cur hg => ⟨cur, (h.block g (Array.getElem?_eq_some_iff.1 hg).1).trans hg, rfl, fun _ _ _ h => h⟩, fun g hg _ => h.block g hg⟩
/-- A slice whose elements are all the mark. -/
def GS (E : TypeId) (k : Nat) (mc : List Value) (w : World) (v : Value) : Prop :=
  ∃ a n c, v = .slice a n c ∧ n ≤ 2000000 ∧ (0 < n → ∃ g cur, a = some ⟨g, 0, none⟩ ∧ w.heap[g]? = some (.cells cur E (0, 0)) ∧ ∀ (j : Nat) (u : Value), j < n * k → mc[j % k]? = some u → cur[j]? = some u)
theorem GS.kg {B : Nat} {w w' : World} {v : Value} (h : GS E k mc w v) (q : KG E k mc B w w') : GS E k mc w' v := by
  obtain ⟨a, n, c, hv, hle, h⟩ := h
  refine ⟨a, n, c, hv, hle, fun hn => ?_⟩
  obtain ⟨g, cur, ha, hg, hc⟩ := h hn
  obtain ⟨cur', g1, _, g3⟩ := q.keep g cur hg
  exact ⟨g, cur', ha, g1, fun j u hj hu => g3 j u hu (hc j u hj hu)⟩
theorem GS.block {w w' : World} {v : Value} (h : GS E k mc w v) (q : ∀ g, g < w.heap.size → (∃ cur, w.heap[g]? = some (.cells cur E (0, 0))) → w'.heap[g]? = w.heap[g]?) : GS E k mc w' v := by
  obtain ⟨a, n, c, hv, hle, h⟩ := h
  refine ⟨a, n, c, hv, hle, fun hn => ?_⟩
  obtain ⟨g, cur, ha, hg, hc⟩ := h hn
  exact ⟨g, cur, ha, (q g (Array.getElem?_eq_some_iff.1 hg).1 ⟨cur, hg⟩).trans hg, hc⟩
def gks (mc : List Value) (n : Nat) : List Value := (List.replicate n mc).flatten
theorem gks_len (hk : mc.length = k) (n : Nat) : (gks mc n).length = n * k := by
  unfold gks
  rw [List.length_flatten, List.map_replicate, List.sum_replicate_nat, hk]
theorem gks_succ (n : Nat) : gks mc (n + 1) = mc ++ gks mc n := by unfold gks; rw [List.replicate_succ, List.flatten_cons]
theorem gks_add (n m : Nat) : gks mc n ++ gks mc m = gks mc (n + m) := by unfold gks; rw [← List.flatten_append, List.replicate_append_replicate]
theorem gks_at (hk : mc.length = k) : ∀ (n j : Nat), j < n * k → (gks mc n)[j]? = mc[j % k]? := by
  intro n
  induction n with
  | zero => intro j hj; omega
  | succ n ih =>
    intro j hj
    rw [gks_succ]
    by_cases h : j < k
    · rw [List.getElem?_append_left (by omega), Nat.mod_eq_of_lt h]
    · rw [List.getElem?_append_right (by omega), hk, ih (j - k) (by rw [Nat.succ_mul] at hj; omega)]
      congr 1
      rw [Nat.mod_eq_sub_mod (by omega : k ≤ j)]
theorem gtake_iff (hk : mc.length = k) (k0 : 0 < k) (cur : Array Value) (n : Nat) : cur.toList.take (n * k) = gks mc n ↔ ∀ (j : Nat) (u : Value), j < n * k → mc[j % k]? = some u → cur[j]? = some u := by
  constructor
  · intro h j u hj hu
    have : (cur.toList.take (n * k))[j]? = (gks mc n)[j]? := by rw [h]
    rw [List.getElem?_take, if_pos hj, gks_at hk n j hj, hu] at this
    rw [← this, Array.getElem?_toList]
  · intro h
    apply List.ext_getElem?
    intro j
    rw [List.getElem?_take]
    by_cases hj : j < n * k
    · rw [if_pos hj, gks_at hk n j hj, Array.getElem?_toList]
      have hm : j % k < mc.length := by rw [hk]; exact Nat.mod_lt _ k0
      rw [h j mc[j % k] hj (List.getElem?_eq_getElem hm), List.getElem?_eq_getElem hm]
    · rw [if_neg hj, List.getElem?_eq_none (by rw [gks_len hk]; omega)]
theorem own_gs (hk : mc.length = k) (k0 : 0 < k) {w : World} {B : Nat} {v : Value} {n : Nat} (h : w.ownsRow B E k v n (gks mc n)) (hn : n ≤ 2000000) : GS E k mc w v := by
  rcases h.2 with ⟨rfl, h0⟩ | ⟨g, cap, cur, rfl, hb, hg, hnc, hcm, hcs, ht⟩
  · exact ⟨none, 0, 0, rfl, by omega, fun h => by omega⟩
  · exact ⟨_, n, cap, rfl, hn, fun _ => ⟨g, cur, rfl, hg, (gtake_iff hk k0 cur n).1 ht⟩⟩
theorem own_kg (hk : mc.length = k) (k0 : 0 < k) {w w' : World} {B B' : Nat} {v : Value} {n : Nat} (h : w.ownsRow B E k v n (gks mc n)) (q : KG E k mc B' w w') : w'.ownsRow B E k v n (gks mc n) := by
  refine ⟨h.1, ?_⟩
  rcases h.2 with h0 | ⟨g, cap, cur, hv, hb, hg, hnc, hcm, hcs, ht⟩
  · exact .inl h0
  · obtain ⟨cur', g1, g2, g3⟩ := q.keep g cur hg
    exact .inr ⟨g, cap, cur', hv, hb, g1, hnc, hcm, g2.trans hcs, (gtake_iff hk k0 cur' n).2 (fun j u hj hu => g3 j u hu ((gtake_iff hk k0 cur n).1 ht j u hj hu))⟩
/-- A cell of a mark is written into a row, at its place. -/
theorem KG.store {B : Nat} {w : World} {g n cap : Nat} {xs : List Value} (h : w.ownsRow B E k (.slice (some ⟨g, 0, none⟩) n cap) n xs) (j : Nat) {u : Value} (hu : mc[j % k]? = some u) : KG E k mc B w (w.setCell ⟨g, j, none⟩ u) := by
  obtain ⟨cur0, hg0⟩ := ownsRow_kind h g rfl
  refine ⟨(Below.refl _ _).setCell (p := ⟨g, j, none⟩) (row_lt h g rfl).1 _, fun q cur hq => ?_, fun q _ hn => ?_⟩
  · by_cases hqg : q = g
    · subst hqg
      rw [hg0] at hq
      cases hq
      refine ⟨cur0.setIfInBounds j u, heap_setCell_same w q j cur0 _ _ hg0, by simp, fun i v hv hi => ?_⟩
      rw [Array.getElem?_setIfInBounds]
      split
      · rename_i hij
        subst hij
        rw [if_pos (Array.getElem?_eq_some_iff.1 hi).1, ← hu, hv]
      · exact hi
    · exact ⟨cur, (heap_set_other w _ hqg).trans hq, rfl, fun _ _ _ h => h⟩
  · exact heap_set_other w _ (fun e => hn cur0 (e ▸ hg0))
end
set_option maxRecDepth 4000 in
/-- Marks are appended to a list of marks. -/
theorem run_append_g {P : Program} {T E ty : TypeId} {k by' : Nat} {mc : List Value} {inf : TypeInfo} {z : Value} (hT : P.underlying T = some (.slice E)) (hinf : P.info? E = some inf) (hz : inf.zero = some z) (hsz : inf.size = k) (hby : inf.bytes = by') (hzc : z.cells.size = k) (hb1 : by' ≤ 1000) (hk : mc.length = k) (k0 : 0 < k) (h1 : ∀ u ∈ mc, u.oneCell' = true)
    (w : World) (B : Nat) (v : Value) (n m c : Nat) (h : w.ownsRow B E k v n (gks mc n)) (ad : Addr) (hnews : ∀ j u, (gks mc m)[j]? = some u → w.cell? (ad.add j) = some u) (hn : n + m ≤ 2000000) (hB : B ≤ w.heap.size) :
    ∃ v' w', (Builtin.append_ #[T, T] ty #[v, .slice (some ad) m c]).run P w = .ok v' w' ∧ w'.ownsRow B E k v' (n + m) (gks mc (n + m)) ∧ KG E k mc B w w' ∧ ∃ a cc, v' = .slice a (n + m) cc := by
  have hl : (gks mc m).length = m * k := gks_len hk m
  have h1' : ∀ u ∈ gks mc m, u.oneCell' = true := fun u hu => by
    unfold gks at hu
    obtain ⟨l, hl, hu⟩ := List.mem_flatten.1 hu
    rw [List.eq_of_mem_replicate hl] at hu
    exact h1 u hu
  have hmb : (n + m) * by' ≤ 2000000000 := Nat.le_trans (Nat.mul_le_mul hn hb1) (by decide)
  rcases h.2 with ⟨hv, hn0⟩ | ⟨g, cap, cur, hv, hb, hg, hnc, hcm, hcs, ht⟩
  · obtain ⟨v', w', hr, hown, hgr, _, _⟩ := run_append_own_at (P := P) w B T ty E inf z k by' hT hinf hz hsz hby hzc k0 v n _ h ad m c (gks mc m) hl hnews h1' (by unfold maxLen; omega) (by omega) hB
    rw [gks_add] at hown
    refine ⟨v', w', hr, hown, ?_, owns_len hown⟩
    refine KG.above hB ⟨hgr.os, hgr.tape, hgr.output, hgr.size, fun i hi => hgr.block i hi (by rw [hv]; simp [Value.ownBlock])⟩
  · by_cases hroom : n + m ≤ cap
    · have hfit : n * inf.size + (gks mc m).length ≤ cur.size := by
        rw [hsz, hl, hcs, ← Nat.add_mul]
        exact Nat.mul_le_mul_right k hroom
      have hr := run_append_room (P := P) w T ty E inf hT hinf g n cap cur hg ad m c (gks mc m) (by rw [hsz]; exact hl) hnews h1' hroom hfit
      rw [hv]
      have hcell : ∀ j, (cur.toList.take (n * inf.size) ++ gks mc m ++ cur.toList.drop (n * inf.size + (gks mc m).length)).toArray[j]? = if n * k ≤ j ∧ j < (n + m) * k then mc[j % k]? else cur[j]? := fun j => by
        rw [hsz, hl, List.getElem?_toArray, List.append_assoc]
        have hadd : (n + m) * k = n * k + m * k := Nat.add_mul _ _ _
        rw [hsz, hl] at hfit
        have htl : (cur.toList.take (n * k)).length = n * k := by rw [List.length_take, Array.length_toList]; omega
        by_cases hj : j < n * k
        · rw [List.getElem?_append_left (by omega), List.getElem?_take, if_pos hj, if_neg (by omega), Array.getElem?_toList]
        · rw [List.getElem?_append_right (by omega), htl]
          by_cases hj2 : j < (n + m) * k
          · rw [List.getElem?_append_left (by rw [hl]; omega), if_pos (by omega), gks_at hk m (j - n * k) (by omega)]
            congr 1
            have : j = (j - n * k) + n * k := by omega
            conv => rhs; rw [this, Nat.add_mul_mod_self_right]
          · rw [List.getElem?_append_right (by rw [hl]; omega), hl, List.getElem?_drop, if_neg (by omega), Array.getElem?_toList]
            congr 1
            omega
      have hsize : (cur.toList.take (n * inf.size) ++ gks mc m ++ cur.toList.drop (n * inf.size + (gks mc m).length)).toArray.size = cur.size := by
        rw [hsz] at hfit ⊢
        simp only [List.size_toArray, List.length_append, List.length_take, List.length_drop, Array.length_toList]
        omega
      generalize (cur.toList.take (n * inf.size) ++ gks mc m ++ cur.toList.drop (n * inf.size + (gks mc m).length)).toArray = cur' at *
      have hg' := setRow_heap w g cur cur' E (0, 0) hg
      have hold := (gtake_iff hk k0 cur n).1 ht
      have hnew : ∀ (j : Nat) (u : Value), j < (n + m) * k → mc[j % k]? = some u → cur'[j]? = some u := fun j u hj hu => by
        rw [hcell]
        by_cases hjn : n * k ≤ j
        · rw [if_pos ⟨hjn, hj⟩, hu]
        · rw [if_neg (by omega)]
          exact hold j u (by omega) hu
      refine ⟨_, _, hr, ⟨gks_len hk _, .inr ⟨g, cap, cur', rfl, hb, hg', hroom, hcm, by rw [hsize]; exact hcs, (gtake_iff hk k0 cur' (n + m)).2 hnew⟩⟩, ⟨⟨rfl, rfl, rfl, by simp, fun i hi => setRow_other w g i _ (by omega)⟩, fun i ci hi => ?_, fun i _ hni => setRow_other w g i _ (fun e => hni cur (e ▸ hg))⟩, ⟨_, _, rfl⟩⟩
      by_cases hig : i = g
      · subst hig
        rw [hg] at hi
        cases hi
        refine ⟨cur', hg', hsize, fun j u hu hj => ?_⟩
        rw [hcell]
        split
        · exact hu
        · exact hj
      · exact ⟨ci, (setRow_other w g i _ hig).trans hi, rfl, fun _ _ _ h => h⟩
    · rw [hv] at h ⊢
      have holds : ∀ j u, (gks mc n)[j]? = some u → w.cell? ((⟨g, 0, none⟩ : Addr).add j) = some u := h.cells (g := g) rfl
      have hr := run_append_grow (P := P) w T ty E inf z hT hinf hz ⟨g, 0, none⟩ n cap (gks mc n) (by rw [hsz]; exact h.1) holds ad m c (gks mc m) (by rw [hsz]; exact hl) hnews (by omega) (by omega) (growslice_fits (by omega) (by rw [hby]; omega))
      obtain ⟨v', w', hr', hown, hgr, _, hloc⟩ := run_append_own_at (P := P) w B T ty E inf z k by' hT hinf hz hsz hby hzc k0 _ n _ h ad m c (gks mc m) hl hnews h1' (by unfold maxLen; omega) (by omega) hB
      rw [gks_add] at hown
      have he : w' = w.drew.alloc (.cells ((gks mc n).toArray ++ (gks mc m).toArray ++ Builtin.zeroCells z.cells (grownCap w (n + m) cap E - (n + m))) E) := by
        rw [hr] at hr'
        simp only [Result.ok.injEq] at hr'
        exact hr'.2.symm
      refine ⟨v', w', hr', hown, ?_, owns_len hown⟩
      rw [he]
      exact KG.above hB ⟨rfl, rfl, rfl, by simp, fun i hi => Below.heap_alloc w.drew _ i hi⟩
end Go.Proofs.YtmmflekajbeamaaGreatDoor

namespace Go.Proofs.YtmmflekajbeamaaGreatDoor
open Go.RowKit

theorem wpList_append_g {P : Program} {T E : TypeId} {k by' : Nat} {mc : List Value} {inf : TypeInfo} {z : Value} (hT : P.underlying T = some (.slice E)) (hinf : P.info? E = some inf) (hz : inf.zero = some z) (hsz : inf.size = k) (hby : inf.bytes = by') (hzc : z.cells.size = k) (hb1 : by' ≤ 1000) (hk : mc.length = k) (k0 : 0 < k) (h1 : ∀ u ∈ mc, u.oneCell' = true)
    (w : World) {ops : Array Oper} {rest : List Oper} {o : Oper} {a : Act} {Q : Exit → Act → World → Prop} (hgd : o.guard = none) (s x : Operand)
    (ho : o.op = .call { callee := .builtin .append, args := #[s, x], argTypes := #[T, T] }) (B : Nat) (v : Value) (n m c : Nat) (hs : a.eval s = v) (hown : w.ownsRow B E k v n (gks mc n))
    (ad : Addr) (hx : a.eval x = .slice (some ad) m c) (hnews : ∀ j u, (gks mc m)[j]? = some u → w.cell? (ad.add j) = some u) (hn : n + m ≤ 2000000) (hB : B ≤ w.heap.size)
    (h : ∀ aa cc w', w'.ownsRow B E k (.slice aa (n + m) cc) (n + m) (gks mc (n + m)) → KG E k mc B w w' → wpList P ops Q rest (a.put o.dst (.slice aa (n + m) cc)) w') : wpList P ops Q (o :: rest) a w := by
  refine wpList_plain hgd fun K hK => ?_
  obtain ⟨v', w', hr, h2, h3, aa, cc, rfl⟩ := run_append_g (ty := o.type) hT hinf hz hsz hby hzc hb1 hk k0 h1 w B v n m c hown ad hnews hn hB
  unfold Oper.wp
  simp [execOp, ho, resolve, invoke, builtin, hs, hx, hr, Result.andThen]
  exact hK _ _ (h aa cc w' h2 h3)
theorem gks_news {mc : List Value} (w : World) (t : TypeId) (k : Nat) (c : Array Value) (hc : c.toList = gks mc k) : ∀ j u, (gks mc k)[j]? = some u → (w.alloc (.cells c t)).cell? ((⟨w.heap.size, 0, none⟩ : Addr).add j) = some u := by
  rw [← hc]
  exact World.news_of_block (_root_.Go.heap_alloc_new w _)
/-- A block that holds one mark. -/
def BoxG (E : TypeId) (mc : List Value) (w : World) (b : Nat) : Prop := w.heap[b]? = some (.cells mc.toArray E (0, 0))
theorem BoxG.kg {E : TypeId} {k : Nat} {mc : List Value} {B : Nat} {w w' : World} {b : Nat} (h : BoxG E mc w b) (hk : mc.length = k) (q : KG E k mc B w w') : BoxG E mc w' b := by
  obtain ⟨cur', h1, h2, h3⟩ := q.keep b _ h
  unfold BoxG
  rw [h1]
  have : cur' = mc.toArray := by
    apply Array.ext_getElem?
    intro j
    by_cases hj : j < k
    · have hm : mc[j]? = some mc[j] := List.getElem?_eq_getElem (by omega)
      rw [h3 j mc[j] (by rw [Nat.mod_eq_of_lt hj]; exact hm) (by rw [List.getElem?_toArray]; exact hm), List.getElem?_toArray, hm]
    · rw [Array.getElem?_eq_none (by rw [h2, List.size_toArray]; omega), Array.getElem?_eq_none (by rw [List.size_toArray]; omega)]
  rw [this]
theorem BoxG.cell {E : TypeId} {mc : List Value} {w : World} {b : Nat} (h : BoxG E mc w b) (j : Nat) : w.cell? ⟨b, j, none⟩ = mc[j]? := by
  unfold World.cell?
  rw [h]
  simp
theorem BoxG.lt {E : TypeId} {mc : List Value} {w : World} {b : Nat} (h : BoxG E mc w b) : b < w.heap.size := (Array.getElem?_eq_some_iff.1 h).1
theorem BoxG.below {E : TypeId} {mc : List Value} {w w' : World} {b : Nat} (h : BoxG E mc w b) (hb : Below w.heap.size w w') : BoxG E mc w' b := (hb.block b h.lt).trans h

structure BookF (fi : Nat) (T E : TypeId) (k : Nat) (mk : Nat → List Value) (N : Nat) (vs : List Value) (vi : Value) (w : World) : Prop where
  cf : w.cell? ⟨N, fi, none⟩ = some vi
  cn : ∀ j, j < 3 → j ≠ fi → w.cell? ⟨N, j, none⟩ = some (.slice none 0 0)
  fz : ∀ j, w.frozen? ⟨N, j, none⟩ = false
  nk : ∀ cur, w.heap[N]? ≠ some (.cells cur E (0, 0))
  row : w.ownsRow (N + 1) T 1 vi vs.length vs
  ms : ∀ (i : Nat) (v : Value), vs[i]? = some v → GS E k (mk (i / 4)) w v
section
variable {fi : Nat} {T E : TypeId} {k : Nat} {mk : Nat → List Value} {N : Nat} {vs : List Value} {vi : Value}
theorem BookF.nlt {w : World} (h : BookF fi T E k mk N vs vi w) : N < w.heap.size := block_lt_of_cell h.cf
theorem BookF.above {w w' : World} (h : BookF fi T E k mk N vs vi w) (hb : Below w.heap.size w w') : BookF fi T E k mk N vs vi w' := by
  have hN := hb.block N h.nlt
  exact ⟨(World.cell?_of_block hN).trans h.cf, fun j h1 h2 => (World.cell?_of_block hN).trans (h.cn j h1 h2), fun j => (World.frozen?_of_block hN).trans (h.fz j), fun cur => by rw [hN]; exact h.nk cur,
    own_grow h.row hb, fun i v hi => (h.ms i v hi).block (fun g hg _ => hb.block g hg)⟩
theorem bookF_add (hTE : T ≠ E) {q : Nat} {w3 w5 : World} (hbk : BookF fi T E k mk N vs vi w3) (g c : Nat) (l4 : List Value) (o : Obj) (h4 : l4.length = 4)
    (ho : w5.ownsRow (N + 1) T 1 (.slice (some ⟨g, 0, none⟩) (vs.length + 4) c) (vs.length + 4) (vs ++ l4)) (hg : (w3.alloc o).grownBy w5 vi.ownBlock) (hms : ∀ v ∈ l4, GS E k (mk q) w3 v) (hq : vs.length = 4 * q) :
    BookF fi T E k mk N (vs ++ l4) (.slice (some ⟨g, 0, none⟩) (vs.length + 4) c) (w5.setCell ⟨N, fi, none⟩ (.slice (some ⟨g, 0, none⟩) (vs.length + 4) c)) := by
  have hN3 := hbk.nlt
  have hNv : some N ≠ vi.ownBlock := fun e => by have := (row_lt hbk.row N e.symm).1; omega
  have hN5 : w5.heap[N]? = w3.heap[N]? := (hg.block N (by rw [size_alloc1]; omega) hNv).trans (Below.heap_alloc w3 _ N hN3)
  have hgN : g ≠ N := by have := (row_lt ho g rfl).1; omega
  have hint : ∀ k, k < w3.heap.size → (∃ cur, w3.heap[k]? = some (.cells cur E (0, 0))) → (w5.setCell ⟨N, fi, none⟩ (.slice (some ⟨g, 0, none⟩) (vs.length + 4) c)).heap[k]? = w3.heap[k]? := fun k hk ⟨cur, hc⟩ => by
    have hkN : k ≠ N := fun e => hbk.nk cur (e ▸ hc)
    have hkv : some k ≠ vi.ownBlock := fun e => by
      obtain ⟨c2, t2⟩ := ownsRow_kind hbk.row k e.symm
      rw [hc] at t2
      simp at t2
      exact hTE t2.2.symm
    exact (heap_set_other w5 _ hkN).trans ((hg.block k (by rw [size_alloc1]; omega) hkv).trans (Below.heap_alloc w3 _ k hk))
  have k1 : ∀ j, w5.cell? ⟨N, j, none⟩ = w3.cell? ⟨N, j, none⟩ := fun j => World.cell?_of_block hN5
  refine ⟨cell_set_same ((k1 fi).trans hbk.cf), fun j h1 h2 => cell_of_rows ((k1 j).trans (hbk.cn j h1 h2)) h2, fun j => by rw [World.frozen?_setCell]; exact (World.frozen?_of_block hN5).trans (hbk.fz j), fun cur hc => ?_, ?_, fun i v hi => ?_⟩
  · obtain ⟨c2, t2, fr2, hc2⟩ := cells_of_cell hbk.cf
    rw [← hN5] at hc2
    rw [setCell_eq_setRow w5 N fi c2 t2 fr2 _ hc2, setRow_heap w5 N c2 _ t2 fr2 hc2] at hc
    cases hc
    exact hbk.nk c2 (hN5 ▸ hc2)
  · rw [List.length_append, h4]
    exact ownsRow_keep ho (fun k hk => by cases hk; exact heap_set_other w5 _ hgN)
  · by_cases hlt : i < vs.length
    · rw [List.getElem?_append_left hlt] at hi
      exact (hbk.ms i v hi).block hint
    · rw [List.getElem?_append_right (by omega)] at hi
      have hlt2 := (List.getElem?_eq_some_iff.1 hi).1
      have e : i / 4 = q := by omega
      rw [e]
      exact (hms v (List.mem_of_getElem? hi)).block hint
end
end Go.Proofs.YtmmflekajbeamaaGreatDoor

namespace Go.Proofs.YtmmflekajbeamaaGreatDoor
open Go.RowKit

set_option maxRecDepth 100000 in
set_option maxHeartbeats 1000000 in
theorem markInt_any (n : Int) (w : World) (h0 : 0 ≤ n) (h1 : n ≤ 100000) :
    Calls Tryz.prog 85 #[.int .i64 n] w fun e' w' => e' = .returned (.int .i64 (-1000 - n)) ∧ w' = w := by
  go_enter Tryz.func85, Tryz.ntmps85
  go_wp2
  go_ret
  exact ⟨rfl, rfl⟩
end Go.Proofs.YtmmflekajbeamaaGreatDoor

namespace Go.Proofs.YtmmflekajbeamaaGreatDoor
open Go.RowKit

def MARK : ByteArray := ⟨#[109, 97, 114, 107]⟩
def kmk (n : Nat) : List Value := [.string MARK, .string (bya (numB 8 n))]
def kmq (q : Nat) : List Value := kmk (4 * q)
theorem size72 : (Tryz.prog.info? 127).map (·.size) = some 2 := by kernel_rfl
set_option maxRecDepth 100000 in
set_option maxHeartbeats 1000000 in
theorem markPlan_any (n : Nat) (w : World) (h1 : n ≤ 100000) :
    Calls Tryz.prog 87 #[.int .i64 (n : Int)] w fun e' w' => e' = .returned (.agg #[.string MARK, .string (bya (numB 8 n))]) ∧ Below w.heap.size w w' := by
  have HM := hide (fun w' => number_ref n 8 w' (by decide) (by omega))
  generalize bya (numB 8 n) = D at *
  go_enter Tryz.func87, Tryz.ntmps87
  go_wp2_with fail
  refine (unhide HM _).mono ?_
  rintro e w1 ⟨rfl, hb1⟩
  have HW1 : Hid (w1.heap[w.heap.size]? = some (.cells #[.string ⟨#[]⟩, .string ⟨#[]⟩] 127 (0, 0))) := (hb1.block _ (by rw [size_alloc1]; omega)).trans (_root_.Go.heap_alloc_new w _)
  have HB1 : Hid (Below w.heap.size w w1) := ((Below.refl _ _).alloc (Nat.le_refl _) _).trans (hb1.mono (by rw [size_alloc1]; omega))
  clear hb1
  go_wp2_with (refine wpList_store_row rfl 127 _ _ rfl w.heap.size #[.string MARK, .string D] rfl rfl 127 _ HW1.out size72 rfl (by simp [Value.oneCell']) ?_)
  exact bodyPost_ret (v := .agg #[.string MARK, .string D]) (results_cell_row Tryz.results87 _ _ w.heap.size 127 _ (0, 0) _ rfl (setRow_heap _ _ _ _ _ (0, 0) HW1.out) Tryz.underlying127 rfl size72) rfl ⟨rfl, below_setRow HB1.out (Nat.le_refl _) _⟩
theorem kn_cells {w : World} {B : Nat} {g cap : Nat} {l : List (List UInt8 × List UInt8)} (h : w.ownsRow B 127 2 (.slice (some ⟨g, 0, none⟩) l.length cap) l.length (knCs l)) (n : Nat) (x : List UInt8 × List UInt8) (hn : l[n]? = some x) :
    w.cell? ⟨g, n * 2, none⟩ = some (.string (bya x.1)) ∧ w.cell? ⟨g, n * 2 + 1, none⟩ = some (.string (bya x.2)) := by
  have hlt : n < l.length := (List.getElem?_eq_some_iff.1 hn).1
  have key := flat_atG (fun x : List UInt8 × List UInt8 => [Value.string (bya x.1), Value.string (bya x.2)]) 2 (fun _ => rfl) l n x hn
  refine ⟨?_, ?_⟩
  · rw [h.cellAt (n * 2) (by omega)]
    exact key 0 (by decide)
  · rw [h.cellAt (n * 2 + 1) (by omega)]
    exact key 1 (by decide)

set_option maxRecDepth 100000 in
set_option maxHeartbeats 2000000 in
theorem samePlans_yes (a b : Value) (B B' : Nat) (l : List (List UInt8 × List UInt8)) (w : World) (ha : w.ownsRow B 127 2 a l.length (knCs l)) (hb : w.ownsRow B' 127 2 b l.length (knCs l)) (hl : l.length ≤ 1048576) :
    Calls Tryz.prog 81 #[a, b] w fun e' w' => e' = .returned (.bool true) ∧ Below w.heap.size w w' := by
  obtain ⟨aa, ac, rfl⟩ := owns_len ha
  obtain ⟨ba, bc, rfl⟩ := owns_len hb
  have HA := hide ha; have HB := hide hb
  clear ha hb
  go_enter Tryz.func81, Tryz.ntmps81
  go_wp2_with fail
  go_loopw [5] (fun i wr => ∃ k : Nat, k ≤ l.length ∧ i = .int .i64 k ∧ Below w.heap.size w wr) (fun i _ => l.length - (intOf i).toNat)
  case atStart => exact ⟨0, Nat.zero_le _, rfl, Below.refl _ _⟩
  case round =>
    obtain ⟨k, hk, rfl, hbl⟩ := hrel
    have HBl := hide hbl
    by_cases hlt : k < l.length
    · have hlt' : (k : Int) < (l.length : Int) := by omega
      obtain ⟨g1, c1, hf1, _, hg1⟩ := HA.out.form (by omega)
      obtain ⟨g2, c2, hf2, _, hg2⟩ := HB.out.form (by omega)
      cases hf1
      cases hf2
      have hpk : l[k]? = some l[k] := List.getElem?_eq_getElem hlt
      obtain ⟨x0, x1⟩ := kn_cells (own_grow HA.out hbl) k l[k] hpk
      obtain ⟨y0, y1⟩ := kn_cells (own_grow HB.out hbl) k l[k] hpk
      generalize l[k] = p at *
      obtain ⟨p0, p1⟩ := p
      simp only at x0 x1 y0 y1
      generalize bya p0 = D0 at *
      generalize bya p1 = D1 at *
      clear hbl hpk
      go_wp2_with fail
      go_quiet (fail)
      go_wp2_with fail
      exact ⟨⟨k + 1, by omega, by go_num, below_drewN HBl.out nq⟩, by simp [intOf]; omega⟩
    · have hlt' : ¬ (k : Int) < (l.length : Int) := by omega
      clear hbl
      go_wp2_with fail
      go_ret
      exact ⟨rfl, HBl.out⟩
end Go.Proofs.YtmmflekajbeamaaGreatDoor

namespace Go.Proofs.YtmmflekajbeamaaGreatDoor
open Go.RowKit Go.Shelf

def renC : Ren := ⟨fun _ => 257, fun t => if t = 0 then 0 else if t = 3 then 3 else if t = 4 then 4 else if t = 5 then 5 else if t = 9 then 9 else if t = 37 then 136 else 233, fun x => x⟩
set_option maxRecDepth 100000 in
theorem laysC : LaysPu.n25 Tryz.prog renC := by
  constructor <;> first | kernel_rfl | (intro w; kernel_rfl)
set_option maxRecDepth 100000 in
theorem clone_any (s : ByteArray) (w : World) (hs : s.size ≤ 2000000) :
    Calls Tryz.prog 245 #[.string s] w fun e' w' => e' = .returned (.string s) ∧ Below w.heap.size w w' := by
  have HC := hide (AnyPu.stringslite_Clone laysC s w (by omega))
  go_enter Tryz.func245, Tryz.ntmps245
  go_wp2_with fail
  refine (unhide HC).mono ?_
  rintro e w1 ⟨rfl, hb⟩
  have HB := hide hb
  clear hb
  go_wp2_with fail
  go_ret
  exact ⟨rfl, HB.out⟩
theorem numB_be (s : ByteArray) (i : Nat) : numB 4 (beN s i 4) = [s.get! i, s.get! (i + 1), s.get! (i + 2), s.get! (i + 3)] := by
  have h0 := (s.get! i).toNat_lt; have h1 := (s.get! (i + 1)).toNat_lt; have h2 := (s.get! (i + 2)).toNat_lt; have h3 := (s.get! (i + 3)).toNat_lt
  simp only [numB, beN, Nat.reducePow, Nat.div_one, Nat.add_zero]
  have e : ∀ (b : UInt8) (n : Nat), n = b.toNat → UInt8.ofNat n = b := fun b n h => by rw [h]; simp
  rw [e (s.get! i) _ (by omega), e (s.get! (i + 1)) _ (by omega), e (s.get! (i + 2)) _ (by omega), e (s.get! (i + 3)) _ (by omega)]
theorem wds_take (s : ByteArray) : ∀ k, 4 * k ≤ s.size → wdsT (blkL s k) = (lst s).take (4 * k) := by
  intro k
  induction k with
  | zero => intro _; simp [blkL, wdsT]
  | succ k ih =>
    intro hk
    rw [blkL_succ, wdsT_snoc, ih (by omega)]
    unfold wdAt
    rw [numB_be, show 4 * (k + 1) = 4 * k + 1 + 1 + 1 + 1 by omega, take_bt (by omega), take_bt (by omega), take_bt (by omega), take_bt (by omega)]
    simp
theorem wds_lst {s : ByteArray} (h : s.size % 4 = 0) : wdsT (blkL s (s.size / 4)) = lst s := by
  rw [wds_take s _ (by omega), List.take_of_length_le (by rw [lst_len]; omega)]
end Go.Proofs.YtmmflekajbeamaaGreatDoor

namespace Go.Proofs.YtmmflekajbeamaaGreatDoor
open Go.RowKit

def txCs (l : List (List UInt8)) : List Value := l.map fun x => .string (bya x)
theorem txCs_len (l : List (List UInt8)) : (txCs l).length = l.length := by simp [txCs]
theorem txCs_get (l : List (List UInt8)) (i : Nat) (h : i < l.length) : (txCs l)[i]? = some (.string (bya (l.getD i []))) := by
  unfold txCs
  rw [List.getElem?_map, List.getD_eq_getElem?_getD, List.getElem?_eq_getElem h]
  rfl
theorem txCs_set (l : List (List UInt8)) (i : Nat) (x : List UInt8) : (txCs l).set i (.string (bya x)) = txCs (l.set i x) := by
  unfold txCs
  rw [List.map_set]
theorem begS_len : begS.length = 16 := by simp [begS]
theorem begS_at {k : Nat} (h : k < 16) : begS[k]? = some (if k < 8 then sReg k else sCon 0) := by
  unfold begS
  rw [List.getElem?_map, List.getElem?_range h]; rfl
theorem txCs_snoc (l : List (List UInt8)) (x : List UInt8) : txCs (l ++ [x]) = txCs l ++ [.string (bya x)] := by simp [txCs]

set_option maxRecDepth 100000 in
set_option maxHeartbeats 2000000 in
theorem begin_ref (w : World) :
    Calls Tryz.prog 210 #[] w fun e' w' => Below w.heap.size w w' ∧ ∃ v, e' = .returned v ∧ w'.ownsRow w.heap.size 9 1 v 16 (txCs begS) := by
  obtain ⟨inf, hinf, hz, hsz1, hby⟩ := infoStr
  have HInf := hide hinf; have HZ := hide hz; have HSz := hide hsz1; have HBy := hide hby
  clear hinf hz hsz1 hby
  have HN0 : Hid (∀ w', Calls Tryz.prog 137 #[.int .i64 0, .int .i64 4] w' fun e' w'' => e' = .returned (.string (bya (numB 4 0))) ∧ Below w'.heap.size w' w'') := fun w' => number_ref 0 4 w' (by decide) (by decide)
  have HC0 : Hid ((⟨#[35]⟩ : ByteArray) ++ bya (numB 4 0) = bya (sCon 0)) := by unfold Hid; rw [show (⟨#[35]⟩ : ByteArray) = bya [35] from rfl, bya_app]; rfl
  have z0 : (bya (numB 4 0)).size ≤ 4 := by rw [bya_size, numB_len]; decide
  generalize bya (numB 4 0) = D0 at *
  go_enter Tryz.func210, Tryz.ntmps210
  go_wp2_with fail
  go_loopw [1, 2] (fun v i wr => ∃ k : Nat, k ≤ 16 ∧ i = .int .i64 k ∧ wr.ownsRow w.heap.size 9 1 v k (txCs (begS.take k)) ∧ Below w.heap.size w wr) (fun _ i _ => 16 - (intOf i).toNat)
  case atStart => exact ⟨0, Nat.zero_le _, rfl, World.ownsRow_nil _ _ _ _, Below.refl _ _⟩
  case round =>
    obtain ⟨k, hk, rfl, hown, hbl⟩ := hrel
    obtain ⟨va, vc, hv⟩ := owns_len hown
    subst hv
    have HO := hide hown; have HBl := hide hbl
    have hwz := hbl.size
    clear hown hbl
    by_cases hlt : k < 16
    · have hlt' : (k : Int) < 16 := by omega
      have hat := begS_at hlt
      by_cases h8 : k < 8
      · have h8' : (k : Int) < 8 := by omega
        rw [if_pos h8] at hat
        have HN := hide (fun w' => number_ref k 1 w' (by decide) (by omega))
        have HC : Hid ((⟨#[114]⟩ : ByteArray) ++ bya (numB 1 k) = bya (sReg k)) := by unfold Hid; rw [show (⟨#[114]⟩ : ByteArray) = bya [114] from rfl, bya_app]; rfl
        have HS : Hid (txCs (begS.take (k + 1)) = txCs (begS.take k) ++ [.string (bya (sReg k))]) := by unfold Hid; rw [List.take_add_one, hat, ← txCs_snoc]; rfl
        have z1 : (bya (numB 1 k)).size ≤ 4 := by rw [bya_size, numB_len]; decide
        generalize bya (numB 1 k) = D1 at *
        clear hat
        go_wp2_with fail
        refine (unhide HN0 _).mono ?_
        rintro e w1 ⟨rfl, hb1⟩
        have HB1 := hide (HBl.out.trans (hb1.mono hwz))
        have HO1 := hide (own_grow HO.out hb1)
        have hz1 := Nat.le_trans hwz hb1.size
        clear hb1
        go_wp2_with fail
        refine (unhide HN _).mono ?_
        rintro e w2 ⟨rfl, hb2⟩
        have HB2 := hide (HB1.out.trans (hb2.mono hz1))
        have HO2 := hide (own_grow HO1.out hb2)
        have hz2 := Nat.le_trans hz1 hb2.size
        clear hb2
        go_wp2_with (at_builtin; refine wpList_append_lies _ rfl _ _ 223 rfl w.heap.size 9 inf _ 1 16 Tryz.underlying223 HInf.out HZ.out HSz.out HBy.out rfl (by decide) (.slice va k vc) k (txCs (begS.take k)) rfl (HO2.out.alloc _) ⟨w2.heap.size, 0, none⟩ 1 1 [.string ((⟨#[114]⟩ : ByteArray) ++ D1)] rfl rfl (World.news_of_block (_root_.Go.heap_alloc_new w2 _)) (fun u hu => by simp at hu; subst hu; rfl) (by decide) (by unfold maxLen; omega) (by omega) (by rw [size_alloc1]; omega) (w2.heap.size + 1) (by rw [size_alloc1]) ?_; intro g2' cap2 w3 hown2 hgr2 hat2 hlt2; have HO3 := hide hown2; have HGr := hide hgr2; clear hown2 hgr2 hat2)
        refine ⟨⟨k + 1, by omega, by go_num, ?_, ?_⟩, by simp [intOf]; omega⟩
        · rw [HS.out, ← HC.out]
          exact HO3.out
        · exact (HB2.out.alloc hz2 _).grown HGr.out (by rw [size_alloc1]; omega) (fun q hq => (row_lt HO2.out q hq).1)
      · have h8' : ¬ (k : Int) < 8 := by omega
        rw [if_neg h8] at hat
        have HS : Hid (txCs (begS.take (k + 1)) = txCs (begS.take k) ++ [.string (bya (sCon 0))]) := by unfold Hid; rw [List.take_add_one, hat, ← txCs_snoc]; rfl
        clear hat
        go_wp2_with fail
        refine (unhide HN0 _).mono ?_
        rintro e w1 ⟨rfl, hb1⟩
        have HB1 := hide (HBl.out.trans (hb1.mono hwz))
        have HO1 := hide (own_grow HO.out hb1)
        have hz1 := Nat.le_trans hwz hb1.size
        clear hb1
        go_wp2_with (at_builtin; refine wpList_append_lies _ rfl _ _ 223 rfl w.heap.size 9 inf _ 1 16 Tryz.underlying223 HInf.out HZ.out HSz.out HBy.out rfl (by decide) (.slice va k vc) k (txCs (begS.take k)) rfl (HO1.out.alloc _) ⟨w1.heap.size, 0, none⟩ 1 1 [.string ((⟨#[35]⟩ : ByteArray) ++ D0)] rfl rfl (World.news_of_block (_root_.Go.heap_alloc_new w1 _)) (fun u hu => by simp at hu; subst hu; rfl) (by decide) (by unfold maxLen; omega) (by omega) (by rw [size_alloc1]; omega) (w1.heap.size + 1) (by rw [size_alloc1]) ?_; intro g2' cap2 w3 hown2 hgr2 hat2 hlt2; have HO3 := hide hown2; have HGr := hide hgr2; clear hown2 hgr2 hat2)
        refine ⟨⟨k + 1, by omega, by go_num, ?_, ?_⟩, by simp [intOf]; omega⟩
        · rw [HS.out, ← HC0.out]
          exact HO3.out
        · exact (HB1.out.alloc hz1 _).grown HGr.out (by rw [size_alloc1]; omega) (fun q hq => (row_lt HO1.out q hq).1)
    · have hkn : k = 16 := by omega
      have e16 : (k : Int) = 16 := by omega
      have HO' : Hid (wr.ownsRow w.heap.size 9 1 (.slice va k vc) 16 (txCs begS)) := by
        have := HO.out
        rw [List.take_of_length_le (by rw [begS_len]; omega)] at this
        rw [hkn] at this ⊢
        exact this
      clear HO
      have hlt' : ¬ (k : Int) < 16 := by omega
      clear hkn e16
      go_wp2_with fail
      go_ret
      exact ⟨HBl.out, _, rfl, HO'.out⟩

set_option maxRecDepth 100000 in
set_option maxHeartbeats 1000000 in
theorem isBlock_yes (s : ByteArray) (w : World) (h : blkOK s) :
    Calls Tryz.prog 172 #[.string s] w fun e' w' => e' = .returned (.bool true) ∧ w' = w := by
  obtain ⟨h4, h32, hm, hp⟩ := h
  have HP := hide hp
  have h4' : ¬ (s.size : Int) < 4 := by omega
  have h4d : decide ((s.size : Int) < 4) = false := by simpa using h4'
  have h32d : decide ((32 : Int) < (s.size : Int)) = false := by simp; omega
  have hm' : (s.size : Int) % 4 = 0 := by omega
  clear hp
  go_enter Tryz.func172, Tryz.ntmps172
  go_wp2_with fail
  go_loop [3] (fun i => ∃ k j : Nat, 4 * k + 4 ≤ s.size ∧ j = 4 * k ∧ i = .int .i64 j) (fun i => s.size - (intOf i).toNat)
  case atStart => exact ⟨0, 0, by omega, rfl, rfl⟩
  case round =>
    obtain ⟨k, j, hk, hj, rfl⟩ := hrel
    by_cases hlt : j < s.size - 4
    · have hlt' : (j : Int) < (s.size : Int) - 4 := by omega
      have hwl := wdAt_lt s k
      have hv : ∀ w', Calls Tryz.prog 169 #[.string s, .int .i64 (j : Int), .int .i64 4] w' fun e' w'' => e' = .returned (.int .i64 (wdAt s k : Nat)) ∧ w'' = w' := fun w' => by
        have := value_any s j 4 w' (by decide) (by omega) (by omega)
        unfold wdAt
        rw [← hj]
        exact this
      have HV := hide hv
      have hpl := fun w' => plain_any (wdAt s k : Nat) w' (by omega) (by omega)
      have hpk : plB (fop (wdAt s k : Nat)) (fa (wdAt s k : Nat)) (fb (wdAt s k : Nat)) (fc (wdAt s k : Nat)) = true := HP.out k (by omega)
      rw [hpk] at hpl
      have HPl := hide hpl
      clear hv hpl hpk
      generalize wdAt s k = v at *
      have HJ := hide hj
      clear hj
      go_wp2_with fail
      refine (unhide HV _).mono ?_
      rintro e w' ⟨rfl, hw⟩
      obtain rfl := hw.symm
      go_wp2_with fail
      refine (unhide HPl _).mono ?_
      rintro e w' ⟨rfl, hw⟩
      obtain rfl := hw.symm
      go_wp2_with fail
      exact ⟨⟨k + 1, j + 4, by have := HJ.out; omega, by have := HJ.out; omega, by go_num⟩, by simp [intOf]; omega⟩
    · have hlt' : ¬ (j : Int) < (s.size : Int) - 4 := by omega
      clear hj
      go_wp2_with fail
      go_ret
      exact ⟨rfl, rfl⟩

set_option maxRecDepth 100000 in
set_option maxHeartbeats 1000000 in
theorem isBlock_no (s : ByteArray) (w : World) (h : ¬ blkOK s) (hs : s.size ≤ maxLen) :
    Calls Tryz.prog 172 #[.string s] w fun e' w' => e' = .returned (.bool false) ∧ w' = w := by
  unfold maxLen at hs
  by_cases h4 : s.size < 4
  · have h4' : (s.size : Int) < 4 := by omega
    go_enter Tryz.func172, Tryz.ntmps172
    go_wp2_with fail
    go_ret
    exact ⟨rfl, rfl⟩
  · have h4d : decide ((s.size : Int) < 4) = false := by simp; omega
    by_cases h32 : 32 < s.size
    · have h32' : (32 : Int) < (s.size : Int) := by omega
      go_enter Tryz.func172, Tryz.ntmps172
      go_wp2_with fail
      go_ret
      exact ⟨rfl, rfl⟩
    · have h32d : decide ((32 : Int) < (s.size : Int)) = false := by simp; omega
      by_cases hm : s.size % 4 = 0
      · have hm' : (s.size : Int) % 4 = 0 := by omega
        have HN : Hid (¬ ∀ j, j + 1 < s.size / 4 → plW (wdAt s j) = true) := fun hp => h ⟨by omega, by omega, hm, hp⟩
        go_enter Tryz.func172, Tryz.ntmps172
        go_wp2_with fail
        clear hm'
        go_loop [3] (fun i => ∃ k j : Nat, 4 * k + 4 ≤ s.size ∧ j = 4 * k ∧ i = .int .i64 j ∧ Hid (∀ q, q < k → plW (wdAt s q) = true)) (fun i => s.size - (intOf i).toNat)
        case atStart => exact ⟨0, 0, by omega, rfl, rfl, fun q hq => by omega⟩
        case round =>
          obtain ⟨k, j, hk, hj, rfl, HG⟩ := hrel
          by_cases hlt : j < s.size - 4
          · have hlt' : (j : Int) < (s.size : Int) - 4 := by omega
            have hwl := wdAt_lt s k
            have hv : ∀ w', Calls Tryz.prog 169 #[.string s, .int .i64 (j : Int), .int .i64 4] w' fun e' w'' => e' = .returned (.int .i64 (wdAt s k : Nat)) ∧ w'' = w' := fun w' => by
              have := value_any s j 4 w' (by decide) (by omega) (by omega)
              unfold wdAt
              rw [← hj]
              exact this
            have HV := hide hv
            have hpl := fun w' => plain_any (wdAt s k : Nat) w' (by omega) (by omega)
            cases hpk : plW (wdAt s k : Nat)
            · have hpk' : plB (fop (wdAt s k : Nat)) (fa (wdAt s k : Nat)) (fb (wdAt s k : Nat)) (fc (wdAt s k : Nat)) = false := hpk
              rw [hpk'] at hpl
              have HPl := hide hpl
              clear hv hpl hpk hpk' HG HN
              generalize wdAt s k = v at *
              clear hj
              go_wp2_with fail
              refine (unhide HV _).mono ?_
              rintro e w' ⟨rfl, hw⟩
              obtain rfl := hw.symm
              go_wp2_with fail
              refine (unhide HPl _).mono ?_
              rintro e w' ⟨rfl, hw⟩
              obtain rfl := hw.symm
              go_wp2_with fail
              go_ret
              exact ⟨rfl, rfl⟩
            · have HG' : Hid (∀ q, q < k + 1 → plW (wdAt s q) = true) := fun q hq => by
                by_cases hqk : q = k
                · rw [hqk]; exact hpk
                · exact HG.out q (by omega)
              have hpk' : plB (fop (wdAt s k : Nat)) (fa (wdAt s k : Nat)) (fb (wdAt s k : Nat)) (fc (wdAt s k : Nat)) = true := hpk
              rw [hpk'] at hpl
              have HPl := hide hpl
              clear hv hpl hpk hpk' HG
              generalize wdAt s k = v at *
              have HJ := hide hj
              clear hj
              go_wp2_with fail
              refine (unhide HV _).mono ?_
              rintro e w' ⟨rfl, hw⟩
              obtain rfl := hw.symm
              go_wp2_with fail
              refine (unhide HPl _).mono ?_
              rintro e w' ⟨rfl, hw⟩
              obtain rfl := hw.symm
              go_wp2_with fail
              exact ⟨⟨k + 1, j + 4, by have := HJ.out; omega, by have := HJ.out; omega, by go_num, HG'⟩, by simp [intOf]; omega⟩
          · exact absurd (fun q hq => HG.out q (by omega)) HN.out
      · have hm' : ((s.size : Int) % 4 == 0) = false := by simp; omega
        go_enter Tryz.func172, Tryz.ntmps172
        go_wp2_with fail
        go_ret
        exact ⟨rfl, rfl⟩
end Go.Proofs.YtmmflekajbeamaaGreatDoor
