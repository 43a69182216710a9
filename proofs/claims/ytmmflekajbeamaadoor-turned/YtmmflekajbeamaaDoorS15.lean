/-
  Plans: an op of two expressions in the table; what a put lays into its slot (table.op, table.value).
  Plans: the expression that a put lays into its slot (table.value).
  Plans: what registers come to by puts, in the table (table.comeTo).
-/
import Derived.Test.YtmmflekajbeamaaDoorS14
import Derived.Deep.RegionHeld3
import Derived.Deep.DrawnRows
namespace Go.Proofs.YtmmflekajbeamaaDoor
open Go.RowKit Go.Maps Go.WideMaps
attribute [local go_sem] Go.wp_at_zero Go.wp_at_succ

set_option maxRecDepth 100000 in
set_option maxHeartbeats 2000000 in
theorem op_tab (B N : Nat) (T : List Ex) (ds : List (List UInt8)) (b : Nat) (v : Value) (kind p q : Nat) (x y : List UInt8) (w : World) (h : TabAt B N T b v w) (hT : TI T ds) (hp : Tells T ds p x) (hq : Tells T ds q y) (k2 : 2 ≤ kind) (k5 : kind ≤ 5) (hl : T.length ≤ 900) :
    Calls Tryd.prog 164 #[.pointer (some ⟨N, 0, none⟩), .int .i64 (kind : Int), .int .i64 (p : Int), .int .i64 (q : Int)] w (TabPost B N b T ds w 2 (jnS kind x y)) := by
  have hNlt := h.nlt
  have hBw : B ≤ w.heap.size := Nat.le_trans h.bN (Nat.le_of_lt h.nlt)
  obtain ⟨e, hn⟩ : ∃ e, T[p]? = some e := ⟨_, List.getElem?_eq_getElem hp.1⟩
  obtain ⟨f, hm⟩ : ∃ f, T[q]? = some f := ⟨_, List.getElem?_eq_getElem hq.1⟩
  obtain ⟨hc1, hc2⟩ := hT.con hn
  obtain ⟨hd1, hd2⟩ := hT.con hm
  rw [hp.2] at hc1 hc2
  rw [hq.2] at hd1 hd2
  have hpx : ds.getD p [] = x := hp.2
  have hqy : ds.getD q [] = y := hq.2
  obtain ⟨g, cap, rfl, _, hgl⟩ := h.ls.form (by have := hp.1; omega)
  obtain ⟨x0, x1, x2, x3⟩ := ex_cells h.ls p e hn
  obtain ⟨y0, y1, y2, y3⟩ := ex_cells h.ls q f hm
  have c1 := h.c1
  have hpl := hp.1
  have hql := hq.1
  have hp' : (p : Int) < (T.length : Int) := by omega
  have hq' : (q : Int) < (T.length : Int) := by omega
  have HP := hide h; have HT := hide hT
  obtain ⟨ek, ea, eb, ev⟩ := e
  obtain ⟨fk, fa, fb, fv⟩ := f
  simp only at x0 x1 x2 x3 y0 y1 y2 y3 hc1 hc2 hd1 hd2
  clear h hT hp hq
  have n1 := World.new_ne w _ c1
  have n2 := World.new_ne w _ x0
  have hb1 : ∀ o1 o2, Below w.heap.size w ((w.alloc o1).alloc o2).drew := fun o1 o2 => (((Below.refl _ _).alloc (Nat.le_refl _) _).alloc (by rw [size_alloc1]; omega) _).drew
  have HB1 := hide hb1
  clear hb1
  by_cases hcon : ek = 1 ∧ fk = 1
  · obtain ⟨rfl, rfl⟩ := hcon
    obtain ⟨hx, hev⟩ := hc2 rfl
    obtain ⟨hy, hfv⟩ := hd2 rfl
    have HX : Hid (jnS kind x y = sCon (wk kind ev fv).toNat) := by unfold Hid jnS; rw [if_pos ⟨hc1.1 rfl, hd1.1 rfl⟩, hx, hy, valX_con _ hev, valX_con _ hfv]
    have hr := fun w' => reckon_any kind ev fv w' (by omega) (by omega) (by omega) (by omega) (by omega) (by omega)
    have hwb := wk_bd kind ev fv (by omega) (by omega) (by omega) (by omega)
    obtain ⟨c, hc⟩ := Int.eq_ofNat_of_zero_le hwb.1
    rw [hc] at hr hwb HX
    rw [Int.toNat_natCast] at HX
    have HR := hide hr
    have hcl : c < 4294967296 := by omega
    have HCo := hide (fun o1 o2 => constant_any B N T ds b _ c ((w.alloc o1).alloc o2).drew (((HP.out.alloc o1).alloc o2).drew) HT.out hcl (by omega))
    clear hr hwb hc hc1 hc2 hd1 hd2 hx hy hpx hqy
    have x0' : w.cell? ⟨g, p * 4, none⟩ = some (.int .i64 1) := x0
    have y0' : w.cell? ⟨g, q * 4, none⟩ = some (.int .i64 1) := y0
    clear x0 y0
    go_enter Tryd.func164, Tryd.ntmps164
    go_wp2_with fail
    go_region_held3 (fun w' => w'.cell? ⟨N, 1, none⟩ = some (.slice (some ⟨g, 0, none⟩) T.length cap) ∧ w'.cell? ⟨g, p * 4, none⟩ = some (.int .i64 1) ∧ w'.cell? ⟨g, p * 4 + 1, none⟩ = some (.int .i64 (ea : Int)) ∧ w'.cell? ⟨g, p * 4 + 1 + 1, none⟩ = some (.int .i64 (eb : Int)) ∧ w'.cell? ⟨g, p * 4 + 1 + 1 + 1, none⟩ = some (.int .i64 (ev : Int)) ∧ w'.cell? ⟨g, q * 4, none⟩ = some (.int .i64 1) ∧ w'.cell? ⟨g, q * 4 + 1, none⟩ = some (.int .i64 (fa : Int)) ∧ w'.cell? ⟨g, q * 4 + 1 + 1, none⟩ = some (.int .i64 (fb : Int)) ∧ w'.cell? ⟨g, q * 4 + 1 + 1 + 1, none⟩ = some (.int .i64 (fv : Int))) (go_keep) (fail)
    all_goals
      clear n1 n2
      go_wp2_with fail
      refine (unhide HR _).mono ?_
      rintro e w' ⟨rfl, hw⟩
      obtain rfl := hw.symm
      go_wp2_with fail
      refine (unhide HCo _ _).mono ?_
      rw [← HX.out]
      rintro e w3 ⟨n3, T3, ds3, v3, rfl, q2, q3, q4, q5, q6, q7⟩
      have HQ : Hid (TabPost B N b T ds w 2 (jnS kind x y) (.returned (.int .i64 (n3 : Int))) w3) := ⟨n3, T3, ds3, v3, rfl, q2, q3, q4, q5, (TFr.above hBw (HB1.out _ _)).trans q6, by omega⟩
      clear q2 q3 q4 q5 q6 q7
      go_wp2_with fail
      go_ret
      exact HQ.out
  · have hcf : ¬ (isCon x = true ∧ isCon y = true) := fun hq => hcon ⟨hc1.2 hq.1, hd1.2 hq.2⟩
    have HX : Hid (jnS kind x y = sOp kind x y) := by unfold Hid jnS; rw [if_neg hcf]
    have hq1 : ((ek : Int) == 1) = false ∨ (ek = 1 ∧ ((fk : Int) == 1) = false) := by
      by_cases h1 : ek = 1
      · right; exact ⟨h1, by simp; omega⟩
      · left; simp; omega
    clear hcf hcon
    have he : okE T.length (kind, p, q, 0) := .inr (.inr (.inl ⟨k2, k5, hpl, hql, rfl⟩))
    have hst : strE ds (kind, p, q, 0) = jnS kind x y := by
      rw [HX.out]
      unfold strE
      rw [if_neg (by dsimp only; omega), if_neg (by dsimp only; omega), if_neg (by dsimp only; omega)]
      dsimp only
      rw [hpx, hqy]
    have hh : ∀ o1 o2, Calls Tryd.prog 162 #[.pointer (some ⟨N, 0, none⟩), .agg #[.int .i64 (kind : Int), .int .i64 (p : Int), .int .i64 (q : Int), .int .i64 0]] ((w.alloc o1).alloc o2).drew (TabPost B N b T ds ((w.alloc o1).alloc o2).drew 1 (strE ds (kind, p, q, 0))) := fun o1 o2 =>
      (hold_any B N T ds b _ (kind, p, q, 0) _ (((HP.out.alloc o1).alloc o2).drew) HT.out (okE_B he (by omega)) (by omega)).mono fun _ _ hp => hold_tells HT.out he hp
    rw [hst] at hh
    have HH := hide hh
    clear hh he hst hc1 hc2 hd1 hd2 hpx hqy
    rcases hq1 with q1 | ⟨rfl, q1⟩
    · go_enter Tryd.func164, Tryd.ntmps164
      go_wp2_with fail
      go_region_held3 (fun w' => w'.cell? ⟨N, 1, none⟩ = some (.slice (some ⟨g, 0, none⟩) T.length cap) ∧ w'.cell? ⟨g, p * 4, none⟩ = some (.int .i64 (ek : Int)) ∧ w'.cell? ⟨g, p * 4 + 1, none⟩ = some (.int .i64 (ea : Int)) ∧ w'.cell? ⟨g, p * 4 + 1 + 1, none⟩ = some (.int .i64 (eb : Int)) ∧ w'.cell? ⟨g, p * 4 + 1 + 1 + 1, none⟩ = some (.int .i64 (ev : Int)) ∧ w'.cell? ⟨g, q * 4, none⟩ = some (.int .i64 (fk : Int)) ∧ w'.cell? ⟨g, q * 4 + 1, none⟩ = some (.int .i64 (fa : Int)) ∧ w'.cell? ⟨g, q * 4 + 1 + 1, none⟩ = some (.int .i64 (fb : Int)) ∧ w'.cell? ⟨g, q * 4 + 1 + 1 + 1, none⟩ = some (.int .i64 (fv : Int))) (go_keep) (fail)
      all_goals
        clear n1 n2
        go_wp2_with fail
        refine (unhide HH _ _).mono ?_
        rintro e w3 ⟨n3, T3, ds3, v3, rfl, q2, q3, q4, q5, q6, q7⟩
        have HQ : Hid (TabPost B N b T ds w 2 (jnS kind x y) (.returned (.int .i64 (n3 : Int))) w3) := ⟨n3, T3, ds3, v3, rfl, q2, q3, q4, q5, (TFr.above hBw (HB1.out _ _)).trans q6, by omega⟩
        clear q2 q3 q4 q5 q6 q7
        go_wp2_with fail
        go_ret
        exact HQ.out
    · have x0' : w.cell? ⟨g, p * 4, none⟩ = some (.int .i64 1) := x0
      clear x0
      go_enter Tryd.func164, Tryd.ntmps164
      go_wp2_with fail
      go_region_held3 (fun w' => w'.cell? ⟨N, 1, none⟩ = some (.slice (some ⟨g, 0, none⟩) T.length cap) ∧ w'.cell? ⟨g, p * 4, none⟩ = some (.int .i64 1) ∧ w'.cell? ⟨g, p * 4 + 1, none⟩ = some (.int .i64 (ea : Int)) ∧ w'.cell? ⟨g, p * 4 + 1 + 1, none⟩ = some (.int .i64 (eb : Int)) ∧ w'.cell? ⟨g, p * 4 + 1 + 1 + 1, none⟩ = some (.int .i64 (ev : Int)) ∧ w'.cell? ⟨g, q * 4, none⟩ = some (.int .i64 (fk : Int)) ∧ w'.cell? ⟨g, q * 4 + 1, none⟩ = some (.int .i64 (fa : Int)) ∧ w'.cell? ⟨g, q * 4 + 1 + 1, none⟩ = some (.int .i64 (fb : Int)) ∧ w'.cell? ⟨g, q * 4 + 1 + 1 + 1, none⟩ = some (.int .i64 (fv : Int))) (go_keep) (fail)
      all_goals
        clear n1 n2
        go_wp2_with fail
        refine (unhide HH _ _).mono ?_
        rintro e w3 ⟨n3, T3, ds3, v3, rfl, q2, q3, q4, q5, q6, q7⟩
        have HQ : Hid (TabPost B N b T ds w 2 (jnS kind x y) (.returned (.int .i64 (n3 : Int))) w3) := ⟨n3, T3, ds3, v3, rfl, q2, q3, q4, q5, (TFr.above hBw (HB1.out _ _)).trans q6, by omega⟩
        clear q2 q3 q4 q5 q6 q7
        go_wp2_with fail
        go_ret
        exact HQ.out
end Go.Proofs.YtmmflekajbeamaaDoor

namespace Go.Proofs.YtmmflekajbeamaaDoor
open Go.RowKit Go.Maps Go.WideMaps

def nI (ns : List Nat) : List Int := ns.map fun n : Nat => (n : Int)
theorem nI_len (ns : List Nat) : (nI ns).length = ns.length := by simp [nI]
theorem nI_get (ns : List Nat) (i : Nat) : gz (nI ns) i = (ns.getD i 0 : Nat) := by
  unfold gz nI
  rw [List.getD_eq_getElem?_getD, List.getElem?_map, List.getD_eq_getElem?_getD]
  cases ns[i]? <;> rfl
theorem nI_set (ns : List Nat) (i n : Nat) : (nI ns).set i (n : Int) = nI (ns.set i n) := by
  unfold nI
  rw [List.map_set]
theorem Tells.bd {T : List Ex} {ds : List (List UInt8)} {n : Nat} {x : List UInt8} (h : Tells T ds n x) : n < T.length := h.1

set_option maxRecDepth 100000 in
set_option maxHeartbeats 1000000 in
theorem value_tab (B N : Nat) (T : List Ex) (ds : List (List UInt8)) (b : Nat) (v : Value) (p : PutN) (ns : List Nat) (l : List (List UInt8)) (w : World) (h : TabAt B N T b v w) (hT : TI T ds) (hs : Slots T ds ns l) (hp : okPut p) (hk : p.k < 4294967296) (hl : T.length ≤ 900) :
    Calls Tryd.prog 143 #[.pointer (some ⟨N, 0, none⟩), .agg (putV p), .agg (S (nI ns))] w (TabPost B N b T ds w 2 (vS l p)) := by
  have hBw : B ≤ w.heap.size := Nat.le_trans h.bN (Nat.le_of_lt h.nlt)
  have hb2 : ∀ o1 o2, Below w.heap.size w ((w.alloc o1).alloc o2) := fun o1 o2 => ((Below.refl _ _).alloc (Nat.le_refl _) _).alloc (by rw [size_alloc1]; omega) _
  have HB := hide hb2
  have HP := hide h; have HT := hide hT
  clear hb2
  obtain ⟨kind, d, a, c, k⟩ := p
  obtain ⟨d16, a16, b16, hc⟩ := hp
  dsimp only at d16 a16 b16 hc hk
  simp only [putV]
  have ln := hs.n16
  have ha := S_get (nI ns) a (by rw [nI_len]; omega)
  have hb := S_get (nI ns) c (by rw [nI_len]; omega)
  rw [nI_get] at ha hb
  have ta := hs.tell a a16
  have tb := hs.tell c b16
  have a16' : (a : Int) < 16 := by omega
  have b16' : (c : Int) < 16 := by omega
  clear h hT hs
  rcases hc with ⟨rfl, rfl, rfl⟩ | ⟨k2, k5, rfl⟩ | ⟨rfl, rfl, hk6⟩ | ⟨rfl, rfl, rfl⟩
  · have HV : Hid (vS l ⟨1, d, 0, 0, k⟩ = sCon k) := rfl
    have HC := hide (fun o1 o2 => constant_any B N T ds b v k ((w.alloc o1).alloc o2) ((HP.out.alloc o1).alloc o2) HT.out hk (by omega))
    go_enter Tryd.func143, Tryd.ntmps143
    go_wp2_with fail
    refine (unhide HC _ _).mono ?_
    rintro e w3 ⟨n3, T3, ds3, v3, rfl, q2, q3, q4, q5, q6, q7⟩
    have HQ : Hid (TabPost B N b T ds w 2 (sCon k) (.returned (.int .i64 (n3 : Int))) w3) := ⟨n3, T3, ds3, v3, rfl, q2, q3, q4, q5, (TFr.above hBw (HB.out _ _)).trans q6, by omega⟩
    clear q2 q3 q4 q5 q6 q7
    go_wp2_with fail
    go_ret
    rw [HV.out]
    exact HQ.out
  · have HV : Hid (vS l ⟨kind, d, a, c, 0⟩ = jnS kind (l.getD a []) (l.getD c [])) := by unfold Hid vS; dsimp only; rw [if_neg (by omega), if_neg (by omega), if_neg (by omega)]
    have q1 : ((kind : Int) == 1) = false := by simp; omega
    have q6 : ((kind : Int) == 6) = false := by simp; omega
    have q7 : ((kind : Int) == 7) = false := by simp; omega
    have HC := hide (fun o1 o2 => op_tab B N T ds b v kind _ _ _ _ ((w.alloc o1).alloc o2).drew ((HP.out.alloc o1).alloc o2).drew HT.out ta tb k2 k5 hl)
    generalize ns.getD a 0 = x at *
    generalize ns.getD c 0 = y at *
    clear ta tb
    go_enter Tryd.func143, Tryd.ntmps143
    go_wp2_with fail
    refine still_tail 11 (by kernel_rfl) (by kernel_rfl) ?_
    simp only [List.take_succ_cons, List.take_zero, List.drop_succ_cons, List.drop_zero]
    repeat still_step
    refine wpStill_nil ?_
    go_wp2_with fail
    refine (unhide HC _ _).mono ?_
    rintro e w3 ⟨n3, T3, ds3, v3, rfl, q2, q3, q4, q5, q6, q7⟩
    have HQ : Hid (TabPost B N b T ds w 2 (jnS kind (l.getD a []) (l.getD c [])) (.returned (.int .i64 (n3 : Int))) w3) := ⟨n3, T3, ds3, v3, rfl, q2, q3, q4, q5, (TFr.above hBw ((HB.out _ _).drew)).trans q6, by omega⟩
    clear q2 q3 q4 q5 q6 q7
    go_wp2_with fail
    go_ret
    rw [HV.out]
    exact HQ.out
  · have HV : Hid (vS l ⟨6, d, a, 0, k⟩ = ldS (l.getD a []) k) := rfl
    have HC := hide (fun o1 o2 => load_tab B N T ds b v _ k _ ((w.alloc o1).alloc o2).drew ((HP.out.alloc o1).alloc o2).drew HT.out ta hk6 hl)
    generalize ns.getD a 0 = x at *
    clear ta tb
    go_enter Tryd.func143, Tryd.ntmps143
    go_wp2_with fail
    refine still_tail 7 (by kernel_rfl) (by kernel_rfl) ?_
    simp only [List.take_succ_cons, List.take_zero, List.drop_succ_cons, List.drop_zero]
    repeat still_step
    refine wpStill_nil ?_
    go_wp2_with fail
    refine (unhide HC _ _).mono ?_
    rintro e w3 ⟨n3, T3, ds3, v3, rfl, q2, q3, q4, q5, q6, q7⟩
    have HQ : Hid (TabPost B N b T ds w 2 (ldS (l.getD a []) k) (.returned (.int .i64 (n3 : Int))) w3) := ⟨n3, T3, ds3, v3, rfl, q2, q3, q4, q5, (TFr.above hBw ((HB.out _ _).drew)).trans q6, by omega⟩
    clear q2 q3 q4 q5 q6 q7
    go_wp2_with fail
    go_ret
    rw [HV.out]
    exact HQ.out
  · have HV : Hid (vS l ⟨7, d, a, 0, 0⟩ = l.getD a []) := rfl
    have HQ : Hid (∀ o1 o2, TabPost B N b T ds w 2 (vS l ⟨7, d, a, 0, 0⟩) (.returned (.int .i64 ((ns.getD a 0 : Nat) : Int))) ((w.alloc o1).alloc o2)) := fun o1 o2 => by
      rw [HV.out]
      exact ⟨_, T, ds, v, rfl, (HP.out.alloc o1).alloc o2, HT.out, More.refl _ _, ta, TFr.above hBw (HB.out _ _), by omega⟩
    generalize ns.getD a 0 = x at *
    clear ta tb
    go_enter Tryd.func143, Tryd.ntmps143
    go_wp2_with fail
    go_ret
    exact HQ.out _ _
end Go.Proofs.YtmmflekajbeamaaDoor

namespace Go.Proofs.YtmmflekajbeamaaDoor
open Go.RowKit Go.Maps Go.WideMaps

theorem put_cells {w : World} {B : Nat} {g cap : Nat} {ps : List PutN} (h : w.ownsRow B 59 5 (.slice (some ⟨g, 0, none⟩) ps.length cap) ps.length (putCs ps)) (n : Nat) (p : PutN) (hn : ps[n]? = some p) :
    w.cell? ⟨g, n * 5, none⟩ = some (.int .i64 (p.kind : Int)) ∧ w.cell? ⟨g, n * 5 + 1, none⟩ = some (.int .i64 (p.d : Int)) ∧ w.cell? ⟨g, n * 5 + 1 + 1, none⟩ = some (.int .i64 (p.a : Int)) ∧ w.cell? ⟨g, n * 5 + 1 + 1 + 1, none⟩ = some (.int .i64 (p.b : Int)) ∧ w.cell? ⟨g, n * 5 + 1 + 1 + 1 + 1, none⟩ = some (.int .i64 (p.k : Int)) := by
  have hlt : n < ps.length := (List.getElem?_eq_some_iff.1 hn).1
  have key := flat_at (fun p => (putV p).toList) 5 (fun _ => rfl) ps n p hn
  have k0 := key 0 (by decide); have k1 := key 1 (by decide); have k2 := key 2 (by decide); have k3 := key 3 (by decide); have k4 := key 4 (by decide)
  refine ⟨?_, ?_, ?_, ?_, ?_⟩
  · rw [h.cellAt _ (by omega)]; exact k0
  · rw [h.cellAt _ (by omega)]; exact k1
  · rw [h.cellAt _ (by omega)]; exact k2
  · rw [h.cellAt _ (by omega)]; exact k3
  · rw [h.cellAt _ (by omega)]; exact k4
def zr (n : Nat) : List Int := List.replicate n 0
theorem zr_len (n : Nat) : (zr n).length = n := by simp [zr]
theorem zero8 (w : World) : (zeroValue 31).run Tryd.prog w = .ok (.agg (S (zr 8))) w := by kernel_rfl
theorem zero16 (w : World) : (zeroValue 119).run Tryd.prog w = .ok (.agg (S (zr 16))) w := by kernel_rfl
/-- A block is a row of these numbers. -/
def RowI (w : World) (g : Nat) (t : TypeId) (z : List Int) : Prop := w.heap[g]? = some (.cells (S z) t (0, 0))
theorem RowI.cell {w : World} {g : Nat} {t : TypeId} {z : List Int} (h : RowI w g t z) (i : Nat) (hi : i < z.length) : w.cell? ⟨g, i, none⟩ = some (.int .i64 (gz z i)) := by
  unfold World.cell?
  rw [h]
  exact S_get z i hi
theorem RowI.frozen {w : World} {g : Nat} {t : TypeId} {z : List Int} (h : RowI w g t z) (i : Nat) : w.frozen? ⟨g, i, none⟩ = false := by
  unfold World.frozen?
  rw [h]
  simp
theorem RowI.isRow {w : World} {g : Nat} {t : TypeId} {z : List Int} (h : RowI w g t z) (k : Nat) (hk : z.length = k) : isRowB w g k = true := by
  unfold isRowB
  rw [h]
  simp [S_size, hk]
theorem RowI.rowD {w : World} {g : Nat} {t : TypeId} {z : List Int} (h : RowI w g t z) : rowD w g = S z := by
  unfold Proofs.YtmmflekajbeamaaDoor.rowD
  rw [h]
theorem RowI.lt {w : World} {g : Nat} {t : TypeId} {z : List Int} (h : RowI w g t z) : g < w.heap.size := (Array.getElem?_eq_some_iff.1 h).1
theorem RowI.set {w : World} {g : Nat} {t : TypeId} {z : List Int} (h : RowI w g t z) (i : Nat) (v : Int) : RowI (w.setCell ⟨g, i, none⟩ (.int .i64 v)) g t (z.set i v) := by
  unfold RowI
  rw [heap_setCell_same w g i _ t _ h, S_set]
theorem RowI.keep {w w' : World} {g : Nat} {t : TypeId} {z : List Int} (h : RowI w g t z) (hk : w'.heap[g]? = w.heap[g]?) : RowI w' g t z := hk.trans h
theorem TFr.row {B N b : Nat} {w w' : World} (h : TFr B N b w w') {g : Nat} {t : TypeId} {z : List Int} (hr : RowI w g t z) (h1 : g ≠ N) (h2 : g ≠ b) (ht : t ≠ 218) : RowI w' g t z :=
  hr.keep (h.other g hr.lt h1 h2 (fun cur hc => by rw [hr] at hc; cases hc; exact ht rfl))
theorem arr8 (w : World) (g : Nat) : (Instr.arrayAt 31 (.slice (some ⟨g, 0, none⟩) 8 16)).run Tryd.prog w = .ok (.pointer (some ⟨g, 0, none⟩)) w := by kernel_rfl
/-- What comeTo leaves. -/
def ComePost (B N b : Nat) (T : List Ex) (ds : List (List UInt8)) (w : World) (l : List (List UInt8)) (e' : Ending) (w' : World) : Prop :=
  ∃ T' ds' v' ns, e' = .returned (.agg (S (nI (ns.take 8)))) ∧ TabAt B N T' b v' w' ∧ TI T' ds' ∧ More T ds T' ds' ∧ Slots T' ds' ns l ∧ TFr B N b w w' ∧ T'.length ≤ T.length + 36

set_option maxRecDepth 100000 in
set_option maxHeartbeats 2000000 in
theorem comeTo_any (B B' N : Nat) (T : List Ex) (ds : List (List UInt8)) (b : Nat) (v : Value) (pv : Value) (ps : List PutN) (w : World) (h : TabAt B N T b v w) (hT : TI T ds) (hps : w.ownsRow B' 59 5 pv ps.length (putCs ps)) (hp : ∀ p ∈ ps, okPut p ∧ p.k < 4294967296) (hpl : ps.length ≤ 10) (hl : T.length ≤ 100) (hgN : ∀ g, pv.ownBlock = some g → g ≠ N) :
    Calls Tryd.prog 104 #[.pointer (some ⟨N, 0, none⟩), pv] w (ComePost B N b T ds w (comeS ps)) := by
  have hNlt := h.nlt
  have hblt := h.blt
  have hBw : B ≤ w.heap.size := Nat.le_trans h.bN (Nat.le_of_lt h.nlt)
  obtain ⟨pa, pc, rfl⟩ := owns_len hps
  have HP := hide h; have HT := hide hT; have HPs := hide hps; have HOk := hide hp; have HgN := hide hgN
  have z8 := zero8; have z16 := zero16
  clear h hT hps hp hgN
  go_enter Tryd.func104, Tryd.ntmps104
  go_wp2_with fail
  go_loopw [9] (fun i wr => ∃ (k : Nat) (T' : List Ex) (ds' : List (List UInt8)) (v' : Value) (ns : List Nat) (z : List Int), k ≤ 16 ∧ i = .int .i64 k ∧ Hid (TabAt B N T' b v' wr ∧ TI T' ds' ∧ More T ds T' ds' ∧ TFr B N b w wr ∧ T'.length ≤ T.length + k ∧ RowI wr w.heap.size 31 (zr 8) ∧ RowI wr (w.heap.size + 1) 119 z ∧ z.length = 16 ∧ ns.length = k ∧ (∀ j, j < k → gz z j = (ns.getD j 0 : Nat)) ∧ ∀ j, j < k → Tells T' ds' (ns.getD j 0) (begS.getD j []))) (fun i _ => 16 - (intOf i).toNat)
  case atStart =>
    refine ⟨0, T, ds, v, [], zr 16, Nat.zero_le _, rfl, (HP.out.alloc _).alloc _, HT.out, More.refl _ _, TFr.above hBw (((Below.refl _ _).alloc (Nat.le_refl _) _).alloc (by rw [size_alloc1]; omega) _), by omega, ?_, ?_, zr_len 16, rfl, fun j hj => by omega, fun j hj => by omega⟩
    · unfold RowI
      rw [Below.heap_alloc _ _ _ (by rw [size_alloc1]; omega), _root_.Go.heap_alloc_new]
    · unfold RowI
      have := _root_.Go.heap_alloc_new (w.alloc (.cells (S (zr 8)) 31)) (.cells (S (zr 16)) 119)
      rw [size_alloc1] at this
      exact this
  case round =>
    obtain ⟨k, T', ds', v', ns, z, hk, rfl, HR⟩ := hrel
    by_cases hlt : k < 16
    · have hlt' : (k : Int) < 16 := by omega
      have HStep : Hid (∀ w2 n T2 ds2 v2, TabAt B N T2 b v2 w2 → TI T2 ds2 → More T' ds' T2 ds2 → Tells T2 ds2 n (begS.getD k []) → TFr B N b wr w2 → T2.length ≤ T'.length + 1 →
          RowI w2 (w.heap.size + 1) 119 z ∧ z.length = 16 ∧ (∃ (k' : Nat) (T' : List Ex) (ds' : List (List UInt8)) (v' : Value) (ns : List Nat) (z' : List Int), k' ≤ 16 ∧ ((k + 1 : Nat) : Int) = k' ∧ Hid (TabAt B N T' b v' (w2.setCell ⟨w.heap.size + 1, k, none⟩ (.int .i64 (n : Nat))) ∧ TI T' ds' ∧ More T ds T' ds' ∧ TFr B N b w (w2.setCell ⟨w.heap.size + 1, k, none⟩ (.int .i64 (n : Nat))) ∧ T'.length ≤ T.length + k' ∧ RowI (w2.setCell ⟨w.heap.size + 1, k, none⟩ (.int .i64 (n : Nat))) w.heap.size 31 (zr 8) ∧ RowI (w2.setCell ⟨w.heap.size + 1, k, none⟩ (.int .i64 (n : Nat))) (w.heap.size + 1) 119 z' ∧ z'.length = 16 ∧ ns.length = k' ∧ (∀ j, j < k' → gz z' j = (ns.getD j 0 : Nat)) ∧ ∀ j, j < k' → Tells T' ds' (ns.getD j 0) (begS.getD j [])))) := by
        intro w2 n T2 ds2 v2 a1 a2 a3 a4 a5 a6
        obtain ⟨h1, h2, h3, h4, h5, h6, h7, h8, h9, h10, h11⟩ := HR.out
        have r16 := a5.row h7 (by omega) (by omega) (by decide)
        have r8 := a5.row h6 (by omega) (by omega) (by decide)
        refine ⟨r16, h8, k + 1, T2, ds2, v2, ns ++ [n], z.set k (n : Nat), by omega, rfl, a1.setOut (fun hi => ?_) _ _, a2, h3.trans a3, ⟨(h4.trans a5).below.setCell (by show B ≤ w.heap.size + 1; omega) _, fun g hg q1 q2 q3 => (heap_set_other w2 _ (by omega)).trans ((h4.trans a5).other g hg q1 q2 q3)⟩, by omega, r8.keep (heap_set_other w2 _ (by omega)), r16.set _ _, by simp [h8], by simp [h9], fun j hj => ?_, fun j hj => ?_⟩
        · rcases hi with hi | hi | hi
          · omega
          · omega
          · obtain ⟨cur, hc⟩ := ownsRow_kind a1.ls _ hi
            rw [r16] at hc
            cases hc
        · unfold gz
          rw [getD_set _ _ _ _ _ (by omega)]
          by_cases hjk : j = k
          · rw [if_pos hjk, hjk, List.getD_eq_getElem?_getD, ← h9, List.getElem?_append_right (Nat.le_refl _), Nat.sub_self]; rfl
          · rw [if_neg hjk, List.getD_eq_getElem?_getD (l := ns ++ [n]), List.getElem?_append_left (by omega), ← List.getD_eq_getElem?_getD]
            exact h10 j (by omega)
        · by_cases hjk : j = k
          · rw [hjk, List.getD_eq_getElem?_getD, ← h9, List.getElem?_append_right (Nat.le_refl _), Nat.sub_self, h9]; exact a4
          · rw [List.getD_eq_getElem?_getD (l := ns ++ [n]), List.getElem?_append_left (by omega), ← List.getD_eq_getElem?_getD]
            exact (h11 j (by omega)).more h2.len a3
      have hx : begS.getD k [] = if k < 8 then sReg k else sCon 0 := by
        unfold begS
        rw [List.getD_eq_getElem?_getD, List.getElem?_map, List.getElem?_range hlt]; rfl
      by_cases h8 : k < 8
      · have h8' : (k : Int) < 8 := by omega
        rw [if_pos h8] at hx
        have HC := hide (register_tab B N T' ds' b v' k wr HR.out.1 HR.out.2.1 h8 (by have := HR.out.2.2.2.2.1; omega))
        rw [← hx] at HC
        clear hx
        go_wp2_with fail
        refine (unhide HC).mono ?_
        rintro e w2 ⟨n, T2, ds2, v2, rfl, q2, q3, q4, q5, q6, q7⟩
        obtain ⟨r16, hz, HE⟩ := HStep.out w2 n T2 ds2 v2 q2 q3 q4 q5 q6 q7
        have cc := r16.cell k (by omega)
        have ff := r16.frozen k
        have HEn := hide HE
        clear q2 q3 q4 q5 q6 q7 HE r16
        go_wp2_with fail
        obtain ⟨k', T3, ds3, v3, ns3, z3, e1, e2, e3⟩ := HEn.out
        exact ⟨⟨k', T3, ds3, v3, ns3, z3, e1, by rw [← e2]; go_num, e3⟩, by simp [intOf]; omega⟩
      · have h8' : ¬ (k : Int) < 8 := by omega
        rw [if_neg h8] at hx
        have HC : Hid (Calls Tryd.prog 142 #[.pointer (some ⟨N, 0, none⟩), .int .i64 0] wr (TabPost B N b T' ds' wr 1 (sCon 0))) := constant_any B N T' ds' b v' 0 wr HR.out.1 HR.out.2.1 (by decide) (by have := HR.out.2.2.2.2.1; omega)
        rw [← hx] at HC
        clear hx
        go_wp2_with fail
        refine (unhide HC).mono ?_
        rintro e w2 ⟨n, T2, ds2, v2, rfl, q2, q3, q4, q5, q6, q7⟩
        obtain ⟨r16, hz, HE⟩ := HStep.out w2 n T2 ds2 v2 q2 q3 q4 q5 q6 q7
        have cc := r16.cell k (by omega)
        have ff := r16.frozen k
        have HEn := hide HE
        clear q2 q3 q4 q5 q6 q7 HE r16
        go_wp2_with fail
        obtain ⟨k', T3, ds3, v3, ns3, z3, e1, e2, e3⟩ := HEn.out
        exact ⟨⟨k', T3, ds3, v3, ns3, z3, e1, by rw [← e2]; go_num, e3⟩, by simp [intOf]; omega⟩
    · have hkn : k = 16 := by omega
      have e16 : (k : Int) = 16 := by omega
      rw [e16]
      clear e16
      subst hkn
      have HS0 : Hid (Slots T' ds' ns begS ∧ z = nI ns) := by
        obtain ⟨h1, h2, h3, h4, h5, h6, h7, h8, h9, h10, h11⟩ := HR.out
        refine ⟨⟨h9, by simp [begS], h11⟩, ?_⟩
        apply List.ext_getElem?
        intro j
        by_cases hj : j < 16
        · have := h10 j hj
          rw [← nI_get] at this
          unfold gz at this
          rw [List.getD_eq_getElem?_getD, List.getD_eq_getElem?_getD, List.getElem?_eq_getElem (by omega), List.getElem?_eq_getElem (by rw [nI_len]; omega)] at this
          rw [List.getElem?_eq_getElem (by omega), List.getElem?_eq_getElem (by rw [nI_len]; omega)]
          simpa using this
        · rw [List.getElem?_eq_none (by omega), List.getElem?_eq_none (by rw [nI_len]; omega)]
      go_wp2_with fail
      go_loopw [26] (fun i wr => ∃ (k : Nat) (T' : List Ex) (ds' : List (List UInt8)) (v' : Value) (ns : List Nat), k ≤ ps.length ∧ i = .int .i64 k ∧ Hid (TabAt B N T' b v' wr ∧ TI T' ds' ∧ More T ds T' ds' ∧ TFr B N b w wr ∧ T'.length ≤ T.length + 16 + 2 * k ∧ RowI wr w.heap.size 31 (zr 8) ∧ RowI wr (w.heap.size + 1) 119 (nI ns) ∧ Slots T' ds' ns ((ps.take k).foldl stS begS))) (fun i _ => ps.length - (intOf i).toNat)
      case atStart =>
        obtain ⟨h1, h2, h3, h4, h5, h6, h7, h8, h9, h10, h11⟩ := HR.out
        exact ⟨0, T', ds', v', ns, Nat.zero_le _, rfl, h1, h2, h3, h4, h5, h6, HS0.out.2 ▸ h7, HS0.out.1⟩
      case round =>
        clear HR HS0 hk hlt
        clear T' ds' v' ns z
        obtain ⟨k, T', ds', v', ns, hk, rfl, HR⟩ := hrel
        by_cases hlt : k < ps.length
        · have hlt' : (k : Int) < (ps.length : Int) := by omega
          have hpk : ps[k]? = some ps[k] := List.getElem?_eq_getElem hlt
          have HStp : Hid ((ps.take (k + 1)).foldl stS begS = stS ((ps.take k).foldl stS begS) ps[k]) := foldl_take_succ _ _ _ _ _ hpk
          obtain ⟨hok, hkk⟩ := HOk.out _ (List.getElem_mem hlt)
          obtain ⟨g, cap, hform, _, hgl⟩ := HPs.out.form (by omega)
          have hrow : wr.ownsRow B' 59 5 (.slice pa ps.length pc) ps.length (putCs ps) := ownsRow_keep HPs.out (fun g' hg' => by
            obtain ⟨cur, hc⟩ := ownsRow_kind HPs.out g' hg'
            refine HR.out.2.2.2.1.other g' (row_lt HPs.out g' hg').2 (HgN.out g' hg') (fun e => ?_) (fun cur' hc' => by rw [hc] at hc'; cases hc')
            obtain ⟨D, hm, _⟩ := HP.out.mp
            obtain ⟨es, cl, hbm⟩ := map_of hm
            rw [e, hbm] at hc
            cases hc)
          cases hform
          obtain ⟨x0, x1, x2, x3, x4⟩ := put_cells hrow k ps[k] hpk
          have d16 := hok.1
          have d16' : (ps[k].d : Int) < 16 := by omega
          obtain ⟨h1, h2, h3, h4, h5, h6, h7, h8⟩ := HR.out
          have HV := hide (fun o => value_tab B N T' ds' b v' ps[k] ns _ (wr.alloc o).drew ((h1.alloc o).drew) h2 h8 hok hkk (by omega))
          simp only [putV] at HV
          have hwz : w.heap.size + 1 < wr.heap.size := h7.lt
          have HStep : Hid (∀ o w2 n T2 ds2 v2, TabAt B N T2 b v2 w2 → TI T2 ds2 → More T' ds' T2 ds2 → Tells T2 ds2 n (vS ((ps.take k).foldl stS begS) ps[k]) → TFr B N b (wr.alloc o).drew w2 → T2.length ≤ T'.length + 2 →
              RowI w2 (w.heap.size + 1) 119 (nI ns) ∧ (∃ (T' : List Ex) (ds' : List (List UInt8)) (v' : Value) (ns : List Nat), Hid (TabAt B N T' b v' (w2.setCell ⟨w.heap.size + 1, ps[k].d, none⟩ (.int .i64 (n : Nat))) ∧ TI T' ds' ∧ More T ds T' ds' ∧ TFr B N b w (w2.setCell ⟨w.heap.size + 1, ps[k].d, none⟩ (.int .i64 (n : Nat))) ∧ T'.length ≤ T.length + 16 + 2 * (k + 1) ∧ RowI (w2.setCell ⟨w.heap.size + 1, ps[k].d, none⟩ (.int .i64 (n : Nat))) w.heap.size 31 (zr 8) ∧ RowI (w2.setCell ⟨w.heap.size + 1, ps[k].d, none⟩ (.int .i64 (n : Nat))) (w.heap.size + 1) 119 (nI ns) ∧ Slots T' ds' ns ((ps.take (k + 1)).foldl stS begS)))) := by
            intro o w2 n T2 ds2 v2 a1 a2 a3 a4 a5 a6
            have t0 : TFr B N b wr w2 := (TFr.above (Nat.le_trans hBw (by omega)) (((Below.refl _ _).alloc (Nat.le_refl _) o).drew)).trans a5
            have r16 := t0.row h7 (by omega) (by omega) (by decide)
            have r8 := t0.row h6 (by omega) (by omega) (by decide)
            refine ⟨r16, T2, ds2, v2, ns.set ps[k].d n, a1.setOut (fun hi => ?_) _ _, a2, h3.trans a3, ⟨(h4.trans t0).below.setCell (by show B ≤ w.heap.size + 1; omega) _, fun g hg q1 q2 q3 => (heap_set_other w2 _ (by omega)).trans ((h4.trans t0).other g hg q1 q2 q3)⟩, by omega, r8.keep (heap_set_other w2 _ (by omega)), ?_, ?_⟩
            · rcases hi with hi | hi | hi
              · omega
              · omega
              · obtain ⟨cur, hc⟩ := ownsRow_kind a1.ls _ hi
                rw [r16] at hc
                cases hc
            · rw [← nI_set]; exact r16.set _ _
            · rw [HStp.out]
              exact (h8.more h2.len a3).set hok.1 a4
          have hs16 := hide (fun w' (hr : isRowB w' (w.heap.size + 1) 16 = true) => load_rowD (P := Tryd.prog) (ty := 119) Tryd.underlying119 rfl size16 w' (w.heap.size + 1) hr)
          have rI := h7.isRow 16 (by rw [nI_len, h8.n16])
          have rD := h7.rowD
          have ln := h8.n16
          clear h1 h2 h3 h4 h5 h6 h7 h8 hrow hok hkk hpk HOk HP HT
          generalize ps[k] = p at *
          obtain ⟨pk, pd, pa', pb, pk'⟩ := p
          simp only at x0 x1 x2 x3 x4 d16 d16' HV HStep
          go_wp2_with fail
          have e0 : ∀ (o : Obj) j x, o = .cells #[.int .i64 (pk : Int), .int .i64 (pd : Int), .int .i64 (pa' : Int), .int .i64 (pb : Int), .int .i64 (pk' : Int)] 59 → #[Value.int .i64 (pk : Int), .int .i64 (pd : Int), .int .i64 (pa' : Int), .int .i64 (pb : Int), .int .i64 (pk' : Int)][j]? = some x → (wr.alloc o).cell? ⟨wr.heap.size, j, none⟩ = some x := fun o j x ho hx => by
            rw [ho, World.cell?_alloc_at (hn := rfl)]; exact hx
          refine held_tail 5 1 (fun w' => w'.cell? ⟨wr.heap.size, 0, none⟩ = some (.int .i64 (pk : Int)) ∧ w'.cell? ⟨wr.heap.size, 1, none⟩ = some (.int .i64 (pd : Int)) ∧ w'.cell? ⟨wr.heap.size, 2, none⟩ = some (.int .i64 (pa' : Int)) ∧ w'.cell? ⟨wr.heap.size, 3, none⟩ = some (.int .i64 (pb : Int)) ∧ w'.cell? ⟨wr.heap.size, 4, none⟩ = some (.int .i64 (pk' : Int)) ∧ isRowB w' (w.heap.size + 1) 16 = true ∧ rowD w' (w.heap.size + 1) = S (nI ns)) (by kernel_rfl) (by kernel_rfl) (fun d _ _ _ _ h => by cases d <;> exact h) ⟨e0 _ 0 _ rfl rfl, e0 _ 1 _ rfl rfl, e0 _ 2 _ rfl rfl, e0 _ 3 _ rfl rfl, e0 _ 4 _ rfl rfl, (isRowB_alloc_past _ _ _ _ hwz).trans rI, (rowD_alloc_past _ _ _ hwz).trans rD⟩ ?_
          simp only [List.take_succ_cons, List.take_zero, List.drop_succ_cons, List.drop_zero]
          iterate 4
            refine wpTake_step ?_ rfl ?_ ?_
            rotate_left
            · rintro w' ⟨d0, d1, d2, d3, d4, d5, d6⟩
              go_simp
              rfl
            go_simp
          refine wpTake_step (.agg (S (nI ns))) rfl ?_ ?_
          · rintro w' ⟨d0, d1, d2, d3, d4, d5, d6⟩
            have hl := hs16.out w' d5
            rw [d6] at hl
            clear d0 d1 d2 d3 d4 d5 d6
            simp only [execOp, Sem.run_bind]
            show Result.andThen (Sem.run Tryd.prog (Instr.loadAt 119 (.pointer (some ⟨w.heap.size + 1, 0, none⟩))) w') _ = _
            rw [hl]
            rfl
          go_simp
          refine wpTake_nil ?_
          refine wpTail_step rfl (fun K hK => ?_)
          go_simp
          refine (unhide HV _).mono ?_
          rintro e w2 ⟨n, T2, ds2, v2, rfl, q2, q3, q4, q5, q6, q7⟩
          have hbx : ∀ j x, #[Value.int .i64 (pk : Int), .int .i64 (pd : Int), .int .i64 (pa' : Int), .int .i64 (pb : Int), .int .i64 (pk' : Int)][j]? = some x → w2.cell? ⟨wr.heap.size, j, none⟩ = some x := fun j x hx =>
            (World.cell?_of_block (q6.other wr.heap.size (by show wr.heap.size < (wr.alloc _).heap.size; rw [size_alloc1]; omega) (by omega) (by omega) (fun cur hc => by
              have := _root_.Go.heap_alloc_new wr (.cells #[.int .i64 (pk : Int), .int .i64 (pd : Int), .int .i64 (pa' : Int), .int .i64 (pb : Int), .int .i64 (pk' : Int)] 59)
              rw [show ((wr.alloc _).drew.heap[wr.heap.size]? = _) from this] at hc
              cases hc))).trans (e0 _ j x rfl hx)
          obtain ⟨r16, HE⟩ := HStep.out _ w2 n T2 ds2 v2 q2 q3 q4 q5 q6 q7
          have cc := r16.cell pd (by rw [nI_len, ln]; exact d16)
          have ff := r16.frozen pd
          refine hK _ _ ⟨hbx 0 _ rfl, hbx 1 _ rfl, hbx 2 _ rfl, hbx 3 _ rfl, hbx 4 _ rfl, r16.isRow 16 (by rw [nI_len, ln]), r16.rowD⟩ ?_
          have HEn := hide HE
          clear q2 q3 q4 q5 q6 q7 HE r16 hbx hK K e0 rI rD hs16 HV HStep
          unfold wpTailS
          go_wp2_with fail
          obtain ⟨T3, ds3, v3, ns3, e3⟩ := HEn.out
          exact ⟨⟨k + 1, T3, ds3, v3, ns3, by omega, by go_num, e3⟩, by simp [intOf]; omega⟩
        · have hkn : k = ps.length := by omega
          subst hkn
          have hlt' : ¬ (ps.length : Int) < (ps.length : Int) := by omega
          obtain ⟨h1, h2, h3, h4, h5, h6, h7, h8⟩ := HR.out
          have ln := h8.n16
          have y0 := h7.cell 0 (by rw [nI_len, ln]; decide); have y1 := h7.cell 1 (by rw [nI_len, ln]; decide); have y2 := h7.cell 2 (by rw [nI_len, ln]; decide); have y3 := h7.cell 3 (by rw [nI_len, ln]; decide)
          have y4 := h7.cell 4 (by rw [nI_len, ln]; decide); have y5 := h7.cell 5 (by rw [nI_len, ln]; decide); have y6 := h7.cell 6 (by rw [nI_len, ln]; decide); have y7 := h7.cell 7 (by rw [nI_len, ln]; decide)
          have rI := h6.isRow 8 (zr_len 8)
          have a8 := arr8
          have HFin : Hid (∀ w', (∀ g, g ≠ w.heap.size → w'.heap[g]? = wr.heap[g]?) → Below B w w' → ComePost B N b T ds w (comeS ps) (.returned (.agg (S (nI (ns.take 8))))) w') := fun w' hk hb => by
            refine ⟨T', ds', v', ns, rfl, h1.kept (fun g hg => hk g (fun e => ?_)), h2, h3, by rw [List.take_length] at h8; exact h8, ⟨hb, fun g hg q1 q2 q3 => (hk g (by omega)).trans (h4.other g hg q1 q2 q3)⟩, by omega⟩
            rcases hg with hg | hg | hg
            · omega
            · omega
            · obtain ⟨cur, hc⟩ := ownsRow_kind h1.ls _ hg
              rw [e, h6] at hc
              cases hc
          have HB4 := hide h4.below
          have H6 := hide h6
          have HEq : Hid (S [gz (nI ns) 0, gz (nI ns) 1, gz (nI ns) 2, gz (nI ns) 3, gz (nI ns) 4, gz (nI ns) 5, gz (nI ns) 6, gz (nI ns) 7] = S (nI (ns.take 8))) := by
            unfold Hid
            congr 1
            match ns, ln with
            | [n0, n1, n2, n3, n4, n5, n6, n7, n8, n9, n10, n11, n12, n13, n14, n15], _ => rfl
          clear h1 h2 h3 h4 h5 h6 h7 h8 HP HT
          go_wp2_with (refine wpList_storeR size8 rfl _ _ rfl w.heap.size rfl [gz (nI ns) 0, gz (nI ns) 1, gz (nI ns) 2, gz (nI ns) 3, gz (nI ns) 4, gz (nI ns) 5, gz (nI ns) 6, gz (nI ns) 7] rfl rfl rI _ rfl ?_)
          refine bodyPost_ret (v := .agg (S [gz (nI ns) 0, gz (nI ns) 1, gz (nI ns) 2, gz (nI ns) 3, gz (nI ns) 4, gz (nI ns) 5, gz (nI ns) 6, gz (nI ns) 7])) (results_cell_row Tryd.results104 _ _ _ 31 (S [gz (nI ns) 0, gz (nI ns) 1, gz (nI ns) 2, gz (nI ns) 3, gz (nI ns) 4, gz (nI ns) 5, gz (nI ns) 6, gz (nI ns) 7]) (0, 0) _ rfl (setRow_heap wr _ _ _ 31 (0, 0) H6.out) Tryd.underlying31 rfl (by rw [size8, S_size]; rfl)) rfl ?_
          rw [HEq.out]
          exact HFin.out _ (fun g hg => setRow_other wr _ g _ hg) (below_setRow HB4.out hBw _)
end Go.Proofs.YtmmflekajbeamaaDoor
