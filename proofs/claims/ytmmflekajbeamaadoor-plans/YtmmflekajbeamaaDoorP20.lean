/-
  Plans: what a put lays into its slot (plans.value); whole rows of numbers.
  Plans: an op of two expressions in the table; what a put lays into its slot (table.op, table.value).
  Plans: the expression that a put lays into its slot (table.value).
-/
import Derived.Test.YtmmflekajbeamaaDoorP15
import Derived.Deep.QuietTactic
import Derived.BigQuiet
import Derived.Test.YtmmflekajbeamaaDoorP19
import Derived.Deep.RegionHeld3
import Derived.Deep.DrawnRows
namespace Go.Proofs.YtmmflekajbeamaaDoor
open Go.RowKit

theorem wpList_loadR {ty : TypeId} {k : Nat} {d : TypeDesc} (hd : (match d with | .struct _ | .array _ _ => true | _ => false) = true) (hu : Tryd.prog.underlying ty = some d) (hi : (Tryd.prog.info? ty).map (·.size) = some k)
    {ops : Array Oper} {rest : List Oper} {o : Oper} {a : Act} {w : World} {Q : Exit → Act → World → Prop} (hgd : o.guard = none) (x : Operand) (ho : o.op = .load ty x)
    (n : Nat) (hx : a.eval x = .pointer (some ⟨n, 0, none⟩)) (hr : isRowB w n k = true) (c : Array Value) (hc : rowD w n = c)
    (h : wpList Tryd.prog ops Q rest (a.put o.dst (.agg c)) w) : wpList Tryd.prog ops Q (o :: rest) a w := by
  subst hc
  obtain ⟨t, hg, hs⟩ := row_of hr
  cases d <;> first | exact wpList_load_row hgd ty x ho n hx t _ (0, 0) _ hg hu rfl (by rw [hi, hs]) h | cases hd
theorem wpList_storeR {ty : TypeId} {k : Nat} (hi : (Tryd.prog.info? ty).map (·.size) = some k)
    {ops : Array Oper} {rest : List Oper} {o : Oper} {a : Act} {w : World} {Q : Exit → Act → World → Prop} (hgd : o.guard = none) (x y : Operand) (ho : o.op = .store ty x y)
    (n : Nat) (hx : a.eval x = .pointer (some ⟨n, 0, none⟩)) (z : List Int) (hy : a.eval y = .agg (S z)) (hz : z.length = k) (hr : isRowB w n k = true) (w' : World) (hw : w.setRow n (S z) = w')
    (h : wpList Tryd.prog ops Q rest (a.put o.dst undef) w') : wpList Tryd.prog ops Q (o :: rest) a w := by
  subst hw
  obtain ⟨t, hg, hs⟩ := row_of hr
  exact wpList_store_row hgd ty x y ho n (S z) hx hy t _ hg (by rw [hi, S_size, hz]) (by rw [hs, S_size, hz]) (S_one z) h
theorem size8 : (Tryd.prog.info? 31).map (·.size) = some 8 := by kernel_rfl
theorem size16 : (Tryd.prog.info? 119).map (·.size) = some 16 := by kernel_rfl
theorem size128 : (Tryd.prog.info? 32).map (·.size) = some 128 := by kernel_rfl

set_option maxRecDepth 100000 in
set_option maxHeartbeats 1000000 in
theorem plValue_any (p : PutN) (l mem : List Int) (w : World) (hp : okPut p) (hl : WL 16 l) (hm : WL 128 mem) :
    Calls Tryd.prog 126 #[.agg (putV p), .agg (S l), .agg (S mem)] w fun e' w' => e' = .returned (.int .i64 (vD l mem p)) ∧ Below w.heap.size w w' := by
  have hb3 : ∀ o1 o2 o3, Below w.heap.size w (((w.alloc o1).alloc o2).alloc o3) := fun o1 o2 o3 => below3 w o1 o2 o3
  have HB := hide hb3
  clear hb3
  obtain ⟨kind, d, a, b, k⟩ := p
  obtain ⟨d16, a16, b16, hc⟩ := hp
  dsimp only at d16 a16 b16 hc
  simp only [putV]
  have la := hl.1
  have ha := S_get l a (by omega)
  have hb := S_get l b (by omega)
  have wa := hl.at a16
  have wb := hl.at b16
  have a16' : (a : Int) < 16 := by omega
  have b16' : (b : Int) < 16 := by omega
  have ea : gz l a = l.getD a 0 := rfl
  have eb : gz l b = l.getD b 0 := rfl
  rw [ea] at ha
  rw [eb] at hb
  clear ea eb
  rcases hc with ⟨rfl, rfl, rfl⟩ | ⟨k2, k5, rfl⟩ | ⟨rfl, rfl, hk⟩ | ⟨rfl, rfl, rfl⟩
  · have HV : Hid (vD l mem ⟨1, d, 0, 0, k⟩ = (k : Int)) := rfl
    go_enter Tryd.func126, Tryd.ntmps126
    go_wp2_with fail
    go_ret
    exact ⟨ret_int HV.out.symm, HB.out _ _ _⟩
  · have HV : Hid (vD l mem ⟨kind, d, a, b, 0⟩ = wk kind (l.getD a 0) (l.getD b 0)) := by unfold Hid vD; dsimp only; rw [if_neg (by omega), if_neg (by omega), if_neg (by omega)]
    have q1 : ((kind : Int) == 1) = false := by simp; omega
    have q6 : ((kind : Int) == 6) = false := by simp; omega
    have q7 : ((kind : Int) == 7) = false := by simp; omega
    have HR := hide (fun w' => reckon_any kind (l.getD a 0) (l.getD b 0) w' wa.1 wa.2 wb.1 wb.2 (by omega) (by omega))
    generalize l.getD a 0 = x at *
    generalize l.getD b 0 = y at *
    clear k2 k5
    go_enter Tryd.func126, Tryd.ntmps126
    go_wp2_with fail
    go_quiet ((go_at_call 138; exact Calls.quiet_of_same (unhide HR _)))
    go_wp2_with fail
    go_ret
    exact ⟨ret_int HV.out.symm, below_drewN (HB.out _ _ _) nq⟩
  · obtain ⟨m, hmm⟩ := Int.eq_ofNat_of_zero_le (show 0 ≤ (l.getD a 0 + (k : Int)) % 128 by omega)
    have hm1 : m < 128 := by omega
    have HV : Hid (vD l mem ⟨6, d, a, 0, k⟩ = mem.getD m 0) := by unfold Hid vD; dsimp only; rw [if_neg (by omega), if_pos rfl, hmm]; rfl
    have hxm := S_get mem m (by rw [hm.1]; exact hm1)
    have em : gz mem m = mem.getD m 0 := rfl
    rw [em] at hxm
    clear em
    have hm1' : (m : Int) < 128 := by omega
    have hr := fun w' => address_any (l.getD a 0) k w' wa.1 wa.2 (by omega) (by omega)
    rw [hmm] at hr
    have HR := hide hr
    clear hr hmm
    generalize l.getD a 0 = x at *
    generalize mem.getD m 0 = y at *
    go_enter Tryd.func126, Tryd.ntmps126
    go_wp2_with fail
    go_quiet ((go_at_call 153; exact Calls.quiet_of_same (unhide HR _)))
    go_wp2_with fail
    go_ret
    exact ⟨ret_int HV.out.symm, below_drewN (HB.out _ _ _) nq⟩
  · have HV : Hid (vD l mem ⟨7, d, a, 0, 0⟩ = l.getD a 0) := rfl
    generalize l.getD a 0 = x at *
    go_enter Tryd.func126, Tryd.ntmps126
    go_wp2_with fail
    go_ret
    exact ⟨ret_int HV.out.symm, HB.out _ _ _⟩
end Go.Proofs.YtmmflekajbeamaaDoor

namespace Go.Proofs.YtmmflekajbeamaaDoor
open Go.RowKit Go.Maps Go.WideMaps
attribute [local go_sem] Go.wp_at_zero Go.wp_at_succ

set_option maxRecDepth 100000 in
set_option maxHeartbeats 2000000 in
theorem op_tab (B N : Nat) (T : List Ex) (ds : List (List UInt8)) (b : Nat) (v : Value) (kind p q : Nat) (x y : List UInt8) (w : World) (h : TabAt B N T b v w) (hT : TI T ds) (hp : Tells T ds p x) (hq : Tells T ds q y) (k2 : 2 ≤ kind) (k5 : kind ≤ 5) (hl : T.length ≤ 900) :
    Calls Tryd.prog 164 #[.pointer (some ⟨N, 0, none⟩), .int .i64 (kind : Int), .int .i64 (p : Int), .int .i64 (q : Int)] w (TabPost B N b T ds w 2 (jnS kind x y)) := by
  have hNlt := h.nlt
  have hBw : B ≤ w.heap.size := Nat.le_trans h.bN (Nat.le_of_lt h.nlt)
  obtain ⟨e, hn⟩ : ∃ e, T[p]? = some e := ⟨_, List.getElem?_eq_getElem hp.1⟩
  obtain ⟨f, hm⟩ : ∃ f, T[q]? = some f := ⟨_, List.getElem?_eq_getElem hq.1⟩
  obtain ⟨hc1, hc2⟩ := hT.con hn
  obtain ⟨hd1, hd2⟩ := hT.con hm
  rw [hp.2] at hc1 hc2
  rw [hq.2] at hd1 hd2
  have hpx : ds.getD p [] = x := hp.2
  have hqy : ds.getD q [] = y := hq.2
  obtain ⟨g, cap, rfl, _, hgl⟩ := h.ls.form (by have := hp.1; omega)
  obtain ⟨x0, x1, x2, x3⟩ := ex_cells h.ls p e hn
  obtain ⟨y0, y1, y2, y3⟩ := ex_cells h.ls q f hm
  have c1 := h.c1
  have hpl := hp.1
  have hql := hq.1
  have hp' : (p : Int) < (T.length : Int) := by omega
  have hq' : (q : Int) < (T.length : Int) := by omega
  have HP := hide h; have HT := hide hT
  obtain ⟨ek, ea, eb, ev⟩ := e
  obtain ⟨fk, fa, fb, fv⟩ := f
  simp only at x0 x1 x2 x3 y0 y1 y2 y3 hc1 hc2 hd1 hd2
  clear h hT hp hq
  have n1 := World.new_ne w _ c1
  have n2 := World.new_ne w _ x0
  have hb1 : ∀ o1 o2, Below w.heap.size w ((w.alloc o1).alloc o2).drew := fun o1 o2 => (((Below.refl _ _).alloc (Nat.le_refl _) _).alloc (by rw [size_alloc1]; omega) _).drew
  have HB1 := hide hb1
  clear hb1
  by_cases hcon : ek = 1 ∧ fk = 1
  · obtain ⟨rfl, rfl⟩ := hcon
    obtain ⟨hx, hev⟩ := hc2 rfl
    obtain ⟨hy, hfv⟩ := hd2 rfl
    have HX : Hid (jnS kind x y = sCon (wk kind ev fv).toNat) := by unfold Hid jnS; rw [if_pos ⟨hc1.1 rfl, hd1.1 rfl⟩, hx, hy, valX_con _ hev, valX_con _ hfv]
    have hr := fun w' => reckon_any kind ev fv w' (by omega) (by omega) (by omega) (by omega) (by omega) (by omega)
    have hwb := wk_bd kind ev fv (by omega) (by omega) (by omega) (by omega)
    obtain ⟨c, hc⟩ := Int.eq_ofNat_of_zero_le hwb.1
    rw [hc] at hr hwb HX
    rw [Int.toNat_natCast] at HX
    have HR := hide hr
    have hcl : c < 4294967296 := by omega
    have HCo := hide (fun o1 o2 => constant_any B N T ds b _ c ((w.alloc o1).alloc o2).drew (((HP.out.alloc o1).alloc o2).drew) HT.out hcl (by omega))
    clear hr hwb hc hc1 hc2 hd1 hd2 hx hy hpx hqy
    have x0' : w.cell? ⟨g, p * 4, none⟩ = some (.int .i64 1) := x0
    have y0' : w.cell? ⟨g, q * 4, none⟩ = some (.int .i64 1) := y0
    clear x0 y0
    go_enter Tryd.func164, Tryd.ntmps164
    go_wp2_with fail
    go_region_held3 (fun w' => w'.cell? ⟨N, 1, none⟩ = some (.slice (some ⟨g, 0, none⟩) T.length cap) ∧ w'.cell? ⟨g, p * 4, none⟩ = some (.int .i64 1) ∧ w'.cell? ⟨g, p * 4 + 1, none⟩ = some (.int .i64 (ea : Int)) ∧ w'.cell? ⟨g, p * 4 + 1 + 1, none⟩ = some (.int .i64 (eb : Int)) ∧ w'.cell? ⟨g, p * 4 + 1 + 1 + 1, none⟩ = some (.int .i64 (ev : Int)) ∧ w'.cell? ⟨g, q * 4, none⟩ = some (.int .i64 1) ∧ w'.cell? ⟨g, q * 4 + 1, none⟩ = some (.int .i64 (fa : Int)) ∧ w'.cell? ⟨g, q * 4 + 1 + 1, none⟩ = some (.int .i64 (fb : Int)) ∧ w'.cell? ⟨g, q * 4 + 1 + 1 + 1, none⟩ = some (.int .i64 (fv : Int))) (go_keep) (fail)
    all_goals
      clear n1 n2
      go_wp2_with fail
      refine (unhide HR _).mono ?_
      rintro e w' ⟨rfl, hw⟩
      obtain rfl := hw.symm
      go_wp2_with fail
      refine (unhide HCo _ _).mono ?_
      rw [← HX.out]
      rintro e w3 ⟨n3, T3, ds3, v3, rfl, q2, q3, q4, q5, q6, q7⟩
      have HQ : Hid (TabPost B N b T ds w 2 (jnS kind x y) (.returned (.int .i64 (n3 : Int))) w3) := ⟨n3, T3, ds3, v3, rfl, q2, q3, q4, q5, (TFr.above hBw (HB1.out _ _)).trans q6, by omega⟩
      clear q2 q3 q4 q5 q6 q7
      go_wp2_with fail
      go_ret
      exact HQ.out
  · have hcf : ¬ (isCon x = true ∧ isCon y = true) := fun hq => hcon ⟨hc1.2 hq.1, hd1.2 hq.2⟩
    have HX : Hid (jnS kind x y = sOp kind x y) := by unfold Hid jnS; rw [if_neg hcf]
    have hq1 : ((ek : Int) == 1) = false ∨ (ek = 1 ∧ ((fk : Int) == 1) = false) := by
      by_cases h1 : ek = 1
      · right; exact ⟨h1, by simp; omega⟩
      · left; simp; omega
    clear hcf hcon
    have he : okE T.length (kind, p, q, 0) := .inr (.inr (.inl ⟨k2, k5, hpl, hql, rfl⟩))
    have hst : strE ds (kind, p, q, 0) = jnS kind x y := by
      rw [HX.out]
      unfold strE
      rw [if_neg (by dsimp only; omega), if_neg (by dsimp only; omega), if_neg (by dsimp only; omega)]
      dsimp only
      rw [hpx, hqy]
    have hh : ∀ o1 o2, Calls Tryd.prog 162 #[.pointer (some ⟨N, 0, none⟩), .agg #[.int .i64 (kind : Int), .int .i64 (p : Int), .int .i64 (q : Int), .int .i64 0]] ((w.alloc o1).alloc o2).drew (TabPost B N b T ds ((w.alloc o1).alloc o2).drew 1 (strE ds (kind, p, q, 0))) := fun o1 o2 =>
      (hold_any B N T ds b _ (kind, p, q, 0) _ (((HP.out.alloc o1).alloc o2).drew) HT.out (okE_B he (by omega)) (by omega)).mono fun _ _ hp => hold_tells HT.out he hp
    rw [hst] at hh
    have HH := hide hh
    clear hh he hst hc1 hc2 hd1 hd2 hpx hqy
    rcases hq1 with q1 | ⟨rfl, q1⟩
    · go_enter Tryd.func164, Tryd.ntmps164
      go_wp2_with fail
      go_region_held3 (fun w' => w'.cell? ⟨N, 1, none⟩ = some (.slice (some ⟨g, 0, none⟩) T.length cap) ∧ w'.cell? ⟨g, p * 4, none⟩ = some (.int .i64 (ek : Int)) ∧ w'.cell? ⟨g, p * 4 + 1, none⟩ = some (.int .i64 (ea : Int)) ∧ w'.cell? ⟨g, p * 4 + 1 + 1, none⟩ = some (.int .i64 (eb : Int)) ∧ w'.cell? ⟨g, p * 4 + 1 + 1 + 1, none⟩ = some (.int .i64 (ev : Int)) ∧ w'.cell? ⟨g, q * 4, none⟩ = some (.int .i64 (fk : Int)) ∧ w'.cell? ⟨g, q * 4 + 1, none⟩ = some (.int .i64 (fa : Int)) ∧ w'.cell? ⟨g, q * 4 + 1 + 1, none⟩ = some (.int .i64 (fb : Int)) ∧ w'.cell? ⟨g, q * 4 + 1 + 1 + 1, none⟩ = some (.int .i64 (fv : Int))) (go_keep) (fail)
      all_goals
        clear n1 n2
        go_wp2_with fail
        refine (unhide HH _ _).mono ?_
        rintro e w3 ⟨n3, T3, ds3, v3, rfl, q2, q3, q4, q5, q6, q7⟩
        have HQ : Hid (TabPost B N b T ds w 2 (jnS kind x y) (.returned (.int .i64 (n3 : Int))) w3) := ⟨n3, T3, ds3, v3, rfl, q2, q3, q4, q5, (TFr.above hBw (HB1.out _ _)).trans q6, by omega⟩
        clear q2 q3 q4 q5 q6 q7
        go_wp2_with fail
        go_ret
        exact HQ.out
    · have x0' : w.cell? ⟨g, p * 4, none⟩ = some (.int .i64 1) := x0
      clear x0
      go_enter Tryd.func164, Tryd.ntmps164
      go_wp2_with fail
      go_region_held3 (fun w' => w'.cell? ⟨N, 1, none⟩ = some (.slice (some ⟨g, 0, none⟩) T.length cap) ∧ w'.cell? ⟨g, p * 4, none⟩ = some (.int .i64 1) ∧ w'.cell? ⟨g, p * 4 + 1, none⟩ = some (.int .i64 (ea : Int)) ∧ w'.cell? ⟨g, p * 4 + 1 + 1, none⟩ = some (.int .i64 (eb : Int)) ∧ w'.cell? ⟨g, p * 4 + 1 + 1 + 1, none⟩ = some (.int .i64 (ev : Int)) ∧ w'.cell? ⟨g, q * 4, none⟩ = some (.int .i64 (fk : Int)) ∧ w'.cell? ⟨g, q * 4 + 1, none⟩ = some (.int .i64 (fa : Int)) ∧ w'.cell? ⟨g, q * 4 + 1 + 1, none⟩ = some (.int .i64 (fb : Int)) ∧ w'.cell? ⟨g, q * 4 + 1 + 1 + 1, none⟩ = some (.int .i64 (fv : Int))) (go_keep) (fail)
      all_goals
        clear n1 n2
        go_wp2_with fail
        refine (unhide HH _ _).mono ?_
        rintro e w3 ⟨n3, T3, ds3, v3, rfl, q2, q3, q4, q5, q6, q7⟩
        have HQ : Hid (TabPost B N b T ds w 2 (jnS kind x y) (.returned (.int .i64 (n3 : Int))) w3) := ⟨n3, T3, ds3, v3, rfl, q2, q3, q4, q5, (TFr.above hBw (HB1.out _ _)).trans q6, by omega⟩
        clear q2 q3 q4 q5 q6 q7
        go_wp2_with fail
        go_ret
        exact HQ.out
end Go.Proofs.YtmmflekajbeamaaDoor

namespace Go.Proofs.YtmmflekajbeamaaDoor
open Go.RowKit Go.Maps Go.WideMaps

def nI (ns : List Nat) : List Int := ns.map fun n : Nat => (n : Int)
theorem nI_len (ns : List Nat) : (nI ns).length = ns.length := by simp [nI]
theorem nI_get (ns : List Nat) (i : Nat) : gz (nI ns) i = (ns.getD i 0 : Nat) := by
  unfold gz nI
  rw [List.getD_eq_getElem?_getD, List.getElem?_map, List.getD_eq_getElem?_getD]
  cases ns[i]? <;> rfl
theorem nI_set (ns : List Nat) (i n : Nat) : (nI ns).set i (n : Int) = nI (ns.set i n) := by
  unfold nI
  rw [List.map_set]
theorem Tells.bd {T : List Ex} {ds : List (List UInt8)} {n : Nat} {x : List UInt8} (h : Tells T ds n x) : n < T.length := h.1

set_option maxRecDepth 100000 in
set_option maxHeartbeats 1000000 in
theorem value_tab (B N : Nat) (T : List Ex) (ds : List (List UInt8)) (b : Nat) (v : Value) (p : PutN) (ns : List Nat) (l : List (List UInt8)) (w : World) (h : TabAt B N T b v w) (hT : TI T ds) (hs : Slots T ds ns l) (hp : okPut p) (hk : p.k < 4294967296) (hl : T.length ≤ 900) :
    Calls Tryd.prog 143 #[.pointer (some ⟨N, 0, none⟩), .agg (putV p), .agg (S (nI ns))] w (TabPost B N b T ds w 2 (vS l p)) := by
  have hBw : B ≤ w.heap.size := Nat.le_trans h.bN (Nat.le_of_lt h.nlt)
  have hb2 : ∀ o1 o2, Below w.heap.size w ((w.alloc o1).alloc o2) := fun o1 o2 => ((Below.refl _ _).alloc (Nat.le_refl _) _).alloc (by rw [size_alloc1]; omega) _
  have HB := hide hb2
  have HP := hide h; have HT := hide hT
  clear hb2
  obtain ⟨kind, d, a, c, k⟩ := p
  obtain ⟨d16, a16, b16, hc⟩ := hp
  dsimp only at d16 a16 b16 hc hk
  simp only [putV]
  have ln := hs.n16
  have ha := S_get (nI ns) a (by rw [nI_len]; omega)
  have hb := S_get (nI ns) c (by rw [nI_len]; omega)
  rw [nI_get] at ha hb
  have ta := hs.tell a a16
  have tb := hs.tell c b16
  have a16' : (a : Int) < 16 := by omega
  have b16' : (c : Int) < 16 := by omega
  clear h hT hs
  rcases hc with ⟨rfl, rfl, rfl⟩ | ⟨k2, k5, rfl⟩ | ⟨rfl, rfl, hk6⟩ | ⟨rfl, rfl, rfl⟩
  · have HV : Hid (vS l ⟨1, d, 0, 0, k⟩ = sCon k) := rfl
    have HC := hide (fun o1 o2 => constant_any B N T ds b v k ((w.alloc o1).alloc o2) ((HP.out.alloc o1).alloc o2) HT.out hk (by omega))
    go_enter Tryd.func143, Tryd.ntmps143
    go_wp2_with fail
    refine (unhide HC _ _).mono ?_
    rintro e w3 ⟨n3, T3, ds3, v3, rfl, q2, q3, q4, q5, q6, q7⟩
    have HQ : Hid (TabPost B N b T ds w 2 (sCon k) (.returned (.int .i64 (n3 : Int))) w3) := ⟨n3, T3, ds3, v3, rfl, q2, q3, q4, q5, (TFr.above hBw (HB.out _ _)).trans q6, by omega⟩
    clear q2 q3 q4 q5 q6 q7
    go_wp2_with fail
    go_ret
    rw [HV.out]
    exact HQ.out
  · have HV : Hid (vS l ⟨kind, d, a, c, 0⟩ = jnS kind (l.getD a []) (l.getD c [])) := by unfold Hid vS; dsimp only; rw [if_neg (by omega), if_neg (by omega), if_neg (by omega)]
    have q1 : ((kind : Int) == 1) = false := by simp; omega
    have q6 : ((kind : Int) == 6) = false := by simp; omega
    have q7 : ((kind : Int) == 7) = false := by simp; omega
    have HC := hide (fun o1 o2 => op_tab B N T ds b v kind _ _ _ _ ((w.alloc o1).alloc o2).drew ((HP.out.alloc o1).alloc o2).drew HT.out ta tb k2 k5 hl)
    generalize ns.getD a 0 = x at *
    generalize ns.getD c 0 = y at *
    clear ta tb
    go_enter Tryd.func143, Tryd.ntmps143
    go_wp2_with fail
    refine still_tail 11 (by kernel_rfl) (by kernel_rfl) ?_
    simp only [List.take_succ_cons, List.take_zero, List.drop_succ_cons, List.drop_zero]
    repeat still_step
    refine wpStill_nil ?_
    go_wp2_with fail
    refine (unhide HC _ _).mono ?_
    rintro e w3 ⟨n3, T3, ds3, v3, rfl, q2, q3, q4, q5, q6, q7⟩
    have HQ : Hid (TabPost B N b T ds w 2 (jnS kind (l.getD a []) (l.getD c [])) (.returned (.int .i64 (n3 : Int))) w3) := ⟨n3, T3, ds3, v3, rfl, q2, q3, q4, q5, (TFr.above hBw ((HB.out _ _).drew)).trans q6, by omega⟩
    clear q2 q3 q4 q5 q6 q7
    go_wp2_with fail
    go_ret
    rw [HV.out]
    exact HQ.out
  · have HV : Hid (vS l ⟨6, d, a, 0, k⟩ = ldS (l.getD a []) k) := rfl
    have HC := hide (fun o1 o2 => load_tab B N T ds b v _ k _ ((w.alloc o1).alloc o2).drew ((HP.out.alloc o1).alloc o2).drew HT.out ta hk6 hl)
    generalize ns.getD a 0 = x at *
    clear ta tb
    go_enter Tryd.func143, Tryd.ntmps143
    go_wp2_with fail
    refine still_tail 7 (by kernel_rfl) (by kernel_rfl) ?_
    simp only [List.take_succ_cons, List.take_zero, List.drop_succ_cons, List.drop_zero]
    repeat still_step
    refine wpStill_nil ?_
    go_wp2_with fail
    refine (unhide HC _ _).mono ?_
    rintro e w3 ⟨n3, T3, ds3, v3, rfl, q2, q3, q4, q5, q6, q7⟩
    have HQ : Hid (TabPost B N b T ds w 2 (ldS (l.getD a []) k) (.returned (.int .i64 (n3 : Int))) w3) := ⟨n3, T3, ds3, v3, rfl, q2, q3, q4, q5, (TFr.above hBw ((HB.out _ _).drew)).trans q6, by omega⟩
    clear q2 q3 q4 q5 q6 q7
    go_wp2_with fail
    go_ret
    rw [HV.out]
    exact HQ.out
  · have HV : Hid (vS l ⟨7, d, a, 0, 0⟩ = l.getD a []) := rfl
    have HQ : Hid (∀ o1 o2, TabPost B N b T ds w 2 (vS l ⟨7, d, a, 0, 0⟩) (.returned (.int .i64 ((ns.getD a 0 : Nat) : Int))) ((w.alloc o1).alloc o2)) := fun o1 o2 => by
      rw [HV.out]
      exact ⟨_, T, ds, v, rfl, (HP.out.alloc o1).alloc o2, HT.out, More.refl _ _, ta, TFr.above hBw (HB.out _ _), by omega⟩
    generalize ns.getD a 0 = x at *
    clear ta tb
    go_enter Tryd.func143, Tryd.ntmps143
    go_wp2_with fail
    go_ret
    exact HQ.out _ _
end Go.Proofs.YtmmflekajbeamaaDoor
