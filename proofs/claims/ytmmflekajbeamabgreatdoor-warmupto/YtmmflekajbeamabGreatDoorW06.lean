/-
  Plans: constants, registers, ops and loads in the table.
  Plans: what a put lays into its slot (plans.value); whole rows of numbers.
  Plans: an op of two expressions in the table; what a put lays into its slot (table.op, table.value).
  Plans: the expression that a put lays into its slot (table.value).
-/
import Derived.Test.YtmmflekajbeamabGreatDoorW05
import Derived.Deep.QuietTactic
import Derived.BigQuiet
import Derived.Deep.RegionHeld3
import Derived.Deep.DrawnRows
namespace Go.Proofs.YtmmflekajbeamabGreatDoor
open Go.RowKit Go.Maps Go.WideMaps

theorem flat_at {α : Type} (f : α → List Value) (m : Nat) (hf : ∀ a, (f a).length = m) : ∀ (l : List α) (k : Nat) (x : α), l[k]? = some x → ∀ j, j < m → (l.flatMap f)[k * m + j]? = (f x)[j]? := by
  intro l
  induction l with
  | nil => intro k x hk; simp at hk
  | cons a l ih =>
    intro k x hk j hj
    rw [List.flatMap_cons]
    match k, hk with
    | 0, hk =>
      simp at hk
      subst hk
      rw [Nat.zero_mul, Nat.zero_add, List.getElem?_append_left (by rw [hf]; exact hj)]
    | k + 1, hk =>
      rw [List.getElem?_append_right (by rw [hf, Nat.succ_mul]; omega), hf, show (k + 1) * m + j - m = k * m + j by rw [Nat.succ_mul]; omega]
      exact ih k x (by simpa using hk) j hj
theorem flat_len {α : Type} (f : α → List Value) (m : Nat) (hf : ∀ a, (f a).length = m) (l : List α) : (l.flatMap f).length = l.length * m := by
  induction l with
  | nil => simp
  | cons a l ih => rw [List.flatMap_cons, List.length_append, hf, ih, List.length_cons, Nat.succ_mul]; omega
theorem ex_cells {w : World} {B : Nat} {g cap : Nat} {T : List Ex} (h : w.ownsRow B 251 4 (.slice (some ⟨g, 0, none⟩) T.length cap) T.length (exCs T)) (n : Nat) (e : Ex) (hn : T[n]? = some e) :
    w.cell? ⟨g, n * 4, none⟩ = some (.int .i64 (e.1 : Int)) ∧ w.cell? ⟨g, n * 4 + 1, none⟩ = some (.int .i64 (e.2.1 : Int)) ∧ w.cell? ⟨g, n * 4 + 1 + 1, none⟩ = some (.int .i64 (e.2.2.1 : Int)) ∧ w.cell? ⟨g, n * 4 + 1 + 1 + 1, none⟩ = some (.int .i64 (e.2.2.2 : Int)) := by
  have hlt : n < T.length := (List.getElem?_eq_some_iff.1 hn).1
  have key := flat_at exC 4 (fun _ => rfl) T n e hn
  have k0 := key 0 (by decide); have k1 := key 1 (by decide); have k2 := key 2 (by decide); have k3 := key 3 (by decide)
  refine ⟨?_, ?_, ?_, ?_⟩
  · rw [h.cellAt _ (by omega)]; exact k0
  · rw [h.cellAt _ (by omega)]; exact k1
  · rw [h.cellAt _ (by omega)]; exact k2
  · rw [h.cellAt _ (by omega)]; exact k3
/-- What a call leaves that gives an expression's number: the number tells the text. -/
def TabPost (B N b : Nat) (T : List Ex) (ds : List (List UInt8)) (w : World) (m : Nat) (x : List UInt8) (e' : Ending) (w' : World) : Prop :=
  ∃ n T' ds' v', e' = .returned (.int .i64 ((n : Nat) : Int)) ∧ TabAt B N T' b v' w' ∧ TI T' ds' ∧ More T ds T' ds' ∧ Tells T' ds' n x ∧ TFr B N b w w' ∧ T'.length ≤ T.length + m
theorem hold_tells {B N b : Nat} {T : List Ex} {ds : List (List UInt8)} {w : World} {e : Ex} {e' : Ending} {w' : World} (hT : TI T ds) (he : okE T.length e) (h : HoldPost B N b T w e e' w') : TabPost B N b T ds w 1 (strE ds e) e' w' := by
  obtain ⟨n, T', v', h1, h2, h3, ⟨rfl, h5⟩ | ⟨rfl, rfl, h6⟩⟩ := h
  · exact ⟨n, _, ds, v', h1, h2, hT, More.refl _ _, hT.told h5, h3, by omega⟩
  · exact ⟨_, _, ds ++ [strE ds e], v', h1, h2, hT.add he h6, More.add _ _ _ _, hT.told_new e, h3, by simp⟩
set_option maxRecDepth 100000 in
set_option maxHeartbeats 1000000 in
theorem constant_any (B N : Nat) (T : List Ex) (ds : List (List UInt8)) (b : Nat) (v : Value) (c : Nat) (w : World) (h : TabAt B N T b v w) (hT : TI T ds) (hc : c < 4294967296) (hl : T.length ≤ 1000) :
    Calls Tryz.prog 138 #[.pointer (some ⟨N, 0, none⟩), .int .i64 (c : Int)] w (TabPost B N b T ds w 1 (sCon c)) := by
  have he : okE T.length (1, 0, 0, c) := .inr (.inl ⟨rfl, rfl, rfl, hc⟩)
  have hh : Calls Tryz.prog 186 #[.pointer (some ⟨N, 0, none⟩), .agg #[.int .i64 1, .int .i64 0, .int .i64 0, .int .i64 (c : Int)]] w (TabPost B N b T ds w 1 (sCon c)) :=
    (hold_any B N T ds b v (1, 0, 0, c) w h hT (okE_B he hl) hl).mono fun _ _ hp => hold_tells hT he hp
  have HH := hide hh
  clear hh he
  go_enter Tryz.func138, Tryz.ntmps138
  go_wp2_with fail
  refine (unhide HH).mono ?_
  rintro e w1 ⟨n, T', ds', v', rfl, h2⟩
  have H2 := hide h2
  clear h2
  go_wp2_with fail
  go_ret
  exact ⟨n, T', ds', v', rfl, H2.out⟩

set_option maxRecDepth 100000 in
set_option maxHeartbeats 1000000 in
theorem register_tab (B N : Nat) (T : List Ex) (ds : List (List UInt8)) (b : Nat) (v : Value) (q : Nat) (w : World) (h : TabAt B N T b v w) (hT : TI T ds) (hq : q < 8) (hl : T.length ≤ 1000) :
    Calls Tryz.prog 137 #[.pointer (some ⟨N, 0, none⟩), .int .i64 (q : Int)] w (TabPost B N b T ds w 1 (sReg q)) := by
  have he : okE T.length (0, 0, 0, q) := .inl ⟨rfl, rfl, rfl, hq⟩
  have hh : Calls Tryz.prog 186 #[.pointer (some ⟨N, 0, none⟩), .agg #[.int .i64 0, .int .i64 0, .int .i64 0, .int .i64 (q : Int)]] w (TabPost B N b T ds w 1 (sReg q)) :=
    (hold_any B N T ds b v (0, 0, 0, q) w h hT (okE_B he hl) hl).mono fun _ _ hp => hold_tells hT he hp
  have HH := hide hh
  clear hh he
  go_enter Tryz.func137, Tryz.ntmps137
  go_wp2_with fail
  refine (unhide HH).mono ?_
  rintro e w1 ⟨n, T', ds', v', rfl, h2⟩
  have H2 := hide h2
  clear h2
  go_wp2_with fail
  go_ret
  exact ⟨n, T', ds', v', rfl, H2.out⟩

set_option maxRecDepth 100000 in
set_option maxHeartbeats 1000000 in
theorem load_tab (B N : Nat) (T : List Ex) (ds : List (List UInt8)) (b : Nat) (v : Value) (a k : Nat) (x : List UInt8) (w : World) (h : TabAt B N T b v w) (hT : TI T ds) (ha : Tells T ds a x) (hk : k ≤ 4095) (hl : T.length ≤ 900) :
    Calls Tryz.prog 187 #[.pointer (some ⟨N, 0, none⟩), .int .i64 (a : Int), .int .i64 (k : Int)] w (TabPost B N b T ds w 2 (ldS x k)) := by
  have hBw : B ≤ w.heap.size := Nat.le_trans h.bN (Nat.le_of_lt h.nlt)
  obtain ⟨e, hn⟩ : ∃ e, T[a]? = some e := ⟨_, List.getElem?_eq_getElem ha.1⟩
  obtain ⟨hc1, hc2⟩ := hT.con hn
  rw [ha.2] at hc1 hc2
  have hax : ds.getD a [] = x := ha.2
  obtain ⟨g, cap, rfl, _, hgl⟩ := h.ls.form (by have := ha.1; omega)
  obtain ⟨x0, x1, x2, x3⟩ := ex_cells h.ls a e hn
  have c1 := h.c1
  have ha' : (a : Int) < (T.length : Int) := by have := ha.1; omega
  have hal := ha.1
  have HP := hide h; have HT := hide hT
  obtain ⟨ek, ea, eb, ev⟩ := e
  simp only at x0 x1 x2 x3 hc1 hc2
  have hb1 : ∀ o, Below w.heap.size w (w.alloc o) := fun o => (Below.refl _ _).alloc (Nat.le_refl _) _
  have HB1 := hide hb1
  clear h hT hb1
  by_cases hcon : ek = 1
  · subst hcon
    obtain ⟨hx, hev⟩ := hc2 rfl
    have HX : Hid (ldS x k = sLd (sCon ((ev + k) % 128)) 0) := by unfold Hid ldS; rw [if_pos (hc1.1 rfl), hx, valX_con _ hev]
    have HA := hide (fun w' => address_any ev k w' (by omega) (by omega) (by omega) (by omega))
    have e1 : ((ev : Int) + (k : Int)) % 128 = (((ev + k) % 128 : Nat) : Int) := by omega
    rw [e1] at HA
    have HCo := hide (fun o => constant_any B N T ds b _ ((ev + k) % 128) (w.alloc o) (HP.out.alloc o) HT.out (by omega) (by omega))
    have hcl : (ev + k) % 128 < 128 := Nat.mod_lt _ (by decide)
    generalize (ev + k) % 128 = c at *
    clear e1 hc1 hc2
    go_enter Tryz.func187, Tryz.ntmps187
    go_wp2_with fail
    refine (unhide HA _).mono ?_
    rintro e w' ⟨rfl, hw⟩
    obtain rfl := hw.symm
    go_wp2_with fail
    refine (unhide HCo _).mono ?_
    rintro e w2 ⟨n, T', ds', v', rfl, h2, h3, h4, h5, h6, h7⟩
    have he : okE T'.length (6, n, 0, 0) := .inr (.inr (.inr ⟨rfl, h5.1, rfl, by dsimp only; omega⟩))
    have hst : strE ds' (6, n, 0, 0) = ldS x k := by
      rw [HX.out]
      unfold strE
      rw [if_neg (by dsimp only; omega), if_neg (by dsimp only; omega), if_pos rfl]
      dsimp only
      rw [h5.2]
    have hh : Calls Tryz.prog 186 #[.pointer (some ⟨N, 0, none⟩), .agg #[.int .i64 6, .int .i64 (n : Int), .int .i64 0, .int .i64 0]] w2 (TabPost B N b T' ds' w2 1 (strE ds' (6, n, 0, 0))) :=
      (hold_any B N T' ds' b v' (6, n, 0, 0) w2 h2 h3 (okE_B he (by omega)) (by omega)).mono fun _ _ hp => hold_tells h3 he hp
    rw [hst] at hh
    have HH := hide hh
    have H4 := hide h4; have H6 := hide ((TFr.above hBw (HB1.out _)).trans h6); have H7 := hide h7
    clear hh he hst h2 h3 h4 h5 h6 h7
    go_wp2_with fail
    refine (unhide HH).mono ?_
    rintro e w3 ⟨n3, T3, ds3, v3, rfl, q2, q3, q4, q5, q6, q7⟩
    have HQ : Hid (TabPost B N b T ds w 2 (ldS x k) (.returned (.int .i64 (n3 : Int))) w3) := ⟨n3, T3, ds3, v3, rfl, q2, q3, H4.out.trans q4, q5, H6.out.trans q6, by have := H7.out; omega⟩
    clear q2 q3 q4 q5 q6 q7
    go_wp2_with fail
    go_ret
    exact HQ.out
  · have hcf : isCon x = false := by
      cases hq : isCon x
      · rfl
      · exact absurd (hc1.2 hq) hcon
    have HX : Hid (ldS x k = sLd x k) := by unfold Hid ldS; rw [if_neg (by rw [hcf]; decide)]
    have q1 : ((ek : Int) == 1) = false := by simp; omega
    have he : okE T.length (6, a, 0, k) := .inr (.inr (.inr ⟨rfl, hal, rfl, hk⟩))
    have hst : strE ds (6, a, 0, k) = ldS x k := by
      rw [HX.out]
      unfold strE
      rw [if_neg (by dsimp only; omega), if_neg (by dsimp only; omega), if_pos rfl]
      dsimp only
      rw [hax]
    have hh : ∀ o, Calls Tryz.prog 186 #[.pointer (some ⟨N, 0, none⟩), .agg #[.int .i64 6, .int .i64 (a : Int), .int .i64 0, .int .i64 (k : Int)]] (w.alloc o) (TabPost B N b T ds (w.alloc o) 1 (strE ds (6, a, 0, k))) := fun o =>
      (hold_any B N T ds b _ (6, a, 0, k) (w.alloc o) (HP.out.alloc o) HT.out (okE_B he (by omega)) (by omega)).mono fun _ _ hp => hold_tells HT.out he hp
    rw [hst] at hh
    have HH := hide hh
    clear hh he hst hc1 hc2 hcon hcf
    go_enter Tryz.func187, Tryz.ntmps187
    go_wp2_with fail
    refine (unhide HH _).mono ?_
    rintro e w3 ⟨n3, T3, ds3, v3, rfl, q2, q3, q4, q5, q6, q7⟩
    have HQ : Hid (TabPost B N b T ds w 2 (ldS x k) (.returned (.int .i64 (n3 : Int))) w3) := ⟨n3, T3, ds3, v3, rfl, q2, q3, q4, q5, (TFr.above hBw (HB1.out _)).trans q6, by omega⟩
    clear q2 q3 q4 q5 q6 q7
    go_wp2_with fail
    go_ret
    exact HQ.out
end Go.Proofs.YtmmflekajbeamabGreatDoor

namespace Go.Proofs.YtmmflekajbeamabGreatDoor
open Go.RowKit

theorem wpList_loadR {ty : TypeId} {k : Nat} {d : TypeDesc} (hd : (match d with | .struct _ | .array _ _ => true | _ => false) = true) (hu : Tryz.prog.underlying ty = some d) (hi : (Tryz.prog.info? ty).map (·.size) = some k)
    {ops : Array Oper} {rest : List Oper} {o : Oper} {a : Act} {w : World} {Q : Exit → Act → World → Prop} (hgd : o.guard = none) (x : Operand) (ho : o.op = .load ty x)
    (n : Nat) (hx : a.eval x = .pointer (some ⟨n, 0, none⟩)) (hr : isRowB w n k = true) (c : Array Value) (hc : rowD w n = c)
    (h : wpList Tryz.prog ops Q rest (a.put o.dst (.agg c)) w) : wpList Tryz.prog ops Q (o :: rest) a w := by
  subst hc
  obtain ⟨t, hg, hs⟩ := row_of hr
  cases d <;> first | exact wpList_load_row hgd ty x ho n hx t _ (0, 0) _ hg hu rfl (by rw [hi, hs]) h | cases hd
theorem wpList_storeR {ty : TypeId} {k : Nat} (hi : (Tryz.prog.info? ty).map (·.size) = some k)
    {ops : Array Oper} {rest : List Oper} {o : Oper} {a : Act} {w : World} {Q : Exit → Act → World → Prop} (hgd : o.guard = none) (x y : Operand) (ho : o.op = .store ty x y)
    (n : Nat) (hx : a.eval x = .pointer (some ⟨n, 0, none⟩)) (z : List Int) (hy : a.eval y = .agg (S z)) (hz : z.length = k) (hr : isRowB w n k = true) (w' : World) (hw : w.setRow n (S z) = w')
    (h : wpList Tryz.prog ops Q rest (a.put o.dst undef) w') : wpList Tryz.prog ops Q (o :: rest) a w := by
  subst hw
  obtain ⟨t, hg, hs⟩ := row_of hr
  exact wpList_store_row hgd ty x y ho n (S z) hx hy t _ hg (by rw [hi, S_size, hz]) (by rw [hs, S_size, hz]) (S_one z) h
theorem size8 : (Tryz.prog.info? 22).map (·.size) = some 8 := by kernel_rfl
theorem size16 : (Tryz.prog.info? 195).map (·.size) = some 16 := by kernel_rfl
theorem size128 : (Tryz.prog.info? 23).map (·.size) = some 128 := by kernel_rfl

set_option maxRecDepth 100000 in
set_option maxHeartbeats 1000000 in
theorem plValue_any (p : PutN) (l mem : List Int) (w : World) (hp : okPut p) (hl : WL 16 l) (hm : WL 128 mem) :
    Calls Tryz.prog 216 #[.agg (putV p), .agg (S l), .agg (S mem)] w fun e' w' => e' = .returned (.int .i64 (vD l mem p)) ∧ Below w.heap.size w w' := by
  have hb3 : ∀ o1 o2 o3, Below w.heap.size w (((w.alloc o1).alloc o2).alloc o3) := fun o1 o2 o3 => below3 w o1 o2 o3
  have HB := hide hb3
  clear hb3
  obtain ⟨kind, d, a, b, k⟩ := p
  obtain ⟨d16, a16, b16, hc⟩ := hp
  dsimp only at d16 a16 b16 hc
  simp only [putV]
  have la := hl.1
  have ha := S_get l a (by omega)
  have hb := S_get l b (by omega)
  have wa := hl.at a16
  have wb := hl.at b16
  have a16' : (a : Int) < 16 := by omega
  have b16' : (b : Int) < 16 := by omega
  have ea : gz l a = l.getD a 0 := rfl
  have eb : gz l b = l.getD b 0 := rfl
  rw [ea] at ha
  rw [eb] at hb
  clear ea eb
  rcases hc with ⟨rfl, rfl, rfl⟩ | ⟨k2, k5, rfl⟩ | ⟨rfl, rfl, hk⟩ | ⟨rfl, rfl, rfl⟩
  · have HV : Hid (vD l mem ⟨1, d, 0, 0, k⟩ = (k : Int)) := rfl
    go_enter Tryz.func216, Tryz.ntmps216
    go_wp2_with fail
    go_ret
    exact ⟨ret_int HV.out.symm, HB.out _ _ _⟩
  · have HV : Hid (vD l mem ⟨kind, d, a, b, 0⟩ = wk kind (l.getD a 0) (l.getD b 0)) := by unfold Hid vD; dsimp only; rw [if_neg (by omega), if_neg (by omega), if_neg (by omega)]
    have q1 : ((kind : Int) == 1) = false := by simp; omega
    have q6 : ((kind : Int) == 6) = false := by simp; omega
    have q7 : ((kind : Int) == 7) = false := by simp; omega
    have HR := hide (fun w' => reckon_any kind (l.getD a 0) (l.getD b 0) w' wa.1 wa.2 wb.1 wb.2 (by omega) (by omega))
    generalize l.getD a 0 = x at *
    generalize l.getD b 0 = y at *
    clear k2 k5
    go_enter Tryz.func216, Tryz.ntmps216
    go_wp2_with fail
    go_quiet ((go_at_call 192; exact Calls.quiet_of_same (unhide HR _)))
    go_wp2_with fail
    go_ret
    exact ⟨ret_int HV.out.symm, below_drewN (HB.out _ _ _) nq⟩
  · obtain ⟨m, hmm⟩ := Int.eq_ofNat_of_zero_le (show 0 ≤ (l.getD a 0 + (k : Int)) % 128 by omega)
    have hm1 : m < 128 := by omega
    have HV : Hid (vD l mem ⟨6, d, a, 0, k⟩ = mem.getD m 0) := by unfold Hid vD; dsimp only; rw [if_neg (by omega), if_pos rfl, hmm]; rfl
    have hxm := S_get mem m (by rw [hm.1]; exact hm1)
    have em : gz mem m = mem.getD m 0 := rfl
    rw [em] at hxm
    clear em
    have hm1' : (m : Int) < 128 := by omega
    have hr := fun w' => address_any (l.getD a 0) k w' wa.1 wa.2 (by omega) (by omega)
    rw [hmm] at hr
    have HR := hide hr
    clear hr hmm
    generalize l.getD a 0 = x at *
    generalize mem.getD m 0 = y at *
    go_enter Tryz.func216, Tryz.ntmps216
    go_wp2_with fail
    go_quiet ((go_at_call 193; exact Calls.quiet_of_same (unhide HR _)))
    go_wp2_with fail
    go_ret
    exact ⟨ret_int HV.out.symm, below_drewN (HB.out _ _ _) nq⟩
  · have HV : Hid (vD l mem ⟨7, d, a, 0, 0⟩ = l.getD a 0) := rfl
    generalize l.getD a 0 = x at *
    go_enter Tryz.func216, Tryz.ntmps216
    go_wp2_with fail
    go_ret
    exact ⟨ret_int HV.out.symm, HB.out _ _ _⟩
end Go.Proofs.YtmmflekajbeamabGreatDoor

namespace Go.Proofs.YtmmflekajbeamabGreatDoor
open Go.RowKit Go.Maps Go.WideMaps
attribute [local go_sem] Go.wp_at_zero Go.wp_at_succ

set_option maxRecDepth 100000 in
set_option maxHeartbeats 2000000 in
theorem op_tab (B N : Nat) (T : List Ex) (ds : List (List UInt8)) (b : Nat) (v : Value) (kind p q : Nat) (x y : List UInt8) (w : World) (h : TabAt B N T b v w) (hT : TI T ds) (hp : Tells T ds p x) (hq : Tells T ds q y) (k2 : 2 ≤ kind) (k5 : kind ≤ 5) (hl : T.length ≤ 900) :
    Calls Tryz.prog 188 #[.pointer (some ⟨N, 0, none⟩), .int .i64 (kind : Int), .int .i64 (p : Int), .int .i64 (q : Int)] w (TabPost B N b T ds w 2 (jnS kind x y)) := by
  have hNlt := h.nlt
  have hBw : B ≤ w.heap.size := Nat.le_trans h.bN (Nat.le_of_lt h.nlt)
  obtain ⟨e, hn⟩ : ∃ e, T[p]? = some e := ⟨_, List.getElem?_eq_getElem hp.1⟩
  obtain ⟨f, hm⟩ : ∃ f, T[q]? = some f := ⟨_, List.getElem?_eq_getElem hq.1⟩
  obtain ⟨hc1, hc2⟩ := hT.con hn
  obtain ⟨hd1, hd2⟩ := hT.con hm
  rw [hp.2] at hc1 hc2
  rw [hq.2] at hd1 hd2
  have hpx : ds.getD p [] = x := hp.2
  have hqy : ds.getD q [] = y := hq.2
  obtain ⟨g, cap, rfl, _, hgl⟩ := h.ls.form (by have := hp.1; omega)
  obtain ⟨x0, x1, x2, x3⟩ := ex_cells h.ls p e hn
  obtain ⟨y0, y1, y2, y3⟩ := ex_cells h.ls q f hm
  have c1 := h.c1
  have hpl := hp.1
  have hql := hq.1
  have hp' : (p : Int) < (T.length : Int) := by omega
  have hq' : (q : Int) < (T.length : Int) := by omega
  have HP := hide h; have HT := hide hT
  obtain ⟨ek, ea, eb, ev⟩ := e
  obtain ⟨fk, fa, fb, fv⟩ := f
  simp only at x0 x1 x2 x3 y0 y1 y2 y3 hc1 hc2 hd1 hd2
  clear h hT hp hq
  have n1 := World.new_ne w _ c1
  have n2 := World.new_ne w _ x0
  have hb1 : ∀ o1 o2, Below w.heap.size w ((w.alloc o1).alloc o2).drew := fun o1 o2 => (((Below.refl _ _).alloc (Nat.le_refl _) _).alloc (by rw [size_alloc1]; omega) _).drew
  have HB1 := hide hb1
  clear hb1
  by_cases hcon : ek = 1 ∧ fk = 1
  · obtain ⟨rfl, rfl⟩ := hcon
    obtain ⟨hx, hev⟩ := hc2 rfl
    obtain ⟨hy, hfv⟩ := hd2 rfl
    have HX : Hid (jnS kind x y = sCon (wk kind ev fv).toNat) := by unfold Hid jnS; rw [if_pos ⟨hc1.1 rfl, hd1.1 rfl⟩, hx, hy, valX_con _ hev, valX_con _ hfv]
    have hr := fun w' => reckon_any kind ev fv w' (by omega) (by omega) (by omega) (by omega) (by omega) (by omega)
    have hwb := wk_bd kind ev fv (by omega) (by omega) (by omega) (by omega)
    obtain ⟨c, hc⟩ := Int.eq_ofNat_of_zero_le hwb.1
    rw [hc] at hr hwb HX
    rw [Int.toNat_natCast] at HX
    have HR := hide hr
    have hcl : c < 4294967296 := by omega
    have HCo := hide (fun o1 o2 => constant_any B N T ds b _ c ((w.alloc o1).alloc o2).drew (((HP.out.alloc o1).alloc o2).drew) HT.out hcl (by omega))
    clear hr hwb hc hc1 hc2 hd1 hd2 hx hy hpx hqy
    have x0' : w.cell? ⟨g, p * 4, none⟩ = some (.int .i64 1) := x0
    have y0' : w.cell? ⟨g, q * 4, none⟩ = some (.int .i64 1) := y0
    clear x0 y0
    go_enter Tryz.func188, Tryz.ntmps188
    go_wp2_with fail
    go_region_held3 (fun w' => w'.cell? ⟨N, 1, none⟩ = some (.slice (some ⟨g, 0, none⟩) T.length cap) ∧ w'.cell? ⟨g, p * 4, none⟩ = some (.int .i64 1) ∧ w'.cell? ⟨g, p * 4 + 1, none⟩ = some (.int .i64 (ea : Int)) ∧ w'.cell? ⟨g, p * 4 + 1 + 1, none⟩ = some (.int .i64 (eb : Int)) ∧ w'.cell? ⟨g, p * 4 + 1 + 1 + 1, none⟩ = some (.int .i64 (ev : Int)) ∧ w'.cell? ⟨g, q * 4, none⟩ = some (.int .i64 1) ∧ w'.cell? ⟨g, q * 4 + 1, none⟩ = some (.int .i64 (fa : Int)) ∧ w'.cell? ⟨g, q * 4 + 1 + 1, none⟩ = some (.int .i64 (fb : Int)) ∧ w'.cell? ⟨g, q * 4 + 1 + 1 + 1, none⟩ = some (.int .i64 (fv : Int))) (go_keep) (fail)
    all_goals
      clear n1 n2
      go_wp2_with fail
      refine (unhide HR _).mono ?_
      rintro e w' ⟨rfl, hw⟩
      obtain rfl := hw.symm
      go_wp2_with fail
      refine (unhide HCo _ _).mono ?_
      rw [← HX.out]
      rintro e w3 ⟨n3, T3, ds3, v3, rfl, q2, q3, q4, q5, q6, q7⟩
      have HQ : Hid (TabPost B N b T ds w 2 (jnS kind x y) (.returned (.int .i64 (n3 : Int))) w3) := ⟨n3, T3, ds3, v3, rfl, q2, q3, q4, q5, (TFr.above hBw (HB1.out _ _)).trans q6, by omega⟩
      clear q2 q3 q4 q5 q6 q7
      go_wp2_with fail
      go_ret
      exact HQ.out
  · have hcf : ¬ (isCon x = true ∧ isCon y = true) := fun hq => hcon ⟨hc1.2 hq.1, hd1.2 hq.2⟩
    have HX : Hid (jnS kind x y = sOp kind x y) := by unfold Hid jnS; rw [if_neg hcf]
    have hq1 : ((ek : Int) == 1) = false ∨ (ek = 1 ∧ ((fk : Int) == 1) = false) := by
      by_cases h1 : ek = 1
      · right; exact ⟨h1, by simp; omega⟩
      · left; simp; omega
    clear hcf hcon
    have he : okE T.length (kind, p, q, 0) := .inr (.inr (.inl ⟨k2, k5, hpl, hql, rfl⟩))
    have hst : strE ds (kind, p, q, 0) = jnS kind x y := by
      rw [HX.out]
      unfold strE
      rw [if_neg (by dsimp only; omega), if_neg (by dsimp only; omega), if_neg (by dsimp only; omega)]
      dsimp only
      rw [hpx, hqy]
    have hh : ∀ o1 o2, Calls Tryz.prog 186 #[.pointer (some ⟨N, 0, none⟩), .agg #[.int .i64 (kind : Int), .int .i64 (p : Int), .int .i64 (q : Int), .int .i64 0]] ((w.alloc o1).alloc o2).drew (TabPost B N b T ds ((w.alloc o1).alloc o2).drew 1 (strE ds (kind, p, q, 0))) := fun o1 o2 =>
      (hold_any B N T ds b _ (kind, p, q, 0) _ (((HP.out.alloc o1).alloc o2).drew) HT.out (okE_B he (by omega)) (by omega)).mono fun _ _ hp => hold_tells HT.out he hp
    rw [hst] at hh
    have HH := hide hh
    clear hh he hst hc1 hc2 hd1 hd2 hpx hqy
    rcases hq1 with q1 | ⟨rfl, q1⟩
    · go_enter Tryz.func188, Tryz.ntmps188
      go_wp2_with fail
      go_region_held3 (fun w' => w'.cell? ⟨N, 1, none⟩ = some (.slice (some ⟨g, 0, none⟩) T.length cap) ∧ w'.cell? ⟨g, p * 4, none⟩ = some (.int .i64 (ek : Int)) ∧ w'.cell? ⟨g, p * 4 + 1, none⟩ = some (.int .i64 (ea : Int)) ∧ w'.cell? ⟨g, p * 4 + 1 + 1, none⟩ = some (.int .i64 (eb : Int)) ∧ w'.cell? ⟨g, p * 4 + 1 + 1 + 1, none⟩ = some (.int .i64 (ev : Int)) ∧ w'.cell? ⟨g, q * 4, none⟩ = some (.int .i64 (fk : Int)) ∧ w'.cell? ⟨g, q * 4 + 1, none⟩ = some (.int .i64 (fa : Int)) ∧ w'.cell? ⟨g, q * 4 + 1 + 1, none⟩ = some (.int .i64 (fb : Int)) ∧ w'.cell? ⟨g, q * 4 + 1 + 1 + 1, none⟩ = some (.int .i64 (fv : Int))) (go_keep) (fail)
      all_goals
        clear n1 n2
        go_wp2_with fail
        refine (unhide HH _ _).mono ?_
        rintro e w3 ⟨n3, T3, ds3, v3, rfl, q2, q3, q4, q5, q6, q7⟩
        have HQ : Hid (TabPost B N b T ds w 2 (jnS kind x y) (.returned (.int .i64 (n3 : Int))) w3) := ⟨n3, T3, ds3, v3, rfl, q2, q3, q4, q5, (TFr.above hBw (HB1.out _ _)).trans q6, by omega⟩
        clear q2 q3 q4 q5 q6 q7
        go_wp2_with fail
        go_ret
        exact HQ.out
    · have x0' : w.cell? ⟨g, p * 4, none⟩ = some (.int .i64 1) := x0
      clear x0
      go_enter Tryz.func188, Tryz.ntmps188
      go_wp2_with fail
      go_region_held3 (fun w' => w'.cell? ⟨N, 1, none⟩ = some (.slice (some ⟨g, 0, none⟩) T.length cap) ∧ w'.cell? ⟨g, p * 4, none⟩ = some (.int .i64 1) ∧ w'.cell? ⟨g, p * 4 + 1, none⟩ = some (.int .i64 (ea : Int)) ∧ w'.cell? ⟨g, p * 4 + 1 + 1, none⟩ = some (.int .i64 (eb : Int)) ∧ w'.cell? ⟨g, p * 4 + 1 + 1 + 1, none⟩ = some (.int .i64 (ev : Int)) ∧ w'.cell? ⟨g, q * 4, none⟩ = some (.int .i64 (fk : Int)) ∧ w'.cell? ⟨g, q * 4 + 1, none⟩ = some (.int .i64 (fa : Int)) ∧ w'.cell? ⟨g, q * 4 + 1 + 1, none⟩ = some (.int .i64 (fb : Int)) ∧ w'.cell? ⟨g, q * 4 + 1 + 1 + 1, none⟩ = some (.int .i64 (fv : Int))) (go_keep) (fail)
      all_goals
        clear n1 n2
        go_wp2_with fail
        refine (unhide HH _ _).mono ?_
        rintro e w3 ⟨n3, T3, ds3, v3, rfl, q2, q3, q4, q5, q6, q7⟩
        have HQ : Hid (TabPost B N b T ds w 2 (jnS kind x y) (.returned (.int .i64 (n3 : Int))) w3) := ⟨n3, T3, ds3, v3, rfl, q2, q3, q4, q5, (TFr.above hBw (HB1.out _ _)).trans q6, by omega⟩
        clear q2 q3 q4 q5 q6 q7
        go_wp2_with fail
        go_ret
        exact HQ.out
end Go.Proofs.YtmmflekajbeamabGreatDoor

namespace Go.Proofs.YtmmflekajbeamabGreatDoor
open Go.RowKit Go.Maps Go.WideMaps

def nI (ns : List Nat) : List Int := ns.map fun n : Nat => (n : Int)
theorem nI_len (ns : List Nat) : (nI ns).length = ns.length := by simp [nI]
theorem nI_get (ns : List Nat) (i : Nat) : gz (nI ns) i = (ns.getD i 0 : Nat) := by
  unfold gz nI
  rw [List.getD_eq_getElem?_getD, List.getElem?_map, List.getD_eq_getElem?_getD]
  cases ns[i]? <;> rfl
theorem nI_set (ns : List Nat) (i n : Nat) : (nI ns).set i (n : Int) = nI (ns.set i n) := by
  unfold nI
  rw [List.map_set]
set_option maxRecDepth 100000 in
set_option maxHeartbeats 1000000 in
theorem value_tab (B N : Nat) (T : List Ex) (ds : List (List UInt8)) (b : Nat) (v : Value) (p : PutN) (ns : List Nat) (l : List (List UInt8)) (w : World) (h : TabAt B N T b v w) (hT : TI T ds) (hs : Slots T ds ns l) (hp : okPut p) (hk : p.k < 4294967296) (hl : T.length ≤ 900) :
    Calls Tryz.prog 139 #[.pointer (some ⟨N, 0, none⟩), .agg (putV p), .agg (S (nI ns))] w (TabPost B N b T ds w 2 (vS l p)) := by
  have hBw : B ≤ w.heap.size := Nat.le_trans h.bN (Nat.le_of_lt h.nlt)
  have hb2 : ∀ o1 o2, Below w.heap.size w ((w.alloc o1).alloc o2) := fun o1 o2 => ((Below.refl _ _).alloc (Nat.le_refl _) _).alloc (by rw [size_alloc1]; omega) _
  have HB := hide hb2
  have HP := hide h; have HT := hide hT
  clear hb2
  obtain ⟨kind, d, a, c, k⟩ := p
  obtain ⟨d16, a16, b16, hc⟩ := hp
  dsimp only at d16 a16 b16 hc hk
  simp only [putV]
  have ln := hs.n16
  have ha := S_get (nI ns) a (by rw [nI_len]; omega)
  have hb := S_get (nI ns) c (by rw [nI_len]; omega)
  rw [nI_get] at ha hb
  have ta := hs.tell a a16
  have tb := hs.tell c b16
  have a16' : (a : Int) < 16 := by omega
  have b16' : (c : Int) < 16 := by omega
  clear h hT hs
  rcases hc with ⟨rfl, rfl, rfl⟩ | ⟨k2, k5, rfl⟩ | ⟨rfl, rfl, hk6⟩ | ⟨rfl, rfl, rfl⟩
  · have HV : Hid (vS l ⟨1, d, 0, 0, k⟩ = sCon k) := rfl
    have HC := hide (fun o1 o2 => constant_any B N T ds b v k ((w.alloc o1).alloc o2) ((HP.out.alloc o1).alloc o2) HT.out hk (by omega))
    go_enter Tryz.func139, Tryz.ntmps139
    go_wp2_with fail
    refine (unhide HC _ _).mono ?_
    rintro e w3 ⟨n3, T3, ds3, v3, rfl, q2, q3, q4, q5, q6, q7⟩
    have HQ : Hid (TabPost B N b T ds w 2 (sCon k) (.returned (.int .i64 (n3 : Int))) w3) := ⟨n3, T3, ds3, v3, rfl, q2, q3, q4, q5, (TFr.above hBw (HB.out _ _)).trans q6, by omega⟩
    clear q2 q3 q4 q5 q6 q7
    go_wp2_with fail
    go_ret
    rw [HV.out]
    exact HQ.out
  · have HV : Hid (vS l ⟨kind, d, a, c, 0⟩ = jnS kind (l.getD a []) (l.getD c [])) := by unfold Hid vS; dsimp only; rw [if_neg (by omega), if_neg (by omega), if_neg (by omega)]
    have q1 : ((kind : Int) == 1) = false := by simp; omega
    have q6 : ((kind : Int) == 6) = false := by simp; omega
    have q7 : ((kind : Int) == 7) = false := by simp; omega
    have HC := hide (fun o1 o2 => op_tab B N T ds b v kind _ _ _ _ ((w.alloc o1).alloc o2).drew ((HP.out.alloc o1).alloc o2).drew HT.out ta tb k2 k5 hl)
    generalize ns.getD a 0 = x at *
    generalize ns.getD c 0 = y at *
    clear ta tb
    go_enter Tryz.func139, Tryz.ntmps139
    go_wp2_with fail
    refine still_tail 11 (by kernel_rfl) (by kernel_rfl) ?_
    simp only [List.take_succ_cons, List.take_zero, List.drop_succ_cons, List.drop_zero]
    repeat still_step
    refine wpStill_nil ?_
    go_wp2_with fail
    refine (unhide HC _ _).mono ?_
    rintro e w3 ⟨n3, T3, ds3, v3, rfl, q2, q3, q4, q5, q6, q7⟩
    have HQ : Hid (TabPost B N b T ds w 2 (jnS kind (l.getD a []) (l.getD c [])) (.returned (.int .i64 (n3 : Int))) w3) := ⟨n3, T3, ds3, v3, rfl, q2, q3, q4, q5, (TFr.above hBw ((HB.out _ _).drew)).trans q6, by omega⟩
    clear q2 q3 q4 q5 q6 q7
    go_wp2_with fail
    go_ret
    rw [HV.out]
    exact HQ.out
  · have HV : Hid (vS l ⟨6, d, a, 0, k⟩ = ldS (l.getD a []) k) := rfl
    have HC := hide (fun o1 o2 => load_tab B N T ds b v _ k _ ((w.alloc o1).alloc o2).drew ((HP.out.alloc o1).alloc o2).drew HT.out ta hk6 hl)
    generalize ns.getD a 0 = x at *
    clear ta tb
    go_enter Tryz.func139, Tryz.ntmps139
    go_wp2_with fail
    refine still_tail 7 (by kernel_rfl) (by kernel_rfl) ?_
    simp only [List.take_succ_cons, List.take_zero, List.drop_succ_cons, List.drop_zero]
    repeat still_step
    refine wpStill_nil ?_
    go_wp2_with fail
    refine (unhide HC _ _).mono ?_
    rintro e w3 ⟨n3, T3, ds3, v3, rfl, q2, q3, q4, q5, q6, q7⟩
    have HQ : Hid (TabPost B N b T ds w 2 (ldS (l.getD a []) k) (.returned (.int .i64 (n3 : Int))) w3) := ⟨n3, T3, ds3, v3, rfl, q2, q3, q4, q5, (TFr.above hBw ((HB.out _ _).drew)).trans q6, by omega⟩
    clear q2 q3 q4 q5 q6 q7
    go_wp2_with fail
    go_ret
    rw [HV.out]
    exact HQ.out
  · have HV : Hid (vS l ⟨7, d, a, 0, 0⟩ = l.getD a []) := rfl
    have HQ : Hid (∀ o1 o2, TabPost B N b T ds w 2 (vS l ⟨7, d, a, 0, 0⟩) (.returned (.int .i64 ((ns.getD a 0 : Nat) : Int))) ((w.alloc o1).alloc o2)) := fun o1 o2 => by
      rw [HV.out]
      exact ⟨_, T, ds, v, rfl, (HP.out.alloc o1).alloc o2, HT.out, More.refl _ _, ta, TFr.above hBw (HB.out _ _), by omega⟩
    generalize ns.getD a 0 = x at *
    clear ta tb
    go_enter Tryz.func139, Tryz.ntmps139
    go_wp2_with fail
    go_ret
    exact HQ.out _ _
end Go.Proofs.YtmmflekajbeamabGreatDoor
