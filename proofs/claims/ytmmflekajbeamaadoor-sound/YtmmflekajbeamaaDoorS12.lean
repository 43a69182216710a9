/-
  The document's own answer: the first byte that begins no character (broken); the lines of a text (lines).
  Plans: the small functions: numbers out of bytes (number.Read, and the document's Value); a put out of its bytes (readPut), whether it may stand in a plan (isPut).
  Plans: a put out of its bytes (readPut).
  Plans: whether a put may stand in a plan (isPut).
  Plans: the puts of a plan's text (plans.Puts).
-/
import Derived.Test.YtmmflekajbeamaaDoorS09
import Derived.Test.YtmmflekajbeamaaDoorS11
import Derived.OwnWalk
import Derived.Test.YtmmflekajbeamaaDoorS02
namespace Go.Proofs.YtmmflekajbeamaaDoor
open Go.RowKit

set_option maxRecDepth 100000 in
set_option maxHeartbeats 4000000 in
theorem broken_any (s : ByteArray) (w : World) (hs : s.size ≤ 2000) :
    Calls Tryd.prog 71 #[.string s] w fun e' w' => Below w.heap.size w w' ∧ ((brkGo s s.size 0 1 1 = none ∧ e' = .returned (.agg #[.int .i64 0, .int .i64 0])) ∨ ∃ l c, brkGo s s.size 0 1 1 = some (l, c) ∧ 1 ≤ l ∧ e' = .returned (.agg #[.int .i64 l, .int .i64 c])) := by
  have HWd := hide (fun i w' (hi : i < s.size) => width_any s i w' hi hs)
  go_enter Tryd.func71, Tryd.ntmps71
  go_wp2_with fail
  go_loop [3, 4, 5] (fun ln col i => ∃ (f p : Nat) (l c : Int), p ≤ s.size ∧ s.size ≤ p + f ∧ i = .int .i64 p ∧ ln = .int .i64 l ∧ col = .int .i64 c ∧ 1 ≤ l ∧ l ≤ (p : Int) + 1 ∧ 0 ≤ c ∧ c ≤ (p : Int) + 1 ∧ Hid (brkGo s f p l c = brkGo s s.size 0 1 1)) (fun _ _ i => s.size - (intOf i).toNat)
  case atStart => exact ⟨s.size, 0, 1, 1, Nat.zero_le _, by omega, rfl, rfl, rfl, by decide, by decide, by decide, by decide, rfl⟩
  case round =>
    obtain ⟨f, p, l, c, hp, hf, rfl, rfl, rfl, l0, l1, c0, c1, HG⟩ := hrel
    by_cases hlt : p < s.size
    · obtain ⟨f, rfl⟩ : ∃ f', f = f' + 1 := ⟨f - 1, by omega⟩
      have hlt' : (p : Int) < (s.size : Int) := by omega
      have hstep := HG.out
      rw [brkGo, if_pos hlt] at hstep
      have hgb := bt_get s p hlt
      have hbl := bt_lt s p
      by_cases hw : wid s p = 0
      · rw [if_pos hw] at hstep
        have HS := hide hstep.symm
        have HW : Hid (∀ w', Calls Tryd.prog 112 #[.string s, .int .i64 p] w' fun e' w'' => e' = .returned (.int .i64 0) ∧ w'' = w') := fun w' => by have := HWd.out p w' hlt; rw [hw] at this; exact this
        clear hstep HG
        go_wp2_with fail
        refine (unhide HW _).mono ?_
        rintro e w' ⟨rfl, hw'⟩
        obtain rfl := hw'.symm
        go_wp2_with fail
        refine bodyPost_ret (v := .agg #[.int .i64 l, .int .i64 c]) (by simp [results, Tryd.results71, go_sem]) rfl ?_
        exact ⟨(Below.refl _ _).alloc (Nat.le_refl _) _, .inr ⟨l, c, HS.out, l0, rfl⟩⟩
      · rw [if_neg hw] at hstep
        obtain ⟨_, _, hle, ha, _, _⟩ := wid_pos s p hlt hw
        have HW := hide (fun w' => HWd.out p w' hlt)
        have hwp : (1 : Int) ≤ (wid s p : Int) := by omega
        have hwz : ¬ (wid s p : Int) = 0 := by omega
        have hwl : (wid s p : Int) ≤ 2000 := by omega
        by_cases h10 : bt s p = 10
        · rw [if_pos h10] at hstep
          have HS := hide hstep
          have h10' : (bt s p : Int) = 10 := by omega
          clear hstep HG
          go_wp2_with fail
          refine (unhide HW _).mono ?_
          rintro e w' ⟨rfl, hw'⟩
          obtain rfl := hw'.symm
          go_wp2_with fail
          refine ⟨⟨f, p + wid s p, l + 1, 1, by omega, by omega, by go_num, rfl, rfl, by omega, by omega, by omega, by omega, HS⟩, by simp [intOf]; omega⟩
        · rw [if_neg h10] at hstep
          have HS := hide hstep
          have h10' : ¬ (bt s p : Int) = 10 := by omega
          clear hstep HG
          go_wp2_with fail
          refine (unhide HW _).mono ?_
          rintro e w' ⟨rfl, hw'⟩
          obtain rfl := hw'.symm
          go_wp2_with fail
          refine ⟨⟨f, p + wid s p, l, c + 1, by omega, by omega, by go_num, rfl, rfl, by omega, by omega, by omega, by omega, HS⟩, by simp [intOf]; omega⟩
    · have hpe : p = s.size := by omega
      have hlt' : ¬ (p : Int) < (s.size : Int) := by omega
      have HS : Hid (brkGo s s.size 0 1 1 = none) := by
        unfold Hid
        rw [← HG.out]
        cases f with
        | zero => rfl
        | succ f => rw [brkGo, if_neg hlt]
      clear HG
      go_wp2_with fail
      refine bodyPost_ret (v := .agg #[.int .i64 0, .int .i64 0]) (by simp [results, Tryd.results71, go_sem]) rfl ?_
      exact ⟨(Below.refl _ _).alloc (Nat.le_refl _) _, .inl ⟨HS.out, rfl⟩⟩

theorem infoStr : ∃ i, Tryd.prog.info? 9 = some i ∧ i.zero = some (.string ⟨#[]⟩) ∧ i.size = 1 ∧ i.bytes = 16 := by
  have h : (Tryd.prog.info? 9).map (fun i => (i.zero, i.size, i.bytes)) = some (some (.string ⟨#[]⟩), 1, 16) := by kernel_rfl
  cases hq : Tryd.prog.info? 9 with
  | none => rw [hq] at h; cases h
  | some i =>
    rw [hq] at h
    simp only [Option.map_some, Option.some.injEq, Prod.mk.injEq] at h
    exact ⟨i, rfl, h.1, h.2.1, h.2.2⟩
def strCs (l : List ByteArray) : List Value := l.map Value.string
theorem strCs_snoc (l : List ByteArray) (x : ByteArray) : strCs (l ++ [x]) = strCs l ++ [.string x] := by simp [strCs]
theorem own_grow {w w1 : World} {B : Nat} {e : TypeId} {k : Nat} {v : Value} {n : Nat} {xs : List Value} (h : w.ownsRow B e k v n xs) (hb : Below w.heap.size w w1) : w1.ownsRow B e k v n xs := ownsRow_keep h (fun g hg => hb.block g (row_lt h g hg).2)

set_option maxRecDepth 100000 in
set_option maxHeartbeats 4000000 in
theorem lines_any (s : ByteArray) (w : World) (hs : s.size ≤ 2000) :
    Calls Tryd.prog 113 #[.string s] w fun e' w' => Below w.heap.size w w' ∧ ∃ v, e' = .returned v ∧ w'.ownsRow w.heap.size 9 1 v (linesD s).length (strCs (linesD s)) := by
  obtain ⟨inf, hinf, hz, hsz1, hby⟩ := infoStr
  have HInf := hide hinf; have HZ := hide hz; have HSz := hide hsz1; have HBy := hide hby
  clear hinf hz hsz1 hby
  go_enter Tryd.func113, Tryd.ntmps113
  go_wp2_with fail
  go_loopw [3, 4, 5] (fun l fr i wr => ∃ (k a : Nat) (acc : List ByteArray), k ≤ s.size ∧ a ≤ k ∧ acc.length ≤ k ∧ i = .int .i64 k ∧ fr = .int .i64 a ∧ wr.ownsRow w.heap.size 9 1 l acc.length (strCs acc) ∧ Below w.heap.size w wr ∧ Hid (acc ++ lnGo s (s.size - k) k a = linesD s)) (fun _ _ i _ => s.size - (intOf i).toNat)
  case atStart => exact ⟨0, 0, [], Nat.zero_le _, Nat.le_refl _, Nat.le_refl _, rfl, rfl, World.ownsRow_nil _ _ _ _, Below.refl _ _, by unfold Hid; rw [List.nil_append, Nat.sub_zero]; rfl⟩
  case round =>
    obtain ⟨k, a, acc, hk, hak, hal, hi, hfr, hown, hbl, HG⟩ := hrel
    obtain ⟨va, vc, hv⟩ := owns_len hown
    subst hi hfr hv
    have HO := hide hown; have HBl := hide hbl
    have hwz := hbl.size
    clear hown hbl
    by_cases hlt : k < s.size
    · have hlt' : (k : Int) < (s.size : Int) := by omega
      have hgb := bt_get s k hlt
      have hbl2 := bt_lt s k
      have hstep := HG.out
      rw [show s.size - k = (s.size - (k + 1)) + 1 by omega, lnGo, if_pos hlt] at hstep
      by_cases h10 : bt s k = 10
      · rw [if_pos h10] at hstep
        have HS := hide hstep
        have h10' : (bt s k : Int) = 10 := by omega
        have hak' : (a : Int) ≤ (k : Int) := by omega
        clear hstep HG
        go_wp2_with (at_builtin; refine wpList_append_lies _ rfl _ _ 120 rfl w.heap.size 9 inf _ 1 16 Tryd.underlying120 HInf.out HZ.out HSz.out HBy.out rfl (by decide) (.slice va acc.length vc) acc.length (strCs acc) rfl (HO.out.alloc _) ⟨wr.heap.size, 0, none⟩ 1 1 [.string (s.extract a k)] rfl rfl (World.news_of_block (_root_.Go.heap_alloc_new wr _)) (fun u hu => by simp at hu; subst hu; rfl) (by decide) (by unfold maxLen; omega) (by omega) (by rw [size_alloc1]; omega) (wr.heap.size + 1) (by rw [size_alloc1]) ?_; intro g2' cap2 w3 hown2 hgr2 hat2 hlt2; have HO2 := hide hown2; have HGr := hide hgr2; clear hown2 hgr2 hat2)
        refine ⟨⟨k + 1, k + 1, acc ++ [s.extract a k], by omega, Nat.le_refl _, by simp; omega, by go_num, by go_num, ?_, ?_, ?_⟩, by simp [intOf]; omega⟩
        · rw [strCs_snoc, List.length_append, List.length_singleton]
          exact HO2.out
        · exact (HBl.out.alloc hwz _).grown HGr.out (by rw [size_alloc1]; omega) (fun j hj => (row_lt HO.out j hj).1)
        · unfold Hid
          rw [List.append_assoc]
          exact HS.out
      · rw [if_neg h10] at hstep
        have HS := hide hstep
        have h10' : ¬ (bt s k : Int) = 10 := by omega
        clear hstep HG
        go_wp2_with fail
        exact ⟨⟨k + 1, a, acc, by omega, by omega, by omega, by go_num, rfl, HO.out, HBl.out, HS⟩, by simp [intOf]; omega⟩
    · have hkn : k = s.size := by omega
      subst hkn
      have hlt' : ¬ (s.size : Int) < (s.size : Int) := by omega
      have hak' : (a : Int) ≤ (s.size : Int) := by omega
      have hstep := HG.out
      rw [Nat.sub_self, lnGo] at hstep
      have HS := hide hstep
      clear hstep HG
      go_wp2_with (at_builtin; refine wpList_append_lies _ rfl _ _ 120 rfl w.heap.size 9 inf _ 1 16 Tryd.underlying120 HInf.out HZ.out HSz.out HBy.out rfl (by decide) (.slice va acc.length vc) acc.length (strCs acc) rfl (HO.out.alloc _) ⟨wr.heap.size, 0, none⟩ 1 1 [.string (s.extract a s.size)] rfl rfl (World.news_of_block (_root_.Go.heap_alloc_new wr _)) (fun u hu => by simp at hu; subst hu; rfl) (by decide) (by unfold maxLen; omega) (by omega) (by rw [size_alloc1]; omega) (wr.heap.size + 1) (by rw [size_alloc1]) ?_; intro g2' cap2 w3 hown2 hgr2 hat2 hlt2; have HO2 := hide hown2; have HGr := hide hgr2; clear hown2 hgr2 hat2)
      go_ret
      refine ⟨(HBl.out.alloc hwz _).grown HGr.out (by rw [size_alloc1]; omega) (fun j hj => (row_lt HO.out j hj).1), _, rfl, ?_⟩
      rw [← HS.out, strCs_snoc, List.length_append, List.length_singleton]
      exact HO2.out
end Go.Proofs.YtmmflekajbeamaaDoor

namespace Go.Proofs.YtmmflekajbeamaaDoor
open Go.RowKit

theorem beN_succ (s : ByteArray) (i k : Nat) : beN s i (k + 1) = beN s i k * 256 + bt s (i + k) := rfl
theorem beN_le3 (s : ByteArray) (i k : Nat) (hk : k ≤ 3) : beN s i k < 16777216 := by
  have h := beN_lt s i k
  have : 256 ^ k ≤ 256 ^ 3 := Nat.pow_le_pow_right (by decide) hk
  omega

set_option maxRecDepth 100000 in
set_option maxHeartbeats 1000000 in
theorem numRead_any (t : ByteArray) (w : World) (ht : t.size ≤ 4) :
    Calls Tryd.prog 134 #[.string t] w fun e' w' => e' = .returned (.int .i64 (beN t 0 t.size)) ∧ w' = w := by
  go_enter Tryd.func134, Tryd.ntmps134
  go_wp2_with fail
  go_loop [3, 7] (fun v i => ∃ k : Nat, k ≤ t.size ∧ i = .int .i64 k ∧ v = .int .i64 (beN t 0 k)) (fun _ i => t.size - (intOf i).toNat)
  case atStart => exact ⟨0, Nat.zero_le _, rfl, rfl⟩
  case round =>
    obtain ⟨k, hk, rfl, rfl⟩ := hrel
    by_cases hlt : k < t.size
    · have hlt' : (k : Int) < (t.size : Int) := by omega
      have hgb := bt_get t k hlt
      have hbl := bt_lt t k
      have hv := beN_le3 t 0 k (by omega)
      have HS : Hid (beN t 0 (k + 1) = beN t 0 k * 256 + bt t k) := by unfold Hid; rw [beN_succ, Nat.zero_add]
      have ho : bits .or .i64 ((beN t 0 k : Int) * 256) (bt t k : Int) = (beN t 0 k : Int) * 256 + (bt t k : Int) := or_join _ _ 8 (by omega) (by omega) (by omega) (by omega) (by decide) (by omega)
      generalize beN t 0 k = v at *
      go_wp2_with fail
      refine ⟨⟨k + 1, by omega, by go_num, ?_⟩, by simp [intOf]; omega⟩
      rw [HS.out]
      go_num
    · have hkn : k = t.size := by omega
      subst hkn
      have hlt' : ¬ (t.size : Int) < (t.size : Int) := by omega
      go_wp2_with fail
      go_ret
      exact ⟨rfl, rfl⟩

set_option maxRecDepth 100000 in
set_option maxHeartbeats 1000000 in
theorem value_any (s : ByteArray) (i n : Nat) (w : World) (hn : n ≤ 4) (hi : i + n ≤ s.size) (hs : s.size ≤ 100000) :
    Calls Tryd.prog 86 #[.string s, .int .i64 i, .int .i64 n] w fun e' w' => e' = .returned (.int .i64 (beN s i n)) ∧ w' = w := by
  go_enter Tryd.func86, Tryd.ntmps86
  go_wp2_with fail
  go_loop [7, 8] (fun v j => ∃ k : Nat, k ≤ n ∧ j = .int .i64 ((i + k : Nat) : Int) ∧ v = .int .i64 (beN s i k)) (fun _ j => i + n - (intOf j).toNat)
  case atStart => exact ⟨0, Nat.zero_le _, by simp, rfl⟩
  case round =>
    obtain ⟨k, hk, rfl, rfl⟩ := hrel
    by_cases hlt : k < n
    · have hlt' : ((i + k : Nat) : Int) < (i : Int) + (n : Int) := by omega
      have hin : i + k < s.size := by omega
      have hgb := bt_get s (i + k) hin
      have hbl := bt_lt s (i + k)
      have hv := beN_le3 s i k (by omega)
      have HS : Hid (beN s i (k + 1) = beN s i k * 256 + bt s (i + k)) := by unfold Hid; rw [beN_succ]
      generalize beN s i k = v at *
      have hin' : ((i + k : Nat) : Int) < (s.size : Int) := by omega
      have HJ : Hid (((i + k : Nat) : Int) + 1 = ((i + (k + 1) : Nat) : Int)) := by unfold Hid; omega
      have HM : Hid (i + n - (i + (k + 1)) < i + n - (i + k)) := by unfold Hid; omega
      generalize i + k = j at *
      go_wp2_with fail
      refine ⟨⟨k + 1, by omega, by rw [HJ.out], ?_⟩, ?_⟩
      · rw [HS.out]
        go_num
      · rw [HJ.out]; simp only [intOf, Int.toNat_natCast]; exact HM.out
    · have hkn : k = n := by omega
      subst hkn
      have hlt' : ¬ ((i + k : Nat) : Int) < (i : Int) + (k : Int) := by omega
      go_wp2_with fail
      go_ret
      exact ⟨rfl, rfl⟩

/-- Is an OP arithmetic? -/
def arB (op : Int) : Bool := decide (2 ≤ op ∧ op ≤ 5)
set_option maxRecDepth 100000 in
set_option maxHeartbeats 1000000 in
theorem isArith_any (op : Int) (w : World) :
    Calls Tryd.prog 136 #[.int .i64 op] w fun e' w' => e' = .returned (.bool (arB op)) ∧ w' = w := by
  by_cases h : 2 ≤ op ∧ op ≤ 5
  · have h' : op = 2 ∨ op = 3 ∨ op = 4 ∨ op = 5 := by omega
    clear h
    rcases h' with rfl | rfl | rfl | rfl
    all_goals
      go_enter Tryd.func136, Tryd.ntmps136
      go_wp2_with fail
      go_ret
      exact ⟨rfl, rfl⟩
  · have HE : Hid (arB op = false) := by unfold Hid arB; simpa using fun h1 => (by omega : 5 < op)
    have h2 : (op == 2) = false := by simp; omega
    have h3 : (op == 3) = false := by simp; omega
    have h4 : (op == 4) = false := by simp; omega
    have h5 : (op == 5) = false := by simp; omega
    go_enter Tryd.func136, Tryd.ntmps136
    go_wp2_with fail
    go_ret
    exact ⟨ret_bool HE.out.symm, rfl⟩

def putV (p : PutN) : Array Value := #[.int .i64 p.kind, .int .i64 p.d, .int .i64 p.a, .int .i64 p.b, .int .i64 p.k]
theorem extr_get (s : ByteArray) (i n j : Nat) (hi : i + n ≤ s.size) (hj : j < n) : bt (s.extract i (i + n)) j = bt s (i + j) := by
  have h1 : j < (s.extract i (i + n)).size := by rw [ByteArray.size_extract]; omega
  rw [← bt_get _ j h1, ← bt_get s (i + j) (by omega)]
  rw [ByteArray.getElem_extract]
theorem extr_beN (s : ByteArray) (i n j : Nat) (hi : i + n ≤ s.size) : ∀ k, j + k ≤ n → beN (s.extract i (i + n)) j k = beN s (i + j) k := by
  intro k
  induction k with
  | zero => intro _; rfl
  | succ k ih =>
    intro hk
    rw [beN_succ, beN_succ, ih (by omega), extr_get s i n (j + k) hi (by omega), Nat.add_assoc]

end Go.Proofs.YtmmflekajbeamaaDoor

namespace Go.Proofs.YtmmflekajbeamaaDoor
open Go.RowKit

set_option maxRecDepth 100000 in
set_option maxHeartbeats 400000 in
theorem readPut_any (t : ByteArray) (w : World) (ht : t.size = 8) :
    Calls Tryd.prog 105 #[.string t] w fun e' w' => e' = .returned (.agg (putV (putAt t 0))) ∧ Below w.heap.size w w' := by
  have g0 := bt_get t 0 (by omega); have g1 := bt_get t 1 (by omega); have g2 := bt_get t 2 (by omega); have g3 := bt_get t 3 (by omega)
  have b0 := bt_lt t 0; have b1 := bt_lt t 1; have b2 := bt_lt t 2; have b3 := bt_lt t 3
  have HP : Hid (putV (putAt t 0) = #[.int .i64 (bt t 0), .int .i64 (bt t 1), .int .i64 (bt t 2), .int .i64 (bt t 3), .int .i64 (beN t 4 4)]) := rfl
  have hz4 : (t.extract 4 t.size).size = 4 := by rw [ByteArray.size_extract]; omega
  have hr := fun w' => numRead_any (t.extract 4 t.size) w' (by omega)
  rw [hz4] at hr
  have he : beN (t.extract 4 t.size) 0 4 = beN t 4 4 := by
    have := extr_beN t 4 4 0 (by omega) 4 (by omega)
    rw [show t.size = 4 + 4 by omega]
    exact this
  rw [he] at hr
  rw [ht] at hr
  have HR := hide hr
  clear hr he
  have ht' : (t.size : Int) = 8 := by omega
  generalize beN t 4 4 = k4 at *
  go_enter Tryd.func105, Tryd.ntmps105
  go_wp2_with fail
  refine held_tail 14 3 (fun _ => True) (by kernel_rfl) (by kernel_rfl) (fun d _ _ _ _ h => by cases d <;> exact h) trivial ?_
  simp only [List.take_succ_cons, List.take_zero, List.drop_succ_cons, List.drop_zero]
  iterate 14
    refine wpTake_step ?_ rfl ?_ ?_
    rotate_left
    · rintro w' d0
      go_simp
      rfl
    go_simp
  refine wpTake_nil ?_
  refine wpTail_step rfl (fun K hK => ?_)
  go_simp
  refine (unhide HR _).mono ?_
  rintro e w' ⟨rfl, hw⟩
  obtain rfl := hw.symm
  refine hK _ _ trivial ?_
  clear hK K
  refine wpTail_step rfl (fun K hK => ?_)
  go_simp
  refine hK _ _ trivial ?_
  clear hK K
  refine wpTail_step rfl (fun K hK => ?_)
  go_simp
  refine hK _ _ trivial ?_
  clear hK K
  unfold wpTailS
  go_wp2_with fail
  refine bodyPost_ret (v := .agg #[.int .i64 (bt t 0), .int .i64 (bt t 1), .int .i64 (bt t 2), .int .i64 (bt t 3), .int .i64 k4]) (by simp [results, Tryd.results105, go_sem]; exact ⟨IntWalk.i64_in _ ⟨by omega, by omega⟩, IntWalk.i64_in _ ⟨by omega, by omega⟩, IntWalk.i64_in _ ⟨by omega, by omega⟩, IntWalk.i64_in _ ⟨by omega, by omega⟩⟩) rfl ?_
  rw [HP.out]
  exact ⟨rfl, ((Below.refl _ _).alloc (Nat.le_refl _) _).drew⟩
end Go.Proofs.YtmmflekajbeamaaDoor

namespace Go.Proofs.YtmmflekajbeamaaDoor
open Go.RowKit

/-- A put's numbers, as ints. -/
def okPutI (kind d a b k : Int) : Bool := decide (d < 16 ∧ a < 16 ∧ b < 16 ∧ ((kind = 1 ∧ a = 0 ∧ b = 0) ∨ (2 ≤ kind ∧ kind ≤ 5 ∧ k = 0) ∨ (kind = 6 ∧ b = 0 ∧ k ≤ 4095) ∨ (kind = 7 ∧ b = 0 ∧ k = 0)))
theorem okPutI_eq (p : PutN) : okPutI p.kind p.d p.a p.b p.k = @decide (okPut p) (okDec p) := by
  unfold okPutI
  rw [decide_eq_decide]
  unfold okPut
  omega
set_option maxRecDepth 100000 in
set_option maxHeartbeats 4000000 in
theorem isPut_any (kind d a b k : Int) (w : World) :
    Calls Tryd.prog 106 #[.agg #[.int .i64 kind, .int .i64 d, .int .i64 a, .int .i64 b, .int .i64 k]] w fun e' w' => e' = .returned (.bool (okPutI kind d a b k)) ∧ Below w.heap.size w w' := by
  have HE : ∀ x : Bool, x = okPutI kind d a b k → (Ending.returned (.bool x) = .returned (.bool (okPutI kind d a b k)) ∧ Below w.heap.size w (w.alloc (.cells #[.int .i64 kind, .int .i64 d, .int .i64 a, .int .i64 b, .int .i64 k] 59))) := fun _ h => ⟨ret_bool h, below_alloc _⟩
  have HE := hide HE
  have HA := hide (fun w' => isArith_any kind w')
  by_cases h1 : d < 16 ∧ a < 16 ∧ b < 16
  · obtain ⟨hd, ha, hb⟩ := h1
    by_cases hk1 : kind = 1
    · subst hk1
      by_cases ha0 : a = 0
      · by_cases hb0 : b = 0
        · subst ha0 hb0
          go_enter Tryd.func106, Tryd.ntmps106
          go_wp2_with fail
          go_ret
          exact HE.out _ (by simp [okPutI]; omega)
        · have hb0' : (b == 0) = false := by simpa using hb0
          subst ha0
          go_enter Tryd.func106, Tryd.ntmps106
          go_wp2_with fail
          go_ret
          exact HE.out _ (by simp [okPutI]; omega)
      · have ha0' : (a == 0) = false := by simpa using ha0
        go_enter Tryd.func106, Tryd.ntmps106
        go_wp2_with fail
        go_ret
        exact HE.out _ (by simp [okPutI]; omega)
    · have hk1' : (kind == 1) = false := by simpa using hk1
      by_cases har : 2 ≤ kind ∧ kind ≤ 5
      · have hq : arB kind = true := by unfold arB; simpa using har
        have HA' : Hid (∀ w', Calls Tryd.prog 136 #[.int .i64 kind] w' fun e' w'' => e' = .returned (.bool true) ∧ w'' = w') := fun w' => by have := HA.out w'; rw [hq] at this; exact this
        go_enter Tryd.func106, Tryd.ntmps106
        go_wp2_with fail
        refine (unhide HA' _).mono ?_
        rintro e w' ⟨rfl, hw⟩
        obtain rfl := hw.symm
        go_wp2_with fail
        go_ret
        refine HE.out _ ?_
        by_cases hk0 : k = 0
        · subst hk0; simp [okPutI]; omega
        · have : okPutI kind d a b k = false := by unfold okPutI; rw [decide_eq_false_iff_not]; omega
          rw [this]; simpa using hk0
      · have hq : arB kind = false := by unfold arB; rw [decide_eq_false_iff_not]; exact har
        have HA' : Hid (∀ w', Calls Tryd.prog 136 #[.int .i64 kind] w' fun e' w'' => e' = .returned (.bool false) ∧ w'' = w') := fun w' => by have := HA.out w'; rw [hq] at this; exact this
        by_cases hk6 : kind = 6
        · subst hk6
          clear har hk1 hq
          by_cases hb0 : b = 0
          · subst hb0
            go_enter Tryd.func106, Tryd.ntmps106
            go_wp2_with fail
            refine (unhide HA' _).mono ?_
            rintro e w' ⟨rfl, hw⟩
            obtain rfl := hw.symm
            go_wp2_with fail
            go_ret
            refine HE.out _ ?_
            unfold okPutI
            rw [decide_eq_decide]
            omega
          · have hb0' : (b == 0) = false := by simpa using hb0
            go_enter Tryd.func106, Tryd.ntmps106
            go_wp2_with fail
            refine (unhide HA' _).mono ?_
            rintro e w' ⟨rfl, hw⟩
            obtain rfl := hw.symm
            go_wp2_with fail
            go_ret
            exact HE.out _ (by simp [okPutI]; omega)
        · have hk6' : (kind == 6) = false := by simpa using hk6
          by_cases hk7 : kind = 7
          · subst hk7
            clear har hk1 hq hk6
            by_cases hb0 : b = 0
            · subst hb0
              go_enter Tryd.func106, Tryd.ntmps106
              go_wp2_with fail
              refine (unhide HA' _).mono ?_
              rintro e w' ⟨rfl, hw⟩
              obtain rfl := hw.symm
              go_wp2_with fail
              go_ret
              refine HE.out _ ?_
              by_cases hk0 : k = 0
              · subst hk0; simp [okPutI]; omega
              · simp [okPutI, hk0]
            · have hb0' : (b == 0) = false := by simpa using hb0
              go_enter Tryd.func106, Tryd.ntmps106
              go_wp2_with fail
              refine (unhide HA' _).mono ?_
              rintro e w' ⟨rfl, hw⟩
              obtain rfl := hw.symm
              go_wp2_with fail
              go_ret
              exact HE.out _ (by simp [okPutI]; omega)
          · have hk7' : (kind == 7) = false := by simpa using hk7
            go_enter Tryd.func106, Tryd.ntmps106
            go_wp2_with fail
            refine (unhide HA' _).mono ?_
            rintro e w' ⟨rfl, hw⟩
            obtain rfl := hw.symm
            go_wp2_with fail
            go_ret
            exact HE.out _ (by simp [okPutI]; omega)
  · have hf : okPutI kind d a b k = false := by unfold okPutI; rw [decide_eq_false_iff_not]; omega
    have HF := hide hf
    by_cases hd : 16 ≤ d
    · go_enter Tryd.func106, Tryd.ntmps106
      go_wp2_with fail
      go_ret
      exact HE.out _ HF.out.symm
    · have hd' : decide (16 ≤ d) = false := by simpa using hd
      by_cases ha : 16 ≤ a
      · go_enter Tryd.func106, Tryd.ntmps106
        go_wp2_with fail
        go_ret
        exact HE.out _ HF.out.symm
      · have ha' : decide (16 ≤ a) = false := by simpa using ha
        have hb : 16 ≤ b := by omega
        go_enter Tryd.func106, Tryd.ntmps106
        go_wp2_with fail
        go_ret
        exact HE.out _ HF.out.symm
end Go.Proofs.YtmmflekajbeamaaDoor

namespace Go.Proofs.YtmmflekajbeamaaDoor
open Go.RowKit

def putCs (l : List PutN) : List Value := l.flatMap fun p => (putV p).toList
theorem putCs_snoc (l : List PutN) (p : PutN) : putCs (l ++ [p]) = putCs l ++ (putV p).toList := by simp [putCs]
theorem infoPut : ∃ i, Tryd.prog.info? 59 = some i ∧ i.zero = some (.agg #[.int .i64 0, .int .i64 0, .int .i64 0, .int .i64 0, .int .i64 0]) ∧ i.size = 5 ∧ i.bytes = 40 := by
  have h : (Tryd.prog.info? 59).map (fun i => (i.zero, i.size, i.bytes)) = some (some (.agg #[.int .i64 0, .int .i64 0, .int .i64 0, .int .i64 0, .int .i64 0]), 5, 40) := by kernel_rfl
  cases hq : Tryd.prog.info? 59 with
  | none => rw [hq] at h; cases h
  | some i =>
    rw [hq] at h
    simp only [Option.map_some, Option.some.injEq, Prod.mk.injEq] at h
    exact ⟨i, rfl, h.1, h.2.1, h.2.2⟩
theorem putAt_extr (s : ByteArray) (i : Nat) (hi : i + 8 ≤ s.size) : putAt (s.extract i (i + 8)) 0 = putAt s i := by
  have e : ∀ j, j < 8 → bt (s.extract i (i + 8)) j = bt s (i + j) := fun j hj => extr_get s i 8 j hi hj
  have e4 := extr_beN s i 8 4 hi 4 (by decide)
  have h0 := e 0 (by decide); have h1 := e 1 (by decide); have h2 := e 2 (by decide); have h3 := e 3 (by decide)
  unfold bt at h0 h1 h2 h3
  unfold putAt
  simp only [Nat.zero_add, Nat.add_zero] at *
  rw [h0, h1, h2, h3, e4]
/-- What a reading of puts leaves. -/
def PutsPost (s : ByteArray) (w : World) (e' : Ending) (w' : World) : Prop :=
  Below w.heap.size w w' ∧ ((putsOK s ∧ ∃ v, e' = .returned (.tuple #[v, .int .i64 0]) ∧ w'.ownsRow w.heap.size 59 5 v (s.size / 8) (putCs (putL s (s.size / 8)))) ∨ (¬ putsOK s ∧ e' = .returned (.tuple #[.slice none 0 0, .int .i64 11])))

set_option maxRecDepth 100000 in
set_option maxHeartbeats 1000000 in
theorem plansPuts_any (s : ByteArray) (w : World) (hs : s.size ≤ maxLen) :
    Calls Tryd.prog 62 #[.string s] w (PutsPost s w) := by
  obtain ⟨inf, hinf, hz, hsz1, hby⟩ := infoPut
  have HInf := hide hinf; have HZ := hide hz; have HSz := hide hsz1; have HBy := hide hby
  clear hinf hz hsz1 hby
  unfold maxLen at hs
  by_cases h8 : s.size % 8 = 0
  · have h8' : (s.size : Int) % 8 = 0 := by omega
    by_cases h80 : s.size ≤ 80
    · have h80' : decide ((80 : Int) < (s.size : Int)) = false := by simp; omega
      go_enter Tryd.func62, Tryd.ntmps62
      go_wp2_with fail
      go_loopw [4, 5] (fun v i wr => ∃ k j : Nat, 8 * k ≤ s.size ∧ j = 8 * k ∧ i = .int .i64 j ∧ wr.ownsRow w.heap.size 59 5 v k (putCs (putL s k)) ∧ Below w.heap.size w wr ∧ Hid (∀ q, q < k → okPut (putAt s (8 * q)))) (fun _ i _ => s.size - (intOf i).toNat)
      case atStart => exact ⟨0, 0, Nat.zero_le _, rfl, rfl, World.ownsRow_nil _ _ _ _, Below.refl _ _, fun q hq => by omega⟩
      case round =>
        obtain ⟨k, j, hk, hj, rfl, hown, hbl, HG⟩ := hrel
        obtain ⟨va, vc, hv⟩ := owns_len hown
        subst hv
        have HO := hide hown; have HBl := hide hbl; have HJ := hide hj
        have hwz := hbl.size
        by_cases hlt : j < s.size
        · have hlt' : (j : Int) < (s.size : Int) := by omega
          have hj8 : j + 8 ≤ s.size := by omega
          have hj8' : (j : Int) + 8 ≤ (s.size : Int) := by omega
          have hkk : k ≤ 10 := by omega
          have hr := fun w' => readPut_any (s.extract j (j + 8)) w' (by rw [ByteArray.size_extract]; omega)
          rw [putAt_extr s j hj8] at hr
          have hi := fun w' => isPut_any (putAt s j).kind (putAt s j).d (putAt s j).a (putAt s j).b (putAt s j).k w'
          rw [okPutI_eq] at hi
          simp only [putV] at hr
          have HR := hide hr
          clear hr hown hbl hj h8 h8' hk
          by_cases hok : okPut (putAt s j)
          · rw [@decide_eq_true _ (okDec _) hok] at hi
            have HI := hide hi
            clear hi
            go_wp2_with fail
            refine (unhide HR _).mono ?_
            rintro e w1 ⟨rfl, hb1⟩
            have HB1 := hide hb1
            have hz1 := hb1.size
            clear hb1
            go_wp2_with fail
            refine (unhide HI _).mono ?_
            rintro e w2 ⟨rfl, hb2⟩
            have HB2 := hide hb2
            have hz2 := hb2.size
            rw [size_alloc1] at hz2
            have x0 : w2.cell? ⟨w1.heap.size, 0, none⟩ = some (.int .i64 (putAt s j).kind) := by rw [below_cell' hb2 _ _ (by rw [size_alloc1]; omega), World.cell?_alloc_at (hn := rfl)]; rfl
            have x1 : w2.cell? ⟨w1.heap.size, 1, none⟩ = some (.int .i64 (putAt s j).d) := by rw [below_cell' hb2 _ _ (by rw [size_alloc1]; omega), World.cell?_alloc_at (hn := rfl)]; rfl
            have x2 : w2.cell? ⟨w1.heap.size, 2, none⟩ = some (.int .i64 (putAt s j).a) := by rw [below_cell' hb2 _ _ (by rw [size_alloc1]; omega), World.cell?_alloc_at (hn := rfl)]; rfl
            have x3 : w2.cell? ⟨w1.heap.size, 3, none⟩ = some (.int .i64 (putAt s j).b) := by rw [below_cell' hb2 _ _ (by rw [size_alloc1]; omega), World.cell?_alloc_at (hn := rfl)]; rfl
            have x4 : w2.cell? ⟨w1.heap.size, 4, none⟩ = some (.int .i64 (putAt s j).k) := by rw [below_cell' hb2 _ _ (by rw [size_alloc1]; omega), World.cell?_alloc_at (hn := rfl)]; rfl
            clear hb2
            have HO2 := hide (own_grow (own_grow HO.out HB1.out) (((Below.refl _ _).alloc (Nat.le_refl _) _).trans (HB2.out.mono (by rw [size_alloc1]; omega))))
            have HBw : Hid (Below w.heap.size w w2) := ((HBl.out.trans (HB1.out.mono hwz)).alloc (by omega) _).trans (HB2.out.mono (by rw [size_alloc1]; omega))
            have HS : Hid (putCs (putL s (k + 1)) = putCs (putL s k) ++ [.int .i64 (putAt s j).kind, .int .i64 (putAt s j).d, .int .i64 (putAt s j).a, .int .i64 (putAt s j).b, .int .i64 (putAt s j).k]) := by
              unfold Hid
              rw [putL_succ, putCs_snoc, ← HJ.out]
              rfl
            have HK : Hid (∀ q, q < k + 1 → okPut (putAt s (8 * q))) := fun q hq => by
              by_cases hqk : q = k
              · subst hqk; rw [← HJ.out]; exact hok
              · exact HG.out q (by omega)
            clear HR HI
            generalize putAt s j = p at *
            go_wp2_with (at_builtin; refine wpList_append_lies _ rfl _ _ 61 rfl w.heap.size 59 inf _ 5 40 Tryd.underlying61 HInf.out HZ.out HSz.out HBy.out rfl (by decide) (.slice va k vc) k (putCs (putL s k)) rfl (HO2.out.alloc _) ⟨w2.heap.size, 0, none⟩ 1 1 [.int .i64 p.kind, .int .i64 p.d, .int .i64 p.a, .int .i64 p.b, .int .i64 p.k] rfl rfl (World.news_of_block (_root_.Go.heap_alloc_new w2 _)) (fun u hu => by simp at hu; rcases hu with rfl | rfl | rfl | rfl | rfl <;> rfl) (by decide) (by unfold maxLen; omega) (by omega) (by rw [size_alloc1]; omega) (w2.heap.size + 1) (by rw [size_alloc1]) ?_; intro g2' cap2 w3 hown2 hgr2 hat2 hlt2; have HO3 := hide hown2; have HGr := hide hgr2; clear hown2 hgr2 hat2)
            refine ⟨⟨k + 1, j + 8, by have := HJ.out; omega, by have := HJ.out; omega, by go_num, ?_, ?_, HK⟩, by simp [intOf]; omega⟩
            · rw [HS.out]
              exact HO3.out
            · exact (HBw.out.alloc (by omega) _).grown HGr.out (by rw [size_alloc1]; omega) (fun q hq => (row_lt HO2.out q hq).1)
          · rw [@decide_eq_false _ (okDec _) hok] at hi
            have HI := hide hi
            have HN : Hid (¬ putsOK s) := fun h => hok (by have := h.2.2 k (by have := HJ.out; omega); rw [← HJ.out] at this; exact this)
            clear hi hok
            go_wp2_with fail
            refine (unhide HR _).mono ?_
            rintro e w1 ⟨rfl, hb1⟩
            have HB1 := hide hb1
            have hz1 := hb1.size
            clear hb1
            go_wp2_with fail
            refine (unhide HI _).mono ?_
            rintro e w2 ⟨rfl, hb2⟩
            have HB2 := hide hb2
            clear hb2
            go_wp2_with fail
            go_ret2
            exact ⟨((HBl.out.trans (HB1.out.mono hwz)).alloc (by omega) _).trans (HB2.out.mono (by rw [size_alloc1]; omega)), .inr ⟨HN.out, rfl⟩⟩
        · have hlt' : ¬ (j : Int) < (s.size : Int) := by omega
          have hkn : k = s.size / 8 := by omega
          have HOK : Hid (putsOK s) := ⟨h8, h80, fun q hq => HG.out q (by omega)⟩
          clear hown hbl hj hk
          go_wp2_with fail
          go_ret2
          rw [hkn] at HO
          exact ⟨HBl.out, .inl ⟨HOK.out, _, rfl, HO.out⟩⟩
    · have h80' : (80 : Int) < (s.size : Int) := by omega
      have HN : Hid (¬ putsOK s) := fun h => h80 h.2.1
      go_enter Tryd.func62, Tryd.ntmps62
      go_wp2_with fail
      go_ret2
      exact ⟨Below.refl _ _, .inr ⟨HN.out, rfl⟩⟩
  · have h8' : ((s.size : Int) % 8 == 0) = false := by simp; omega
    have HN : Hid (¬ putsOK s) := fun h => h8 h.1
    go_enter Tryd.func62, Tryd.ntmps62
    go_wp2_with fail
    go_ret2
    exact ⟨Below.refl _ _, .inr ⟨HN.out, rfl⟩⟩
end Go.Proofs.YtmmflekajbeamaaDoor
