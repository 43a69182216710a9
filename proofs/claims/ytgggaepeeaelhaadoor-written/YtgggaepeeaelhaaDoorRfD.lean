/-
  The document's own answer: the first byte that begins no character (broken); the lines of a text (lines).
-/
import Derived.Test.YtgggaepeeaelhaaDoorRfC
import Derived.Test.YtgggaepeeaelhaaDoorAsJ
import Derived.OwnWalk
namespace Go.Proofs.YtgggaepeeaelhaaDoor
open Go.RowKit

set_option maxRecDepth 100000 in
set_option maxHeartbeats 4000000 in
theorem broken_any (s : ByteArray) (w : World) (hs : s.size ≤ 2000) :
    Calls Tryd.prog 71 #[.string s] w fun e' w' => Below w.heap.size w w' ∧ ((brkGo s s.size 0 1 1 = none ∧ e' = .returned (.agg #[.int .i64 0, .int .i64 0])) ∨ ∃ l c, brkGo s s.size 0 1 1 = some (l, c) ∧ 1 ≤ l ∧ e' = .returned (.agg #[.int .i64 l, .int .i64 c])) := by
  have HWd := hide (fun i w' (hi : i < s.size) => width_any s i w' hi hs)
  go_enter Tryd.func71, Tryd.ntmps71
  go_wp2_with fail
  go_loop [3, 4, 5] (fun ln col i => ∃ (f p : Nat) (l c : Int), p ≤ s.size ∧ s.size ≤ p + f ∧ i = .int .i64 p ∧ ln = .int .i64 l ∧ col = .int .i64 c ∧ 1 ≤ l ∧ l ≤ (p : Int) + 1 ∧ 0 ≤ c ∧ c ≤ (p : Int) + 1 ∧ Hid (brkGo s f p l c = brkGo s s.size 0 1 1)) (fun _ _ i => s.size - (intOf i).toNat)
  case atStart => exact ⟨s.size, 0, 1, 1, Nat.zero_le _, by omega, rfl, rfl, rfl, by decide, by decide, by decide, by decide, rfl⟩
  case round =>
    obtain ⟨f, p, l, c, hp, hf, rfl, rfl, rfl, l0, l1, c0, c1, HG⟩ := hrel
    by_cases hlt : p < s.size
    · obtain ⟨f, rfl⟩ : ∃ f', f = f' + 1 := ⟨f - 1, by omega⟩
      have hlt' : (p : Int) < (s.size : Int) := by omega
      have hstep := HG.out
      rw [brkGo, if_pos hlt] at hstep
      have hgb := bt_get s p hlt
      have hbl := bt_lt s p
      by_cases hw : wid s p = 0
      · rw [if_pos hw] at hstep
        have HS := hide hstep.symm
        have HW : Hid (∀ w', Calls Tryd.prog 112 #[.string s, .int .i64 p] w' fun e' w'' => e' = .returned (.int .i64 0) ∧ w'' = w') := fun w' => by have := HWd.out p w' hlt; rw [hw] at this; exact this
        clear hstep HG
        go_wp2_with fail
        refine (unhide HW _).mono ?_
        rintro e w' ⟨rfl, hw'⟩
        obtain rfl := hw'.symm
        go_wp2_with fail
        refine bodyPost_ret (v := .agg #[.int .i64 l, .int .i64 c]) (by simp [results, Tryd.results71, go_sem]) rfl ?_
        exact ⟨(Below.refl _ _).alloc (Nat.le_refl _) _, .inr ⟨l, c, HS.out, l0, rfl⟩⟩
      · rw [if_neg hw] at hstep
        obtain ⟨_, _, hle, ha, _, _⟩ := wid_pos s p hlt hw
        have HW := hide (fun w' => HWd.out p w' hlt)
        have hwp : (1 : Int) ≤ (wid s p : Int) := by omega
        have hwz : ¬ (wid s p : Int) = 0 := by omega
        have hwl : (wid s p : Int) ≤ 2000 := by omega
        by_cases h10 : bt s p = 10
        · rw [if_pos h10] at hstep
          have HS := hide hstep
          have h10' : (bt s p : Int) = 10 := by omega
          clear hstep HG
          go_wp2_with fail
          refine (unhide HW _).mono ?_
          rintro e w' ⟨rfl, hw'⟩
          obtain rfl := hw'.symm
          go_wp2_with fail
          refine ⟨⟨f, p + wid s p, l + 1, 1, by omega, by omega, by go_num, rfl, rfl, by omega, by omega, by omega, by omega, HS⟩, by simp [intOf]; omega⟩
        · rw [if_neg h10] at hstep
          have HS := hide hstep
          have h10' : ¬ (bt s p : Int) = 10 := by omega
          clear hstep HG
          go_wp2_with fail
          refine (unhide HW _).mono ?_
          rintro e w' ⟨rfl, hw'⟩
          obtain rfl := hw'.symm
          go_wp2_with fail
          refine ⟨⟨f, p + wid s p, l, c + 1, by omega, by omega, by go_num, rfl, rfl, by omega, by omega, by omega, by omega, HS⟩, by simp [intOf]; omega⟩
    · have hpe : p = s.size := by omega
      have hlt' : ¬ (p : Int) < (s.size : Int) := by omega
      have HS : Hid (brkGo s s.size 0 1 1 = none) := by
        unfold Hid
        rw [← HG.out]
        cases f with
        | zero => rfl
        | succ f => rw [brkGo, if_neg hlt]
      clear HG
      go_wp2_with fail
      refine bodyPost_ret (v := .agg #[.int .i64 0, .int .i64 0]) (by simp [results, Tryd.results71, go_sem]) rfl ?_
      exact ⟨(Below.refl _ _).alloc (Nat.le_refl _) _, .inl ⟨HS.out, rfl⟩⟩

theorem infoStr : ∃ i, Tryd.prog.info? 9 = some i ∧ i.zero = some (.string ⟨#[]⟩) ∧ i.size = 1 ∧ i.bytes = 16 := by
  have h : (Tryd.prog.info? 9).map (fun i => (i.zero, i.size, i.bytes)) = some (some (.string ⟨#[]⟩), 1, 16) := by kernel_rfl
  cases hq : Tryd.prog.info? 9 with
  | none => rw [hq] at h; cases h
  | some i =>
    rw [hq] at h
    simp only [Option.map_some, Option.some.injEq, Prod.mk.injEq] at h
    exact ⟨i, rfl, h.1, h.2.1, h.2.2⟩
def strCs (l : List ByteArray) : List Value := l.map Value.string
theorem strCs_snoc (l : List ByteArray) (x : ByteArray) : strCs (l ++ [x]) = strCs l ++ [.string x] := by simp [strCs]
theorem own_grow {w w1 : World} {B : Nat} {e : TypeId} {k : Nat} {v : Value} {n : Nat} {xs : List Value} (h : w.ownsRow B e k v n xs) (hb : Below w.heap.size w w1) : w1.ownsRow B e k v n xs := ownsRow_keep h (fun g hg => hb.block g (row_lt h g hg).2)

set_option maxRecDepth 100000 in
set_option maxHeartbeats 4000000 in
theorem lines_any (s : ByteArray) (w : World) (hs : s.size ≤ 2000) :
    Calls Tryd.prog 113 #[.string s] w fun e' w' => Below w.heap.size w w' ∧ ∃ v, e' = .returned v ∧ w'.ownsRow w.heap.size 9 1 v (linesD s).length (strCs (linesD s)) := by
  obtain ⟨inf, hinf, hz, hsz1, hby⟩ := infoStr
  have HInf := hide hinf; have HZ := hide hz; have HSz := hide hsz1; have HBy := hide hby
  clear hinf hz hsz1 hby
  go_enter Tryd.func113, Tryd.ntmps113
  go_wp2_with fail
  go_loopw [3, 4, 5] (fun l fr i wr => ∃ (k a : Nat) (acc : List ByteArray), k ≤ s.size ∧ a ≤ k ∧ acc.length ≤ k ∧ i = .int .i64 k ∧ fr = .int .i64 a ∧ wr.ownsRow w.heap.size 9 1 l acc.length (strCs acc) ∧ Below w.heap.size w wr ∧ Hid (acc ++ lnGo s (s.size - k) k a = linesD s)) (fun _ _ i _ => s.size - (intOf i).toNat)
  case atStart => exact ⟨0, 0, [], Nat.zero_le _, Nat.le_refl _, Nat.le_refl _, rfl, rfl, World.ownsRow_nil _ _ _ _, Below.refl _ _, by unfold Hid; rw [List.nil_append, Nat.sub_zero]; rfl⟩
  case round =>
    obtain ⟨k, a, acc, hk, hak, hal, hi, hfr, hown, hbl, HG⟩ := hrel
    obtain ⟨va, vc, hv⟩ := owns_len hown
    subst hi hfr hv
    have HO := hide hown; have HBl := hide hbl
    have hwz := hbl.size
    clear hown hbl
    by_cases hlt : k < s.size
    · have hlt' : (k : Int) < (s.size : Int) := by omega
      have hgb := bt_get s k hlt
      have hbl2 := bt_lt s k
      have hstep := HG.out
      rw [show s.size - k = (s.size - (k + 1)) + 1 by omega, lnGo, if_pos hlt] at hstep
      by_cases h10 : bt s k = 10
      · rw [if_pos h10] at hstep
        have HS := hide hstep
        have h10' : (bt s k : Int) = 10 := by omega
        have hak' : (a : Int) ≤ (k : Int) := by omega
        clear hstep HG
        go_wp2_with (at_builtin; refine wpList_append_lies _ rfl _ _ 120 rfl w.heap.size 9 inf _ 1 16 Tryd.underlying120 HInf.out HZ.out HSz.out HBy.out rfl (by decide) (.slice va acc.length vc) acc.length (strCs acc) rfl (HO.out.alloc _) ⟨wr.heap.size, 0, none⟩ 1 1 [.string (s.extract a k)] rfl rfl (World.news_of_block (_root_.Go.heap_alloc_new wr _)) (fun u hu => by simp at hu; subst hu; rfl) (by decide) (by unfold maxLen; omega) (by omega) (by rw [size_alloc1]; omega) (wr.heap.size + 1) (by rw [size_alloc1]) ?_; intro g2' cap2 w3 hown2 hgr2 hat2 hlt2; have HO2 := hide hown2; have HGr := hide hgr2; clear hown2 hgr2 hat2)
        refine ⟨⟨k + 1, k + 1, acc ++ [s.extract a k], by omega, Nat.le_refl _, by simp; omega, by go_num, by go_num, ?_, ?_, ?_⟩, by simp [intOf]; omega⟩
        · rw [strCs_snoc, List.length_append, List.length_singleton]
          exact HO2.out
        · exact (HBl.out.alloc hwz _).grown HGr.out (by rw [size_alloc1]; omega) (fun j hj => (row_lt HO.out j hj).1)
        · unfold Hid
          rw [List.append_assoc]
          exact HS.out
      · rw [if_neg h10] at hstep
        have HS := hide hstep
        have h10' : ¬ (bt s k : Int) = 10 := by omega
        clear hstep HG
        go_wp2_with fail
        exact ⟨⟨k + 1, a, acc, by omega, by omega, by omega, by go_num, rfl, HO.out, HBl.out, HS⟩, by simp [intOf]; omega⟩
    · have hkn : k = s.size := by omega
      subst hkn
      have hlt' : ¬ (s.size : Int) < (s.size : Int) := by omega
      have hak' : (a : Int) ≤ (s.size : Int) := by omega
      have hstep := HG.out
      rw [Nat.sub_self, lnGo] at hstep
      have HS := hide hstep
      clear hstep HG
      go_wp2_with (at_builtin; refine wpList_append_lies _ rfl _ _ 120 rfl w.heap.size 9 inf _ 1 16 Tryd.underlying120 HInf.out HZ.out HSz.out HBy.out rfl (by decide) (.slice va acc.length vc) acc.length (strCs acc) rfl (HO.out.alloc _) ⟨wr.heap.size, 0, none⟩ 1 1 [.string (s.extract a s.size)] rfl rfl (World.news_of_block (_root_.Go.heap_alloc_new wr _)) (fun u hu => by simp at hu; subst hu; rfl) (by decide) (by unfold maxLen; omega) (by omega) (by rw [size_alloc1]; omega) (wr.heap.size + 1) (by rw [size_alloc1]) ?_; intro g2' cap2 w3 hown2 hgr2 hat2 hlt2; have HO2 := hide hown2; have HGr := hide hgr2; clear hown2 hgr2 hat2)
      go_ret
      refine ⟨(HBl.out.alloc hwz _).grown HGr.out (by rw [size_alloc1]; omega) (fun j hj => (row_lt HO.out j hj).1), _, rfl, ?_⟩
      rw [← HS.out, strCs_snoc, List.length_append, List.length_singleton]
      exact HO2.out
end Go.Proofs.YtgggaepeeaelhaaDoor
