/-
  The document's own answer: the first byte that begins no character (broken); the lines of a text (lines).
  The document's own answer: the tokens of a line (tokens).
-/
import Derived.Test.YtmmflekajbeamaaDoorG11
import Derived.Test.YtmmflekajbeamaaDoorG14
import Derived.OwnWalk
import Derived.Laws.OwnMore
namespace Go.Proofs.YtmmflekajbeamaaDoor
open Go.RowKit

set_option maxRecDepth 100000 in
set_option maxHeartbeats 4000000 in
theorem broken_any (s : ByteArray) (w : World) (hs : s.size ≤ 2000) :
    Calls Tryd.prog 71 #[.string s] w fun e' w' => Below w.heap.size w w' ∧ ((brkGo s s.size 0 1 1 = none ∧ e' = .returned (.agg #[.int .i64 0, .int .i64 0])) ∨ ∃ l c, brkGo s s.size 0 1 1 = some (l, c) ∧ 1 ≤ l ∧ e' = .returned (.agg #[.int .i64 l, .int .i64 c])) := by
  have HWd := hide (fun i w' (hi : i < s.size) => width_any s i w' hi hs)
  go_enter Tryd.func71, Tryd.ntmps71
  go_wp2_with fail
  go_loop [3, 4, 5] (fun ln col i => ∃ (f p : Nat) (l c : Int), p ≤ s.size ∧ s.size ≤ p + f ∧ i = .int .i64 p ∧ ln = .int .i64 l ∧ col = .int .i64 c ∧ 1 ≤ l ∧ l ≤ (p : Int) + 1 ∧ 0 ≤ c ∧ c ≤ (p : Int) + 1 ∧ Hid (brkGo s f p l c = brkGo s s.size 0 1 1)) (fun _ _ i => s.size - (intOf i).toNat)
  case atStart => exact ⟨s.size, 0, 1, 1, Nat.zero_le _, by omega, rfl, rfl, rfl, by decide, by decide, by decide, by decide, rfl⟩
  case round =>
    obtain ⟨f, p, l, c, hp, hf, rfl, rfl, rfl, l0, l1, c0, c1, HG⟩ := hrel
    by_cases hlt : p < s.size
    · obtain ⟨f, rfl⟩ : ∃ f', f = f' + 1 := ⟨f - 1, by omega⟩
      have hlt' : (p : Int) < (s.size : Int) := by omega
      have hstep := HG.out
      rw [brkGo, if_pos hlt] at hstep
      have hgb := bt_get s p hlt
      have hbl := bt_lt s p
      by_cases hw : wid s p = 0
      · rw [if_pos hw] at hstep
        have HS := hide hstep.symm
        have HW : Hid (∀ w', Calls Tryd.prog 112 #[.string s, .int .i64 p] w' fun e' w'' => e' = .returned (.int .i64 0) ∧ w'' = w') := fun w' => by have := HWd.out p w' hlt; rw [hw] at this; exact this
        clear hstep HG
        go_wp2_with fail
        refine (unhide HW _).mono ?_
        rintro e w' ⟨rfl, hw'⟩
        obtain rfl := hw'.symm
        go_wp2_with fail
        refine bodyPost_ret (v := .agg #[.int .i64 l, .int .i64 c]) (by simp [results, Tryd.results71, go_sem]) rfl ?_
        exact ⟨(Below.refl _ _).alloc (Nat.le_refl _) _, .inr ⟨l, c, HS.out, l0, rfl⟩⟩
      · rw [if_neg hw] at hstep
        obtain ⟨_, _, hle, ha, _, _⟩ := wid_pos s p hlt hw
        have HW := hide (fun w' => HWd.out p w' hlt)
        have hwp : (1 : Int) ≤ (wid s p : Int) := by omega
        have hwz : ¬ (wid s p : Int) = 0 := by omega
        have hwl : (wid s p : Int) ≤ 2000 := by omega
        by_cases h10 : bt s p = 10
        · rw [if_pos h10] at hstep
          have HS := hide hstep
          have h10' : (bt s p : Int) = 10 := by omega
          clear hstep HG
          go_wp2_with fail
          refine (unhide HW _).mono ?_
          rintro e w' ⟨rfl, hw'⟩
          obtain rfl := hw'.symm
          go_wp2_with fail
          refine ⟨⟨f, p + wid s p, l + 1, 1, by omega, by omega, by go_num, rfl, rfl, by omega, by omega, by omega, by omega, HS⟩, by simp [intOf]; omega⟩
        · rw [if_neg h10] at hstep
          have HS := hide hstep
          have h10' : ¬ (bt s p : Int) = 10 := by omega
          clear hstep HG
          go_wp2_with fail
          refine (unhide HW _).mono ?_
          rintro e w' ⟨rfl, hw'⟩
          obtain rfl := hw'.symm
          go_wp2_with fail
          refine ⟨⟨f, p + wid s p, l, c + 1, by omega, by omega, by go_num, rfl, rfl, by omega, by omega, by omega, by omega, HS⟩, by simp [intOf]; omega⟩
    · have hpe : p = s.size := by omega
      have hlt' : ¬ (p : Int) < (s.size : Int) := by omega
      have HS : Hid (brkGo s s.size 0 1 1 = none) := by
        unfold Hid
        rw [← HG.out]
        cases f with
        | zero => rfl
        | succ f => rw [brkGo, if_neg hlt]
      clear HG
      go_wp2_with fail
      refine bodyPost_ret (v := .agg #[.int .i64 0, .int .i64 0]) (by simp [results, Tryd.results71, go_sem]) rfl ?_
      exact ⟨(Below.refl _ _).alloc (Nat.le_refl _) _, .inl ⟨HS.out, rfl⟩⟩

theorem infoStr : ∃ i, Tryd.prog.info? 9 = some i ∧ i.zero = some (.string ⟨#[]⟩) ∧ i.size = 1 ∧ i.bytes = 16 := by
  have h : (Tryd.prog.info? 9).map (fun i => (i.zero, i.size, i.bytes)) = some (some (.string ⟨#[]⟩), 1, 16) := by kernel_rfl
  cases hq : Tryd.prog.info? 9 with
  | none => rw [hq] at h; cases h
  | some i =>
    rw [hq] at h
    simp only [Option.map_some, Option.some.injEq, Prod.mk.injEq] at h
    exact ⟨i, rfl, h.1, h.2.1, h.2.2⟩
def strCs (l : List ByteArray) : List Value := l.map Value.string
theorem strCs_snoc (l : List ByteArray) (x : ByteArray) : strCs (l ++ [x]) = strCs l ++ [.string x] := by simp [strCs]
theorem own_grow {w w1 : World} {B : Nat} {e : TypeId} {k : Nat} {v : Value} {n : Nat} {xs : List Value} (h : w.ownsRow B e k v n xs) (hb : Below w.heap.size w w1) : w1.ownsRow B e k v n xs := ownsRow_keep h (fun g hg => hb.block g (row_lt h g hg).2)

set_option maxRecDepth 100000 in
set_option maxHeartbeats 4000000 in
theorem lines_any (s : ByteArray) (w : World) (hs : s.size ≤ 2000) :
    Calls Tryd.prog 113 #[.string s] w fun e' w' => Below w.heap.size w w' ∧ ∃ v, e' = .returned v ∧ w'.ownsRow w.heap.size 9 1 v (linesD s).length (strCs (linesD s)) := by
  obtain ⟨inf, hinf, hz, hsz1, hby⟩ := infoStr
  have HInf := hide hinf; have HZ := hide hz; have HSz := hide hsz1; have HBy := hide hby
  clear hinf hz hsz1 hby
  go_enter Tryd.func113, Tryd.ntmps113
  go_wp2_with fail
  go_loopw [3, 4, 5] (fun l fr i wr => ∃ (k a : Nat) (acc : List ByteArray), k ≤ s.size ∧ a ≤ k ∧ acc.length ≤ k ∧ i = .int .i64 k ∧ fr = .int .i64 a ∧ wr.ownsRow w.heap.size 9 1 l acc.length (strCs acc) ∧ Below w.heap.size w wr ∧ Hid (acc ++ lnGo s (s.size - k) k a = linesD s)) (fun _ _ i _ => s.size - (intOf i).toNat)
  case atStart => exact ⟨0, 0, [], Nat.zero_le _, Nat.le_refl _, Nat.le_refl _, rfl, rfl, World.ownsRow_nil _ _ _ _, Below.refl _ _, by unfold Hid; rw [List.nil_append, Nat.sub_zero]; rfl⟩
  case round =>
    obtain ⟨k, a, acc, hk, hak, hal, hi, hfr, hown, hbl, HG⟩ := hrel
    obtain ⟨va, vc, hv⟩ := owns_len hown
    subst hi hfr hv
    have HO := hide hown; have HBl := hide hbl
    have hwz := hbl.size
    clear hown hbl
    by_cases hlt : k < s.size
    · have hlt' : (k : Int) < (s.size : Int) := by omega
      have hgb := bt_get s k hlt
      have hbl2 := bt_lt s k
      have hstep := HG.out
      rw [show s.size - k = (s.size - (k + 1)) + 1 by omega, lnGo, if_pos hlt] at hstep
      by_cases h10 : bt s k = 10
      · rw [if_pos h10] at hstep
        have HS := hide hstep
        have h10' : (bt s k : Int) = 10 := by omega
        have hak' : (a : Int) ≤ (k : Int) := by omega
        clear hstep HG
        go_wp2_with (at_builtin; refine wpList_append_lies _ rfl _ _ 120 rfl w.heap.size 9 inf _ 1 16 Tryd.underlying120 HInf.out HZ.out HSz.out HBy.out rfl (by decide) (.slice va acc.length vc) acc.length (strCs acc) rfl (HO.out.alloc _) ⟨wr.heap.size, 0, none⟩ 1 1 [.string (s.extract a k)] rfl rfl (World.news_of_block (_root_.Go.heap_alloc_new wr _)) (fun u hu => by simp at hu; subst hu; rfl) (by decide) (by unfold maxLen; omega) (by omega) (by rw [size_alloc1]; omega) (wr.heap.size + 1) (by rw [size_alloc1]) ?_; intro g2' cap2 w3 hown2 hgr2 hat2 hlt2; have HO2 := hide hown2; have HGr := hide hgr2; clear hown2 hgr2 hat2)
        refine ⟨⟨k + 1, k + 1, acc ++ [s.extract a k], by omega, Nat.le_refl _, by simp; omega, by go_num, by go_num, ?_, ?_, ?_⟩, by simp [intOf]; omega⟩
        · rw [strCs_snoc, List.length_append, List.length_singleton]
          exact HO2.out
        · exact (HBl.out.alloc hwz _).grown HGr.out (by rw [size_alloc1]; omega) (fun j hj => (row_lt HO.out j hj).1)
        · unfold Hid
          rw [List.append_assoc]
          exact HS.out
      · rw [if_neg h10] at hstep
        have HS := hide hstep
        have h10' : ¬ (bt s k : Int) = 10 := by omega
        clear hstep HG
        go_wp2_with fail
        exact ⟨⟨k + 1, a, acc, by omega, by omega, by omega, by go_num, rfl, HO.out, HBl.out, HS⟩, by simp [intOf]; omega⟩
    · have hkn : k = s.size := by omega
      subst hkn
      have hlt' : ¬ (s.size : Int) < (s.size : Int) := by omega
      have hak' : (a : Int) ≤ (s.size : Int) := by omega
      have hstep := HG.out
      rw [Nat.sub_self, lnGo] at hstep
      have HS := hide hstep
      clear hstep HG
      go_wp2_with (at_builtin; refine wpList_append_lies _ rfl _ _ 120 rfl w.heap.size 9 inf _ 1 16 Tryd.underlying120 HInf.out HZ.out HSz.out HBy.out rfl (by decide) (.slice va acc.length vc) acc.length (strCs acc) rfl (HO.out.alloc _) ⟨wr.heap.size, 0, none⟩ 1 1 [.string (s.extract a s.size)] rfl rfl (World.news_of_block (_root_.Go.heap_alloc_new wr _)) (fun u hu => by simp at hu; subst hu; rfl) (by decide) (by unfold maxLen; omega) (by omega) (by rw [size_alloc1]; omega) (wr.heap.size + 1) (by rw [size_alloc1]) ?_; intro g2' cap2 w3 hown2 hgr2 hat2 hlt2; have HO2 := hide hown2; have HGr := hide hgr2; clear hown2 hgr2 hat2)
      go_ret
      refine ⟨(HBl.out.alloc hwz _).grown HGr.out (by rw [size_alloc1]; omega) (fun j hj => (row_lt HO.out j hj).1), _, rfl, ?_⟩
      rw [← HS.out, strCs_snoc, List.length_append, List.length_singleton]
      exact HO2.out
end Go.Proofs.YtmmflekajbeamaaDoor

namespace Go.Proofs.YtmmflekajbeamaaDoor
open Go.RowKit

def dtC (p : ByteArray × Int) : List Value := [.string p.1, .int .i64 p.2]
def dtCs (l : List (ByteArray × Int)) : List Value := l.flatMap dtC
theorem dtCs_snoc (l : List (ByteArray × Int)) (p : ByteArray × Int) : dtCs (l ++ [p]) = dtCs l ++ dtC p := by simp [dtCs]
theorem dtCs_len (l : List (ByteArray × Int)) : (dtCs l).length = l.length * 2 := by
  induction l with
  | nil => rfl
  | cons a l ih =>
    show (dtC a ++ dtCs l).length = _
    rw [List.length_append, ih, List.length_cons]
    show 2 + _ = _
    omega
theorem dtCs_last (l : List (ByteArray × Int)) (y x : ByteArray) (c : Int) : (dtCs (l ++ [(y, c)])).set (l.length * 2) (.string x) = dtCs (l ++ [(x, c)]) := by
  rw [dtCs_snoc, dtCs_snoc, List.set_append_right _ _ (by rw [dtCs_len]; exact Nat.le_refl _), dtCs_len, Nat.sub_self]
  rfl
theorem snoc_of {l : List (ByteArray × Int)} (h : l ≠ []) : ∃ l' y c, l = l' ++ [(y, c)] := by
  exact ⟨l.dropLast, (l.getLast h).1, (l.getLast h).2, (List.dropLast_concat_getLast h).symm⟩
theorem infoTok : ∃ i, Tryd.prog.info? 159 = some i ∧ i.zero = some (.agg #[.string ⟨#[]⟩, .int .i64 0]) ∧ i.size = 2 ∧ i.bytes = 24 := by
  have h : (Tryd.prog.info? 159).map (fun i => (i.zero, i.size, i.bytes)) = some (some (.agg #[.string ⟨#[]⟩, .int .i64 0]), 2, 24) := by kernel_rfl
  cases hq : Tryd.prog.info? 159 with
  | none => rw [hq] at h; cases h
  | some i =>
    rw [hq] at h
    simp only [Option.map_some, Option.some.injEq, Prod.mk.injEq] at h
    exact ⟨i, rfl, h.1, h.2.1, h.2.2⟩
structure TkInv (t : ByteArray) (p : Nat) (d : DS) : Prop where
  c0 : 1 ≤ d.col
  c1 : d.col ≤ (p : Int) + 1
  e0 : 0 ≤ d.e
  e1 : d.e ≤ (p : Int) + 1
  f0 : -1 ≤ d.frm
  f1 : d.frm ≤ p
  ne : 0 ≤ d.frm → d.l ≠ []
  ln : d.l.length ≤ p
theorem TkInv.step {t : ByteArray} {p : Nat} {d : DS} (h : TkInv t p d) (hw : wid t p ≠ 0) : TkInv t (p + wid t p) (stepD t p d) := by
  have := h.c0; have := h.c1; have := h.e0; have := h.e1; have := h.f0; have := h.f1; have := h.ln
  unfold stepD
  split
  · exact ⟨by simp only; omega, by simp only; omega, by simp only; omega, by simp only; omega, by simp, by simp only; omega, (fun h => by simp only at h; omega), by simp only; omega⟩
  · split
    · exact ⟨by simp only; omega, by simp only; omega, by simp only; omega, by simp only; omega, by simp only; omega, by simp only; omega, (fun _ => by simp), by simp; omega⟩
    · rename_i hf
      obtain ⟨l', y, c, hl⟩ := snoc_of (h.ne (by omega))
      have hlen : (setLast d.l (t.extract d.frm.toNat (p + wid t p))).length = d.l.length := by rw [hl, setLast_snoc]; simp
      refine ⟨by simp only; omega, by simp only; omega, by simp only; omega, by simp only; omega, by simp only; omega, by simp only; omega, (fun _ => ?_), by simp only [hlen]; omega⟩
      simp only
      rw [hl, setLast_snoc]
      simp

set_option maxRecDepth 100000 in
set_option maxHeartbeats 8000000 in
theorem tokens_any (t : ByteArray) (w : World) (hs : t.size ≤ 2000) (hv : Val t) :
    Calls Tryd.prog 114 #[.string t] w fun e' w' => Below w.heap.size w w' ∧ ∃ v, e' = .returned (.tuple #[v, .int .i64 (toksD t).2]) ∧ w'.ownsRow w.heap.size 159 2 v (toksD t).1.length (dtCs (toksD t).1) := by
  obtain ⟨inf, hinf, hz, hsz1, hby⟩ := infoTok
  have HInf := hide hinf; have HZ := hide hz; have HSz := hide hsz1; have HBy := hide hby
  clear hinf hz hsz1 hby
  have HWd := hide (fun i w' (hi : i < t.size) => width_any t i w' hi hs)
  go_enter Tryd.func114, Tryd.ntmps114
  go_wp2_with fail
  go_loopw [4, 5, 6, 7, 8] (fun l e col fr i wr => ∃ (f p : Nat) (d : DS), p ≤ t.size ∧ t.size ≤ p + f ∧ i = .int .i64 p ∧ fr = .int .i64 d.frm ∧ col = .int .i64 d.col ∧ e = .int .i64 d.e ∧ wr.ownsRow w.heap.size 159 2 l d.l.length (dtCs d.l) ∧ Below w.heap.size w wr ∧ TkInv t p d ∧ Hid (Seg t p t.size) ∧ Hid (tkGo t f p d = tkGo t t.size 0 d0)) (fun _ _ _ _ i _ => t.size - (intOf i).toNat)
  case atStart => exact ⟨t.size, 0, d0, Nat.zero_le _, by omega, rfl, rfl, rfl, rfl, World.ownsRow_nil _ _ _ _, Below.refl _ _, ⟨by decide, by decide, by decide, by decide, by decide, by decide, (fun h => by simp [d0] at h), by decide⟩, hv, rfl⟩
  case round =>
    obtain ⟨f, p, d, hp, hf, hi, hfr, hcol, he, hown, hbl, htk, HSeg, HG⟩ := hrel
    obtain ⟨va, vc, hv2⟩ := owns_len hown
    subst hi hfr hcol he hv2
    have HO := hide hown; have HBl := hide hbl
    have hwz := hbl.size
    have HTk := hide htk
    clear hown hbl
    have stop : ∀ (_ : tkGo t f p d = d), toksD t = (d.l, d.e) := fun h1 => by unfold toksD; rw [← HG.out, h1]; rfl
    have HStop := hide stop
    clear stop
    by_cases hlt : p < t.size
    · obtain ⟨f, rfl⟩ : ∃ f', f = f' + 1 := ⟨f - 1, by omega⟩
      have hlt' : (p : Int) < (t.size : Int) := by omega
      have hgb := bt_get t p hlt
      have hbl2 := bt_lt t p
      obtain ⟨hw, _, hseg'⟩ := HSeg.out.cons hlt
      obtain ⟨_, _, hle, _⟩ := wid_pos t p hlt hw
      by_cases h59 : bt t p = 59
      · have h59' : (bt t p : Int) = 59 := by omega
        have HR := hide (HStop.out (by rw [tkGo, if_pos hlt, if_pos h59]))
        clear HG HStop htk
        go_wp2_with fail
        refine bodyPost_ret (v := .tuple #[.slice va d.l.length vc, .int .i64 d.e]) (by simp [results, Tryd.results114, go_sem]) rfl ?_
        rw [HR.out]
        exact ⟨HBl.out, _, rfl, HO.out⟩
      · have h59' : ¬ (bt t p : Int) = 59 := by omega
        have hstep := HG.out
        rw [tkGo, if_pos hlt, if_neg h59] at hstep
        have HTk' := hide (htk.step hw)
        have HSeg' := hide hseg'
        have HW := hide (fun w' => HWd.out p w' hlt)
        have hwp : (1 : Int) ≤ (wid t p : Int) := by omega
        have hwl : (wid t p : Int) ≤ 2000 := by omega
        have hc0 := htk.c0; have hc1 := htk.c1; have hf0 := htk.f0; have hf1 := htk.f1; have hln := htk.ln
        clear htk hseg' HG HStop
        have hbu : (bt t p : Int) ≤ 255 := by omega
        by_cases hsp : bt t p = 32 ∨ bt t p = 9
        · have eS : stepD t p d = { d with frm := -1, col := d.col + 1 } := by unfold stepD; rw [if_pos hsp]
          rw [eS] at hstep HTk'
          have HS := hide hstep
          clear hstep eS
          by_cases h32 : bt t p = 32
          · have h32' : (bt t p : Int) = 32 := by omega
            go_wp2_with fail
            refine (unhide HW _).mono ?_
            rintro e w' ⟨rfl, hw'⟩
            obtain rfl := hw'.symm
            go_wp2_with fail
            exact ⟨⟨f, p + wid t p, { d with frm := -1, col := d.col + 1 }, hle, by omega, by go_num, rfl, by go_num, rfl, HO.out, HBl.out, HTk'.out, HSeg', HS⟩, by simp [intOf]; omega⟩
          · have h32' : ¬ (bt t p : Int) = 32 := by omega
            have h9' : (bt t p : Int) = 9 := by omega
            go_wp2_with fail
            refine (unhide HW _).mono ?_
            rintro e w' ⟨rfl, hw'⟩
            obtain rfl := hw'.symm
            go_wp2_with fail
            exact ⟨⟨f, p + wid t p, { d with frm := -1, col := d.col + 1 }, hle, by omega, by go_num, rfl, by go_num, rfl, HO.out, HBl.out, HTk'.out, HSeg', HS⟩, by simp [intOf]; omega⟩
        · have h32' : ¬ (bt t p : Int) = 32 := by omega
          have h9' : ¬ (bt t p : Int) = 9 := by omega
          have n32 : ((bt t p : Int) == 32) = false := by rw [beq_eq_false_iff_ne]; exact h32'
          have n9 : ((bt t p : Int) == 9) = false := by rw [beq_eq_false_iff_ne]; exact h9'
          have hto : ((p : Int) + (wid t p : Int)).toNat = p + wid t p := by omega
          have hpw : (p : Int) + (wid t p : Int) ≤ (t.size : Int) := by omega
          by_cases hneg : d.frm < 0
          · have eS : stepD t p d = ⟨d.l ++ [(t.extract p (p + wid t p), d.col)], d.col + 1, d.col + 1, p⟩ := by unfold stepD; rw [if_neg hsp, if_pos hneg]
            rw [eS] at hstep HTk'
            have HS := hide hstep
            clear hstep eS
            go_wp2_with fail
            refine (unhide HW _).mono ?_
            rintro e w' ⟨rfl, hw'⟩
            obtain rfl := hw'.symm
            go_wp2_with (at_builtin; refine wpList_append_lies _ rfl _ _ 155 rfl w.heap.size 159 inf _ 2 24 Tryd.underlying155 HInf.out HZ.out HSz.out HBy.out rfl (by decide) (.slice va d.l.length vc) d.l.length (dtCs d.l) rfl (HO.out.alloc _) ⟨wr.heap.size, 0, none⟩ 1 1 (dtC (⟨#[]⟩, d.col)) rfl rfl (World.news_of_block (_root_.Go.heap_alloc_new wr _)) (fun u hu => by simp [dtC] at hu; rcases hu with rfl | rfl <;> rfl) (by decide) (by unfold maxLen; omega) (by omega) (by rw [size_alloc1]; omega) (wr.heap.size + 1) (by rw [size_alloc1]) ?_; intro g2' cap2 w3 hown2 hgr2 hat2 hlt2; have HO2 := hide hown2; have HGr := hide hgr2; have q0 : w3.cell? ⟨g2', d.l.length * 2, none⟩ = some (.string ⟨#[]⟩) := (hown2.cellAt _ (by omega)).trans (by rw [List.getElem?_append_right (by rw [dtCs_len]; exact Nat.le_refl _), dtCs_len, Nat.sub_self]; rfl); have qf := hown2.frozenAt (d.l.length * 2); clear hown2 hgr2 hat2)
            refine ⟨⟨f, p + wid t p, ⟨d.l ++ [(t.extract p (p + wid t p), d.col)], d.col + 1, d.col + 1, p⟩, hle, by omega, by go_num, rfl, rfl, rfl, ?_, ?_, HTk'.out, HSeg', HS⟩, by simp [intOf]; omega⟩
            · have := (HO2.out.stored (d.l.length * 2) (.string (t.extract p (p + wid t p)))).1
              rw [← dtCs_snoc, dtCs_last] at this
              simp only [List.length_append, List.length_singleton]
              exact this
            · exact ((HBl.out.alloc hwz _).grown HGr.out (by rw [size_alloc1]; omega) (fun j hj => (row_lt HO.out j hj).1)).setCell (p := ⟨g2', d.l.length * 2, none⟩) (row_lt HO2.out g2' rfl).1 _
          · obtain ⟨l', y, c, hl⟩ := snoc_of (HTk.out.ne (by omega))
            have eS : stepD t p d = ⟨l' ++ [(t.extract d.frm.toNat (p + wid t p), c)], d.col + 1, d.col + 1, d.frm⟩ := by unfold stepD; rw [if_neg hsp, if_neg hneg, hl, setLast_snoc]
            rw [eS] at hstep HTk'
            have HS := hide hstep
            have hlen : d.l.length = l'.length + 1 := by rw [hl]; simp
            obtain ⟨g, cap3, hform, hgb2, hgl⟩ := HO.out.form (by omega)
            have HO3 : Hid (wr.ownsRow w.heap.size 159 2 (.slice (some ⟨g, 0, none⟩) (l'.length + 1) cap3) (l'.length + 1) (dtCs (l' ++ [(y, c)]))) := by
              have := HO.out
              rw [hform, hlen, hl] at this
              exact this
            have hvv : Value.slice va d.l.length vc = .slice (some ⟨g, 0, none⟩) (l'.length + 1) cap3 := by rw [hform, hlen]
            have q0 : wr.cell? ⟨g, l'.length * 2, none⟩ = some (.string y) := (HO3.out.cellAt _ (by omega)).trans (by rw [dtCs_snoc, List.getElem?_append_right (by rw [dtCs_len]; exact Nat.le_refl _), dtCs_len, Nat.sub_self]; rfl)
            have qf := HO3.out.frozenAt (l'.length * 2)
            have hfto : (d.frm.toNat : Int) = d.frm := by omega
            obtain ⟨fn, hfn⟩ : ∃ fn : Nat, d.frm = (fn : Int) := ⟨d.frm.toNat, hfto.symm⟩
            have hfn2 : d.frm.toNat = fn := by omega
            have hfp : (fn : Int) ≤ (p : Int) + (wid t p : Int) := by omega
            have hfneg : ¬ (fn : Int) < 0 := by omega
            rw [hfn2] at HTk' HS
            rw [hvv, hfn]
            have hll : l'.length ≤ 5000 := by omega
            have HFn := hide hfn
            rw [hfn] at HTk' HS
            clear hstep eS hl hlen hform hvv hfto hfn hfn2 hneg hf0 hf1 HTk
            go_wp2_with fail
            refine (unhide HW _).mono ?_
            rintro e w' ⟨rfl, hw'⟩
            obtain rfl := hw'.symm
            go_wp2_with fail
            refine ⟨⟨f, p + wid t p, ⟨l' ++ [(t.extract fn (p + wid t p), c)], d.col + 1, d.col + 1, fn⟩, hle, by omega, by go_num, rfl, rfl, rfl, ?_, ?_, HTk'.out, HSeg', HS⟩, by simp [intOf]; omega⟩
            · have := (HO3.out.stored (l'.length * 2) (.string (t.extract fn (p + wid t p)))).1
              rw [dtCs_last] at this
              simp only [List.length_append, List.length_singleton]
              exact this
            · exact HBl.out.setCell (p := ⟨g, l'.length * 2, none⟩) hgb2 _
    · have HR := hide (HStop.out (by cases f with | zero => rfl | succ f => rw [tkGo, if_neg hlt]))
      have hlt' : ¬ (p : Int) < (t.size : Int) := by omega
      clear HG HStop htk
      go_wp2_with fail
      refine bodyPost_ret (v := .tuple #[.slice va d.l.length vc, .int .i64 d.e]) (by simp [results, Tryd.results114, go_sem]) rfl ?_
      rw [HR.out]
      exact ⟨HBl.out, _, rfl, HO.out⟩
end Go.Proofs.YtmmflekajbeamaaDoor
