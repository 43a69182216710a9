/-
  The program's device: a turn (device.turn).
  The program's device: Add, Clear, Sync, Read, Trouble (package device).
  A region that draws its order, by a plan: which operations are readers that are taken first (wherever they stand), and the one order in which the others come; S is shown anew behind all that come ahead of q.
  The program's device: a crash (area.crash, device.Crash).
-/
import Derived.Test.YtmmflekajbeamabGreatDoorW12
import Derived.Test.YtmmflekajbeamabGreatDoorW04
import Derived.Test.YtmmflekajbeamabGreatDoorW11
namespace Go.Proofs.YtmmflekajbeamabGreatDoor
open Go.RowKit

set_option maxRecDepth 100000 in
set_option maxHeartbeats 1000000 in
theorem turn_bad (D : Nat) (i : Int) (w : World) (h : i < 0 ∨ 2 ≤ i) :
    Calls Tryz.prog 79 #[.pointer (some ⟨D, 0, none⟩), .int .i64 i] w fun e' w' => e' = .returned (.tuple #[.pointer none, .int .i64 13]) ∧ w' = w := by
  rcases h with h | h
  · go_enter Tryz.func79, Tryz.ntmps79
    go_wp2_with fail
    go_ret2
    exact ⟨rfl, rfl⟩
  · have h1 : ¬ i < 0 := by omega
    go_enter Tryz.func79, Tryz.ntmps79
    go_wp2_with fail
    go_ret2
    exact ⟨rfl, rfl⟩
theorem trW {t : Nat} (h : 1 ≤ t) (hb : (t : Int) ≤ 9223372036854775807) : wrap64 ((t : Int) - 1) = ((t - 1 : Nat) : Int) := by unfold wrap64; omega
set_option maxRecDepth 100000 in
set_option maxHeartbeats 1000000 in
theorem turn_ok (D : Nat) (d : DvN) (vs : Nat → Value) (i : Nat) (w : World) (h : DvAt D d vs w) (hi : i < 2) (ht : d.tr ≠ 1) :
    Calls Tryz.prog 79 #[.pointer (some ⟨D, 0, none⟩), .int .i64 (i : Int)] w fun e' w' => e' = .returned (.tuple #[.pointer (some ⟨D, i * 2, none⟩), .int .i64 0]) ∧ DvAt D d.tick vs w' ∧ DFr D vs vs w w' := by
  have h1 : ¬ (i : Int) < 0 := by omega
  have h2 : (i : Int) < 2 := by omega
  have c4 := h.tr
  have f4 := h.fz 4
  have HH := hide h
  by_cases h0 : d.tr = 0
  · have HE : Hid (d.tick = d) := by unfold Hid DvN.tick; rw [h0]; cases d; simp_all
    rw [h0] at c4
    clear h
    go_enter Tryz.func79, Tryz.ntmps79
    go_wp2_with fail
    go_ret2
    exact ⟨rfl, by rw [HE.out]; exact HH.out, DFr.refl _ _ _⟩
  · have hp : (0 : Int) < (d.tr : Int) := by omega
    have hw := trW (by omega) h.trb
    have hz : ¬ ((d.tr - 1 : Nat) : Int) = 0 := by omega
    have HS := hide (h.setTr (d.tr - 1) (by have := h.trb; omega))
    have HW : Hid (∀ W, W = w.setCell ⟨D, 4, none⟩ (.int .i64 ((d.tr - 1 : Nat) : Int)) → DvAt D d.tick vs W ∧ DFr D vs vs w W) := fun W e => by rw [e]; exact HS.out
    clear h HS
    generalize d.tr - 1 = t at *
    generalize (d.tr : Int) = T at *
    go_enter Tryz.func79, Tryz.ntmps79
    go_wp2_with fail
    go_ret2
    exact ⟨rfl, HW.out _ rfl⟩
set_option maxRecDepth 100000 in
set_option maxHeartbeats 1000000 in
theorem turn_fail (D : Nat) (d : DvN) (vs : Nat → Value) (i : Nat) (w : World) (h : DvAt D d vs w) (hi : i < 2) (ht : d.tr = 1) :
    Calls Tryz.prog 79 #[.pointer (some ⟨D, 0, none⟩), .int .i64 (i : Int)] w fun e' w' => e' = .returned (.tuple #[.pointer none, .int .i64 15]) ∧ DvAt D d.tick vs w' ∧ DFr D vs vs w w' := by
  have h1 : ¬ (i : Int) < 0 := by omega
  have h2 : (i : Int) < 2 := by omega
  have c4 := h.tr
  have f4 := h.fz 4
  have HS := hide (h.setTr 0 (by decide))
  have HW : Hid (∀ W, W = w.setCell ⟨D, 4, none⟩ (.int .i64 0) → DvAt D d.tick vs W ∧ DFr D vs vs w W) := fun W e => by
    rw [e]
    have : d.tick = { d with tr := 0 } := by unfold DvN.tick; rw [ht]
    rw [this]
    exact HS.out
  rw [ht] at c4
  clear h HS
  go_enter Tryz.func79, Tryz.ntmps79
  go_wp2_with fail
  go_ret2
  exact ⟨rfl, HW.out _ rfl⟩
end Go.Proofs.YtmmflekajbeamabGreatDoor

namespace Go.Proofs.YtmmflekajbeamabGreatDoor
open Go.RowKit

def DPost (D : Nat) (vs : Nat → Value) (w : World) (n : Int) (d' : DvN) (e' : Ending) (w' : World) : Prop := e' = .returned (.int .i64 n) ∧ ∃ vs', DvAt D d' vs' w' ∧ DFr D vs vs' w w'
def dAdd (d : DvN) (i : Int) (s : List UInt8) : Int × DvN :=
  if i < 0 ∨ 2 ≤ i then (13, d) else if d.tr = 1 then (15, d.tick) else if 1500 < (d.b i.toNat).length + s.length then (14, d.tick) else (0, { d.tick with b := upd d.b i.toNat (d.b i.toNat ++ s) })
def dClear (d : DvN) (i : Int) : Int × DvN :=
  if i < 0 ∨ 2 ≤ i then (13, d) else if d.tr = 1 then (15, d.tick) else (0, { d.tick with b := upd d.b i.toNat [], n := upd d.n i.toNat 0 })
def dSync (d : DvN) (i : Int) : Int × DvN :=
  if i < 0 ∨ 2 ≤ i then (13, d) else if d.tr = 1 then (15, d.tick) else (0, { d.tick with n := upd d.n i.toNat (d.b i.toNat).length })
def dRead (d : DvN) (i : Int) : List UInt8 × Int × DvN :=
  if i < 0 ∨ 2 ≤ i then ([], 13, d) else if d.tr = 1 then ([], 15, d.tick) else (d.b i.toNat, 0, d.tick)
theorem area_nat {i : Int} (h : ¬ (i < 0 ∨ 2 ≤ i)) : ∃ n : Nat, i = (n : Int) ∧ n < 2 := ⟨i.toNat, by omega, by omega⟩
theorem DPost.same {D : Nat} {vs : Nat → Value} {w : World} {n : Int} {d : DvN} (h : DvAt D d vs w) : DPost D vs w n d (.returned (.int .i64 n)) w := ⟨rfl, vs, h, DFr.refl _ _ _⟩
theorem tick_at (d : DvN) : d.tick.b = d.b ∧ d.tick.n = d.n := ⟨rfl, rfl⟩

set_option maxRecDepth 100000 in
set_option maxHeartbeats 2000000 in
theorem dAdd_any (D : Nat) (d : DvN) (vs : Nat → Value) (i : Int) (s : ByteArray) (w : World) (h : DvAt D d vs w) (hs : s.size ≤ 140737488351232) :
    Calls Tryz.prog 51 #[.pointer (some ⟨D, 0, none⟩), .int .i64 i, .string s] w (DPost D vs w (dAdd d i (lst s)).1 (dAdd d i (lst s)).2) := by
  by_cases hb : i < 0 ∨ 2 ≤ i
  · have e : dAdd d i (lst s) = (13, d) := if_pos hb
    rw [e]
    have HT := hide (turn_bad D i w hb)
    have HH := hide h
    clear h hb e
    go_enter Tryz.func51, Tryz.ntmps51
    go_wp2_with fail
    refine (unhide HT).mono ?_
    rintro e w' ⟨rfl, hw⟩
    obtain rfl := hw.symm
    go_wp2_with fail
    go_ret
    exact DPost.same HH.out
  obtain ⟨n, rfl, hn⟩ := area_nat hb
  have e0 : dAdd d (n : Int) (lst s) = if d.tr = 1 then (15, d.tick) else if 1500 < (d.b n).length + (lst s).length then (14, d.tick) else (0, { d.tick with b := upd d.b n (d.b n ++ lst s) }) := if_neg hb
  rw [e0]
  clear e0 hb
  by_cases ht : d.tr = 1
  · rw [if_pos ht]
    have HT := hide (turn_fail D d vs n w h hn ht)
    clear h
    go_enter Tryz.func51, Tryz.ntmps51
    go_wp2_with fail
    refine (unhide HT).mono ?_
    rintro e w1 ⟨rfl, hd, hf⟩
    have HD := hide hd; have HF := hide hf
    clear hd hf
    go_wp2_with fail
    go_ret
    exact ⟨rfl, vs, HD.out, HF.out⟩
  · rw [if_neg ht]
    by_cases hl : 1500 < (d.b n).length + (lst s).length
    · rw [if_pos hl]
      have HT := hide (turn_ok D d vs n w h hn ht)
      have hlb := h.len n hn
      have hlst : (lst s).length = s.size := lst_len s
      clear h
      go_enter Tryz.func51, Tryz.ntmps51
      go_wp2_with fail
      refine (unhide HT).mono ?_
      rintro e w1 ⟨rfl, hd, hf⟩
      have HD := hide hd; have HF := hide hf
      have c0 := hd.bytes n hn
      obtain ⟨a, c, hv⟩ := owns_len (hd.own n hn)
      rw [(tick_at d).1] at hv
      rw [hv] at c0
      have hl' : (1500 : Int) < ((d.b n).length : Int) + (s.size : Int) := by omega
      clear hd hf HT hlst hl
      go_wp2_with fail
      go_ret
      exact ⟨rfl, vs, HD.out, HF.out⟩
    · rw [if_neg hl]
      have HT := hide (turn_ok D d vs n w h hn ht)
      have hlb := h.len n hn
      have hlst : (lst s).length = s.size := lst_len s
      clear h
      go_enter Tryz.func51, Tryz.ntmps51
      go_wp2_with fail
      refine (unhide HT).mono ?_
      rintro e w1 ⟨rfl, hd, hf⟩
      have HD := hide hd; have HF := hide hf
      have c0 := hd.bytes n hn
      obtain ⟨a, c, hv⟩ := owns_len (hd.own n hn)
      rw [(tick_at d).1] at hv
      rw [hv] at c0
      have hl' : ¬ (1500 : Int) < ((d.b n).length : Int) + (s.size : Int) := by omega
      have hl2 : (d.b n).length + s.size ≤ 1500 := by omega
      have HL : Hid ((d.b n ++ lst s).length = (d.b n).length + s.size) := by unfold Hid; rw [List.length_append, hlst]
      have HO : Hid (w1.ownsRow (D + 1) 5 1 (.slice a (d.b n).length c) (d.b n).length (u8C (d.b n))) := by
        have := hd.own n hn
        rw [hv] at this
        exact this
      have HV := hide hv
      have hD1 := hd.lt
      have f0 := hd.fz (n * 2)
      obtain ⟨inf, hinf, hz, hsz1, hby⟩ := infoU8
      have HInf := hide hinf; have HZ := hide hz; have HSz := hide hsz1; have HBy := hide hby
      clear hinf hz hsz1 hby hd hf HT hlst hl hv
      generalize (d.b n).length = L at *
      go_wp2_with (at_builtin; refine wpList_append_str _ rfl _ _ 121 9 rfl (D + 1) 5 inf Tryz.underlying121 Tryz.underlying9 HInf.out HZ.out HSz.out HBy.out (.slice a L c) L (u8C (d.b n)) rfl HO.out s rfl (by unfold maxLen; omega) (by omega) hD1 ?_
                   intro v3 w3 o3 hg3 hw3
                   obtain ⟨a3, k3, rfl⟩ := owns_len o3
                   have HO3 := hide o3; have HG3 := hide hg3; have HW3 := hide hw3
                   have hD : w3.heap[D]? = w1.heap[D]? := hg3.block D hD1 (fun e => by have := (row_lt HO.out D e.symm).1; omega)
                   have c3 := (World.cell?_of_block (a := ⟨D, n * 2, none⟩) hD).trans c0
                   have f3 := (World.frozen?_of_block (a := ⟨D, n * 2, none⟩) hD).trans f0
                   clear o3 hg3 hw3 hD c0 f0)
      go_ret
      have o3 := HO3.out
      rw [strCells_u8, ← u8C_app] at o3
      have o4 : w3.ownsRow (D + 1) 5 1 (.slice a3 (L + s.size) k3) (d.b n ++ lst s).length (u8C (d.b n ++ lst s)) := by rw [HL.out]; exact o3
      have k := HD.out.setB hn o4 (by rw [HV.out]; exact HG3.out) (own_from (by rw [HV.out]; exact HW3.out)) (by rw [HL.out]; exact hl2)
      exact ⟨rfl, _, k.1, HF.out.trans k.2⟩

set_option maxRecDepth 100000 in
set_option maxHeartbeats 2000000 in
theorem dClear_any (D : Nat) (d : DvN) (vs : Nat → Value) (i : Int) (w : World) (h : DvAt D d vs w) :
    Calls Tryz.prog 76 #[.pointer (some ⟨D, 0, none⟩), .int .i64 i] w (DPost D vs w (dClear d i).1 (dClear d i).2) := by
  by_cases hb : i < 0 ∨ 2 ≤ i
  · have e : dClear d i = (13, d) := if_pos hb
    rw [e]
    have HT := hide (turn_bad D i w hb)
    have HH := hide h
    clear h hb e
    go_enter Tryz.func76, Tryz.ntmps76
    go_wp2_with fail
    refine (unhide HT).mono ?_
    rintro e w' ⟨rfl, hw⟩
    obtain rfl := hw.symm
    go_wp2_with fail
    go_ret
    exact DPost.same HH.out
  obtain ⟨n, rfl, hn⟩ := area_nat hb
  have e0 : dClear d (n : Int) = if d.tr = 1 then (15, d.tick) else (0, { d.tick with b := upd d.b n [], n := upd d.n n 0 }) := if_neg hb
  rw [e0]
  clear e0 hb
  by_cases ht : d.tr = 1
  · rw [if_pos ht]
    have HT := hide (turn_fail D d vs n w h hn ht)
    clear h
    go_enter Tryz.func76, Tryz.ntmps76
    go_wp2_with fail
    refine (unhide HT).mono ?_
    rintro e w1 ⟨rfl, hd, hf⟩
    have HD := hide hd; have HF := hide hf
    clear hd hf
    go_wp2_with fail
    go_ret
    exact ⟨rfl, vs, HD.out, HF.out⟩
  · rw [if_neg ht]
    have HT := hide (turn_ok D d vs n w h hn ht)
    clear h
    go_enter Tryz.func76, Tryz.ntmps76
    go_wp2_with fail
    refine (unhide HT).mono ?_
    rintro e w1 ⟨rfl, hd, hf⟩
    have HD := hide hd; have HF := hide hf
    have c0 := hd.bytes n hn
    have c1 := hd.last n hn
    have f0 := hd.fz (n * 2)
    have f1 := hd.fz (n * 2 + 1)
    clear hd hf HT
    go_wp2_with fail
    go_ret
    have k1 := HD.out.setB hn (v := .slice none 0 0) (b := []) (World.ownsRow_nil _ _ _ _) ⟨rfl, rfl, rfl, Nat.le_refl _, fun _ _ _ => rfl⟩ (fun g e => by cases e) (by simp)
    have k2 := k1.1.setN hn 0
    exact ⟨rfl, _, k2.1, HF.out.trans (k1.2.trans k2.2)⟩
set_option maxRecDepth 100000 in
set_option maxHeartbeats 2000000 in
theorem dSync_any (D : Nat) (d : DvN) (vs : Nat → Value) (i : Int) (w : World) (h : DvAt D d vs w) :
    Calls Tryz.prog 52 #[.pointer (some ⟨D, 0, none⟩), .int .i64 i] w (DPost D vs w (dSync d i).1 (dSync d i).2) := by
  by_cases hb : i < 0 ∨ 2 ≤ i
  · have e : dSync d i = (13, d) := if_pos hb
    rw [e]
    have HT := hide (turn_bad D i w hb)
    have HH := hide h
    clear h hb e
    go_enter Tryz.func52, Tryz.ntmps52
    go_wp2_with fail
    refine (unhide HT).mono ?_
    rintro e w' ⟨rfl, hw⟩
    obtain rfl := hw.symm
    go_wp2_with fail
    go_ret
    exact DPost.same HH.out
  obtain ⟨n, rfl, hn⟩ := area_nat hb
  have e0 : dSync d (n : Int) = if d.tr = 1 then (15, d.tick) else (0, { d.tick with n := upd d.n n (d.b n).length }) := if_neg hb
  rw [e0]
  clear e0 hb
  by_cases ht : d.tr = 1
  · rw [if_pos ht]
    have HT := hide (turn_fail D d vs n w h hn ht)
    clear h
    go_enter Tryz.func52, Tryz.ntmps52
    go_wp2_with fail
    refine (unhide HT).mono ?_
    rintro e w1 ⟨rfl, hd, hf⟩
    have HD := hide hd; have HF := hide hf
    clear hd hf
    go_wp2_with fail
    go_ret
    exact ⟨rfl, vs, HD.out, HF.out⟩
  · rw [if_neg ht]
    have HT := hide (turn_ok D d vs n w h hn ht)
    clear h
    go_enter Tryz.func52, Tryz.ntmps52
    go_wp2_with fail
    refine (unhide HT).mono ?_
    rintro e w1 ⟨rfl, hd, hf⟩
    have HD := hide hd; have HF := hide hf
    have c0 := hd.bytes n hn
    obtain ⟨a, c, hv⟩ := owns_len (hd.own n hn)
    rw [(tick_at d).1] at hv
    rw [hv] at c0
    have c1 := hd.last n hn
    have f1 := hd.fz (n * 2 + 1)
    clear hd hf HT hv
    go_wp2_with fail
    go_ret
    have k2 := HD.out.setN hn (d.b n).length
    exact ⟨rfl, _, k2.1, HF.out.trans k2.2⟩

set_option maxRecDepth 100000 in
set_option maxHeartbeats 2000000 in
theorem dRead_any (D : Nat) (d : DvN) (vs : Nat → Value) (i : Int) (w : World) (h : DvAt D d vs w) :
    Calls Tryz.prog 50 #[.pointer (some ⟨D, 0, none⟩), .int .i64 i] w fun e' w' => e' = .returned (.tuple #[.string (bya (dRead d i).1), .int .i64 (dRead d i).2.1]) ∧ ∃ vs', DvAt D (dRead d i).2.2 vs' w' ∧ DFr D vs vs' w w' := by
  by_cases hb : i < 0 ∨ 2 ≤ i
  · have e : dRead d i = ([], 13, d) := if_pos hb
    rw [e]
    have HT := hide (turn_bad D i w hb)
    have HH := hide h
    clear h hb e
    go_enter Tryz.func50, Tryz.ntmps50
    go_wp2_with fail
    refine (unhide HT).mono ?_
    rintro e w' ⟨rfl, hw⟩
    obtain rfl := hw.symm
    go_wp2_with fail
    go_ret2
    exact ⟨rfl, vs, HH.out, DFr.refl _ _ _⟩
  obtain ⟨n, rfl, hn⟩ := area_nat hb
  have e0 : dRead d (n : Int) = if d.tr = 1 then ([], 15, d.tick) else (d.b n, 0, d.tick) := if_neg hb
  rw [e0]
  clear e0 hb
  by_cases ht : d.tr = 1
  · rw [if_pos ht]
    have HT := hide (turn_fail D d vs n w h hn ht)
    clear h
    go_enter Tryz.func50, Tryz.ntmps50
    go_wp2_with fail
    refine (unhide HT).mono ?_
    rintro e w1 ⟨rfl, hd, hf⟩
    have HD := hide hd; have HF := hide hf
    clear hd hf
    go_wp2_with fail
    go_ret2
    exact ⟨rfl, vs, HD.out, HF.out⟩
  · rw [if_neg ht]
    have HT := hide (turn_ok D d vs n w h hn ht)
    clear h
    go_enter Tryz.func50, Tryz.ntmps50
    go_wp2_with fail
    refine (unhide HT).mono ?_
    rintro e w1 ⟨rfl, hd, hf⟩
    have HD := hide hd; have HF := hide hf
    have c0 := hd.bytes n hn
    have ck := u8_str (hd.own n hn)
    rw [(tick_at d).1] at ck
    obtain ⟨a, c, hv⟩ := owns_len (hd.own n hn)
    rw [hv] at c0 ck
    clear hd hf HT hv
    go_wp2_with fail
    go_ret2
    exact ⟨rfl, vs, HD.out, HF.out⟩

end Go.Proofs.YtmmflekajbeamabGreatDoor

namespace Go.Proofs.YtmmflekajbeamabGreatDoor
open Go

section
variable {P : Program} {ops : Array Oper} {Q : Exit → Act → World → Prop} {md : Region.Mode} {S : World → Prop} {q : Nat}

def tailB (md : Region.Mode) (ops : Array Oper) : List Nat → Array Bool → Bool
  | [], listed => decide (Region.ready md ops listed = [])
  | k :: ts, listed => decide (Region.ready md ops listed = [k]) && tailB md ops ts (listed.setIfInBounds k true)
def headB (md : Region.Mode) (ops : Array Oper) (ts : List Nat) : List Nat → Array Bool → Bool
  | [], listed => tailB md ops ts listed
  | i :: rs, listed => (Region.ready md ops listed).contains i && Region.free md ops listed i && headB md ops ts rs (listed.setIfInBounds i true)
/-- The readers, one by one. -/
def wpTakeI (P : Program) (ops : Array Oper) (S : World → Prop) (Lq : Act → Prop) : List Nat → Act → Prop
  | [], a => Lq a
  | i :: rs, a => ∃ o v, ops[i]? = some o ∧ YieldsIf P ops S o v a ∧ wpTakeI P ops S Lq rs (a.put o.dst v)
/-- The others, in their order. -/
def wpTailI (P : Program) (ops : Array Oper) (Q : Exit → Act → World → Prop) (S : World → Prop) (q : Nat) : List Nat → Act → World → Prop
  | [], a, w => Q .normal a w
  | k :: ts, a, w => ∃ o, ops[k]? = some o ∧ ∀ K : Act → World → Prop, (∀ a' w', (k < q → S w') → wpTailI P ops Q S q ts a' w' → K a' w') → if Region.wanted o (yielded ops a.tmps) then o.wp P a w K Q else K (a.put o.dst undef) w
theorem wpTakeI_nil {Lq : Act → Prop} {a : Act} (h : Lq a) : wpTakeI P ops S Lq [] a := h
theorem wpTakeI_step {Lq : Act → Prop} {a : Act} {i : Nat} {o : Oper} {rs : List Nat} (v : Value) (hi : ops[i]? = some o) (hw : Region.wanted o (yielded ops a.tmps) = true) (hv : ∀ w, S w → (execOp a.eval o).run P w = .ok (.value v) w)
    (h : wpTakeI P ops S Lq rs (a.put o.dst v)) : wpTakeI P ops S Lq (i :: rs) a := ⟨o, v, hi, .inl ⟨hw, hv⟩, h⟩
theorem wpTailI_nil {a : Act} {w : World} (h : Q .normal a w) : wpTailI P ops Q S q [] a w := h
theorem wpTailI_step {k : Nat} {o : Oper} {ts : List Nat} {a : Act} {w : World} (hk : ops[k]? = some o) (hg : o.guard = none) (h : ∀ K : Act → World → Prop, (∀ a' w', (k < q → S w') → wpTailI P ops Q S q ts a' w' → K a' w') → o.wp P a w K Q) : wpTailI P ops Q S q (k :: ts) a w :=
  ⟨o, hk, fun K hK => by
    rw [if_pos (by simp [Region.wanted, hg])]
    exact h K hK⟩

theorem wpAnyQ_tailI : ∀ (ts : List Nat) (listed : Array Bool) (a : Act) (w : World), tailB md ops ts listed = true → wpTailI P ops Q S q ts a w → wpAnyQ P md ops Q S q ts.length listed a w
  | [], _, _, _, hB, h => ⟨by simpa [tailB] using hB, h⟩
  | k :: ts, listed, a, w, hB, h => by
    simp only [tailB, Bool.and_eq_true, decide_eq_true_eq] at hB
    obtain ⟨o, h0, h2⟩ := h
    refine ⟨fun h1 => (by rw [hB.1] at h1; cases h1), fun i hi => ?_⟩
    rw [hB.1] at hi
    have hik : i = k := by simpa using hi
    subst hik
    have h3 := h2 (fun a' w' => (i < q → S w') ∧ wpTailI P ops Q S q ts a' w') (fun _ _ h1 h2 => ⟨h1, h2⟩)
    have hw : wpOp P ops Q i (fun a' w' => (i < q → S w') ∧ wpTailI P ops Q S q ts a' w') a w := by
      unfold wpOp
      simp only [h0]
      split
      · rename_i hq; rw [if_pos hq] at h3; exact .inl h3
      · rename_i hq; rw [if_neg hq] at h3; exact h3
    exact wpOp_mono (fun a' w' h' => ⟨h'.1, wpAnyQ_tailI ts _ a' w' hB.2 h'.2⟩) hw
theorem wpAnyQ_headI {ts : List Nat} {w : World} (hsel : Region.noSelect ops = true) (hQ : ∀ d v c a w, Q (.panic c) (Act.put a d v) w → Q (.panic c) a w) (hS : S w) :
    ∀ (rs : List Nat) (listed : Array Bool) (a : Act), (rs.all fun i => decide (i < q) && (List.range ops.size).all fun j => decide (j < q) || Region.waitsFor md ops j i) = true → headB md ops ts rs listed = true →
      wpTakeI P ops S (fun a' => wpTailI P ops Q S q ts a' w) rs a → wpAnyQ P md ops Q S q (rs.length + ts.length) listed a w
  | [], listed, a, _, hB, h => by
    rw [List.length_nil, Nat.zero_add]
    exact wpAnyQ_tailI ts listed a w hB h
  | i :: rs, listed, a, hl, hB, h => by
    simp only [headB, Bool.and_eq_true] at hB
    simp only [List.all_cons, Bool.and_eq_true, decide_eq_true_eq] at hl
    obtain ⟨⟨hr, hf⟩, hB'⟩ := hB
    obtain ⟨o, v, h0, hy, hK⟩ := h
    rw [List.length_cons, show rs.length + 1 + ts.length = (rs.length + ts.length) + 1 by omega]
    refine wpAnyQ_first h0 (Region.noSelect_spec hsel) (hQ o.dst v) (fun j oj hj hoj => ?_) hl.1.1 (rs.length + ts.length) listed a w (Region.free_spec h0 hf) (by simpa using hr) hy hS (wpAnyQ_headI hsel hQ hS rs _ _ hl.2 hB' hK)
    have hjs : j < ops.size := (Array.getElem?_eq_some_iff.1 hoj).1
    have h1 := List.all_eq_true.1 hl.1.2 j (List.mem_range.2 hjs)
    simp only [Bool.or_eq_true, decide_eq_true_eq] at h1
    rcases h1 with h1 | h1
    · omega
    · obtain ⟨oj', hoj', e, he, hb, hon⟩ := Region.waitsFor_spec h1
      have : oj' = oj := Option.some.inj (hoj'.symm.trans hoj)
      subst this
      exact ⟨e, he, hb, hon⟩
/-- The plan fits the region. -/
def planB (ops : Array Oper) (rs ts : List Nat) (q : Nat) : Bool :=
  Region.noSelect ops && decide (rs.length + ts.length = ops.size) && (rs.all fun i => decide (i < q) && (List.range ops.size).all fun j => decide (j < q) || Region.waitsFor .any ops j i) && headB .any ops ts rs (Array.replicate ops.size false)
theorem held_pick {id : Nat} {a : Act} {w : World} (rs ts : List Nat) (q : Nat) (S : World → Prop) (hm : P.follows .mixedOrders = true) (hB : planB ops rs ts q = true)
    (hQ : ∀ d v c a w, Q (.panic c) (Act.put a d v) w → Q (.panic c) a w) (hS : S w.drew)
    (h : wpTakeI P ops S (fun a' => wpTailI P ops Q S q ts a' w.drew) rs a) : (Code.region id ops true).wp P Q a w := by
  simp only [planB, Bool.and_eq_true, decide_eq_true_eq] at hB
  obtain ⟨⟨⟨hsel, hlen⟩, hlast⟩, hhead⟩ := hB
  have H := wpAnyQ_headI (P := P) (md := .any) (Q := Q) (S := S) (q := q) (w := w.drew) hsel hQ hS rs _ a hlast hhead h
  refine wp_region_any hm ?_
  have H2 := wpAny_of_Q _ _ _ _ H
  rw [hlen] at H2
  exact H2
end
end Go.Proofs.YtmmflekajbeamabGreatDoor

namespace Go.Proofs.YtmmflekajbeamabGreatDoor
open Go.RowKit

/-- What a crash leaves of an area's bytes. -/
def crB (b : List UInt8) (n : Nat) (keep : Int) (junk : List UInt8) : List UInt8 :=
  b.take (n + min keep.toNat (b.length - n)) ++ junk.take (b.length - n - min keep.toNat (b.length - n))
theorem slice_to (a : Option Addr) (L c m : Nat) (ha : a = none ∨ ∃ g, a = some ⟨g, 0, none⟩) (hm : m ≤ c) (w : World) : (Instr.slice 121 (.slice a L c) none (some (.int .i64 (m : Int))) none).run Tryz.prog w = .ok (.slice a m c) w := by
  have hz : ∀ w, (sizeOf (Tryz.prog.elem 121)).run Tryz.prog w = .ok 1 w := fun w => by kernel_rfl
  rw [run_slice_h (P := Tryz.prog) w 121 a L c (by kernel_rfl) .i64 (m : Int) (by omega) (by omega), hz]
  simp only [Result.andThen, sliced, Int.toNat_natCast, Nat.sub_zero]
  congr 2
  rcases ha with rfl | ⟨g, rfl⟩
  · simp
  · split
    · rfl
    · simp [Addr.add]
theorem own_tk {w : World} {B L c m : Nat} {a : Option Addr} {b : List UInt8} (h : w.ownsRow B 5 1 (.slice a L c) L (u8C b)) (hm : m ≤ L) : w.ownsRow B 5 1 (.slice a m c) m (u8C (b.take m)) := by
  have hl : b.length = L := by have := h.1; simpa [u8C] using this
  refine ⟨by simp [u8C]; omega, ?_⟩
  rcases h.2 with ⟨e, h0⟩ | ⟨g, cap, cur, e, h1, h2, h3, h4, h5, h6⟩
  · cases e
    have : m = 0 := by omega
    subst this
    exact .inl ⟨rfl, rfl⟩
  · cases e
    refine .inr ⟨g, _, cur, rfl, h1, h2, by omega, h4, h5, ?_⟩
    rw [Nat.mul_one] at h6 ⊢
    rw [show u8C (b.take m) = (u8C b).take m by simp [u8C, List.map_take], ← h6, List.take_take, Nat.min_eq_left hm]
theorem own_cap {w : World} {B L c : Nat} {a : Option Addr} {xs : List Value} {e : TypeId} (h : w.ownsRow B e 1 (.slice a L c) L xs) : L ≤ c ∧ (a = none ∨ ∃ g, a = some ⟨g, 0, none⟩) := by
  rcases h.2 with ⟨q, h0⟩ | ⟨g, cap, cur, q, h1, h2, h3, h4, h5, h6⟩
  · cases q
    exact ⟨Nat.le_refl _, .inl rfl⟩
  · cases q
    exact ⟨h3, .inr ⟨g, rfl⟩⟩

theorem ownB_len (a : Option Addr) (m n c d : Nat) : (Value.slice a m c).ownBlock = (Value.slice a n d).ownBlock := by cases a <;> rfl
theorem cr1 {L N : Nat} (hN : N ≤ L) (hL : L ≤ 1500) : wrap64 ((L : Int) - (N : Int)) = ((L - N : Nat) : Int) := by unfold wrap64; omega
theorem cr2 (keep : Int) : (if keep < 0 then 0 else keep) = ((keep.toNat : Nat) : Int) := by split <;> omega
theorem cr3 (x y : Nat) : (if x < y then (x : Int) else (y : Int)) = ((min y x : Nat) : Int) := by split <;> omega
theorem cr4 {N M : Nat} (h : N + M ≤ 1500) : wrap64 ((N : Int) + (M : Int)) = ((N + M : Nat) : Int) := by unfold wrap64; omega
theorem cr4i {N M : Nat} (h : N + M ≤ 1500) : IntKind.i64.wrap ((N : Int) + (M : Int)) = ((N + M : Nat) : Int) := by
  simp only [IntKind.wrap, IntKind.signed, IntKind.bits]
  simp
  omega
theorem cr5 {L N k : Nat} (hN : N ≤ L) : N + min k (L - N) ≤ L := by omega
theorem cr6 {L N k z : Nat} (hN : N ≤ L) (hL : L ≤ 1500) : N + min k (L - N) + min (L - N - min k (L - N)) z ≤ 1500 := by
  have := cr5 (k := k) hN
  omega
theorem take_min (l : List UInt8) (m z : Nat) (h : l.length = z) : l.take (min m z) = l.take m := by
  subst h
  rcases Nat.le_total m l.length with h | h
  · rw [Nat.min_eq_left h]
  · rw [Nat.min_eq_right h, List.take_of_length_le (Nat.le_refl _), List.take_of_length_le h]
theorem crB_len (b : List UInt8) (n : Nat) (keep : Int) (j : List UInt8) (h : n ≤ b.length) : (crB b n keep j).length = n + min keep.toNat (b.length - n) + min (b.length - n - min keep.toNat (b.length - n)) j.length := by
  unfold crB
  rw [List.length_append, List.length_take, List.length_take, Nat.min_eq_left (cr5 h)]

set_option maxRecDepth 100000 in
set_option maxHeartbeats 4000000 in
theorem areaCrash_any (D : Nat) (d : DvN) (vs : Nat → Value) (n : Nat) (keep : Int) (junk : ByteArray) (w : World) (h : DvAt D d vs w) (hn : n < 2) (hok : d.n n ≤ (d.b n).length) :
    Calls Tryz.prog 78 #[.pointer (some ⟨D, n * 2, none⟩), .int .i64 keep, .string junk] w fun e' w' => e' = .returned (.tuple #[]) ∧ ∃ vs', DvAt D { d with b := upd d.b n (crB (d.b n) (d.n n) keep (lst junk)), n := upd d.n n (crB (d.b n) (d.n n) keep (lst junk)).length } vs' w' ∧ DFr D vs vs' w w' := by
  have HD := hide h
  have hlen := h.len n hn
  have c0 := h.bytes n hn
  have c1 := h.last n hn
  have f0 := h.fz (n * 2)
  have f1 := h.fz (n * 2 + 1)
  have hD1 := h.lt
  obtain ⟨a, c, hv⟩ := owns_len (h.own n hn)
  rw [hv] at c0
  have ho := h.own n hn
  rw [hv] at ho
  have HV := hide hv
  have hcap := own_cap ho
  have hML := cr5 (k := keep.toNat) hok
  have hMj := cr6 (k := keep.toNat) (z := junk.size) hok hlen
  have hcl := crB_len (d.b n) (d.n n) keep (lst junk) hok
  rw [lst_len] at hcl
  have hcr : crB (d.b n) (d.n n) keep (lst junk) = (d.b n).take (d.n n + min keep.toNat ((d.b n).length - d.n n)) ++ (lst junk).take ((d.b n).length - d.n n - min keep.toNat ((d.b n).length - d.n n)) := rfl
  have e1 := cr1 hok hlen
  have e2 := cr2 keep
  have e3 := cr3 ((d.b n).length - d.n n) keep.toNat
  have e4 := cr1 (L := (d.b n).length - d.n n) (N := min keep.toNat ((d.b n).length - d.n n)) (Nat.min_le_right _ _) (Nat.le_trans (Nat.sub_le _ _) hlen)
  have e5 := cr4 (N := d.n n) (M := min keep.toNat ((d.b n).length - d.n n)) (Nat.le_trans hML hlen)
  have e7 := cr4i (N := d.n n) (M := min keep.toNat ((d.b n).length - d.n n)) (Nat.le_trans hML hlen)
  have e6 := cr3 junk.size ((d.b n).length - d.n n - min keep.toNat ((d.b n).length - d.n n))
  have hje : lst (junk.extract 0 (min ((d.b n).length - d.n n - min keep.toNat ((d.b n).length - d.n n)) junk.size)) = (lst junk).take ((d.b n).length - d.n n - min keep.toNat ((d.b n).length - d.n n)) := by
    rw [lst_ext, List.drop_zero, Nat.sub_zero]
    exact take_min _ _ _ (lst_len junk)
  have hjs : (junk.extract 0 (min ((d.b n).length - d.n n - min keep.toNat ((d.b n).length - d.n n)) junk.size)).size = min ((d.b n).length - d.n n - min keep.toNat ((d.b n).length - d.n n)) junk.size := by
    rw [ByteArray.size_extract, Nat.sub_zero, Nat.min_eq_left (Nat.min_le_right _ _)]
  have hj1 : ((min ((d.b n).length - d.n n - min keep.toNat ((d.b n).length - d.n n)) junk.size : Nat) : Int) ≤ (junk.size : Int) := Int.ofNat_le.2 (Nat.min_le_right _ _)
  have HO := hide (own_tk ho hML)
  have hkS := slice_to a (d.b n).length c _ hcap.2 (Nat.le_trans hML hcap.1)
  generalize min ((d.b n).length - d.n n - min keep.toNat ((d.b n).length - d.n n)) junk.size = ju at *
  generalize (d.b n).length - d.n n - min keep.toNat ((d.b n).length - d.n n) = lo at *
  generalize d.n n + min keep.toNat ((d.b n).length - d.n n) = M at *
  generalize min keep.toNat ((d.b n).length - d.n n) = ks at *
  generalize (d.b n).length - d.n n = Lo at *
  have HCr := hide hcr; have HCl := hide hcl; have HJe := hide hje; have HJs := hide hjs; have HMj := hide hMj
  clear hcr hcl hje hjs hok hlen ho hv hcap hML h hMj
  generalize (d.b n).length = L at *
  generalize d.n n = N at *
  generalize keep.toNat = K at *
  go_enter Tryz.func78, Tryz.ntmps78
  go_wp2_with fail
  go_quiet (fail)
  go_upto_region 3 with fail
  refine held_pick [0, 1, 2, 3, 4, 5, 6, 7, 8, 9, 10, 11, 12, 13, 14, 15] [16, 17, 18, 19, 20, 21] 19 (fun w' => w'.cell? ⟨D, n * 2, none⟩ = some (.slice a L c) ∧ w'.cell? ⟨D, n * 2 + 1, none⟩ = some (.int .i64 (N : Int))) (by kernel_rfl) (by kernel_rfl) (fun d _ _ _ _ h => by cases d <;> exact h) ⟨c0, c1⟩ ?_
  iterate 16
    refine wpTakeI_step ?_ rfl rfl ?_ ?_
    rotate_left
    · rintro w' ⟨d0, d1⟩
      go_simp
      rfl
    go_simp
  refine wpTakeI_nil ?_
  refine wpTailI_step rfl rfl (fun K hK => ?_)
  go_simp
  refine hK _ _ (fun _ => ⟨c0, c1⟩) ?_
  clear hK K
  refine wpTailI_step rfl rfl (fun K hK => ?_)
  go_simp
  refine hK _ _ (fun _ => ⟨c0, c1⟩) ?_
  clear hK K
  obtain ⟨inf, hinf, hz, hsz1, hby⟩ := infoU8
  have HInf := hide hinf; have HZ := hide hz; have HSz := hide hsz1; have HBy := hide hby
  clear hinf hz hsz1 hby
  have hms : M + (junk.extract 0 ju).size ≤ 1500 := by rw [HJs.out]; exact HMj.out
  refine wpTailI_step rfl rfl (fun K hK => ?_)
  refine wp_append_str _ _ _ 121 9 rfl (D + 1) 5 inf Tryz.underlying121 Tryz.underlying9 HInf.out HZ.out HSz.out HBy.out (.slice a M c) M (u8C ((d.b n).take M)) rfl HO.out (junk.extract 0 ju) rfl (Nat.le_trans hms (by decide)) (Nat.le_trans hms (by decide)) hD1 ?_
  intro v3 w3 o3 hg3 hw3
  rw [HJs.out] at o3
  obtain ⟨a3, k3, rfl⟩ := owns_len o3
  have hD : w3.heap[D]? = w.heap[D]? := hg3.block D hD1 (fun e => by have := (row_lt HO.out D e.symm).1; omega)
  have c3 := (World.cell?_of_block (a := ⟨D, n * 2, none⟩) hD).trans c0
  have c4 := (World.cell?_of_block (a := ⟨D, n * 2 + 1, none⟩) hD).trans c1
  have f3 := (World.frozen?_of_block (a := ⟨D, n * 2, none⟩) hD).trans f0
  have f4 := (World.frozen?_of_block (a := ⟨D, n * 2 + 1, none⟩) hD).trans f1
  have HO3 := hide o3; have HG3 := hide hg3; have HW3 := hide hw3
  clear o3 hg3 hw3 hD
  refine hK _ _ (fun _ => ⟨c3, c4⟩) ?_
  clear hK K c0 c1 f0 f1
  iterate 3
    refine wpTailI_step rfl rfl (fun K hK => ?_)
    go_simp
    refine hK _ _ (fun h => absurd h (by decide)) ?_
    clear hK K
  refine wpTailI_nil ?_
  go_wp2_with fail
  go_end0
  have o4 : w3.ownsRow (D + 1) 5 1 (.slice a3 (M + ju) k3) (crB (d.b n) N keep (lst junk)).length (u8C (crB (d.b n) N keep (lst junk))) := by
    have o := HO3.out
    rw [strCells_u8, ← u8C_app, HJe.out, ← HCr.out] at o
    rw [HCl.out]
    exact o
  have k := HD.out.setB hn o4 (by rw [HV.out, ownB_len a L M c c]; exact ⟨HG3.out.os, HG3.out.tape, HG3.out.output, HG3.out.size, HG3.out.block⟩) (own_from (by rw [HV.out, ownB_len a L M c c]; exact HW3.out)) (by rw [HCl.out]; exact HMj.out)
  have k2 := k.1.setN hn (crB (d.b n) N keep (lst junk)).length
  have e8 : ((crB (d.b n) N keep (lst junk)).length : Int) = (M : Int) + (ju : Int) := by rw [HCl.out]; rfl
  rw [e8] at k2
  exact ⟨rfl, _, k2.1, k.2.trans k2.2⟩
/-- Behind k areas' crashes. -/
def crN (d : DvN) (keep : Int) (junk : List UInt8) : Nat → DvN
  | 0 => d
  | k + 1 => { crN d keep junk k with b := upd (crN d keep junk k).b k (crB ((crN d keep junk k).b k) ((crN d keep junk k).n k) keep junk), n := upd (crN d keep junk k).n k (crB ((crN d keep junk k).b k) ((crN d keep junk k).n k) keep junk).length }
theorem crN_at (d : DvN) (keep : Int) (junk : List UInt8) : ∀ k i, k ≤ i → (crN d keep junk k).b i = d.b i ∧ (crN d keep junk k).n i = d.n i
  | 0, _, _ => ⟨rfl, rfl⟩
  | k + 1, i, h => by
    have q := crN_at d keep junk k i (by omega)
    unfold crN
    exact ⟨(upd_ne _ _ _ _ (by omega)).trans q.1, (upd_ne _ _ _ _ (by omega)).trans q.2⟩
theorem crN_rest (d : DvN) (keep : Int) (junk : List UInt8) : ∀ k, (crN d keep junk k).tr = d.tr ∧ (crN d keep junk k).wk = d.wk
  | 0 => ⟨rfl, rfl⟩
  | k + 1 => crN_rest d keep junk k
def DvOK (d : DvN) : Prop := ∀ i, i < 2 → d.n i ≤ (d.b i).length
def dCrash (d : DvN) (keep : Int) (junk : List UInt8) : DvN := { crN d keep junk 2 with tr := 0, wk := wrap64 (d.wk + 1) }
theorem DvAt.setWk {D : Nat} {d : DvN} {vs : Nat → Value} {w : World} (h : DvAt D d vs w) (t : Int) : DvAt D { d with wk := t } vs (w.setCell ⟨D, 5, none⟩ (.int .i64 t)) ∧ DFr D vs vs w (w.setCell ⟨D, 5, none⟩ (.int .i64 t)) := by
  refine ⟨⟨by rw [set_size]; exact h.lt, fun j => by rw [World.frozen?_setCell]; exact h.fz j, fun i hi => (cell_off (by omega)).trans (h.bytes i hi), fun i hi => (cell_off (by omega)).trans (h.last i hi), (cell_off (by decide)).trans h.tr, World.cell?_setCell_same _ _ _ h.wk, fun i hi => ownsRow_keep (h.own i hi) (fun g hg => set_other (own_ne h hi hg).1), h.len, h.sep, h.trb⟩, ⟨(Below.refl _ _).setCell (p := ⟨D, 5, none⟩) (Nat.le_refl _) _, fun g _ hn _ => set_other hn, fun _ _ _ hg => .inl hg⟩⟩

set_option maxRecDepth 100000 in
set_option maxHeartbeats 4000000 in
theorem dCrash_any (D : Nat) (d : DvN) (vs : Nat → Value) (keep : Int) (junk : ByteArray) (w : World) (h : DvAt D d vs w) (hok : DvOK d) :
    Calls Tryz.prog 49 #[.pointer (some ⟨D, 0, none⟩), .int .i64 keep, .string junk] w fun e' w' => e' = .returned (.tuple #[]) ∧ ∃ vs', DvAt D (dCrash d keep (lst junk)) vs' w' ∧ DFr D vs vs' w w' := by
  have HH := hide h; have HOk := hide hok
  clear h hok
  go_enter Tryz.func49, Tryz.ntmps49
  go_wp2_with fail
  go_loopw [9] (fun i wr => ∃ k : Nat, k ≤ 2 ∧ i = .int .i64 k ∧ Hid (∃ vs', DvAt D (crN d keep (lst junk) k) vs' wr ∧ DFr D vs vs' w wr)) (fun i _ => 2 - (intOf i).toNat)
  case atStart => exact ⟨0, Nat.zero_le _, rfl, ⟨vs, HH.out, DFr.refl _ _ _⟩⟩
  case round =>
    obtain ⟨k, hk, rfl, HI⟩ := hrel
    obtain ⟨vk, hI⟩ := HI.out
    have HIv := hide hI
    by_cases hlt : k < 2
    · have hlt' : (k : Int) < 2 := by omega
      have hk0 : ¬ (k : Int) < 0 := by omega
      have HC := hide (areaCrash_any D (crN d keep (lst junk) k) vk k keep junk wr hI.1 hlt (by rw [(crN_at d keep (lst junk) k k (Nat.le_refl _)).1, (crN_at d keep (lst junk) k k (Nat.le_refl _)).2]; exact HOk.out k hlt))
      clear hI HI
      go_wp2_with fail
      refine (unhide HC).mono ?_
      rintro e w1 ⟨rfl, v1, h1, f1⟩
      have HN : Hid (∃ vs', DvAt D (crN d keep (lst junk) (k + 1)) vs' w1 ∧ DFr D vs vs' w w1) := ⟨v1, h1, HIv.out.2.trans f1⟩
      clear h1 f1 HC
      go_wp2_with fail
      exact ⟨⟨k + 1, by omega, by go_num, HN⟩, by simp [intOf]; omega⟩
    · have hlt' : ¬ (k : Int) < 2 := by omega
      obtain rfl : k = 2 := by omega
      have c4 := hI.1.tr
      have c5 := hI.1.wk
      have f4 := hI.1.fz 4
      have f5 := hI.1.fz 5
      have HS := hide (hI.1.setTr 0 (by decide))
      have HS2 := hide (HS.out.1.setWk (wrap64 (d.wk + 1)))
      rw [(crN_rest d keep (lst junk) 2).2] at c5
      clear hI HI
      go_wp2_with fail
      go_end0
      exact ⟨rfl, vk, HS2.out.1, HIv.out.2.trans (HS.out.2.trans HS2.out.2)⟩
end Go.Proofs.YtmmflekajbeamabGreatDoor
