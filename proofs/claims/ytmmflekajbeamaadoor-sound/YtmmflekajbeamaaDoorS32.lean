/-
  Translates: what a translating leaves.
  Translates: the program's own Translate (translator.Translate, crib.Translate).
  THE LAW Sound, walked: it answers true, for every state of numbers of 64 bits and every text.
  The table of instructions, as the card's condition tells it, is the table that the walks read; and the program's own start-up meets that condition. Shared by the cards.
  A state that came in is 138 numbers.
  The numbers of a struct that came in are numbers of 64 bits.
-/
import Derived.Test.YtmmflekajbeamaaDoorS30
import Derived.Test.YtmmflekajbeamaaDoorS31
import Derived.Test.YtmmflekajbeamaaDoorS24
import Derived.Test.YtmmflekajbeamaaDoorS29
import Derived.Test.YtmmflekajbeamaaDoorS04
import Derived.Test.YtmmflekajbeamaaDoorCards
import Derived.Test.YtmmflekajbeamaaDoorTie
import Derived.ProofKit
import Derived.LaidMore
import Derived.OpenShut
import Derived.Stop.Joined
import Derived.Deep.Strs
import Derived.SevenTiedAt
import Derived.ChangeMaps5
import Derived.MapViews
import Derived.DeepKeys2
namespace Go.Proofs.YtmmflekajbeamaaDoor
open Go.RowKit

/-- What a translating leaves. -/
def TrPost (s : ByteArray) (w : World) (e' : Ending) (w' : World) : Prop :=
  Below w.heap.size w w' ∧ ((blkOK s ∧ e' = .returned (.tuple #[.string (bya (planT (ownP s))), .int .i64 0])) ∨ (¬ blkOK s ∧ e' = .returned (.tuple #[.string (bya []), .int .i64 10])))
theorem TrPost.form {s : ByteArray} {w w' : World} {e : Ending} (h : TrPost s w e w') : ∃ D n, e = .returned (.tuple #[.string D, .int .i64 n]) := by
  obtain ⟨_, ⟨_, rfl⟩ | ⟨_, rfl⟩⟩ := h
  · exact ⟨_, _, rfl⟩
  · exact ⟨_, _, rfl⟩
theorem TrPost.one {s : ByteArray} {w1 w2 w1' w2' : World} {e1 e2 : Ending} (h1 : TrPost s w1 e1 w1') (h2 : TrPost s w2 e2 w2') : e1 = e2 := by
  obtain ⟨_, ⟨a, rfl⟩ | ⟨a, rfl⟩⟩ := h1 <;> obtain ⟨_, ⟨c, rfl⟩ | ⟨c, rfl⟩⟩ := h2
  all_goals first | rfl | exact absurd a c | exact absurd c a
end Go.Proofs.YtmmflekajbeamaaDoor

namespace Go.Proofs.YtmmflekajbeamaaDoor
open Go.RowKit

theorem withoutIdle_any (B : Nat) (pa : Option Addr) (pc : Nat) (ps : List PutN) (w : World) (ho : w.ownsRow B 59 5 (.slice pa ps.length pc) ps.length (putCs ps)) (hl : ps.length ≤ 8) (hw : ∀ p ∈ ps, okB p) :
    Calls Tryd.prog 100 #[.slice pa ps.length pc] w fun e' w' => Below w.heap.size w w' ∧ ∃ v, e' = .returned v ∧ w'.ownsRow w.heap.size 59 5 v (idle ps).length (putCs (idle ps)) :=
  callsIn_wide.1 (withoutIdle_in B pa pc ps w ho hl hw)

set_option maxRecDepth 100000 in
set_option maxHeartbeats 2000000 in
theorem trTranslate_any (s : ByteArray) (w : World) (ht : Tab w) (hs : s.size ≤ maxLen) :
    Calls Tryd.prog 58 #[.string s] w (TrPost s w) := by
  have z9 := zero9
  have HRd := hide (blkRead_any s w ht hs)
  have HTb := hide ht
  have hpos := ht.pos
  clear ht
  go_enter Tryd.func58, Tryd.ntmps58
  go_wp2_with fail
  refine (unhide HRd).mono ?_
  rintro e w1 ⟨hb1, ⟨hok, rfl⟩ | ⟨hno, rfl⟩⟩
  · have HB1 := hide hb1; have HOk := hide hok
    have hz1 := hb1.size
    have h8 : s.size / 4 ≤ 8 := by have := hok.2.1; omega
    have hzl := wdZ_len (ws := blkL s (s.size / 4)) (by rw [blkL_len]; exact h8)
    obtain ⟨W3, hW3⟩ : ∃ W3, W3 = w1.alloc (.cells (S (wdZ (blkL s (s.size / 4)))) 127) := ⟨_, rfl⟩
    have HW := hide hW3
    have r3 : RowI W3 w1.heap.size 127 (wdZ (blkL s (s.size / 4))) := by unfold RowI; rw [hW3, _root_.Go.heap_alloc_new]
    have h3b : Below w.heap.size w W3 := by rw [hW3]; exact hb1.alloc hz1 _
    have H3B := hide h3b
    have rI := r3.isRow 9 hzl
    have rD := r3.rowD
    have h3z : w.heap.size ≤ W3.heap.size := h3b.size
    have HPl := hide (plain_list (blkL s (s.size / 4)) W3 (HTb.out.below hpos h3b) (by rw [blkL_len]; exact h8) (blkL_bd s _))
    clear hb1 hok HRd hW3 h3b r3
    go_wp2_with (first | (refine wpList_storeR size9 rfl _ _ rfl w1.heap.size rfl (wdZ (blkL s (s.size / 4))) rfl hzl (by rw [isRowB_alloc_at _ _ _ _ _ rfl]; rfl) _ (setRow_alloc_at _ _ _ _ _ rfl) ?_) | (refine wpList_loadR rfl Tryd.underlying127 size9 rfl _ rfl w1.heap.size rfl (by rw [← HW.out]; exact rI) (S (wdZ (blkL s (s.size / 4)))) (by rw [← HW.out]; exact rD) ?_))
    rw [← HW.out]
    refine (unhide HPl).mono ?_
    rintro e w4 ⟨hb4, fv, rfl, hfo⟩
    rw [plN_nPl HOk.out, blkL_take s (nPl_le s)] at hfo
    have HOf := hide (ofWords_any _ fv (blkL s (nPl s)) w4 (own_take hfo (blkL_len s _).symm) (by rw [blkL_len]; exact Nat.le_trans (nPl_le s) h8))
    have HB4 : Hid (Below w.heap.size w w4) := H3B.out.trans (hb4.mono h3z)
    have hz4 := hb4.size
    clear hb4 hfo HPl rI rD
    go_wp2_with fail
    refine (unhide HOf).mono ?_
    rintro e w5 ⟨hb5, pv1, rfl, hpo1⟩
    rw [pwL_blk, blkL_len, ← nPl_len] at hpo1
    have hn8 : (blkPuts s).length ≤ 8 := by rw [nPl_len]; exact Nat.le_trans (nPl_le s) h8
    have HK := hide (withKnown_any _ pv1 (blkPuts s) w5 hpo1 hn8 (blkPuts_okB HOk.out))
    have HB5 : Hid (Below w.heap.size w w5) := HB4.out.trans (hb5.mono (by omega))
    have hz5 := hb5.size
    clear hb5 hpo1 HOf
    go_wp2_with fail
    refine (unhide HK).mono ?_
    rintro e w6 ⟨hb6, pv2, rfl, hpo2⟩
    obtain ⟨hkk, hkl⟩ := wKn_ok (blkPuts_okB HOk.out)
    obtain ⟨pa, pc, hpv2⟩ := owns_len hpo2
    subst hpv2
    have HWi := hide (withoutIdle_any _ pa pc (wKn (blkPuts s)) w6 hpo2 (by rw [hkl]; exact hn8) hkk)
    have HB6 : Hid (Below w.heap.size w w6) := HB5.out.trans (hb6.mono (by omega))
    have hz6 := hb6.size
    clear hb6 hpo2 HK hkk hkl hn8
    go_wp2_with fail
    refine (unhide HWi).mono ?_
    rintro e w7 ⟨hb7, pv3, rfl, hpo3⟩
    obtain ⟨hoo, hol⟩ := ownP_ok HOk.out
    have HTx := hide (planText_any _ pv3 (ownP s) w7 hpo3 (Nat.le_trans hol (Nat.le_trans (nPl_le s) h8)) hoo)
    have HB7 : Hid (Below w.heap.size w w7) := HB6.out.trans (hb7.mono (by omega))
    have hz7 := hb7.size
    clear hb7 hpo3 HWi hoo hol
    go_wp2_with fail
    refine (unhide HTx).mono ?_
    rintro e w8 ⟨rfl, hb8⟩
    have HB8 : Hid (Below w.heap.size w w8) := HB7.out.trans (hb8.mono (by omega))
    clear hb8 HTx
    go_wp2_with fail
    go_ret2
    exact ⟨HB8.out, .inl ⟨HOk.out, rfl⟩⟩
  · have HB1 := hide hb1; have HNo := hide hno
    have hz1 := hb1.size
    clear hb1 hno HRd
    go_wp2_with (refine wpList_storeR size9 rfl _ _ rfl w1.heap.size rfl (wdZ []) rfl rfl (by rw [isRowB_alloc_at _ _ _ _ _ rfl]; rfl) _ (setRow_alloc_at _ _ _ _ _ rfl) ?_)
    go_ret2
    exact ⟨HB1.out.alloc hz1 _, .inr ⟨HNo.out, rfl⟩⟩

set_option maxRecDepth 100000 in
theorem cribTranslate_any (s : ByteArray) (w : World) (ht : Tab w) (hs : s.size ≤ maxLen) :
    Calls Tryd.prog 26 #[.string s] w (TrPost s w) := by
  have HC := hide (trTranslate_any s w ht hs)
  clear ht
  go_enter Tryd.func26, Tryd.ntmps26
  go_wp2_with fail
  refine (unhide HC).mono ?_
  intro e w1 hpost
  obtain ⟨D, n, rfl⟩ := hpost.form
  have HP := hide hpost
  clear hpost
  go_wp2_with fail
  go_ret2
  exact HP.out
end Go.Proofs.YtmmflekajbeamaaDoor

namespace Go.Proofs.YtmmflekajbeamaaDoor
open Go.RowKit

set_option maxRecDepth 100000 in
set_option maxHeartbeats 4000000 in
theorem sound_any (z : List Int) (p : ByteArray) (w : World) (ht : Tab w) (hz : z.length = 138) (hb : ∀ x ∈ z, -9223372036854775808 ≤ x ∧ x ≤ 9223372036854775807) (hp : p.size ≤ maxLen) :
    Calls Tryd.prog 8 #[.agg (S z), .string p] w fun e' w' => e' = .returned (.bool true) ∧ Below w.heap.size w w' := by
  have HT := hide (fun w' (hb : Below w.heap.size w w') => ht.below ht.pos hb)
  obtain ⟨W1, hW1⟩ : ∃ W1, W1 = w.alloc (.cells (S z) 34) := ⟨_, rfl⟩
  have HW := hide hW1
  have r1 : RowI W1 w.heap.size 34 z := by unfold RowI; rw [hW1, _root_.Go.heap_alloc_new]
  have b1 : Below w.heap.size w W1 := by rw [hW1]; exact (Below.refl _ _).alloc (Nat.le_refl _) _
  have hz1 := r1.lt
  have HK := hide (known_true W1 (HT.out _ b1))
  have HF := hide (fun w' => fit_any z w' hz hb)
  obtain ⟨regs, mem, pc, hfz, hr, hm, hpc⟩ := fitZ_form hz
  rw [← stZ_zero hpc] at hfz
  have hlF : (fitZ z).length = 138 := by rw [hfz]; exact stZ_len hr hm hpc 0
  have hin : inM mem (pc : Int) := ⟨WL_allW hm, by omega, by omega⟩
  have HBl : Hid (∀ w', Below w.heap.size w w' → Calls Tryd.prog 25 #[.agg (S mem), .int .i64 (pc : Int)] w' fun e' w'' => Below w'.heap.size w' w'' ∧ e' = .returned (.tuple #[.string (bya (blkTxt mem pc)), .int .i64 0])) := fun w' hb => (cribBlock_any mem (pc : Int) w' (HT.out _ hb) hm.1).mono fun e w'' h => by
    obtain ⟨h1, ⟨_, rfl⟩ | ⟨h2, _⟩⟩ := h
    · exact ⟨h1, by rw [Int.toNat_natCast]⟩
    · exact absurd hin h2
  have hok := blk_ok hm hpc
  have hsz : (bya (blkTxt mem pc)).size ≤ maxLen := by have := hok.2.1; unfold maxLen; omega
  have HTr : Hid (∀ w', Below w.heap.size w w' → Calls Tryd.prog 26 #[.string (bya (blkTxt mem pc))] w' fun e' w'' => Below w'.heap.size w' w'' ∧ e' = .returned (.tuple #[.string (bya (planT (ownP (bya (blkTxt mem pc))))), .int .i64 0])) := fun w' hb => (cribTranslate_any (bya (blkTxt mem pc)) w' (HT.out _ hb) hsz).mono fun e w'' h => by
    obtain ⟨h1, ⟨_, rfl⟩ | ⟨h2, _⟩⟩ := h
    · exact ⟨h1, rfl⟩
    · exact absurd hok h2
  have hoB := own_bd hok
  obtain ⟨_, hoL⟩ := ownP_ok hok
  have hn8 : nPl (bya (blkTxt mem pc)) ≤ 8 := by have := nPl_le (bya (blkTxt mem pc)); have := hok.2.1; omega
  have hPO := putsOK_plan hoB (by omega)
  have hPL := putL_plan (fun q hq => (hoB q hq).1.bd (hoB q hq).2)
  have hos : (bya (planT (ownP (bya (blkTxt mem pc))))).size ≤ 8 * nPl (bya (blkTxt mem pc)) := by rw [bya_size, planT_len]; omega
  have hosm : (bya (planT (ownP (bya (blkTxt mem pc))))).size ≤ maxLen := by unfold maxLen; omega
  have hOc := own_come hok
  rw [← hPL] at hOc
  have HAo := hide (fun w' (hb : Below w.heap.size w w') => cribAccept_any (bya (blkTxt mem pc)) (bya (planT (ownP (bya (blkTxt mem pc))))) w' (HT.out _ hb) hsz hosm)
  have HAp := hide (fun w' (hb : Below w.heap.size w w') => cribAccept_any (bya (blkTxt mem pc)) p w' (HT.out _ hb) hsz hp)
  have HPl := hide (fun w' => plains_any (bya (blkTxt mem pc)) w' hok)
  have HDo := hide (fun w' (hb : Below w.heap.size w w') => keepDoes_any regs mem pc (bya (planT (ownP (bya (blkTxt mem pc))))) w' (HT.out _ hb) hr hm hpc hosm hPO hOc)
  have HDp := hide (fun w' (hb : Below w.heap.size w w') hpo hco => keepDoes_any regs mem pc p w' (HT.out _ hb) hr hm hpc hp hpo hco)
  have HAc : Hid (∀ n, AccIs (bya (blkTxt mem pc)) (bya (planT (ownP (bya (blkTxt mem pc))))) n → n = 0) := fun n h => h.one (.inr (.inr (.inl ⟨hok, hPO, hOc, rfl⟩)))
  have HAd : Hid (∀ n, AccIs (bya (blkTxt mem pc)) p n → n = 11 ∨ n = 12 ∨ (n = 0 ∧ putsOK p ∧ (comeS (blkPuts (bya (blkTxt mem pc)))).take 8 = (comeS (putL p (p.size / 8))).take 8)) := fun n h => by
    rcases h with ⟨h1, _⟩ | ⟨_, _, h3⟩ | ⟨_, h2, h3, h4⟩ | ⟨_, _, _, h4⟩
    · exact absurd hok h1
    · exact .inl h3
    · exact .inr (.inr ⟨h4, h2, h3⟩)
    · exact .inr (.inl h4)
  have q1 : ((stZ regs mem pc 0).drop 8).take 128 = mem := by rw [stZ_zero hpc]; exact mkZ_mems _ _ hr.1 hm.1
  have q6 : gz (stZ regs mem pc 0) 136 = (pc : Int) := by rw [stZ_zero hpc]; exact mkZ_pc hr.1 hm.1
  have s128 : (Tryd.prog.info? 32).map (·.size) = some (mem.map (Value.int .i64)).length := by rw [size128, List.length_map, hm.1]
  have HS128 := hide s128
  rw [hfz] at HF hlF
  generalize stZ regs mem pc 0 = zf at *
  generalize bya (planT (ownP (bya (blkTxt mem pc)))) = own at *
  generalize bya (blkTxt mem pc) = s at *
  have hos' : (own.size : Int) ≤ 8 * ((nPl s : Nat) : Int) := by omega
  generalize nPl s = n at *
  have HR1 := hide r1; have HB1 := hide b1
  have rI := r1.isRow 138 hz
  have rD' := r1.rowD
  clear ht hb hok hin hOc hPO hPL hoB hoL hr hm s128 hW1 r1 b1 hfz hsz
  go_enter Tryd.func8, Tryd.ntmps8
  go_wp2_with fail
  rw [← HW.out]
  refine (unhide HK).mono ?_
  rintro e w2 ⟨rfl, hb2⟩
  have r2 := HR1.out.keep (hb2.block _ hz1)
  have HB2 : Hid (Below w.heap.size w w2) := HB1.out.trans (hb2.mono (by omega))
  have rI := r2.isRow 138 hz
  have rD' := r2.rowD
  have hz2 := hb2.size
  have HR2 := hide r2
  clear hb2 r2 HK
  go_wp2_with (refine wpList_load_S rfl _ rfl w.heap.size rfl rI _ rD' ?_)
  refine (unhide HF _).mono ?_
  rintro e w3 ⟨rfl, hb3⟩
  have r3 := HR2.out.keep (hb3.block _ (by omega))
  have hz3 := hb3.size
  have rI3 := r3.isRow 138 hz
  obtain ⟨W4, hW4⟩ : ∃ W4, W4 = w3.setRow w.heap.size (S zf) := ⟨_, rfl⟩
  have HW4 := hide hW4
  have r4 : RowI W4 w.heap.size 34 zf := by rw [hW4]; exact setRow_heap w3 _ _ _ _ (0, 0) r3
  have b4 : Below w.heap.size w W4 := by rw [hW4]; exact below_setRow (HB2.out.trans (hb3.mono (by omega))) (Nat.le_refl _) _
  have hz4 := r4.lt
  have g4 := range_row r4 8 128 (by omega)
  rw [q1] at g4
  have c4 := r4.cell 136 (by omega)
  rw [q6] at c4
  have HR4 := hide r4; have HB4 := hide b4; have HG4 := hide g4
  clear hb3 r3 hW4 r4 b4 g4 rI rD'
  go_wp2_with (first | (refine wpList_store_S rfl _ _ rfl w.heap.size rfl zf rfl hlF rI3 W4 (by rw [← HW4.out]) ?_) | (refine wpList_load_midZ rfl 32 _ rfl w.heap.size 8 rfl mem _ HG4.out Tryd.underlying32 rfl HS128.out ?_))
  refine (unhide HBl _ HB4.out).mono ?_
  rintro e w5 ⟨hb5, rfl⟩
  have HR5 := hide (HR4.out.keep (hb5.block _ hz4))
  have HB5 : Hid (Below w.heap.size w w5) := HB4.out.trans (hb5.mono (by omega))
  have hz5 := hb5.size
  clear hb5 c4 HBl
  go_wp2_with fail
  refine (unhide HTr _ HB5.out).mono ?_
  rintro e w6 ⟨hb6, rfl⟩
  have HR6 := hide (HR5.out.keep (hb6.block _ (by omega)))
  have HB6 : Hid (Below w.heap.size w w6) := HB5.out.trans (hb6.mono (by omega))
  have hz6 := hb6.size
  clear hb6 HTr
  go_wp2_with fail
  refine (unhide HAo _ HB6.out).mono ?_
  rintro e w7 ⟨hb7, n7, rfl, hn7⟩
  obtain rfl := HAc.out _ hn7
  have HR7 := hide (HR6.out.keep (hb7.block _ (by omega)))
  have HB7 : Hid (Below w.heap.size w w7) := HB6.out.trans (hb7.mono (by omega))
  have hz7 := hb7.size
  clear hb7 HAo hn7 HAc
  have rI := HR7.out.isRow 138 hlF
  have rD' := HR7.out.rowD
  go_wp2_with fail
  refine (unhide HPl _).mono ?_
  rintro e w' ⟨rfl, hw⟩
  obtain rfl := hw.symm
  clear HPl
  go_wp2_with (refine wpList_load_S rfl _ rfl w.heap.size rfl rI _ rD' ?_)
  refine (unhide HDo _ HB7.out).mono ?_
  rintro e w8 ⟨rfl, hb8⟩
  have HR8 := hide (HR7.out.keep (hb8.block _ (by omega)))
  have HB8 : Hid (Below w.heap.size w w8) := HB7.out.trans (hb8.mono (by omega))
  have hz8 := hb8.size
  clear hb8 HDo rI rD'
  go_wp2_with fail
  refine (unhide HAp _ HB8.out).mono ?_
  rintro e w9 ⟨hb9, n9, rfl, hn9⟩
  have HR9 := hide (HR8.out.keep (hb9.block _ (by omega)))
  have HB9 : Hid (Below w.heap.size w w9) := HB8.out.trans (hb9.mono (by omega))
  have hz9 := hb9.size
  have hc := HAd.out _ hn9
  clear hb9 hn9 HAp HAd
  rcases hc with rfl | rfl | ⟨rfl, hpo, hco⟩
  · go_wp2_with fail
    go_ret
    exact ⟨rfl, HB9.out⟩
  · go_wp2_with fail
    go_ret
    exact ⟨rfl, HB9.out⟩
  · have HD := hide (HDp.out _ HB9.out hpo hco)
    have rI := HR9.out.isRow 138 hlF
    have rD' := HR9.out.rowD
    clear hpo hco HDp
    go_wp2_with (refine wpList_load_S rfl _ rfl w.heap.size rfl rI _ rD' ?_)
    refine (unhide HD).mono ?_
    rintro e w10 ⟨rfl, hb10⟩
    have HB10 : Hid (Below w.heap.size w w10) := HB9.out.trans (hb10.mono (by omega))
    clear hb10 rI rD'
    go_wp2_with fail
    go_ret
    exact ⟨rfl, HB10.out⟩
end Go.Proofs.YtmmflekajbeamaaDoor

namespace Go.Proofs.YtmmflekajbeamaaDoor
open Go.ChangeShapes Go.WideShapes Go.ChangeAt Go.WideMaps Go.WideElems Go.RowKit

theorem own : ownKnob Tryd.prog.godebug = none := by kernel_rfl
theorem laidOut : laidOutB Tryd.prog = true := by kernel_rfl
theorem gRows : Tryd.prog.globalNamed "crib/code.rows" = some 0 := by kernel_rfl
theorem tRows : (Tryd.prog.globals[0]?).map (·.type) = some 220 := by kernel_rfl
theorem c114 : Tryd.prog.cellsOf 198 = 3 := by kernel_rfl
theorem c132 : Tryd.prog.cellsOf 220 = 36 := by kernel_rfl
theorem c9 : Tryd.prog.cellsOf 9 = 1 := by kernel_rfl
theorem cells3t : Tryd.prog.cellsOf 3 = 1 := by kernel_rfl

set_option maxRecDepth 100000 in
/-- A row of the table, read: its three cells. -/
theorem row_cells {H : Type} {enc : TypeId × Value → H} {W : World} {base : Nat} {spare : Nat → Bool} {held : Bool} {m : Nat} {cs : List Value} {x : DataW H × List MemPlace} {a b : List UInt8} {n : Int}
    (h : DataW.trod enc Tryd.prog W base spare held m 198 cs = some x) (hx : x.1 = .agg [.lit (.string a), .lit (.int .i64 n), .lit (.string b)]) : cs = [.string ⟨a.toArray⟩, .int .i64 n, .string ⟨b.toArray⟩] := by
  obtain ⟨y0, y1, y2, k, rfl, hl, h0, h1, h2⟩ := Go.Deep.trod_struct3 Tryd.underlying198 h
  rw [c114] at hl
  match cs, hl with
  | [v0, v1, v2], _ =>
    obtain ⟨s0, e0, f0, _⟩ := DataW.trod_string Tryd.underlying9 h0
    obtain ⟨k1, e1, f1, _⟩ := DataW.trod_int Tryd.underlying3 h1
    obtain ⟨s2, e2, f2, _⟩ := DataW.trod_string Tryd.underlying9 h2
    subst f0 f1 f2
    simp [c9, cells3t] at e0 e1 e2
    simp at hx
    obtain ⟨rfl, rfl, rfl⟩ := hx
    subst e0 e1 e2
    rfl

theorem chunk {cs : List Value} {rest : List Value} {i : Nat} (a b c : Value) (h : (cs.drop i).take 3 = [a, b, c]) (hr : cs.drop (i + 3) = rest) : cs.drop i = a :: b :: c :: rest := by
  have := List.take_append_drop 3 (cs.drop i)
  rw [h, List.drop_drop, hr] at this
  exact this.symm

set_option maxRecDepth 100000 in
theorem of_laid {W : World} (h : laidMetH Tryd.prog [("crib/code.rows", Rows.laid_crib_code_rows)] W) : Tab W := by
  rw [MakeChecks.laidMetH_plain _ _ _ (by kernel_rfl)] at h
  obtain ⟨ps, ⟨g0, t0, cs0, f0, p0, q0, hg0, ht0, hv0, hd0, _⟩, _, _⟩ := h
  obtain rfl := Option.some.inj (gRows.symm.trans hg0)
  obtain rfl := Option.some.inj (tRows.symm.trans ht0)
  obtain ⟨xs, m1, rfl, hx1, hlen, hn, hel⟩ := DataW.trod_array Tryd.underlying220 hd0
  rw [c114] at hel
  rw [c132] at hlen
  simp only [Prod.mk.injEq] at hx1
  have hx := hx1.1
  simp only [Rows.laid_crib_code_rows, DataW.agg.injEq] at hx
  match xs, hn, hx, hel with
  | [x0, x1, x2, x3, x4, x5, x6, x7, x8, x9, x10, x11], _, hx, hel =>
    simp only [List.map_cons, List.map_nil, List.cons.injEq, and_true] at hx
    obtain ⟨d0, d1, d2, d3, d4, d5, d6, d7, d8, d9, d10, d11⟩ := hx
    have r0 := row_cells (hel 0 (by decide)) d0.symm
    have r1 := row_cells (hel 1 (by decide)) d1.symm
    have r2 := row_cells (hel 2 (by decide)) d2.symm
    have r3 := row_cells (hel 3 (by decide)) d3.symm
    have r4 := row_cells (hel 4 (by decide)) d4.symm
    have r5 := row_cells (hel 5 (by decide)) d5.symm
    have r6 := row_cells (hel 6 (by decide)) d6.symm
    have r7 := row_cells (hel 7 (by decide)) d7.symm
    have r8 := row_cells (hel 8 (by decide)) d8.symm
    have r9 := row_cells (hel 9 (by decide)) d9.symm
    have r10 := row_cells (hel 10 (by decide)) d10.symm
    have r11 := row_cells (hel 11 (by decide)) d11.symm
    have e12 : cs0.toList.drop 36 = [] := List.drop_of_length_le (by omega)
    have e11 := chunk _ _ _ r11 e12
    have e10 := chunk _ _ _ r10 e11
    have e9 := chunk _ _ _ r9 e10
    have e8 := chunk _ _ _ r8 e9
    have e7 := chunk _ _ _ r7 e8
    have e6 := chunk _ _ _ r6 e7
    have e5 := chunk _ _ _ r5 e6
    have e4 := chunk _ _ _ r4 e5
    have e3 := chunk _ _ _ r3 e4
    have e2 := chunk _ _ _ r2 e3
    have e1 := chunk _ _ _ r1 e2
    have e0 := chunk _ _ _ r0 e1
    have ec : cs0 = tabA := by
      apply Array.toList_inj.1
      have : cs0.toList.drop (0 * 3) = cs0.toList := rfl
      rw [← this, e0]
      rfl
    subst ec
    unfold World.var? at hv0
    rw [gRows] at hv0
    simp only [Option.bind_some] at hv0
    unfold Tab
    split at hv0
    · rename_i c t fr hc
      cases hv0
      exact ⟨t, fr, hc⟩
    · cases hv0

/-- The heap that the program's own start-up leaves meets the condition. -/
theorem door_met (os : Os) (args : Array Value) : laidMetH Tryd.prog [("crib/code.rows", Rows.laid_crib_code_rows)] ((World.doorLaid Tryd.prog 26 os).forCall (fun _ _ => 0) ⟨#[], args, []⟩).memory :=
  laidMetH_of_parts3 (fuel := 8) (laidMet_of_run' 8 (by kernel_rfl) (by kernel_rfl)) (by kernel_rfl) (by kernel_rfl)
end Go.Proofs.YtmmflekajbeamaaDoor

namespace Go.Proofs.YtmmflekajbeamaaDoor
open Go.ChangeShapes Go.WideShapes Go.ChangeAt Go.WideMaps Go.WideElems Go.RowKit

theorem types34 : Tryd.prog.cellTypes Tryd.prog.depth 34 = some (List.replicate 138 3) := by kernel_rfl
theorem c34 : Tryd.prog.cellsOf 34 = 138 := by kernel_rfl
set_option maxRecDepth 100000 in
/-- A state that came in: 138 numbers. -/
theorem agg_S {W : World} {b : Nat} {v : Value} (h : Value.okWide Tryd.prog W .any b 34 v) : ∃ z : List Int, v = .agg (S z) ∧ z.length = 138 := by
  unfold Value.okWide at h
  rw [Tryd.underlying34] at h
  obtain ⟨cs, rfl, hs, ts, hts, _, hc⟩ := h
  rw [c34] at hs
  obtain rfl := Option.some.inj (types34.symm.trans hts)
  have hi : ∀ (i : Nat) (hi : i < cs.toList.length), ∃ n, cs.toList[i] = .int .i64 n := fun i hi => by
    obtain ⟨u, hu, hk⟩ := hc i (cs.toList[i]) (by simp)
    rw [List.length_replicate, List.getElem?_replicate] at hu
    split at hu
    · obtain rfl := Option.some.inj hu
      obtain ⟨n, hn⟩ := okWide_int (r := .any) (base := b) (w := W) Tryd.underlying3 (show Value.okWide Tryd.prog W .any b 3 (cs.toList[i]) from by unfold Value.okWide; rw [Tryd.underlying3]; exact hk)
      exact ⟨n, hn⟩
    · cases hu
  have hz : ∃ z : List Int, cs.toList = z.map (Value.int .i64) := by
    have hm : ∀ x ∈ cs.toList, ∃ n, x = Value.int .i64 n := fun x hx => by
      obtain ⟨i, hlt, rfl⟩ := List.mem_iff_getElem.1 hx
      exact hi i hlt
    generalize cs.toList = l at hm
    induction l with
    | nil => exact ⟨[], rfl⟩
    | cons x l ih =>
      obtain ⟨n, rfl⟩ := hm x (by simp)
      obtain ⟨z, hz⟩ := ih (fun y hy => hm y (by simp [hy]))
      exact ⟨n :: z, by rw [hz]; rfl⟩
  obtain ⟨z, hz⟩ := hz
  refine ⟨z, ?_, ?_⟩
  · congr 1
    apply Array.toList_inj.1
    rw [hz]; simp [S]
  · have := congrArg List.length hz
    simp at this
    omega

end Go.Proofs.YtmmflekajbeamaaDoor

namespace Go.Proofs.YtmmflekajbeamaaDoor
open Go.ChangeShapes Go.WideShapes Go.ChangeAt Go.WideMaps Go.WideElems Go.RowKit

theorem trod_wf {H : Type} {enc : TypeId × Value → H} {W : World} {base : Nat} {sp : Nat → Bool} {held : Bool} {t : TypeId} {v : Value} {d : DataW H} {p : List MemPlace} {m m' : Nat}
    (hk : Tryd.prog.keyTypeAt m t = true) (hti : Tryd.prog.tiled m' t = true) (h : DataW.Trod enc Tryd.prog W base sp held t v d p) : ∀ n, Value.int .i64 n ∈ v.cells.toList → -9223372036854775808 ≤ n ∧ n ≤ 9223372036854775807 := by
  obtain ⟨fuel, hf⟩ := h
  obtain ⟨h1, _⟩ := keyLits_of_trod m t hk fuel _ _ hf
  have h2 := cells_of_lits m' t hti m _ _ h1
  have h3 := keyLits_wf h1
  intro n hn
  rw [h2] at hn
  obtain ⟨c, hc, he⟩ := List.mem_map.1 hn
  have hw := h3 c hc
  cases c with
  | int q k =>
    simp only [Lit.toCell, Value.int.injEq] at he
    obtain ⟨rfl, rfl⟩ := he
    exact Go.bounds_i64 hw
  | _ => simp [Lit.toCell] at he
theorem agg_Sb {H : Type} {enc : TypeId × Value → H} {W : World} {base : Nat} {sp : Nat → Bool} {held : Bool} {z : List Int} {d : DataW H} {p : List MemPlace} (h : DataW.Trod enc Tryd.prog W base sp held 34 (.agg (S z)) d p) : ∀ x ∈ z, -9223372036854775808 ≤ x ∧ x ≤ 9223372036854775807 := fun x hx =>
  trod_wf (m := 8) (m' := 8) (by kernel_rfl) (by kernel_rfl) h x (by
    show Value.int .i64 x ∈ (S z).toList
    unfold S
    simpa using hx)
end Go.Proofs.YtmmflekajbeamaaDoor
