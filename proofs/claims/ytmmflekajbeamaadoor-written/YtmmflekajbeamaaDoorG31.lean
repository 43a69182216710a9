/-
  THE LAW Written, walked: it answers true, for every list of numbers and every place.
-/
import Derived.Test.YtmmflekajbeamaaDoorG29
import Derived.Test.YtmmflekajbeamaaDoorG30
namespace Go.Proofs.YtmmflekajbeamaaDoor
open Go.RowKit

theorem body_snoc (pl : Nat) (v : Nat) : ∀ (vs : List Nat) (i : Nat), bodyT pl i (vs ++ [v]) = bodyT pl i vs ++ lnT (i + vs.length == pl) v := by
  intro vs
  induction vs with
  | nil => intro i; simp [bodyT]
  | cons u vs ih =>
    intro i
    rw [List.cons_append, bodyT, bodyT, ih (i + 1), List.append_assoc, List.length_cons, show i + 1 + vs.length = i + (vs.length + 1) by omega]
def HEAD : List UInt8 := [59, 32, 226, 128, 162, 10]
def wordsOf (xs : List Int) : List Nat := xs.map fun x => (pickI x 4294967296).toNat
theorem wordsOf_lt (xs : List Int) : ∀ v ∈ wordsOf xs, v < 4294967296 := by
  intro v hv
  obtain ⟨x, _, rfl⟩ := List.mem_map.1 hv
  have := pickI_bd x 4294967296 (by omega)
  omega
/-- A list of numbers that came in. -/
def RawAt (w : World) (a : Option Addr) (xs : List Int) : Prop := xs = [] ∨ ∃ g off, a = some ⟨g, off, none⟩ ∧ g < w.heap.size ∧ ∀ j x, xs[j]? = some x → w.cell? ⟨g, off + j, none⟩ = some (.int .i64 x)
theorem take_snoc' {α : Type} (l : List α) (k : Nat) (h : k < l.length) : l.take (k + 1) = l.take k ++ [l[k]] := by
  rw [List.take_add_one, List.getElem?_eq_getElem h]
  rfl

def wds (xs : List Int) (k : Nat) : List Int := ((wordsOf xs).take k).map fun v => (spW v : Int)
def tx1 (pl : Nat) (xs : List Int) (k : Nat) : List UInt8 := HEAD ++ bodyT pl 0 ((wordsOf xs).take k)
theorem wds_len (xs : List Int) (k : Nat) (h : k ≤ xs.length) : (wds xs k).length = k := by
  simp [wds, wordsOf]
  omega
theorem txt_step (pl : Nat) (xs : List Int) (k v : Nat) (hk : k < xs.length) (hv : (wordsOf xs)[k]? = some v) :
    bya (tx1 pl xs (k + 1)) = (if k = pl then bya (tx1 pl xs k) ++ ⟨#[195, 188, 95, 49, 58]⟩ else bya (tx1 pl xs k)) ++ ⟨#[9]⟩ ++ bya (spT v) ++ ⟨#[32, 59]⟩ ++ bya (spT v) ++ ⟨#[10, 10]⟩ ∧ wds xs (k + 1) = wds xs k ++ [(spW v : Int)] := by
  have hkl : k < (wordsOf xs).length := by simpa [wordsOf] using hk
  have hv' : (wordsOf xs)[k] = v := by
    rw [List.getElem?_eq_getElem hkl] at hv
    exact Option.some.inj hv
  have ht : (wordsOf xs).take (k + 1) = (wordsOf xs).take k ++ [v] := by rw [take_snoc' _ k hkl, hv']
  have hl : ((wordsOf xs).take k).length = k := by rw [List.length_take]; omega
  have q1 : (⟨#[195, 188, 95, 49, 58]⟩ : ByteArray) = bya LAB := rfl
  have q2 : (⟨#[9]⟩ : ByteArray) = bya [9] := rfl
  have q3 : (⟨#[32, 59]⟩ : ByteArray) = bya [32, 59] := rfl
  have q4 : (⟨#[10, 10]⟩ : ByteArray) = bya [10, 10] := rfl
  constructor
  · rw [q1, q2, q3, q4]
    unfold tx1
    rw [ht, body_snoc, hl, Nat.zero_add]
    by_cases hp : k = pl
    · subst hp
      rw [if_pos rfl]
      simp [bya_app, lnT, labT]
    · have : (k == pl) = false := beq_eq_false_iff_ne.2 hp
      rw [if_neg hp, this]
      simp [bya_app, lnT, labT]
  · unfold wds
    rw [ht]
    simp
theorem txt_end (pl : Nat) (vs : List Nat) : (pl = vs.length → bya (HEAD ++ bodyT pl 0 vs) ++ ⟨#[195, 188, 95, 49, 58]⟩ ++ ⟨#[32, 106, 117, 109, 112, 32, 195, 188, 95, 49]⟩ = bya (txt pl vs [])) ∧ (¬ pl = vs.length → bya (HEAD ++ bodyT pl 0 vs) ++ ⟨#[32, 106, 117, 109, 112, 32, 195, 188, 95, 49]⟩ = bya (txt pl vs [])) ∧ bya (txt pl vs []) ++ ⟨#[120]⟩ = bya (txt pl vs [120]) := by
  have q1 : (⟨#[195, 188, 95, 49, 58]⟩ : ByteArray) = bya LAB := rfl
  have q2 : (⟨#[32, 106, 117, 109, 112, 32, 195, 188, 95, 49]⟩ : ByteArray) = bya [32, 106, 117, 109, 112, 32, 195, 188, 95, 49] := rfl
  have q3 : (⟨#[120]⟩ : ByteArray) = bya [120] := rfl
  rw [q1, q2, q3]
  refine ⟨fun h => ?_, fun h => ?_, ?_⟩
  · subst h
    simp [bya_app, txt, tlT, labT, HEAD, NAM]
  · have : (pl == vs.length) = false := beq_eq_false_iff_ne.2 h
    simp [bya_app, txt, tlT, labT, HEAD, NAM, this]
  · simp [bya_app, txt, tlT]
theorem tx1_len (pl : Nat) (xs : List Int) (k : Nat) (h : k ≤ 40) : (bya (tx1 pl xs k)).size ≤ 1900 := by
  have h1 := body_len pl ((wordsOf xs).take k) 0 (fun v hv => wordsOf_lt xs v (List.mem_of_mem_take hv))
  have h2 : ((wordsOf xs).take k).length ≤ k := by rw [List.length_take]; omega
  rw [bya_size]
  unfold tx1
  rw [List.length_append]
  have h3 : HEAD.length = 6 := rfl
  omega

set_option maxRecDepth 100000 in
set_option maxHeartbeats 4000000 in
theorem written_any (xs : List Int) (a : Option Addr) (cap : Nat) (at' : Int) (w : World) (ht : Tab w) (hraw : RawAt w a xs) (hx : ∀ x ∈ xs, -9223372036854775808 ≤ x ∧ x ≤ 9223372036854775807) (hlen : xs.length ≤ maxLen) (hat : -9223372036854775808 ≤ at' ∧ at' ≤ 9223372036854775807) :
    Calls Tryd.prog 5 #[.slice a xs.length cap, .int .i64 at'] w fun e' w' => e' = .returned (.bool true) ∧ Below w.heap.size w w' := by
  unfold maxLen at hlen
  obtain ⟨n, hn⟩ : ∃ n, n = min xs.length 40 := ⟨_, rfl⟩
  have hnl : n ≤ xs.length := by omega
  have hn40 : n ≤ 40 := by omega
  have HT := hide ht
  have hpos := ht.pos
  have HR := hide hraw
  have HX := hide hx
  obtain ⟨inf, hinf, hz, hsz1, hby⟩ := infoInt
  have HInf := hide hinf; have HZ := hide hz; have HSz := hide hsz1; have HBy := hide hby
  have HP := hide (fun w' => pick_any at' (n + 1 : Int) w' hat.1 hat.2 (by omega) (by omega))
  have hpb := pickI_bd at' (n + 1 : Int) (by omega)
  clear hinf hz hsz1 hby hraw hx ht hat
  obtain ⟨pl, hpl⟩ : ∃ pl : Nat, (pl : Int) = pickI at' (n + 1 : Int) := ⟨(pickI at' (n + 1 : Int)).toNat, by omega⟩
  rw [← hpl] at HP hpb
  have hpn : pl ≤ n := by omega
  clear hpl hpb
  by_cases hbig : 40 < xs.length
  · have hbig' : (40 : Int) < (xs.length : Int) := by omega
    obtain rfl : n = 40 := by omega
    clear hn hnl hn40
    go_enter Tryd.func5, Tryd.ntmps5
    go_wp2_with fail
    refine (unhide HP _).mono ?_
    rintro e w' ⟨rfl, hw'⟩
    obtain rfl := hw'.symm
    go_wp2_with fail
    go_loopw [5, 6, 9] (fun s l i wr => ∃ k : Nat, k ≤ 40 ∧ i = .int .i64 k ∧ s = .string (bya (tx1 pl xs k)) ∧ wr.ownsRow w.heap.size 3 1 l k (intCs (wds xs k)) ∧ Below w.heap.size w wr) (fun _ _ i _ => 40 - (intOf i).toNat)
    case atStart => exact ⟨0, Nat.zero_le _, rfl, rfl, World.ownsRow_nil _ _ _ _, Below.refl _ _⟩
    case round =>
      obtain ⟨k, hk, hi, hs, hown, hbl⟩ := hrel
      obtain ⟨va, vc, hv⟩ := owns_len hown
      subst hi hs hv
      have HO := hide hown; have HBl := hide hbl
      have hwz := hbl.size
      have zS := tx1_len pl xs k (by omega)
      by_cases hlt : k < 40
      · have hkl : k < xs.length := by omega
        have hlt' : (k : Int) < (40 : Int) := by omega
        rcases HR.out with h0 | ⟨g, off, rfl, hg, hc⟩
        · rw [h0] at hkl; simp at hkl
        obtain ⟨x, hx⟩ : ∃ x, xs[k]? = some x := ⟨xs[k], by simp [hkl]⟩
        have cX : wr.cell? ⟨g, off + k, none⟩ = some (.int .i64 x) := (below_cell' hbl _ _ hg).trans (hc k x hx)
        obtain ⟨v, hv, hvl, hvx⟩ : ∃ v : Nat, (wordsOf xs)[k]? = some v ∧ v < 4294967296 ∧ (v : Int) = pickI x 4294967296 := by
          have hb := pickI_bd x 4294967296 (by omega)
          refine ⟨(pickI x 4294967296).toNat, by simp [wordsOf, hx], by omega, by omega⟩
        have hxb := HX.out x (List.mem_of_getElem? hx)
        have HPk := hide (fun w' => pick_any x 4294967296 w' hxb.1 hxb.2 (by omega) (by omega))
        rw [← hvx] at HPk
        have HSp := hide (fun w' => spelt_any v w' hvl)
        obtain ⟨st1, st2⟩ := txt_step pl xs k v hkl hv
        have HS1 := hide st1; have HS2 := hide st2
        have zT : (bya (spT v)).size ≤ 18 := by rw [bya_size]; exact spT_len v hvl
        generalize bya (spT v) = T at *
        generalize bya (tx1 pl xs k) = S at *
        clear hown hbl hc hx hv hvx hxb st1 st2
        by_cases hp : k = pl
        · subst hp
          have HS1' := hide HS1.out
          rw [if_pos rfl] at HS1'
          go_wp2_with fail
          refine (unhide HPk _).mono ?_
          rintro e w' ⟨rfl, hw'⟩
          obtain rfl := hw'.symm
          go_wp2_with fail
          refine (unhide HSp _).mono ?_
          rintro e w2 ⟨rfl, hb2⟩
          have HB2 := hide (HBl.out.trans (hb2.mono HBl.out.size))
          have HO2 := hide (own_grow HO.out hb2)
          have hz2 := HB2.out.size
          clear hb2
          go_wp2_with (at_builtin; refine wpList_append_lies _ rfl _ _ 36 rfl w.heap.size 3 inf _ 1 8 Tryd.underlying36 HInf.out HZ.out HSz.out HBy.out rfl (by decide) (.slice va k vc) k (intCs (wds xs k)) rfl (HO2.out.alloc _) ⟨w2.heap.size, 0, none⟩ 1 1 [.int .i64 (spW v : Int)] rfl rfl (World.news_of_block (_root_.Go.heap_alloc_new w2 _)) (fun u hu => by simp at hu; subst hu; rfl) (by decide) (by unfold maxLen; omega) (by omega) (by rw [size_alloc1]; omega) (w2.heap.size + 1) (by rw [size_alloc1]) ?_; intro g2' cap2 w3 hown2 hgr2 hat2 hlt2; have HO3 := hide hown2; have HGr := hide hgr2; clear hown2 hgr2 hat2)
          refine ⟨⟨k + 1, by omega, by go_num, ?_, ?_, ?_⟩, by simp [intOf]; omega⟩
          · rw [HS1'.out]
          · rw [HS2.out, intCs_snoc]
            exact HO3.out
          · exact (HB2.out.alloc hz2 _).grown HGr.out (by rw [size_alloc1]; omega) (fun j hj => (row_lt HO2.out j hj).1)
        · have hp' : ¬ (k : Int) = (pl : Int) := by omega
          have HS1' := hide HS1.out
          rw [if_neg hp] at HS1'
          clear hp
          go_wp2_with fail
          refine (unhide HPk _).mono ?_
          rintro e w' ⟨rfl, hw'⟩
          obtain rfl := hw'.symm
          go_wp2_with fail
          refine (unhide HSp _).mono ?_
          rintro e w2 ⟨rfl, hb2⟩
          have HB2 := hide (HBl.out.trans (hb2.mono HBl.out.size))
          have HO2 := hide (own_grow HO.out hb2)
          have hz2 := HB2.out.size
          clear hb2
          go_wp2_with (at_builtin; refine wpList_append_lies _ rfl _ _ 36 rfl w.heap.size 3 inf _ 1 8 Tryd.underlying36 HInf.out HZ.out HSz.out HBy.out rfl (by decide) (.slice va k vc) k (intCs (wds xs k)) rfl (HO2.out.alloc _) ⟨w2.heap.size, 0, none⟩ 1 1 [.int .i64 (spW v : Int)] rfl rfl (World.news_of_block (_root_.Go.heap_alloc_new w2 _)) (fun u hu => by simp at hu; subst hu; rfl) (by decide) (by unfold maxLen; omega) (by omega) (by rw [size_alloc1]; omega) (w2.heap.size + 1) (by rw [size_alloc1]) ?_; intro g2' cap2 w3 hown2 hgr2 hat2 hlt2; have HO3 := hide hown2; have HGr := hide hgr2; clear hown2 hgr2 hat2)
          refine ⟨⟨k + 1, by omega, by go_num, ?_, ?_, ?_⟩, by simp [intOf]; omega⟩
          · rw [HS1'.out]
          · rw [HS2.out, intCs_snoc]
            exact HO3.out
          · exact (HB2.out.alloc hz2 _).grown HGr.out (by rw [size_alloc1]; omega) (fun j hj => (row_lt HO2.out j hj).1)
      · have hkn : k = 40 := by omega
        subst hkn
        have hvl : ((wordsOf xs).take 40).length = 40 := by rw [List.length_take]; simp [wordsOf] <;> omega
        obtain ⟨as1, as2⟩ := asm_txt pl ((wordsOf xs).take 40) (fun v hv => wordsOf_lt xs v (List.mem_of_mem_take hv)) (by omega) (by omega)
        have ew : ((wordsOf xs).take 40).map (fun v => (spW v : Int)) = wds xs 40 := rfl
        rw [hvl] at as2
        rw [ew] at as1
        have hwl := wds_len xs 40 (by omega)
        have zt := txt_len pl ((wordsOf xs).take 40) [] (by decide) (fun v hv => wordsOf_lt xs v (List.mem_of_mem_take hv)) (by omega)
        have zt2 := txt_len pl ((wordsOf xs).take 40) [120] (by decide) (fun v hv => wordsOf_lt xs v (List.mem_of_mem_take hv)) (by omega)
        rw [← bya_size] at zt zt2
        obtain ⟨tA, tB, tC⟩ := txt_end pl ((wordsOf xs).take 40)
        rw [hvl] at tA tB
        have HA1 := hide as1; have HA2 := hide as2; have HtC := hide tC
        have etx : tx1 pl xs 40 = HEAD ++ bodyT pl 0 ((wordsOf xs).take 40) := rfl
        rw [← etx] at tA tB
        clear hown hbl as1 as2 tC ew hvl etx
        generalize bya (txt pl ((wordsOf xs).take 40) []) = S1 at *
        generalize bya (txt pl ((wordsOf xs).take 40) [120]) = S2 at *
        generalize bya (tx1 pl xs 40) = S at *
        by_cases hp : pl = 40
        · have HX1 := hide (tA hp)
          obtain rfl := hp
          clear tA tB
          go_wp2_with (at_builtin; refine wpList_append_lies _ rfl _ _ 36 rfl w.heap.size 3 inf _ 1 8 Tryd.underlying36 HInf.out HZ.out HSz.out HBy.out rfl (by decide) (.slice va 40 vc) 40 (intCs (wds xs 40)) rfl (HO.out.alloc _) ⟨wr.heap.size, 0, none⟩ 1 1 [.int .i64 (150994944 + (40 : Int))] rfl rfl (World.news_of_block (_root_.Go.heap_alloc_new wr _)) (fun u hu => by simp at hu; subst hu; rfl) (by decide) (by unfold maxLen; omega) (by omega) (by rw [size_alloc1]; omega) (wr.heap.size + 1) (by rw [size_alloc1]) ?_; intro g2' cap2 w3 hown2 hgr2 hat2 hlt2; have HO3 := hide hown2; have HGr := hide hgr2; clear hown2 hgr2 hat2)
          rw [HX1.out]
          have HB3 := hide ((HBl.out.alloc hwz _).grown HGr.out (by rw [size_alloc1]; omega) (fun j hj => (row_lt HO.out j hj).1))
          have hz3 := HB3.out.size
          refine (cribAssemble_any S1 w3 (HT.out.below hpos HB3.out) (by unfold maxLen; omega)).mono ?_
          rintro e w4 ⟨hb4, hres⟩
          rcases hres with ⟨ws, v, hr, hown4, rfl⟩ | ⟨l, c, er, hr, her, rfl⟩
          rotate_left
          · rw [HA1.out] at hr
            cases hr
          obtain rfl : ws = wds xs 40 ++ [150994944 + ((40 : Nat) : Int)] := (Sum.inl.inj (HA1.out.symm.trans hr)).symm
          have hl4 : (wds xs 40 ++ [150994944 + ((40 : Nat) : Int)]).length = 40 + 1 := by rw [List.length_append, hwl]; rfl
          rw [hl4] at hown4
          obtain ⟨la, lc, hv⟩ := owns_len hown4
          subst hv
          have HO4 := hide hown4
          have HW4 := hide (own_grow HO3.out hb4)
          have HB4 := hide (HB3.out.trans (hb4.mono HB3.out.size))
          have hz4 := HB4.out.size
          clear hown4 hb4 hr hl4
          go_wp2_with fail
          go_loopw [15] (fun i wr2 => ∃ k : Nat, k ≤ 40 + 1 ∧ i = .int .i64 k ∧ Below (w4.heap.size + 1) (w4.alloc (.cells #[.int .i64 0, .int .i64 0] 41)) wr2) (fun i _ => 40 + 1 - (intOf i).toNat)
          case atStart => exact ⟨0, Nat.zero_le _, rfl, Below.refl _ _⟩
          case round =>
            obtain ⟨k, hk, hi, hb5⟩ := hrel
            subst hi
            have HB5 := hide hb5
            by_cases hlt : k < 40 + 1
            · have hlt' : (k : Int) < 41 := by omega
              obtain ⟨g1, c1, hf1, _, hg1⟩ := HO4.out.form (by omega)
              cases hf1
              obtain ⟨g2, c2, hf2, _, hg2⟩ := HW4.out.form (by omega)
              cases hf2
              obtain ⟨y, hy⟩ : ∃ y, (wds xs 40 ++ [150994944 + ((40 : Nat) : Int)])[k]? = some y := ⟨_, List.getElem?_eq_getElem (by rw [List.length_append, hwl]; exact hlt)⟩
              have keep : ∀ g j, g < w4.heap.size → wr.cell? ⟨g, j, none⟩ = w4.cell? ⟨g, j, none⟩ := fun g j hg => by rw [below_cell' hb5 _ _ (by omega), World.cell?_alloc_past _ _ _ hg]
              have x1 : wr.cell? ⟨g1, k, none⟩ = some (.int .i64 y) := by
                rw [keep _ _ hg1, HO4.out.cellAt k (by omega)]
                unfold intCs
                rw [List.getElem?_map, hy]
                rfl
              have x2 : wr.cell? ⟨g2', k, none⟩ = some (.int .i64 y) := by
                rw [keep _ _ hg2, HW4.out.cellAt k (by omega)]
                have : intCs (wds xs 40) ++ [Value.int .i64 (150994944 + (40 : Int))] = intCs (wds xs 40 ++ [150994944 + ((40 : Nat) : Int)]) := by first | exact (intCs_snoc _ _).symm | (rw [intCs_snoc]; rfl)
                rw [this]
                unfold intCs
                rw [List.getElem?_map, hy]
                rfl
              clear keep hb5 hy
              go_wp2_with fail
              go_quiet (fail)
              go_wp2_with fail
              exact ⟨⟨k + 1, by omega, by go_num, below_drewN HB5.out nq⟩, by simp [intOf]; omega⟩
            · have hke : k = 40 + 1 := by omega
              subst hke
              have hz5 := hb5.size
              rw [size_alloc1] at hz5
              have HBr := hide ((HB4.out.alloc hz4 (.cells #[.int .i64 0, .int .i64 0] 41)).trans (hb5.mono (by omega)))
              clear hb5
              go_wp2_with fail
              rw [HtC.out]
              refine (cribAssemble_any S2 wr (HT.out.below hpos HBr.out) (by unfold maxLen; omega)).mono ?_
              rintro e w6 ⟨hb6, hres⟩
              obtain ⟨c0, h2⟩ := HA2.out
              rcases hres with ⟨ws, v, hr, _, rfl⟩ | ⟨l, c, er, hr, her, rfl⟩
              · rw [h2] at hr; cases hr
              rw [h2] at hr
              cases hr
              have HB6 := hide (HBr.out.trans (hb6.mono HBr.out.size))
              have p0 : w6.cell? ⟨w4.heap.size, 0, none⟩ = some (.int .i64 0) := by rw [below_cell' hb6 _ _ (by omega), below_cell' HB5.out _ _ (by omega), World.cell?_alloc_at (hn := rfl)]; rfl
              have p1 : w6.cell? ⟨w4.heap.size, 1, none⟩ = some (.int .i64 0) := by rw [below_cell' hb6 _ _ (by omega), below_cell' HB5.out _ _ (by omega), World.cell?_alloc_at (hn := rfl)]; rfl
              have pf : ∀ j, w6.frozen? ⟨w4.heap.size, j, none⟩ = false := fun j => by rw [hb6.frozen (p := ⟨w4.heap.size, j, none⟩) (by show w4.heap.size < _; omega), HB5.out.frozen (p := ⟨w4.heap.size, j, none⟩) (by show w4.heap.size < _; omega), World.frozen?_alloc_at (hn := rfl)]
              clear hb6 HBr HA2 HA1 h2
              go_wp2_with fail
              go_ret
              exact ⟨rfl, (HB6.out.setCell (p := ⟨w4.heap.size, 0, none⟩) hz4 _).setCell (p := ⟨w4.heap.size, 1, none⟩) hz4 _⟩
        · have HX1 := hide (tB hp)
          have hp' : ¬ (pl : Int) = (40 : Int) := by omega
          clear tA tB hp
          go_wp2_with (at_builtin; refine wpList_append_lies _ rfl _ _ 36 rfl w.heap.size 3 inf _ 1 8 Tryd.underlying36 HInf.out HZ.out HSz.out HBy.out rfl (by decide) (.slice va 40 vc) 40 (intCs (wds xs 40)) rfl (HO.out.alloc _) ⟨wr.heap.size, 0, none⟩ 1 1 [.int .i64 (150994944 + (pl : Int))] rfl rfl (World.news_of_block (_root_.Go.heap_alloc_new wr _)) (fun u hu => by simp at hu; subst hu; rfl) (by decide) (by unfold maxLen; omega) (by omega) (by rw [size_alloc1]; omega) (wr.heap.size + 1) (by rw [size_alloc1]) ?_; intro g2' cap2 w3 hown2 hgr2 hat2 hlt2; have HO3 := hide hown2; have HGr := hide hgr2; clear hown2 hgr2 hat2)
          rw [HX1.out]
          have HB3 := hide ((HBl.out.alloc hwz _).grown HGr.out (by rw [size_alloc1]; omega) (fun j hj => (row_lt HO.out j hj).1))
          have hz3 := HB3.out.size
          refine (cribAssemble_any S1 w3 (HT.out.below hpos HB3.out) (by unfold maxLen; omega)).mono ?_
          rintro e w4 ⟨hb4, hres⟩
          rcases hres with ⟨ws, v, hr, hown4, rfl⟩ | ⟨l, c, er, hr, her, rfl⟩
          rotate_left
          · rw [HA1.out] at hr
            cases hr
          obtain rfl : ws = wds xs 40 ++ [150994944 + (pl : Int)] := (Sum.inl.inj (HA1.out.symm.trans hr)).symm
          have hl4 : (wds xs 40 ++ [150994944 + (pl : Int)]).length = 40 + 1 := by rw [List.length_append, hwl]; rfl
          rw [hl4] at hown4
          obtain ⟨la, lc, hv⟩ := owns_len hown4
          subst hv
          have HO4 := hide hown4
          have HW4 := hide (own_grow HO3.out hb4)
          have HB4 := hide (HB3.out.trans (hb4.mono HB3.out.size))
          have hz4 := HB4.out.size
          clear hown4 hb4 hr hl4
          go_wp2_with fail
          go_loopw [15] (fun i wr2 => ∃ k : Nat, k ≤ 40 + 1 ∧ i = .int .i64 k ∧ Below (w4.heap.size + 1) (w4.alloc (.cells #[.int .i64 0, .int .i64 0] 41)) wr2) (fun i _ => 40 + 1 - (intOf i).toNat)
          case atStart => exact ⟨0, Nat.zero_le _, rfl, Below.refl _ _⟩
          case round =>
            obtain ⟨k, hk, hi, hb5⟩ := hrel
            subst hi
            have HB5 := hide hb5
            by_cases hlt : k < 40 + 1
            · have hlt' : (k : Int) < 41 := by omega
              obtain ⟨g1, c1, hf1, _, hg1⟩ := HO4.out.form (by omega)
              cases hf1
              obtain ⟨g2, c2, hf2, _, hg2⟩ := HW4.out.form (by omega)
              cases hf2
              obtain ⟨y, hy⟩ : ∃ y, (wds xs 40 ++ [150994944 + (pl : Int)])[k]? = some y := ⟨_, List.getElem?_eq_getElem (by rw [List.length_append, hwl]; exact hlt)⟩
              have keep : ∀ g j, g < w4.heap.size → wr.cell? ⟨g, j, none⟩ = w4.cell? ⟨g, j, none⟩ := fun g j hg => by rw [below_cell' hb5 _ _ (by omega), World.cell?_alloc_past _ _ _ hg]
              have x1 : wr.cell? ⟨g1, k, none⟩ = some (.int .i64 y) := by
                rw [keep _ _ hg1, HO4.out.cellAt k (by omega)]
                unfold intCs
                rw [List.getElem?_map, hy]
                rfl
              have x2 : wr.cell? ⟨g2', k, none⟩ = some (.int .i64 y) := by
                rw [keep _ _ hg2, HW4.out.cellAt k (by omega)]
                have : intCs (wds xs 40) ++ [Value.int .i64 (150994944 + (pl : Int))] = intCs (wds xs 40 ++ [150994944 + (pl : Int)]) := by first | exact (intCs_snoc _ _).symm | (rw [intCs_snoc]; rfl)
                rw [this]
                unfold intCs
                rw [List.getElem?_map, hy]
                rfl
              clear keep hb5 hy
              go_wp2_with fail
              go_quiet (fail)
              go_wp2_with fail
              exact ⟨⟨k + 1, by omega, by go_num, below_drewN HB5.out nq⟩, by simp [intOf]; omega⟩
            · have hke : k = 40 + 1 := by omega
              subst hke
              have hz5 := hb5.size
              rw [size_alloc1] at hz5
              have HBr := hide ((HB4.out.alloc hz4 (.cells #[.int .i64 0, .int .i64 0] 41)).trans (hb5.mono (by omega)))
              clear hb5
              go_wp2_with fail
              rw [HtC.out]
              refine (cribAssemble_any S2 wr (HT.out.below hpos HBr.out) (by unfold maxLen; omega)).mono ?_
              rintro e w6 ⟨hb6, hres⟩
              obtain ⟨c0, h2⟩ := HA2.out
              rcases hres with ⟨ws, v, hr, _, rfl⟩ | ⟨l, c, er, hr, her, rfl⟩
              · rw [h2] at hr; cases hr
              rw [h2] at hr
              cases hr
              have HB6 := hide (HBr.out.trans (hb6.mono HBr.out.size))
              have p0 : w6.cell? ⟨w4.heap.size, 0, none⟩ = some (.int .i64 0) := by rw [below_cell' hb6 _ _ (by omega), below_cell' HB5.out _ _ (by omega), World.cell?_alloc_at (hn := rfl)]; rfl
              have p1 : w6.cell? ⟨w4.heap.size, 1, none⟩ = some (.int .i64 0) := by rw [below_cell' hb6 _ _ (by omega), below_cell' HB5.out _ _ (by omega), World.cell?_alloc_at (hn := rfl)]; rfl
              have pf : ∀ j, w6.frozen? ⟨w4.heap.size, j, none⟩ = false := fun j => by rw [hb6.frozen (p := ⟨w4.heap.size, j, none⟩) (by show w4.heap.size < _; omega), HB5.out.frozen (p := ⟨w4.heap.size, j, none⟩) (by show w4.heap.size < _; omega), World.frozen?_alloc_at (hn := rfl)]
              clear hb6 HBr HA2 HA1 h2
              go_wp2_with fail
              go_ret
              exact ⟨rfl, (HB6.out.setCell (p := ⟨w4.heap.size, 0, none⟩) hz4 _).setCell (p := ⟨w4.heap.size, 1, none⟩) hz4 _⟩
  · have hbig' : ¬ (40 : Int) < (xs.length : Int) := by omega
    obtain rfl : n = xs.length := by omega
    clear hn hnl hbig
    go_enter Tryd.func5, Tryd.ntmps5
    go_wp2_with fail
    refine (unhide HP _).mono ?_
    rintro e w' ⟨rfl, hw'⟩
    obtain rfl := hw'.symm
    go_wp2_with fail
    go_loopw [5, 6, 9] (fun s l i wr => ∃ k : Nat, k ≤ xs.length ∧ i = .int .i64 k ∧ s = .string (bya (tx1 pl xs k)) ∧ wr.ownsRow w.heap.size 3 1 l k (intCs (wds xs k)) ∧ Below w.heap.size w wr) (fun _ _ i _ => xs.length - (intOf i).toNat)
    case atStart => exact ⟨0, Nat.zero_le _, rfl, rfl, World.ownsRow_nil _ _ _ _, Below.refl _ _⟩
    case round =>
      obtain ⟨k, hk, hi, hs, hown, hbl⟩ := hrel
      obtain ⟨va, vc, hv⟩ := owns_len hown
      subst hi hs hv
      have HO := hide hown; have HBl := hide hbl
      have hwz := hbl.size
      have zS := tx1_len pl xs k (by omega)
      by_cases hlt : k < xs.length
      · have hkl : k < xs.length := by omega
        have hlt' : (k : Int) < (xs.length : Int) := by omega
        rcases HR.out with h0 | ⟨g, off, rfl, hg, hc⟩
        · rw [h0] at hkl; simp at hkl
        obtain ⟨x, hx⟩ : ∃ x, xs[k]? = some x := ⟨xs[k], by simp [hkl]⟩
        have cX : wr.cell? ⟨g, off + k, none⟩ = some (.int .i64 x) := (below_cell' hbl _ _ hg).trans (hc k x hx)
        obtain ⟨v, hv, hvl, hvx⟩ : ∃ v : Nat, (wordsOf xs)[k]? = some v ∧ v < 4294967296 ∧ (v : Int) = pickI x 4294967296 := by
          have hb := pickI_bd x 4294967296 (by omega)
          refine ⟨(pickI x 4294967296).toNat, by simp [wordsOf, hx], by omega, by omega⟩
        have hxb := HX.out x (List.mem_of_getElem? hx)
        have HPk := hide (fun w' => pick_any x 4294967296 w' hxb.1 hxb.2 (by omega) (by omega))
        rw [← hvx] at HPk
        have HSp := hide (fun w' => spelt_any v w' hvl)
        obtain ⟨st1, st2⟩ := txt_step pl xs k v hkl hv
        have HS1 := hide st1; have HS2 := hide st2
        have zT : (bya (spT v)).size ≤ 18 := by rw [bya_size]; exact spT_len v hvl
        generalize bya (spT v) = T at *
        generalize bya (tx1 pl xs k) = S at *
        clear hown hbl hc hx hv hvx hxb st1 st2
        by_cases hp : k = pl
        · subst hp
          have HS1' := hide HS1.out
          rw [if_pos rfl] at HS1'
          go_wp2_with fail
          refine (unhide HPk _).mono ?_
          rintro e w' ⟨rfl, hw'⟩
          obtain rfl := hw'.symm
          go_wp2_with fail
          refine (unhide HSp _).mono ?_
          rintro e w2 ⟨rfl, hb2⟩
          have HB2 := hide (HBl.out.trans (hb2.mono HBl.out.size))
          have HO2 := hide (own_grow HO.out hb2)
          have hz2 := HB2.out.size
          clear hb2
          go_wp2_with (at_builtin; refine wpList_append_lies _ rfl _ _ 36 rfl w.heap.size 3 inf _ 1 8 Tryd.underlying36 HInf.out HZ.out HSz.out HBy.out rfl (by decide) (.slice va k vc) k (intCs (wds xs k)) rfl (HO2.out.alloc _) ⟨w2.heap.size, 0, none⟩ 1 1 [.int .i64 (spW v : Int)] rfl rfl (World.news_of_block (_root_.Go.heap_alloc_new w2 _)) (fun u hu => by simp at hu; subst hu; rfl) (by decide) (by unfold maxLen; omega) (by omega) (by rw [size_alloc1]; omega) (w2.heap.size + 1) (by rw [size_alloc1]) ?_; intro g2' cap2 w3 hown2 hgr2 hat2 hlt2; have HO3 := hide hown2; have HGr := hide hgr2; clear hown2 hgr2 hat2)
          refine ⟨⟨k + 1, by omega, by go_num, ?_, ?_, ?_⟩, by simp [intOf]; omega⟩
          · rw [HS1'.out]
          · rw [HS2.out, intCs_snoc]
            exact HO3.out
          · exact (HB2.out.alloc hz2 _).grown HGr.out (by rw [size_alloc1]; omega) (fun j hj => (row_lt HO2.out j hj).1)
        · have hp' : ¬ (k : Int) = (pl : Int) := by omega
          have HS1' := hide HS1.out
          rw [if_neg hp] at HS1'
          clear hp
          go_wp2_with fail
          refine (unhide HPk _).mono ?_
          rintro e w' ⟨rfl, hw'⟩
          obtain rfl := hw'.symm
          go_wp2_with fail
          refine (unhide HSp _).mono ?_
          rintro e w2 ⟨rfl, hb2⟩
          have HB2 := hide (HBl.out.trans (hb2.mono HBl.out.size))
          have HO2 := hide (own_grow HO.out hb2)
          have hz2 := HB2.out.size
          clear hb2
          go_wp2_with (at_builtin; refine wpList_append_lies _ rfl _ _ 36 rfl w.heap.size 3 inf _ 1 8 Tryd.underlying36 HInf.out HZ.out HSz.out HBy.out rfl (by decide) (.slice va k vc) k (intCs (wds xs k)) rfl (HO2.out.alloc _) ⟨w2.heap.size, 0, none⟩ 1 1 [.int .i64 (spW v : Int)] rfl rfl (World.news_of_block (_root_.Go.heap_alloc_new w2 _)) (fun u hu => by simp at hu; subst hu; rfl) (by decide) (by unfold maxLen; omega) (by omega) (by rw [size_alloc1]; omega) (w2.heap.size + 1) (by rw [size_alloc1]) ?_; intro g2' cap2 w3 hown2 hgr2 hat2 hlt2; have HO3 := hide hown2; have HGr := hide hgr2; clear hown2 hgr2 hat2)
          refine ⟨⟨k + 1, by omega, by go_num, ?_, ?_, ?_⟩, by simp [intOf]; omega⟩
          · rw [HS1'.out]
          · rw [HS2.out, intCs_snoc]
            exact HO3.out
          · exact (HB2.out.alloc hz2 _).grown HGr.out (by rw [size_alloc1]; omega) (fun j hj => (row_lt HO2.out j hj).1)
      · have hkn : k = xs.length := by omega
        subst hkn
        have hvl : ((wordsOf xs).take xs.length).length = xs.length := by rw [List.length_take]; simp [wordsOf] <;> omega
        obtain ⟨as1, as2⟩ := asm_txt pl ((wordsOf xs).take xs.length) (fun v hv => wordsOf_lt xs v (List.mem_of_mem_take hv)) (by omega) (by omega)
        have ew : ((wordsOf xs).take xs.length).map (fun v => (spW v : Int)) = wds xs xs.length := rfl
        rw [hvl] at as2
        rw [ew] at as1
        have hwl := wds_len xs xs.length (by omega)
        have zt := txt_len pl ((wordsOf xs).take xs.length) [] (by decide) (fun v hv => wordsOf_lt xs v (List.mem_of_mem_take hv)) (by omega)
        have zt2 := txt_len pl ((wordsOf xs).take xs.length) [120] (by decide) (fun v hv => wordsOf_lt xs v (List.mem_of_mem_take hv)) (by omega)
        rw [← bya_size] at zt zt2
        obtain ⟨tA, tB, tC⟩ := txt_end pl ((wordsOf xs).take xs.length)
        rw [hvl] at tA tB
        have HA1 := hide as1; have HA2 := hide as2; have HtC := hide tC
        have etx : tx1 pl xs xs.length = HEAD ++ bodyT pl 0 ((wordsOf xs).take xs.length) := rfl
        rw [← etx] at tA tB
        clear hown hbl as1 as2 tC ew hvl etx
        generalize bya (txt pl ((wordsOf xs).take xs.length) []) = S1 at *
        generalize bya (txt pl ((wordsOf xs).take xs.length) [120]) = S2 at *
        generalize bya (tx1 pl xs xs.length) = S at *
        by_cases hp : pl = xs.length
        · have HX1 := hide (tA hp)
          obtain rfl := hp
          clear tA tB
          go_wp2_with (at_builtin; refine wpList_append_lies _ rfl _ _ 36 rfl w.heap.size 3 inf _ 1 8 Tryd.underlying36 HInf.out HZ.out HSz.out HBy.out rfl (by decide) (.slice va xs.length vc) xs.length (intCs (wds xs xs.length)) rfl (HO.out.alloc _) ⟨wr.heap.size, 0, none⟩ 1 1 [.int .i64 (150994944 + (xs.length : Int))] rfl rfl (World.news_of_block (_root_.Go.heap_alloc_new wr _)) (fun u hu => by simp at hu; subst hu; rfl) (by decide) (by unfold maxLen; omega) (by omega) (by rw [size_alloc1]; omega) (wr.heap.size + 1) (by rw [size_alloc1]) ?_; intro g2' cap2 w3 hown2 hgr2 hat2 hlt2; have HO3 := hide hown2; have HGr := hide hgr2; clear hown2 hgr2 hat2)
          rw [HX1.out]
          have HB3 := hide ((HBl.out.alloc hwz _).grown HGr.out (by rw [size_alloc1]; omega) (fun j hj => (row_lt HO.out j hj).1))
          have hz3 := HB3.out.size
          refine (cribAssemble_any S1 w3 (HT.out.below hpos HB3.out) (by unfold maxLen; omega)).mono ?_
          rintro e w4 ⟨hb4, hres⟩
          rcases hres with ⟨ws, v, hr, hown4, rfl⟩ | ⟨l, c, er, hr, her, rfl⟩
          rotate_left
          · rw [HA1.out] at hr
            cases hr
          obtain rfl : ws = wds xs xs.length ++ [150994944 + ((xs.length : Nat) : Int)] := (Sum.inl.inj (HA1.out.symm.trans hr)).symm
          have hl4 : (wds xs xs.length ++ [150994944 + ((xs.length : Nat) : Int)]).length = xs.length + 1 := by rw [List.length_append, hwl]; rfl
          rw [hl4] at hown4
          obtain ⟨la, lc, hv⟩ := owns_len hown4
          subst hv
          have HO4 := hide hown4
          have HW4 := hide (own_grow HO3.out hb4)
          have HB4 := hide (HB3.out.trans (hb4.mono HB3.out.size))
          have hz4 := HB4.out.size
          clear hown4 hb4 hr hl4
          go_wp2_with fail
          go_loopw [15] (fun i wr2 => ∃ k : Nat, k ≤ xs.length + 1 ∧ i = .int .i64 k ∧ Below (w4.heap.size + 1) (w4.alloc (.cells #[.int .i64 0, .int .i64 0] 41)) wr2) (fun i _ => xs.length + 1 - (intOf i).toNat)
          case atStart => exact ⟨0, Nat.zero_le _, rfl, Below.refl _ _⟩
          case round =>
            obtain ⟨k, hk, hi, hb5⟩ := hrel
            subst hi
            have HB5 := hide hb5
            by_cases hlt : k < xs.length + 1
            · have hlt' : (k : Int) < ((xs.length + 1 : Nat) : Int) := by omega
              obtain ⟨g1, c1, hf1, _, hg1⟩ := HO4.out.form (by omega)
              cases hf1
              obtain ⟨g2, c2, hf2, _, hg2⟩ := HW4.out.form (by omega)
              cases hf2
              obtain ⟨y, hy⟩ : ∃ y, (wds xs xs.length ++ [150994944 + ((xs.length : Nat) : Int)])[k]? = some y := ⟨_, List.getElem?_eq_getElem (by rw [List.length_append, hwl]; exact hlt)⟩
              have keep : ∀ g j, g < w4.heap.size → wr.cell? ⟨g, j, none⟩ = w4.cell? ⟨g, j, none⟩ := fun g j hg => by rw [below_cell' hb5 _ _ (by omega), World.cell?_alloc_past _ _ _ hg]
              have x1 : wr.cell? ⟨g1, k, none⟩ = some (.int .i64 y) := by
                rw [keep _ _ hg1, HO4.out.cellAt k (by omega)]
                unfold intCs
                rw [List.getElem?_map, hy]
                rfl
              have x2 : wr.cell? ⟨g2', k, none⟩ = some (.int .i64 y) := by
                rw [keep _ _ hg2, HW4.out.cellAt k (by omega)]
                have : intCs (wds xs xs.length) ++ [Value.int .i64 (150994944 + (xs.length : Int))] = intCs (wds xs xs.length ++ [150994944 + ((xs.length : Nat) : Int)]) := by first | exact (intCs_snoc _ _).symm | (rw [intCs_snoc]; rfl)
                rw [this]
                unfold intCs
                rw [List.getElem?_map, hy]
                rfl
              clear keep hb5 hy
              go_wp2_with fail
              go_quiet (fail)
              go_wp2_with fail
              exact ⟨⟨k + 1, by omega, by go_num, below_drewN HB5.out nq⟩, by simp [intOf]; omega⟩
            · have hke : k = xs.length + 1 := by omega
              subst hke
              have hz5 := hb5.size
              rw [size_alloc1] at hz5
              have HBr := hide ((HB4.out.alloc hz4 (.cells #[.int .i64 0, .int .i64 0] 41)).trans (hb5.mono (by omega)))
              clear hb5
              go_wp2_with fail
              rw [HtC.out]
              refine (cribAssemble_any S2 wr (HT.out.below hpos HBr.out) (by unfold maxLen; omega)).mono ?_
              rintro e w6 ⟨hb6, hres⟩
              obtain ⟨c0, h2⟩ := HA2.out
              rcases hres with ⟨ws, v, hr, _, rfl⟩ | ⟨l, c, er, hr, her, rfl⟩
              · rw [h2] at hr; cases hr
              rw [h2] at hr
              cases hr
              have HB6 := hide (HBr.out.trans (hb6.mono HBr.out.size))
              have p0 : w6.cell? ⟨w4.heap.size, 0, none⟩ = some (.int .i64 0) := by rw [below_cell' hb6 _ _ (by omega), below_cell' HB5.out _ _ (by omega), World.cell?_alloc_at (hn := rfl)]; rfl
              have p1 : w6.cell? ⟨w4.heap.size, 1, none⟩ = some (.int .i64 0) := by rw [below_cell' hb6 _ _ (by omega), below_cell' HB5.out _ _ (by omega), World.cell?_alloc_at (hn := rfl)]; rfl
              have pf : ∀ j, w6.frozen? ⟨w4.heap.size, j, none⟩ = false := fun j => by rw [hb6.frozen (p := ⟨w4.heap.size, j, none⟩) (by show w4.heap.size < _; omega), HB5.out.frozen (p := ⟨w4.heap.size, j, none⟩) (by show w4.heap.size < _; omega), World.frozen?_alloc_at (hn := rfl)]
              clear hb6 HBr HA2 HA1 h2
              go_wp2_with fail
              go_ret
              exact ⟨rfl, (HB6.out.setCell (p := ⟨w4.heap.size, 0, none⟩) hz4 _).setCell (p := ⟨w4.heap.size, 1, none⟩) hz4 _⟩
        · have HX1 := hide (tB hp)
          have hp' : ¬ (pl : Int) = (xs.length : Int) := by omega
          clear tA tB hp
          go_wp2_with (at_builtin; refine wpList_append_lies _ rfl _ _ 36 rfl w.heap.size 3 inf _ 1 8 Tryd.underlying36 HInf.out HZ.out HSz.out HBy.out rfl (by decide) (.slice va xs.length vc) xs.length (intCs (wds xs xs.length)) rfl (HO.out.alloc _) ⟨wr.heap.size, 0, none⟩ 1 1 [.int .i64 (150994944 + (pl : Int))] rfl rfl (World.news_of_block (_root_.Go.heap_alloc_new wr _)) (fun u hu => by simp at hu; subst hu; rfl) (by decide) (by unfold maxLen; omega) (by omega) (by rw [size_alloc1]; omega) (wr.heap.size + 1) (by rw [size_alloc1]) ?_; intro g2' cap2 w3 hown2 hgr2 hat2 hlt2; have HO3 := hide hown2; have HGr := hide hgr2; clear hown2 hgr2 hat2)
          rw [HX1.out]
          have HB3 := hide ((HBl.out.alloc hwz _).grown HGr.out (by rw [size_alloc1]; omega) (fun j hj => (row_lt HO.out j hj).1))
          have hz3 := HB3.out.size
          refine (cribAssemble_any S1 w3 (HT.out.below hpos HB3.out) (by unfold maxLen; omega)).mono ?_
          rintro e w4 ⟨hb4, hres⟩
          rcases hres with ⟨ws, v, hr, hown4, rfl⟩ | ⟨l, c, er, hr, her, rfl⟩
          rotate_left
          · rw [HA1.out] at hr
            cases hr
          obtain rfl : ws = wds xs xs.length ++ [150994944 + (pl : Int)] := (Sum.inl.inj (HA1.out.symm.trans hr)).symm
          have hl4 : (wds xs xs.length ++ [150994944 + (pl : Int)]).length = xs.length + 1 := by rw [List.length_append, hwl]; rfl
          rw [hl4] at hown4
          obtain ⟨la, lc, hv⟩ := owns_len hown4
          subst hv
          have HO4 := hide hown4
          have HW4 := hide (own_grow HO3.out hb4)
          have HB4 := hide (HB3.out.trans (hb4.mono HB3.out.size))
          have hz4 := HB4.out.size
          clear hown4 hb4 hr hl4
          go_wp2_with fail
          go_loopw [15] (fun i wr2 => ∃ k : Nat, k ≤ xs.length + 1 ∧ i = .int .i64 k ∧ Below (w4.heap.size + 1) (w4.alloc (.cells #[.int .i64 0, .int .i64 0] 41)) wr2) (fun i _ => xs.length + 1 - (intOf i).toNat)
          case atStart => exact ⟨0, Nat.zero_le _, rfl, Below.refl _ _⟩
          case round =>
            obtain ⟨k, hk, hi, hb5⟩ := hrel
            subst hi
            have HB5 := hide hb5
            by_cases hlt : k < xs.length + 1
            · have hlt' : (k : Int) < ((xs.length + 1 : Nat) : Int) := by omega
              obtain ⟨g1, c1, hf1, _, hg1⟩ := HO4.out.form (by omega)
              cases hf1
              obtain ⟨g2, c2, hf2, _, hg2⟩ := HW4.out.form (by omega)
              cases hf2
              obtain ⟨y, hy⟩ : ∃ y, (wds xs xs.length ++ [150994944 + (pl : Int)])[k]? = some y := ⟨_, List.getElem?_eq_getElem (by rw [List.length_append, hwl]; exact hlt)⟩
              have keep : ∀ g j, g < w4.heap.size → wr.cell? ⟨g, j, none⟩ = w4.cell? ⟨g, j, none⟩ := fun g j hg => by rw [below_cell' hb5 _ _ (by omega), World.cell?_alloc_past _ _ _ hg]
              have x1 : wr.cell? ⟨g1, k, none⟩ = some (.int .i64 y) := by
                rw [keep _ _ hg1, HO4.out.cellAt k (by omega)]
                unfold intCs
                rw [List.getElem?_map, hy]
                rfl
              have x2 : wr.cell? ⟨g2', k, none⟩ = some (.int .i64 y) := by
                rw [keep _ _ hg2, HW4.out.cellAt k (by omega)]
                have : intCs (wds xs xs.length) ++ [Value.int .i64 (150994944 + (pl : Int))] = intCs (wds xs xs.length ++ [150994944 + (pl : Int)]) := by first | exact (intCs_snoc _ _).symm | (rw [intCs_snoc]; rfl)
                rw [this]
                unfold intCs
                rw [List.getElem?_map, hy]
                rfl
              clear keep hb5 hy
              go_wp2_with fail
              go_quiet (fail)
              go_wp2_with fail
              exact ⟨⟨k + 1, by omega, by go_num, below_drewN HB5.out nq⟩, by simp [intOf]; omega⟩
            · have hke : k = xs.length + 1 := by omega
              subst hke
              have hz5 := hb5.size
              rw [size_alloc1] at hz5
              have HBr := hide ((HB4.out.alloc hz4 (.cells #[.int .i64 0, .int .i64 0] 41)).trans (hb5.mono (by omega)))
              clear hb5
              go_wp2_with fail
              rw [HtC.out]
              refine (cribAssemble_any S2 wr (HT.out.below hpos HBr.out) (by unfold maxLen; omega)).mono ?_
              rintro e w6 ⟨hb6, hres⟩
              obtain ⟨c0, h2⟩ := HA2.out
              rcases hres with ⟨ws, v, hr, _, rfl⟩ | ⟨l, c, er, hr, her, rfl⟩
              · rw [h2] at hr; cases hr
              rw [h2] at hr
              cases hr
              have HB6 := hide (HBr.out.trans (hb6.mono HBr.out.size))
              have p0 : w6.cell? ⟨w4.heap.size, 0, none⟩ = some (.int .i64 0) := by rw [below_cell' hb6 _ _ (by omega), below_cell' HB5.out _ _ (by omega), World.cell?_alloc_at (hn := rfl)]; rfl
              have p1 : w6.cell? ⟨w4.heap.size, 1, none⟩ = some (.int .i64 0) := by rw [below_cell' hb6 _ _ (by omega), below_cell' HB5.out _ _ (by omega), World.cell?_alloc_at (hn := rfl)]; rfl
              have pf : ∀ j, w6.frozen? ⟨w4.heap.size, j, none⟩ = false := fun j => by rw [hb6.frozen (p := ⟨w4.heap.size, j, none⟩) (by show w4.heap.size < _; omega), HB5.out.frozen (p := ⟨w4.heap.size, j, none⟩) (by show w4.heap.size < _; omega), World.frozen?_alloc_at (hn := rfl)]
              clear hb6 HBr HA2 HA1 h2
              go_wp2_with fail
              go_ret
              exact ⟨rfl, (HB6.out.setCell (p := ⟨w4.heap.size, 0, none⟩) hz4 _).setCell (p := ⟨w4.heap.size, 1, none⟩) hz4 _⟩
end Go.Proofs.YtmmflekajbeamaaDoor
