/-
  THE LAW Written: what the document's answer makes of its text.
  THE LAW Written: what the document's answer, and so the program's, makes of its text.
  THE LAW Written: the answer to its text, whole.
-/
import Derived.Test.YtmmflekajbeamaaDoorG28
namespace Go.Proofs.YtmmflekajbeamaaDoor
open Go

abbrev tx (p : ByteArray × Int) : List UInt8 := p.1.data.toList
theorem map1 {ps : List (ByteArray × Int)} {x : List UInt8} (h : ps.map tx = [x]) : ∃ a, ps = [a] ∧ tx a = x := by
  match ps, h with
  | [a], h => simp at h; exact ⟨a, rfl, h⟩
theorem map2 {ps : List (ByteArray × Int)} {x y : List UInt8} (h : ps.map tx = [x, y]) : ∃ a b, ps = [a, b] ∧ tx a = x ∧ tx b = y := by
  match ps, h with
  | [a, b], h => simp at h; exact ⟨a, b, rfl, h⟩
theorem map3 {ps : List (ByteArray × Int)} {x y z : List UInt8} (h : ps.map tx = [x, y, z]) : ∃ a b c, ps = [a, b, c] ∧ tx a = x ∧ tx b = y ∧ tx c = z := by
  match ps, h with
  | [a, b, c], h => simp at h; exact ⟨a, b, c, rfl, h⟩
theorem partR (c : UInt8) (hc : c = 97 ∨ c = 98 ∨ c = 99) (lb : List (List UInt8 × Int)) (ga : Bool) (t : ByteArray) (a : Nat) (ha : a < 8) (h : t.data.toList = rT a) : partD c lb ga t = a := by
  have hr : regB t.data.toList = true ∧ regV t.data.toList = a := by
    rw [h]
    unfold rT
    rw [dec_small a (by omega)]
    have := dig_toNat a (by omega)
    refine ⟨?_, ?_⟩
    · simp only [regB, decide_eq_true_eq, this]
      refine ⟨rfl, by omega, by omega⟩
    · show ((UInt8.ofNat (48 + a)).toNat : Int) - 48 = a
      rw [this]; omega
  rw [(part_reg c hc lb ga t hr.1).1, hr.2]
theorem numD_dec (most : Int) (lb : List (List UInt8 × Int)) (ga : Bool) (t : ByteArray) (k : Nat) (hk : k < 10000000000) (hm : (k : Int) ≤ most) (h : t.data.toList = dec k) : numD most lb ga t = k := by
  obtain ⟨h1, h2⟩ := dec_ok k hk
  unfold numD digOK
  rw [h, h2, h1, if_pos (by simpa using hm)]
theorem row_ix (o : Nat) (h : o < 12) : rowIx (rowNm o) = some o := by
  match o, h with
  | 0, _ | 1, _ | 2, _ | 3, _ | 4, _ | 5, _ | 6, _ | 7, _ | 8, _ | 9, _ | 10, _ | 11, _ => decide
theorem one_v (v : Nat) (hv : v < 4294967296) (e : Int) (lb : List (List UInt8 × Int)) (ga : Bool) (h : ByteArray × Int) (ps : List (ByteArray × Int)) (hh : tx h = rowNm (opN v)) (hp : ps.map tx = (its v).map (·.2)) : oneD h ps e lb ga = ((spW v : Int), 0, 0) := by
  have b0 : opN v < 12 := by unfold opN; omega
  have ba : aN v < 8 := by unfold aN; omega
  have bb : bN v < 8 := by unfold bN; omega
  have bc : cN v < 8 := by unfold cN; omega
  have bk : kN v < 4096 := by unfold kN; omega
  have n1 : ∀ (x : Nat), ¬ (x : Int) = -1 := fun x => by omega
  have n2 : ∀ (x : Nat), ¬ (x : Int) = -2 := fun x => by omega
  have u1 : unitD 97 = 1048576 := rfl
  have u2 : unitD 98 = 65536 := rfl
  have u3 : unitD 99 = 4096 := rfl
  have u4 : unitD 110 = 1 := rfl
  have u5 : unitD 118 = 1 := rfl
  have pn : ∀ t, partD 110 lb ga t = numD 4095 lb ga t := fun _ => rfl
  have pv : ∀ t, partD 118 lb ga t = numD 4294967295 lb ga t := fun _ => rfl
  unfold oneD
  rw [show h.1.data.toList = rowNm (opN v) from hh, row_ix _ b0]
  simp only
  have rrr : ∀ o : Nat, o ≠ 11 → fmPt o = [97, 98, 99] → fmOp o = o → ps.map tx = [rT (aN v), rT (bN v), rT (cN v)] → oneGo e lb ga (fmPt o) ps (w0D o) 0 = (((o * 16777216 + aN v * 1048576 + bN v * 65536 + cN v * 4096 : Nat) : Int), 0, 0) := fun o h11 hf ho hp => by
    obtain ⟨x, y, z, rfl, hx, hy, hz⟩ := map3 hp
    have p1 := partR 97 (by decide) lb ga x.1 (aN v) ba hx
    have p2 := partR 98 (by decide) lb ga y.1 (bN v) bb hy
    have p3 := partR 99 (by decide) lb ga z.1 (cN v) bc hz
    simp [hf, oneGo, p1, p2, p3, n1, n2, u1, u2, u3, w0D, h11, ho]
  have rrn : ∀ o : Nat, o ≠ 11 → fmPt o = [97, 98, 110] → fmOp o = o → ps.map tx = [rT (aN v), rT (bN v), dec (kN v)] → oneGo e lb ga (fmPt o) ps (w0D o) 0 = (((o * 16777216 + aN v * 1048576 + bN v * 65536 + kN v : Nat) : Int), 0, 0) := fun o h11 hf ho hp => by
    obtain ⟨x, y, z, rfl, hx, hy, hz⟩ := map3 hp
    have p1 := partR 97 (by decide) lb ga x.1 (aN v) ba hx
    have p2 := partR 98 (by decide) lb ga y.1 (bN v) bb hy
    have p3 := numD_dec 4095 lb ga z.1 (kN v) (by omega) (by omega) hz
    simp [hf, oneGo, p1, p2, p3, pn, n1, n2, u1, u2, u4, w0D, h11, ho]
  have hop : opN v = 0 ∨ opN v = 1 ∨ opN v = 2 ∨ opN v = 3 ∨ opN v = 4 ∨ opN v = 5 ∨ opN v = 6 ∨ opN v = 7 ∨ opN v = 8 ∨ opN v = 9 ∨ opN v = 10 ∨ opN v = 11 := by omega
  rcases hop with ho | ho | ho | ho | ho | ho | ho | ho | ho | ho | ho | ho
  · simp only [its, ho] at hp
    simp only [spW, ho]
    have : ps = [] := by simpa using hp
    subst this
    have hf : fmPt 0 = [] := rfl
    simp [hf, oneGo, w0D, fmOp]
  · simp only [its, ho, List.map_cons, List.map_nil] at hp
    simp only [spW, ho]
    obtain ⟨x, y, rfl, hx, hy⟩ := map2 hp
    have p1 := partR 97 (by decide) lb ga x.1 (aN v) ba hx
    have p2 := numD_dec 4095 lb ga y.1 (kN v) (by omega) (by omega) hy
    have hf : fmPt 1 = [97, 110] := rfl
    simp [hf, oneGo, p1, p2, pn, n1, n2, u1, u4, w0D, fmOp]
  · simp only [its, ho, List.map_cons, List.map_nil] at hp
    have hw : spW v = opN v * 16777216 + aN v * 1048576 + bN v * 65536 + cN v * 4096 := by simp only [spW, ho]
    rw [hw]
    exact rrr (opN v) (by omega) (by rw [ho]; rfl) (by rw [ho]; rfl) hp
  · simp only [its, ho, List.map_cons, List.map_nil] at hp
    have hw : spW v = opN v * 16777216 + aN v * 1048576 + bN v * 65536 + cN v * 4096 := by simp only [spW, ho]
    rw [hw]
    exact rrr (opN v) (by omega) (by rw [ho]; rfl) (by rw [ho]; rfl) hp
  · simp only [its, ho, List.map_cons, List.map_nil] at hp
    have hw : spW v = opN v * 16777216 + aN v * 1048576 + bN v * 65536 + cN v * 4096 := by simp only [spW, ho]
    rw [hw]
    exact rrr (opN v) (by omega) (by rw [ho]; rfl) (by rw [ho]; rfl) hp
  · simp only [its, ho, List.map_cons, List.map_nil] at hp
    have hw : spW v = opN v * 16777216 + aN v * 1048576 + bN v * 65536 + cN v * 4096 := by simp only [spW, ho]
    rw [hw]
    exact rrr (opN v) (by omega) (by rw [ho]; rfl) (by rw [ho]; rfl) hp
  · simp only [its, ho, List.map_cons, List.map_nil] at hp
    have hw : spW v = opN v * 16777216 + aN v * 1048576 + bN v * 65536 + kN v := by simp only [spW, ho]
    rw [hw]
    exact rrn (opN v) (by omega) (by rw [ho]; rfl) (by rw [ho]; rfl) hp
  · simp only [its, ho, List.map_cons, List.map_nil] at hp
    have hw : spW v = opN v * 16777216 + aN v * 1048576 + bN v * 65536 + kN v := by simp only [spW, ho]
    rw [hw]
    exact rrn (opN v) (by omega) (by rw [ho]; rfl) (by rw [ho]; rfl) hp
  · simp only [its, ho, List.map_cons, List.map_nil] at hp
    have hw : spW v = opN v * 16777216 + aN v * 1048576 + bN v * 65536 + kN v := by simp only [spW, ho]
    rw [hw]
    exact rrn (opN v) (by omega) (by rw [ho]; rfl) (by rw [ho]; rfl) hp
  · simp only [its, ho, List.map_cons, List.map_nil] at hp
    simp only [spW, ho]
    obtain ⟨y, rfl, hy⟩ := map1 hp
    have p2 := numD_dec 4095 lb ga y.1 (kN v) (by omega) (by omega) hy
    have hf : fmPt 9 = [110] := rfl
    simp [hf, oneGo, p2, pn, n1, n2, u4, w0D, fmOp]
  · simp only [its, ho, List.map_cons, List.map_nil] at hp
    simp only [spW, ho]
    obtain ⟨x, rfl, hx⟩ := map1 hp
    have p1 := partR 97 (by decide) lb ga x.1 (aN v) ba hx
    have hf : fmPt 10 = [97] := rfl
    simp [hf, oneGo, p1, n1, n2, u1, w0D, fmOp]
  · simp only [its, ho, List.map_cons, List.map_nil] at hp
    simp only [spW, ho]
    obtain ⟨y, rfl, hy⟩ := map1 hp
    have p2 := numD_dec 4294967295 lb ga y.1 v (by omega) (by omega) hy
    have hf : fmPt 11 = [118] := rfl
    simp [hf, oneGo, p2, pv, n1, n2, u5, w0D]
end Go.Proofs.YtmmflekajbeamaaDoor

namespace Go.Proofs.YtmmflekajbeamaaDoor
open Go

theorem bya_of (t : ByteArray) (x : List UInt8) (h : t.data.toList = x) : t = bya x := by
  apply ByteArray.ext
  apply Array.toList_inj.1
  rw [h]
  simp [bya]
theorem col_nm (o : Nat) (h : o < 12) : colB (rowNm o) = false := by
  match o, h with
  | 0, _ | 1, _ | 2, _ | 3, _ | 4, _ | 5, _ | 6, _ | 7, _ | 8, _ | 9, _ | 10, _ | 11, _ => decide
theorem lab_name : nmI (nmD (bya LAB)) = true := by kernel_rfl
theorem lab_text : (nmD (bya LAB)).data.toList = NAM := by kernel_rfl
theorem nam_name : nmI (bya NAM) = true := by kernel_rfl
theorem namx_name : nmI (bya (NAM ++ [120])) = true := by kernel_rfl
def mkOf (pl i : Nat) : List (List UInt8 × Int) := if pl < i then [(NAM, (pl : Int))] else []
theorem line_gen (lb : List (List UInt8 × Int)) (ga : Bool) (pl i j : Nat) (e : Int) (l : List (ByteArray × Int)) (ws : List Int) (x0 : List UInt8) (X : List (List UInt8)) (hx : colB x0 = false) (hl : l.map tx = labQ (i == pl) ++ x0 :: X) (hw : ws.length = i) :
    ∃ l', l'.map tx = x0 :: X ∧ (∀ q ∈ l', q ∈ l) ∧ lineD lb ga j e l ws (mkOf pl i) = match insD lb ga j e l' ws with | .inl ws' => .inl (ws', mkOf pl (i + 1)) | .inr f => .inr f := by
  by_cases hp : i = pl
  · subst hp
    have hq : labQ (i == i) = [LAB] := by simp [labQ]
    rw [hq] at hl
    match l, hl with
    | t :: ts, hl =>
      simp only [List.map_cons, List.cons_append, List.nil_append, List.cons.injEq] at hl
      obtain ⟨h1, h2⟩ := hl
      refine ⟨ts, h2, fun q hq => List.mem_cons_of_mem _ hq, ?_⟩
      have ht : t.1 = bya LAB := bya_of _ _ h1
      have hc : colB t.1.data.toList = true := by rw [show t.1.data.toList = LAB from h1]; decide
      have m0 : mkOf i i = [] := by simp [mkOf]
      have m1 : mkOf i (i + 1) = [(NAM, (i : Int))] := by simp [mkOf]
      rw [m0, m1]
      unfold lineD
      simp only
      rw [if_pos hc, ht, lab_name, lab_text, if_neg (by decide), if_neg (by simp), hw]
      rfl
  · have hq : labQ (i == pl) = [] := by
      have : (i == pl) = false := by simpa using hp
      rw [this]; rfl
    rw [hq, List.nil_append] at hl
    have m : mkOf pl (i + 1) = mkOf pl i := by
      unfold mkOf
      by_cases h : pl < i
      · rw [if_pos h, if_pos (by omega)]
      · rw [if_neg h, if_neg (by omega)]
    refine ⟨l, hl, fun q hq => hq, ?_⟩
    rw [m]
    match l, hl with
    | t :: ts, hl =>
      simp only [List.map_cons, List.cons.injEq] at hl
      unfold lineD
      simp only
      rw [if_neg (by rw [show t.1.data.toList = x0 from hl.1, hx]; decide)]
      rfl
theorem ins_v (v : Nat) (hv : v < 4294967296) (lb : List (List UInt8 × Int)) (ga : Bool) (j : Nat) (e : Int) (l : List (ByteArray × Int)) (ws : List Int) (hl : l.map tx = toks v) (hw : ws.length < 128) : insD lb ga j e l ws = .inl (ws ++ [(spW v : Int)]) := by
  match l, hl with
  | h :: ps, hl =>
    simp only [toks, List.map_cons, List.cons.injEq] at hl
    unfold insD
    simp only
    rw [one_v v hv e lb ga h ps hl.1 hl.2]
    simp only
    rw [if_pos trivial, if_neg (by omega)]
theorem pass_body (lb : List (List UInt8 × Int)) (ga : Bool) (pl : Nat) (Q : List (List (List UInt8))) : ∀ (vs : List Nat) (i j : Nat) (ws : List Int) (R : List (List (ByteArray × Int) × Int)), (∀ v ∈ vs, v < 4294967296) → GG (bodyQ pl i vs ++ Q) R → ws.length = i → i + vs.length ≤ 128 →
    ∃ R', GG Q R' ∧ passD lb ga j R ws (mkOf pl i) = passD lb ga (j + 2 * vs.length) R' (ws ++ vs.map fun v => (spW v : Int)) (mkOf pl (i + vs.length)) := by
  intro vs
  induction vs with
  | nil => intro i j ws R _ h _ _; exact ⟨R, h, by simp⟩
  | cons v vs ih =>
    intro i j ws R hv h hw hlen
    rw [List.length_cons] at hlen
    match R, h with
    | r :: r2 :: R, h =>
      obtain ⟨g1, g2, g3⟩ := h
      have e2 : r2.1 = [] := by simpa using g2.1
      obtain ⟨l', h1, _, h3⟩ := line_gen lb ga pl i j r.2 r.1 ws (rowNm (opN v)) ((its v).map fun (x : List UInt8 × List UInt8) => x.2) (col_nm _ (by unfold opN; omega)) g1.1 hw
      rw [ins_v v (hv v List.mem_cons_self) lb ga j r.2 l' ws h1 (by omega)] at h3
      obtain ⟨R', k1, k2⟩ := ih (i + 1) (j + 2) (ws ++ [(spW v : Int)]) R (fun u hu => hv u (List.mem_cons_of_mem _ hu)) g3 (by simp [hw]) (by omega)
      refine ⟨R', k1, ?_⟩
      have s1 : passD lb ga j (r :: r2 :: R) ws (mkOf pl i) = passD lb ga (j + 1) (r2 :: R) (ws ++ [(spW v : Int)]) (mkOf pl (i + 1)) := by
        show (match lineD lb ga j r.2 r.1 ws (mkOf pl i) with | .inl (ws', mk') => passD lb ga (j + 1) (r2 :: R) ws' mk' | .inr f => .inr f) = _
        rw [h3]
      have s2 : passD lb ga (j + 1) (r2 :: R) (ws ++ [(spW v : Int)]) (mkOf pl (i + 1)) = passD lb ga (j + 2) R (ws ++ [(spW v : Int)]) (mkOf pl (i + 1)) := by
        show (match lineD lb ga (j + 1) r2.2 r2.1 (ws ++ [(spW v : Int)]) (mkOf pl (i + 1)) with | .inl (ws', mk') => passD lb ga (j + 1 + 1) R ws' mk' | .inr f => .inr f) = _
        rw [e2]
        rfl
      rw [s1, s2, k2, List.length_cons, show j + 2 + 2 * vs.length = j + 2 * (vs.length + 1) by omega, show i + 1 + vs.length = i + (vs.length + 1) by omega]
      simp
/-- A number's place that holds a label's name. -/
theorem num_nam (most : Int) (lb : List (List UInt8 × Int)) (ga : Bool) (t : ByteArray) (x : List UInt8) (hx : x = NAM ∨ x = NAM ++ [120]) (h : t.data.toList = x) : numD most lb ga t = if ga = true then 0 else (lb.lookup x).getD (-2) := by
  have hn : nmI t = true := by
    rw [bya_of t x h]
    rcases hx with rfl | rfl
    · exact nam_name
    · exact namx_name
  have hd : numOK x = false := by rcases hx with rfl | rfl <;> decide
  unfold numD digOK
  rw [h, hd, hn]
  rfl
theorem one_jump (e : Int) (lb : List (List UInt8 × Int)) (ga : Bool) (x : List UInt8) (hx : x = NAM ∨ x = NAM ++ [120]) (l : List (ByteArray × Int)) (hl : l.map tx = [[106, 117, 109, 112], x]) (hpos : ∀ q ∈ l, 1 ≤ q.2) :
    ∃ h ps, l = h :: ps ∧ ((ga = true → oneD h ps e lb ga = (150994944, 0, 0)) ∧ (ga = false → ∀ v : Nat, lb.lookup x = some (v : Int) → oneD h ps e lb ga = (150994944 + (v : Int), 0, 0)) ∧ (ga = false → lb.lookup x = none → ∃ c, oneD h ps e lb ga = (0, 7, c))) := by
  obtain ⟨h, y, rfl, h1, h2⟩ := map2 hl
  refine ⟨h, [y], rfl, ?_⟩
  have hy : 1 ≤ y.2 := hpos y (by simp)
  have ix : rowIx h.1.data.toList = some 9 := by rw [show h.1.data.toList = rowNm 9 from h1]; exact row_ix 9 (by decide)
  have hf : fmPt 9 = [110] := rfl
  have pn : partD 110 lb ga y.1 = numD 4095 lb ga y.1 := rfl
  have u4 : unitD 110 = 1 := rfl
  have nd := num_nam 4095 lb ga y.1 x hx h2
  unfold oneD
  rw [ix]
  simp only
  refine ⟨fun g => ?_, fun g v hv => ?_, fun g hn => ?_⟩
  · rw [g, if_pos rfl] at nd
    rw [g] at pn
    subst g
    simp [hf, oneGo, pn, nd, u4, w0D, fmOp]
  · subst g
    rw [if_neg (by decide), hv] at nd
    have n1 : ¬ (v : Int) = -1 := by omega
    have n2 : ¬ (v : Int) = -2 := by omega
    simp [hf, oneGo, pn, nd, u4, w0D, fmOp, n1, n2]
  · subst g
    rw [if_neg (by decide), hn] at nd
    have hp : 0 < y.2 := by omega
    exact ⟨y.2, by simp [hf, oneGo, pn, nd, hp]⟩
end Go.Proofs.YtmmflekajbeamaaDoor

namespace Go.Proofs.YtmmflekajbeamaaDoor
open Go

theorem dec_len4 (n : Nat) (h : n < 10000) : (dec n).length ≤ 4 := by
  unfold dec
  rw [decF_more 4 10 n (by simpa using h) (by omega) (by omega)]
  exact (decF_ok 4 n (by simpa using h) (by omega)).2.2.1
theorem rT_len (n : Nat) (h : n < 8) : (rT n).length = 2 := by
  unfold rT
  rw [dec_small n (by omega)]
  rfl
theorem spT_len (v : Nat) (hv : v < 4294967296) : (spT v).length ≤ 18 := by
  have b0 : opN v < 12 := by unfold opN; omega
  have hnm : (rowNm (opN v)).length ≤ 5 := by
    generalize opN v = o at *
    match o, b0 with
    | 0, _ | 1, _ | 2, _ | 3, _ | 4, _ | 5, _ | 6, _ | 7, _ | 8, _ | 9, _ | 10, _ | 11, _ => decide
  have A := rT_len (aN v) (by unfold aN; omega)
  have B := rT_len (bN v) (by unfold bN; omega)
  have C := rT_len (cN v) (by unfold cN; omega)
  have K := dec_len4 (kN v) (by unfold kN; omega)
  have V := (dec_len v (by omega)).2
  have hi : (flatI (its v)).length ≤ 13 := by
    unfold its
    split <;> simp [flatI] <;> omega
  have e : spT v = rowNm (opN v) ++ flatI (its v) := rfl
  rw [e, List.length_append]
  omega
theorem body_len (pl : Nat) : ∀ (vs : List Nat) (i : Nat), (∀ v ∈ vs, v < 4294967296) → (bodyT pl i vs).length ≤ 46 * vs.length := by
  intro vs
  induction vs with
  | nil => intro i _; simp [bodyT]
  | cons v vs ih =>
    intro i hv
    have h1 := ih (i + 1) (fun u hu => hv u (List.mem_cons_of_mem _ hu))
    have h2 := spT_len v (hv v List.mem_cons_self)
    have h3 : (labT (i == pl)).length ≤ 5 := by cases (i == pl) <;> decide
    simp only [bodyT, lnT, List.length_append, List.length_cons, List.length_nil]
    omega
theorem txt_len (pl : Nat) (vs : List Nat) (x : List UInt8) (hx : x.length ≤ 1) (hv : ∀ v ∈ vs, v < 4294967296) (hn : vs.length ≤ 40) : (txt pl vs x).length ≤ 1900 := by
  have h1 := body_len pl vs 0 hv
  have h3 : (labT (pl == vs.length)).length ≤ 5 := by cases (pl == vs.length) <;> decide
  simp only [txt, tlT, NAM, List.length_append, List.length_cons, List.length_nil]
  omega

/-- One pass over the text comes to its last line. -/
theorem pass_txt (lb : List (List UInt8 × Int)) (ga : Bool) (pl : Nat) (vs : List Nat) (x : List UInt8) (hv : ∀ v ∈ vs, v < 4294967296) (hn : vs.length ≤ 40) (R : List (List (ByteArray × Int) × Int)) (hg : GG ([] :: (bodyQ pl 0 vs ++ [labQ (pl == vs.length) ++ [[106, 117, 109, 112], NAM ++ x]])) R) :
    ∃ (l : List (ByteArray × Int)) (e : Int), l.map tx = [[106, 117, 109, 112], NAM ++ x] ∧ (∀ q ∈ l, 1 ≤ q.2) ∧ passD lb ga 0 R [] [] = match insD lb ga (1 + 2 * vs.length) e l (vs.map fun v => (spW v : Int)) with | .inl ws' => .inl (ws', mkOf pl (vs.length + 1)) | .inr f => .inr f := by
  match R, hg with
  | r :: R, hg =>
    obtain ⟨g1, g2⟩ := hg
    have e1 : r.1 = [] := by simpa using g1.1
    obtain ⟨R', k1, k2⟩ := pass_body lb ga pl [labQ (pl == vs.length) ++ [[106, 117, 109, 112], NAM ++ x]] vs 0 1 [] R hv g2 rfl (by omega)
    have s1 : passD lb ga 0 (r :: R) [] [] = passD lb ga 1 R [] (mkOf pl 0) := by
      show (match lineD lb ga 0 r.2 r.1 [] [] with | .inl (ws', mk') => passD lb ga 1 R ws' mk' | .inr f => .inr f) = _
      rw [e1]
      have : mkOf pl 0 = [] := by simp [mkOf]
      rw [this]
      rfl
    match R', k1 with
    | [q], k1 =>
      obtain ⟨q1, _⟩ := k1
      have hb : (pl == vs.length) = (vs.length == pl) := by
        by_cases h : pl = vs.length
        · rw [h]
        · have h' : ¬ vs.length = pl := fun e => h e.symm
          rw [beq_eq_false_iff_ne.2 h, beq_eq_false_iff_ne.2 h']
      have hq := q1.1
      rw [hb] at hq
      obtain ⟨l', h1, h2, h3⟩ := line_gen lb ga pl vs.length (1 + 2 * vs.length) q.2 q.1 (vs.map fun v => (spW v : Int)) [106, 117, 109, 112] [NAM ++ x] (by decide) hq (by simp)
      refine ⟨l', q.2, h1, fun t ht => q1.2 t (h2 t ht), ?_⟩
      rw [s1, k2, Nat.zero_add, List.nil_append]
      show (match lineD lb ga (1 + 2 * vs.length) q.2 q.1 (vs.map fun v => (spW v : Int)) (mkOf pl vs.length) with | .inl (ws', mk') => passD lb ga (1 + 2 * vs.length + 1) [] ws' mk' | .inr f => .inr f) = _
      rw [h3]
      cases insD lb ga (1 + 2 * vs.length) q.2 l' (vs.map fun v => (spW v : Int)) <;> rfl
theorem okl_zero {s : ByteArray} {Q : List (List (List UInt8))} (h : OKL s 0 false true [] Q) : GG Q (Dgo s s.size 0 false d0) :=
  h d0 s.size ⟨rfl, fun p hp => by cases hp⟩ (by decide) (fun _ => by decide) (by omega)
theorem asm_txt (pl : Nat) (vs : List Nat) (hv : ∀ v ∈ vs, v < 4294967296) (hn : vs.length ≤ 40) (hpl : pl ≤ vs.length) :
    asmP (bya (txt pl vs [])) = .inl ((vs.map fun v => (spW v : Int)) ++ [150994944 + (pl : Int)]) ∧ ∃ c, asmP (bya (txt pl vs [120])) = .inr (2 * (vs.length : Int) + 2, c, 7) := by
  have mk : mkOf pl (vs.length + 1) = [(NAM, (pl : Int))] := by
    unfold mkOf
    rw [if_pos (by omega)]
  have gen : ∀ x : List UInt8, x = [] ∨ x = [120] → ¬ 2000 < (bya (txt pl vs x)).size ∧ brkGo (bya (txt pl vs x)) (bya (txt pl vs x)).size 0 1 1 = none ∧ GG ([] :: (bodyQ pl 0 vs ++ [labQ (pl == vs.length) ++ [[106, 117, 109, 112], NAM ++ x]])) ((linesD (bya (txt pl vs x))).map toksD) := fun x hx => by
    have hb := brk_txt pl vs x hx hv (bya (txt pl vs x)).size 1 1
    refine ⟨?_, hb, ?_⟩
    · have := txt_len pl vs x (by rcases hx with rfl | rfl <;> simp) hv hn
      rw [bya_size]
      exact Nat.not_lt.2 (Nat.le_trans this (by decide))
    · rw [lines_dgo _ hb]
      have ok := okl_txt pl vs x hx hv
      generalize bya (txt pl vs x) = s at *
      exact okl_zero ok
  have first : ∀ x : List UInt8, x = [] ∨ x = [120] → ∀ R, GG ([] :: (bodyQ pl 0 vs ++ [labQ (pl == vs.length) ++ [[106, 117, 109, 112], NAM ++ x]])) R → ∃ ws, passD [] true 0 R [] [] = .inl (ws, [(NAM, (pl : Int))]) := fun x hx R hg => by
    obtain ⟨l, e, h1, h2, h3⟩ := pass_txt [] true pl vs x hv hn R hg
    obtain ⟨h, ps, rfl, h4, _⟩ := one_jump e [] true (NAM ++ x) (by rcases hx with rfl | rfl; exact .inl rfl; exact .inr rfl) l h1 h2
    refine ⟨(vs.map fun v => (spW v : Int)) ++ [150994944], ?_⟩
    rw [h3, mk]
    unfold insD
    simp only
    rw [h4 rfl]
    simp only
    rw [if_pos trivial, if_neg (by simp; omega)]
  constructor
  · obtain ⟨g1, g2, g3⟩ := gen [] (.inl rfl)
    obtain ⟨ws, f1⟩ := first [] (.inl rfl) _ g3
    rw [asm_same]
    unfold asmD
    rw [if_neg g1, g2]
    simp only
    rw [f1]
    simp only
    obtain ⟨l, e, h1, h2, h3⟩ := pass_txt [(NAM, (pl : Int))] false pl vs [] hv hn _ g3
    obtain ⟨h, ps, rfl, _, h4, _⟩ := one_jump e [(NAM, (pl : Int))] false (NAM ++ []) (.inl rfl) l h1 h2
    have h5 := h4 rfl pl (by simp)
    have h6 : insD [(NAM, (pl : Int))] false (1 + 2 * vs.length) e (h :: ps) (vs.map fun v => (spW v : Int)) = .inl ((vs.map fun v => (spW v : Int)) ++ [150994944 + (pl : Int)]) := by
      unfold insD
      simp only
      rw [h5]
      simp only
      rw [if_pos trivial, if_neg (by simp; omega)]
    rw [h3, h6]
  · obtain ⟨g1, g2, g3⟩ := gen [120] (.inr rfl)
    obtain ⟨ws, f1⟩ := first [120] (.inr rfl) _ g3
    rw [asm_same]
    unfold asmD
    rw [if_neg g1, g2]
    simp only
    rw [f1]
    simp only
    obtain ⟨l, e, h1, h2, h3⟩ := pass_txt [(NAM, (pl : Int))] false pl vs [120] hv hn _ g3
    obtain ⟨h, ps, rfl, _, _, h4⟩ := one_jump e [(NAM, (pl : Int))] false (NAM ++ [120]) (.inr rfl) l h1 h2
    obtain ⟨c, h5⟩ := h4 rfl (by
      have : (NAM ++ [120] == NAM) = false := by decide
      simp only [List.lookup, this])
    refine ⟨c, ?_⟩
    have h6 : insD [(NAM, (pl : Int))] false (1 + 2 * vs.length) e (h :: ps) (vs.map fun v => (spW v : Int)) = .inr (2 * (vs.length : Int) + 2, c, 7) := by
      unfold insD
      simp only
      rw [h5]
      simp only
      rw [if_neg (by decide), show (((1 + 2 * vs.length : Nat) : Int)) + 1 = 2 * (vs.length : Int) + 2 by omega]
    rw [h3, h6]
end Go.Proofs.YtmmflekajbeamaaDoor
