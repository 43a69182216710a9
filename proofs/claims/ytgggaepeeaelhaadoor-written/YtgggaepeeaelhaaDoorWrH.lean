/-
  THE LAW Written: what the document's answer, and so the program's, makes of its text.
-/
import Derived.Test.YtgggaepeeaelhaaDoorWrG
namespace Go.Proofs.YtgggaepeeaelhaaDoor
open Go

theorem bya_of (t : ByteArray) (x : List UInt8) (h : t.data.toList = x) : t = bya x := by
  apply ByteArray.ext
  apply Array.toList_inj.1
  rw [h]
  simp [bya]
theorem col_nm (o : Nat) (h : o < 12) : colB (rowNm o) = false := by
  match o, h with
  | 0, _ | 1, _ | 2, _ | 3, _ | 4, _ | 5, _ | 6, _ | 7, _ | 8, _ | 9, _ | 10, _ | 11, _ => decide
theorem lab_name : nmI (nmD (bya LAB)) = true := by kernel_rfl
theorem lab_text : (nmD (bya LAB)).data.toList = NAM := by kernel_rfl
theorem nam_name : nmI (bya NAM) = true := by kernel_rfl
theorem namx_name : nmI (bya (NAM ++ [120])) = true := by kernel_rfl
def mkOf (pl i : Nat) : List (List UInt8 × Int) := if pl < i then [(NAM, (pl : Int))] else []
theorem line_gen (lb : List (List UInt8 × Int)) (ga : Bool) (pl i j : Nat) (e : Int) (l : List (ByteArray × Int)) (ws : List Int) (x0 : List UInt8) (X : List (List UInt8)) (hx : colB x0 = false) (hl : l.map tx = labQ (i == pl) ++ x0 :: X) (hw : ws.length = i) :
    ∃ l', l'.map tx = x0 :: X ∧ (∀ q ∈ l', q ∈ l) ∧ lineD lb ga j e l ws (mkOf pl i) = match insD lb ga j e l' ws with | .inl ws' => .inl (ws', mkOf pl (i + 1)) | .inr f => .inr f := by
  by_cases hp : i = pl
  · subst hp
    have hq : labQ (i == i) = [LAB] := by simp [labQ]
    rw [hq] at hl
    match l, hl with
    | t :: ts, hl =>
      simp only [List.map_cons, List.cons_append, List.nil_append, List.cons.injEq] at hl
      obtain ⟨h1, h2⟩ := hl
      refine ⟨ts, h2, fun q hq => List.mem_cons_of_mem _ hq, ?_⟩
      have ht : t.1 = bya LAB := bya_of _ _ h1
      have hc : colB t.1.data.toList = true := by rw [show t.1.data.toList = LAB from h1]; decide
      have m0 : mkOf i i = [] := by simp [mkOf]
      have m1 : mkOf i (i + 1) = [(NAM, (i : Int))] := by simp [mkOf]
      rw [m0, m1]
      unfold lineD
      simp only
      rw [if_pos hc, ht, lab_name, lab_text, if_neg (by decide), if_neg (by simp), hw]
      rfl
  · have hq : labQ (i == pl) = [] := by
      have : (i == pl) = false := by simpa using hp
      rw [this]; rfl
    rw [hq, List.nil_append] at hl
    have m : mkOf pl (i + 1) = mkOf pl i := by
      unfold mkOf
      by_cases h : pl < i
      · rw [if_pos h, if_pos (by omega)]
      · rw [if_neg h, if_neg (by omega)]
    refine ⟨l, hl, fun q hq => hq, ?_⟩
    rw [m]
    match l, hl with
    | t :: ts, hl =>
      simp only [List.map_cons, List.cons.injEq] at hl
      unfold lineD
      simp only
      rw [if_neg (by rw [show t.1.data.toList = x0 from hl.1, hx]; decide)]
      rfl
theorem ins_v (v : Nat) (hv : v < 4294967296) (lb : List (List UInt8 × Int)) (ga : Bool) (j : Nat) (e : Int) (l : List (ByteArray × Int)) (ws : List Int) (hl : l.map tx = toks v) (hw : ws.length < 128) : insD lb ga j e l ws = .inl (ws ++ [(spW v : Int)]) := by
  match l, hl with
  | h :: ps, hl =>
    simp only [toks, List.map_cons, List.cons.injEq] at hl
    unfold insD
    simp only
    rw [one_v v hv e lb ga h ps hl.1 hl.2]
    simp only
    rw [if_pos trivial, if_neg (by omega)]
theorem pass_body (lb : List (List UInt8 × Int)) (ga : Bool) (pl : Nat) (Q : List (List (List UInt8))) : ∀ (vs : List Nat) (i j : Nat) (ws : List Int) (R : List (List (ByteArray × Int) × Int)), (∀ v ∈ vs, v < 4294967296) → GG (bodyQ pl i vs ++ Q) R → ws.length = i → i + vs.length ≤ 128 →
    ∃ R', GG Q R' ∧ passD lb ga j R ws (mkOf pl i) = passD lb ga (j + 2 * vs.length) R' (ws ++ vs.map fun v => (spW v : Int)) (mkOf pl (i + vs.length)) := by
  intro vs
  induction vs with
  | nil => intro i j ws R _ h _ _; exact ⟨R, h, by simp⟩
  | cons v vs ih =>
    intro i j ws R hv h hw hlen
    rw [List.length_cons] at hlen
    match R, h with
    | r :: r2 :: R, h =>
      obtain ⟨g1, g2, g3⟩ := h
      have e2 : r2.1 = [] := by simpa using g2.1
      obtain ⟨l', h1, _, h3⟩ := line_gen lb ga pl i j r.2 r.1 ws (rowNm (opN v)) ((its v).map fun (x : List UInt8 × List UInt8) => x.2) (col_nm _ (by unfold opN; omega)) g1.1 hw
      rw [ins_v v (hv v List.mem_cons_self) lb ga j r.2 l' ws h1 (by omega)] at h3
      obtain ⟨R', k1, k2⟩ := ih (i + 1) (j + 2) (ws ++ [(spW v : Int)]) R (fun u hu => hv u (List.mem_cons_of_mem _ hu)) g3 (by simp [hw]) (by omega)
      refine ⟨R', k1, ?_⟩
      have s1 : passD lb ga j (r :: r2 :: R) ws (mkOf pl i) = passD lb ga (j + 1) (r2 :: R) (ws ++ [(spW v : Int)]) (mkOf pl (i + 1)) := by
        show (match lineD lb ga j r.2 r.1 ws (mkOf pl i) with | .inl (ws', mk') => passD lb ga (j + 1) (r2 :: R) ws' mk' | .inr f => .inr f) = _
        rw [h3]
      have s2 : passD lb ga (j + 1) (r2 :: R) (ws ++ [(spW v : Int)]) (mkOf pl (i + 1)) = passD lb ga (j + 2) R (ws ++ [(spW v : Int)]) (mkOf pl (i + 1)) := by
        show (match lineD lb ga (j + 1) r2.2 r2.1 (ws ++ [(spW v : Int)]) (mkOf pl (i + 1)) with | .inl (ws', mk') => passD lb ga (j + 1 + 1) R ws' mk' | .inr f => .inr f) = _
        rw [e2]
        rfl
      rw [s1, s2, k2, List.length_cons, show j + 2 + 2 * vs.length = j + 2 * (vs.length + 1) by omega, show i + 1 + vs.length = i + (vs.length + 1) by omega]
      simp
/-- A number's place that holds a label's name. -/
theorem num_nam (most : Int) (lb : List (List UInt8 × Int)) (ga : Bool) (t : ByteArray) (x : List UInt8) (hx : x = NAM ∨ x = NAM ++ [120]) (h : t.data.toList = x) : numD most lb ga t = if ga = true then 0 else (lb.lookup x).getD (-2) := by
  have hn : nmI t = true := by
    rw [bya_of t x h]
    rcases hx with rfl | rfl
    · exact nam_name
    · exact namx_name
  have hd : numOK x = false := by rcases hx with rfl | rfl <;> decide
  unfold numD digOK
  rw [h, hd, hn]
  rfl
theorem one_jump (e : Int) (lb : List (List UInt8 × Int)) (ga : Bool) (x : List UInt8) (hx : x = NAM ∨ x = NAM ++ [120]) (l : List (ByteArray × Int)) (hl : l.map tx = [[106, 117, 109, 112], x]) (hpos : ∀ q ∈ l, 1 ≤ q.2) :
    ∃ h ps, l = h :: ps ∧ ((ga = true → oneD h ps e lb ga = (150994944, 0, 0)) ∧ (ga = false → ∀ v : Nat, lb.lookup x = some (v : Int) → oneD h ps e lb ga = (150994944 + (v : Int), 0, 0)) ∧ (ga = false → lb.lookup x = none → ∃ c, oneD h ps e lb ga = (0, 7, c))) := by
  obtain ⟨h, y, rfl, h1, h2⟩ := map2 hl
  refine ⟨h, [y], rfl, ?_⟩
  have hy : 1 ≤ y.2 := hpos y (by simp)
  have ix : rowIx h.1.data.toList = some 9 := by rw [show h.1.data.toList = rowNm 9 from h1]; exact row_ix 9 (by decide)
  have hf : fmPt 9 = [110] := rfl
  have pn : partD 110 lb ga y.1 = numD 4095 lb ga y.1 := rfl
  have u4 : unitD 110 = 1 := rfl
  have nd := num_nam 4095 lb ga y.1 x hx h2
  unfold oneD
  rw [ix]
  simp only
  refine ⟨fun g => ?_, fun g v hv => ?_, fun g hn => ?_⟩
  · rw [g, if_pos rfl] at nd
    rw [g] at pn
    subst g
    simp [hf, oneGo, pn, nd, u4, w0D, fmOp]
  · subst g
    rw [if_neg (by decide), hv] at nd
    have n1 : ¬ (v : Int) = -1 := by omega
    have n2 : ¬ (v : Int) = -2 := by omega
    simp [hf, oneGo, pn, nd, u4, w0D, fmOp, n1, n2]
  · subst g
    rw [if_neg (by decide), hn] at nd
    have hp : 0 < y.2 := by omega
    exact ⟨y.2, by simp [hf, oneGo, pn, nd, hp]⟩
end Go.Proofs.YtgggaepeeaelhaaDoor
