/-
  One pass with labels filled in later gives what two passes give: all lines; the program's answer to a text is the document's.
-/
import Derived.Test.YtmmflekajbeamaaDoorG26
namespace Go.Proofs.YtmmflekajbeamaaDoor
open Go

/-- All tokens stand in line i (counted from 0), in columns from 1 on. -/
def Plc (i : Nat) (L : List Tok) : Prop := ∀ t ∈ L, t.fl = (i : Int) + 1 ∧ t.bl = (i : Int) + 1 ∧ 1 ≤ t.fc
theorem Plc.tail {i : Nat} {t : Tok} {L : List Tok} (h : Plc i (t :: L)) : Plc i L := fun u hu => h u (List.mem_cons_of_mem _ hu)
theorem endOf_cons (t u : Tok) (L : List Tok) : endOf (t :: u :: L) = endOf (u :: L) := by
  unfold endOf
  rw [List.getLast?_cons_cons]

/-- What reading an instruction does to what has been read, if it is right. -/
theorem rdIns_inl {ps ps' : PS} {h : Tok} {parts : List Tok} (hr : rdIns ps h parts = .inl ps') : ∃ n, rowIx h.text.data.toList = some n ∧ chkGo (rowPt n) 0 h parts = none ∧ ps.words.length ≠ 128 ∧ ps' = layS n parts ps := by
  unfold rdIns at hr
  split at hr
  · cases hr
  · rename_i n hix
    split at hr
    · cases hr
    · rename_i hck
      split at hr
      · cases hr
      · rename_i hm
        cases hr
        exact ⟨n, hix, hck, hm, rfl⟩
theorem one_of {n : Nat} (hn : n < 12) {h : Tok} {parts : List Tok} (hck : chkGo (rowPt n) 0 h parts = none) (nw : Nat) (U : List (Nat × Tok)) (e : Int) (lb : List (List UInt8 × Int)) (hlb : ∀ p ∈ lb, 0 ≤ p.2) : OneLay n nw parts U e lb := by
  obtain ⟨k1, k2⟩ := chk_none (rowPt n) parts 0 h (Nat.zero_le _) hck
  simp only [Nat.zero_add] at k1 k2
  exact one_lay n nw hn parts k1 k2 U e lb hlb
theorem oneD_tm (h : Tok) (parts : List Tok) (e : Int) (lb : List (List UInt8 × Int)) (ga : Bool) {n : Nat} (hix : rowIx h.text.data.toList = some n) : oneD (h.text, h.fc) (tm parts) e lb ga = oneGo e lb ga (fmPt n) (tm parts) (w0D n) 0 := by
  unfold oneD
  rw [hix]

theorem insD_cons (lb : List (List UInt8 × Int)) (ga : Bool) (i : Nat) (e : Int) (h : ByteArray × Int) (ps : List (ByteArray × Int)) (ws : List Int) : insD lb ga i e (h :: ps) ws = if (oneD h ps e lb ga).2.1 = 0 then (if 128 ≤ ws.length then .inr ((i : Int) + 1, h.2, 5) else .inl (ws ++ [(oneD h ps e lb ga).1])) else .inr ((i : Int) + 1, (oneD h ps e lb ga).2.2, (oneD h ps e lb ga).2.1) := rfl
/-- While labels are gathered an instruction is read alike. -/
theorem ins_gather (ps : PS) (i : Nat) (h : Tok) (parts : List Tok) (hp : Plc i (h :: parts)) (ws : List Int) (hw : ws.length = ps.words.length) (hwl : ps.words.length ≤ 128) :
    (∀ f, rdIns ps h parts = .inr f → insD [] true i (endOf (h :: parts)) (tm (h :: parts)) ws = .inr f) ∧
    (∀ ps', rdIns ps h parts = .inl ps' → ∃ x, insD [] true i (endOf (h :: parts)) (tm (h :: parts)) ws = .inl (ws ++ [x]) ∧ ps'.words.length = ps.words.length + 1 ∧ ps'.labels = ps.labels) := by
  have hh := hp h List.mem_cons_self
  constructor
  · intro f hr
    unfold rdIns at hr
    show insD [] true i _ ((h.text, h.fc) :: tm parts) ws = _
    rw [insD_cons]
    split at hr
    · rename_i hix
      cases hr
      have : oneD (h.text, h.fc) (tm parts) (endOf (h :: parts)) [] true = (0, 4, h.fc) := by unfold oneD; rw [hix]
      rw [this, if_neg (by simp), hh.1]
    · rename_i n hix
      rw [oneD_tm h parts _ [] true hix]
      split at hr
      · rename_i l c hck
        cases hr
        obtain ⟨r1, r2⟩ := one_chk n (endOf (h :: parts)) [] true (fun p hp => by cases hp) parts 0 h (w0D n) 0 (Nat.zero_le _) rfl l c hck
        rw [List.drop_zero] at r1
        have hl : l = (i : Int) + 1 := by
          rcases r2 with r2 | ⟨t, ht, r2 | r2⟩
          · rw [r2, hh.2.1]
          · rw [r2, (hp t (List.mem_cons_of_mem _ ht)).1]
          · rw [r2, (hp t (List.mem_cons_of_mem _ ht)).2.1]
        rw [r1, if_neg (by simp), hl]
      · rename_i hck
        split at hr
        · rename_i hm
          cases hr
          have hol := one_of (rowIx_some hix).1 hck ps.words.length ps.uses (endOf (h :: parts)) [] (fun p hp => by cases hp)
          have h1 : oneGo (endOf (h :: parts)) [] true (fmPt n) (tm parts) (w0D n) 0 = (wordOf n (layGo n ps.words.length 0 parts (ls0 ps.uses)), 0, 0) := by
            rcases hol with ⟨_, h2⟩ | ⟨t, _, _, h2, _⟩
            · exact h2 true
            · exact h2
          rw [h1, if_pos rfl, if_pos (by omega), hh.1]
        · cases hr
  · intro ps' hr
    obtain ⟨n, hix, hck, hm, rfl⟩ := rdIns_inl hr
    have hol := one_of (rowIx_some hix).1 hck ps.words.length ps.uses (endOf (h :: parts)) [] (fun p hp => by cases hp)
    have h1 : oneGo (endOf (h :: parts)) [] true (fmPt n) (tm parts) (w0D n) 0 = (wordOf n (layGo n ps.words.length 0 parts (ls0 ps.uses)), 0, 0) := by
      rcases hol with ⟨_, h2⟩ | ⟨t, _, _, h2, _⟩
      · exact h2 true
      · exact h2
    refine ⟨wordOf n (layGo n ps.words.length 0 parts (ls0 ps.uses)), ?_, by simp [layS], rfl⟩
    show insD [] true i _ ((h.text, h.fc) :: tm parts) ws = _
    rw [insD_cons]
    rw [oneD_tm h parts _ [] true hix, h1, if_pos rfl, if_neg (by omega)]

theorem col_ix {l : List UInt8} (h : colB l = true) : rowIx l = none := by
  cases hq : rowIx l with
  | none => rfl
  | some n =>
    obtain ⟨hn, he⟩ := rowIx_some hq
    rw [← he] at h
    match n, hn with
    | 0, _ | 1, _ | 2, _ | 3, _ | 4, _ | 5, _ | 6, _ | 7, _ | 8, _ | 9, _ | 10, _ | 11, _ => revert h; decide

theorem rest_gather (ps : PS) (i : Nat) (l : List Tok) (e : Int) (he : l ≠ [] → e = endOf l) (hp : Plc i l) (ws : List Int) (hw : ws.length = ps.words.length) (hwl : ps.words.length ≤ 128) :
    (∀ f, rdRest ps l = .inr f → insD [] true i e (tm l) ws = .inr f) ∧
    (∀ ps', rdRest ps l = .inl ps' → ∃ ws', insD [] true i e (tm l) ws = .inl ws' ∧ ws'.length = ps'.words.length ∧ ps'.labels = ps.labels) := by
  cases l with
  | nil =>
    refine ⟨(fun f hr => by cases hr), fun ps' hr => ?_⟩
    cases hr
    exact ⟨ws, rfl, hw, rfl⟩
  | cons h parts =>
    rw [he (by simp)]
    obtain ⟨g1, g2⟩ := ins_gather ps i h parts hp ws hw hwl
    refine ⟨g1, fun ps' hr => ?_⟩
    obtain ⟨x, x1, x2, x3⟩ := g2 ps' hr
    exact ⟨_, x1, by rw [List.length_append, List.length_singleton, x2, hw], x3⟩
/-- While labels are gathered a line is read alike. -/
theorem line_gather (ps : PS) (i : Nat) (L : List Tok) (hp : Plc i L) (ws : List Int) (hw : ws.length = ps.words.length) (hwl : ps.words.length ≤ 128) :
    (∀ f, rdLine ps L = .inr f → lineD [] true i (endOf L) (tm L) ws ps.labels = .inr f) ∧
    (∀ ps', rdLine ps L = .inl ps' → ∃ ws', lineD [] true i (endOf L) (tm L) ws ps.labels = .inl (ws', ps'.labels) ∧ ws'.length = ps'.words.length) := by
  cases L with
  | nil =>
    refine ⟨(fun f hr => by cases hr), fun ps' hr => ?_⟩
    cases hr
    exact ⟨ws, rfl, hw⟩
  | cons t ts =>
    have ht := hp t List.mem_cons_self
    rw [rdLine]
    have hL : lineD [] true i (endOf (t :: ts)) (tm (t :: ts)) ws ps.labels = if colB t.text.data.toList = true then
      (if nmI (nmD t.text) = false then .inr ((i : Int) + 1, t.fc, 4)
       else if (ps.labels.lookup (nmD t.text).data.toList).isSome = true then .inr ((i : Int) + 1, t.fc, 6)
       else match insD [] true i (endOf (t :: ts)) (tm ts) ws with | .inl ws' => .inl (ws', ps.labels ++ [((nmD t.text).data.toList, (ws.length : Int))]) | .inr f => .inr f)
      else match insD [] true i (endOf (t :: ts)) (tm (t :: ts)) ws with | .inl ws' => .inl (ws', ps.labels) | .inr f => .inr f := rfl
    rw [hL]
    by_cases hc : colB t.text.data.toList = true
    · rw [if_pos hc]
      cases hn : nmI (nmD t.text) with
      | false =>
        have hlab : labB t = false := by unfold labB; rw [hc]; exact hn
        rw [if_neg (by rw [hlab]; decide), if_pos rfl]
        have hr0 : rdRest ps (t :: ts) = .inr (t.fl, t.fc, 4) := by
          show rdIns ps t ts = _
          unfold rdIns
          rw [col_ix hc]
        rw [hr0]
        refine ⟨fun f hf => ?_, (fun ps' hf => by cases hf)⟩
        cases hf
        rw [ht.1]
      | true =>
        have hlab : labB t = true := by unfold labB; rw [hc]; exact hn
        rw [if_pos hlab, if_neg (c := true = false) (by decide)]
        have hnn : (labN t).data.toList = (nmD t.text).data.toList := rfl
        rw [hnn]
        by_cases hd : (ps.labels.lookup (nmD t.text).data.toList).isSome = true
        · rw [if_pos hd, if_pos hd]
          refine ⟨fun f hf => ?_, (fun ps' hf => by cases hf)⟩
          cases hf
          rw [ht.1]
        · rw [if_neg hd, if_neg hd]
          obtain ⟨g1, g2⟩ := rest_gather { ps with labels := ps.labels ++ [((nmD t.text).data.toList, (ps.words.length : Int))] } i ts (endOf (t :: ts)) (fun hne => by
            obtain ⟨u, us, rfl⟩ := List.exists_cons_of_ne_nil hne
            exact endOf_cons t u us) hp.tail ws hw hwl
          refine ⟨fun f hf => ?_, fun ps' hf => ?_⟩
          · rw [g1 f hf]
          · obtain ⟨ws', w1, w2, w3⟩ := g2 ps' hf
            rw [w1]
            refine ⟨ws', ?_, w2⟩
            rw [w3, hw]
    · rw [if_neg hc]
      have hlab : labB t = false := by
        unfold labB
        rw [Bool.not_eq_true] at hc
        rw [hc]
        rfl
      rw [if_neg (by rw [hlab]; decide)]
      obtain ⟨g1, g2⟩ := rest_gather ps i (t :: ts) (endOf (t :: ts)) (fun _ => rfl) hp ws hw hwl
      refine ⟨fun f hf => ?_, fun ps' hf => ?_⟩
      · rw [g1 f hf]
      · obtain ⟨ws', w1, w2, w3⟩ := g2 ps' hf
        rw [w1]
        exact ⟨ws', by rw [w3], w2⟩
def dl (L : List Tok) : List (ByteArray × Int) × Int := (tm L, endOf L)
theorem all_gather : ∀ (Ls : List (List Tok)) (i : Nat) (ps : PS) (ws : List Int), (∀ (j : Nat) (L : List Tok), Ls[j]? = some L → Plc (i + j) L ∧ ∀ t ∈ L, t.text.size ≤ 2000) → ws.length = ps.words.length → PInv ps i →
    (∀ f, rdAll ps Ls = .inr f → passD [] true i (Ls.map dl) ws ps.labels = .inr f) ∧ (∀ ps', rdAll ps Ls = .inl ps' → ∃ ws', passD [] true i (Ls.map dl) ws ps.labels = .inl (ws', ps'.labels)) := by
  intro Ls
  induction Ls with
  | nil =>
    intro i ps ws _ _ _
    refine ⟨(fun f hf => by cases hf), fun ps' hf => ?_⟩
    cases hf
    exact ⟨ws, rfl⟩
  | cons L Ls ih =>
    intro i ps ws hp hw hinv
    obtain ⟨hp0, hs0⟩ := hp 0 L rfl
    rw [Nat.add_zero] at hp0
    obtain ⟨g1, g2⟩ := line_gather ps i L hp0 ws hw hinv.wl
    have hstep : passD [] true i ((L :: Ls).map dl) ws ps.labels = match lineD [] true i (endOf L) (tm L) ws ps.labels with | .inl (ws', mk') => passD [] true (i + 1) (Ls.map dl) ws' mk' | .inr f => .inr f := rfl
    rw [hstep, rdAll]
    cases hr : rdLine ps L with
    | inr f0 =>
      rw [g1 f0 hr]
      refine ⟨fun f hf => ?_, (fun ps' hf => by cases hf)⟩
      cases hf
      rfl
    | inl ps1 =>
      obtain ⟨ws', w1, w2⟩ := g2 ps1 hr
      rw [w1]
      exact ih (i + 1) ps1 ws' (fun j M hj => by
        have := hp (j + 1) M hj
        rw [show i + (j + 1) = i + 1 + j by omega] at this
        exact this) w2 (rdLine_inv hinv L hs0 hr)

theorem fill_app (lb : List (List UInt8 × Int)) : ∀ (U U' : List (Nat × Tok)) (W : List Int), fillGo lb (U ++ U') W = match fillGo lb U W with | .inl W' => fillGo lb U' W' | .inr f => .inr f := by
  intro U
  induction U with
  | nil => intro U' W; rfl
  | cons u U ih =>
    intro U' W
    obtain ⟨i, t⟩ := u
    have e1 : fillGo lb ((i, t) :: U ++ U') W = match lb.lookup t.text.data.toList with | none => .inr (t.fl, t.fc, 7) | some v => fillGo lb (U ++ U') (W.set i (W.getD i 0 + v)) := rfl
    have e2 : fillGo lb ((i, t) :: U) W = match lb.lookup t.text.data.toList with | none => .inr (t.fl, t.fc, 7) | some v => fillGo lb U (W.set i (W.getD i 0 + v)) := rfl
    rw [e1, e2]
    cases lb.lookup t.text.data.toList with
    | none => rfl
    | some v => exact ih U' _
theorem fill_ext (lb : List (List UInt8 × Int)) : ∀ (U : List (Nat × Tok)) (W X : List Int), (∀ u ∈ U, u.1 < W.length) → fillGo lb U (W ++ X) = match fillGo lb U W with | .inl W' => .inl (W' ++ X) | .inr f => .inr f := by
  intro U
  induction U with
  | nil => intro W X _; rfl
  | cons u U ih =>
    intro W X h
    obtain ⟨i, t⟩ := u
    have hi : i < W.length := h (i, t) List.mem_cons_self
    unfold fillGo
    cases lb.lookup t.text.data.toList with
    | none => rfl
    | some v =>
      simp only
      rw [List.set_append_left _ _ hi, List.getD_eq_getElem?_getD, List.getElem?_append_left hi, ← List.getD_eq_getElem?_getD]
      exact ih _ X (fun u hu => by rw [List.length_set]; exact h u (List.mem_cons_of_mem _ hu))
theorem fill_len (lb : List (List UInt8 × Int)) : ∀ (U : List (Nat × Tok)) (W W' : List Int), fillGo lb U W = .inl W' → W'.length = W.length := by
  intro U
  induction U with
  | nil => intro W W' h; cases h; rfl
  | cons u U ih =>
    intro W W' h
    obtain ⟨i, t⟩ := u
    unfold fillGo at h
    cases hq : lb.lookup t.text.data.toList with
    | none => rw [hq] at h; cases h
    | some v =>
      rw [hq] at h
      have := ih _ W' h
      rw [List.length_set] at this
      exact this
/-- What a reading adds. -/
structure Ext (ps ps' : PS) (lb : List (List UInt8 × Int)) (r : List Int ⊕ (Int × Int × Int)) : Prop where
  uses : ∃ U, ps'.uses = ps.uses ++ U
  words : ∃ X, ps'.words = ps.words ++ X
  good : ∀ ws, r = .inl ws → fillGo lb ps'.uses ps'.words = .inl ws
  bad : ∀ f, r = .inr f → fillGo lb ps'.uses ps'.words = .inr f
theorem ins_fill (ps ps' : PS) (i : Nat) (h : Tok) (parts : List Tok) (hp : Plc i (h :: parts)) (hr : rdIns ps h parts = .inl ps') (lb : List (List UInt8 × Int)) (hlb : ∀ p ∈ lb, 0 ≤ p.2) (W2 : List Int) (hf : fillGo lb ps.uses ps.words = .inl W2) (hus : ∀ u ∈ ps.uses, u.1 < ps.words.length) (hwl : ps.words.length ≤ 128) (e : Int) :
    Ext ps ps' lb (insD lb false i e (tm (h :: parts)) W2) := by
  obtain ⟨n, hix, hck, hm, rfl⟩ := rdIns_inl hr
  have hlen := fill_len lb _ _ _ hf
  have hol := one_of (rowIx_some hix).1 hck ps.words.length ps.uses e lb hlb
  have hI : insD lb false i e (tm (h :: parts)) W2 = insD lb false i e ((h.text, h.fc) :: tm parts) W2 := rfl
  rw [hI, insD_cons, oneD_tm h parts e lb false hix]
  have hext := fill_ext lb ps.uses ps.words [wordOf n (layGo n ps.words.length 0 parts (ls0 ps.uses))] hus
  rw [hf] at hext
  simp only at hext
  rcases hol with ⟨hu, h2⟩ | ⟨t, htm, hu, _, h3, h4⟩
  · rw [h2 false, if_pos rfl, if_neg (by omega)]
    refine ⟨⟨[], by show (layGo n ps.words.length 0 parts (ls0 ps.uses)).u = _; rw [hu, List.append_nil]⟩, ⟨_, rfl⟩, fun ws hw => ?_, fun f hw => by cases hw⟩
    cases hw
    show fillGo lb (layGo n ps.words.length 0 parts (ls0 ps.uses)).u _ = _
    rw [hu]
    exact hext
  · have hfill : fillGo lb (layS n parts ps).uses (layS n parts ps).words = fillGo lb [(ps.words.length, t)] (W2 ++ [wordOf n (layGo n ps.words.length 0 parts (ls0 ps.uses))]) := by
      show fillGo lb (layGo n ps.words.length 0 parts (ls0 ps.uses)).u (ps.words ++ [wordOf n (layGo n ps.words.length 0 parts (ls0 ps.uses))]) = _
      rw [hu, fill_app, hext]
    cases hq : lb.lookup t.text.data.toList with
    | none =>
      have hfc := (hp t (List.mem_cons_of_mem _ htm)).2.2
      rw [h4 hq (by omega), if_neg (by simp)]
      refine ⟨⟨_, hu⟩, ⟨_, rfl⟩, (fun ws hw => by cases hw), fun f hw => ?_⟩
      cases hw
      rw [hfill, fillGo, hq, (hp t (List.mem_cons_of_mem _ htm)).1]
    | some v =>
      rw [h3 v hq, if_pos rfl, if_neg (by omega)]
      refine ⟨⟨_, hu⟩, ⟨_, rfl⟩, fun ws hw => ?_, fun f hw => by cases hw⟩
      cases hw
      rw [hfill, fillGo, hq]
      simp only
      rw [fillGo, ← hlen, List.set_append_right _ _ (Nat.le_refl _), Nat.sub_self, List.getD_eq_getElem?_getD, List.getElem?_append_right (Nat.le_refl _), Nat.sub_self]
      rfl

theorem rest_fill (ps ps' : PS) (i : Nat) (l : List Tok) (hp : Plc i l) (hr : rdRest ps l = .inl ps') (lb : List (List UInt8 × Int)) (hlb : ∀ p ∈ lb, 0 ≤ p.2) (W2 : List Int) (hf : fillGo lb ps.uses ps.words = .inl W2) (hus : ∀ u ∈ ps.uses, u.1 < ps.words.length) (hwl : ps.words.length ≤ 128) (e : Int) :
    Ext ps ps' lb (insD lb false i e (tm l) W2) := by
  cases l with
  | nil =>
    cases hr
    refine ⟨⟨[], by simp⟩, ⟨[], by simp⟩, fun ws hw => ?_, fun f hw => by cases hw⟩
    cases hw
    exact hf
  | cons h parts => exact ins_fill ps ps' i h parts hp hr lb hlb W2 hf hus hwl e
theorem rdIns_lab {ps ps' : PS} {h : Tok} {parts : List Tok} (hr : rdIns ps h parts = .inl ps') : ps'.labels = ps.labels := by
  obtain ⟨n, _, _, _, rfl⟩ := rdIns_inl hr
  rfl
theorem rdRest_lab {ps ps' : PS} {l : List Tok} (hr : rdRest ps l = .inl ps') : ps'.labels = ps.labels := by
  cases l with
  | nil => cases hr; rfl
  | cons h parts => exact rdIns_lab hr
theorem line_fill (ps ps' : PS) (i : Nat) (L : List Tok) (hp : Plc i L) (hr : rdLine ps L = .inl ps') (lb : List (List UInt8 × Int)) (hlb : ∀ p ∈ lb, 0 ≤ p.2) (W2 : List Int) (hf : fillGo lb ps.uses ps.words = .inl W2) (hus : ∀ u ∈ ps.uses, u.1 < ps.words.length) (hwl : ps.words.length ≤ 128) :
    (∃ U, ps'.uses = ps.uses ++ U) ∧ (∃ X, ps'.words = ps.words ++ X) ∧
    ((∃ ws, lineD lb false i (endOf L) (tm L) W2 ps.labels = .inl (ws, ps'.labels) ∧ fillGo lb ps'.uses ps'.words = .inl ws) ∨ ∃ f, lineD lb false i (endOf L) (tm L) W2 ps.labels = .inr f ∧ fillGo lb ps'.uses ps'.words = .inr f) := by
  have hlen := fill_len lb _ _ _ hf
  cases L with
  | nil =>
    cases hr
    exact ⟨⟨[], by simp⟩, ⟨[], by simp⟩, .inl ⟨W2, rfl, hf⟩⟩
  | cons t ts =>
    have hL : lineD lb false i (endOf (t :: ts)) (tm (t :: ts)) W2 ps.labels = if colB t.text.data.toList = true then
      (if nmI (nmD t.text) = false then .inr ((i : Int) + 1, t.fc, 4)
       else if (ps.labels.lookup (nmD t.text).data.toList).isSome = true then .inr ((i : Int) + 1, t.fc, 6)
       else match insD lb false i (endOf (t :: ts)) (tm ts) W2 with | .inl ws' => .inl (ws', ps.labels ++ [((nmD t.text).data.toList, (W2.length : Int))]) | .inr f => .inr f)
      else match insD lb false i (endOf (t :: ts)) (tm (t :: ts)) W2 with | .inl ws' => .inl (ws', ps.labels) | .inr f => .inr f := rfl
    rw [hL]
    rw [rdLine] at hr
    by_cases hlab : labB t = true
    · rw [if_pos hlab] at hr
      have hb := hlab
      unfold labB at hb
      rw [Bool.and_eq_true] at hb
      have hn : nmI (nmD t.text) = true := hb.2
      rw [if_pos hb.1, hn, if_neg (c := true = false) (by decide)]
      split at hr
      · cases hr
      · rename_i hd
        rw [if_neg (show ¬ (ps.labels.lookup (nmD t.text).data.toList).isSome = true from hd)]
        have hx := rest_fill _ ps' i ts hp.tail hr lb hlb W2 hf hus hwl (endOf (t :: ts))
        refine ⟨hx.uses, hx.words, ?_⟩
        cases hq : insD lb false i (endOf (t :: ts)) (tm ts) W2 with
        | inl ws =>
          refine .inl ⟨ws, ?_, hx.good ws hq⟩
          rw [rdRest_lab hr, hlen]
          rfl
        | inr f => exact .inr ⟨f, rfl, hx.bad f hq⟩
    · rw [if_neg hlab] at hr
      have hc : ¬ colB t.text.data.toList = true := fun hc => by
        have : rdRest ps (t :: ts) = .inr (t.fl, t.fc, 4) := by
          show rdIns ps t ts = _
          unfold rdIns
          rw [col_ix hc]
        rw [this] at hr
        cases hr
      rw [if_neg hc]
      have hx := rest_fill _ ps' i (t :: ts) hp hr lb hlb W2 hf hus hwl (endOf (t :: ts))
      refine ⟨hx.uses, hx.words, ?_⟩
      cases hq : insD lb false i (endOf (t :: ts)) (tm (t :: ts)) W2 with
      | inl ws =>
        refine .inl ⟨ws, ?_, hx.good ws hq⟩
        rw [rdRest_lab hr]
      | inr f => exact .inr ⟨f, rfl, hx.bad f hq⟩
theorem all_ext : ∀ (Ls : List (List Tok)) (i : Nat) (ps ps' : PS), (∀ L ∈ Ls, ∀ t ∈ L, t.text.size ≤ 2000) → rdAll ps Ls = .inl ps' → PInv ps i → PInv ps' (i + Ls.length) ∧ (∃ U, ps'.uses = ps.uses ++ U) ∧ ∃ X, ps'.words = ps.words ++ X := by
  intro Ls
  induction Ls with
  | nil =>
    intro i ps ps' _ hr hi
    cases hr
    exact ⟨hi, ⟨[], by simp⟩, ⟨[], by simp⟩⟩
  | cons L Ls ih =>
    intro i ps ps' hs hr hi
    rw [rdAll] at hr
    cases hq : rdLine ps L with
    | inr f => rw [hq] at hr; cases hr
    | inl ps1 =>
      rw [hq] at hr
      obtain ⟨r1, ⟨U, r2⟩, X, r3⟩ := ih (i + 1) ps1 ps' (fun M hM => hs M (List.mem_cons_of_mem _ hM)) hr (rdLine_inv hi L (hs L List.mem_cons_self) hq)
      have hx : (∃ U, ps1.uses = ps.uses ++ U) ∧ ∃ X, ps1.words = ps.words ++ X := by
        have ext : ∀ (q : PS) (l : List Tok), rdRest q l = .inl ps1 → (∃ U, ps1.uses = q.uses ++ U) ∧ ∃ X, ps1.words = q.words ++ X := by
          intro q l hrl
          cases l with
          | nil => cases hrl; exact ⟨⟨[], by simp⟩, ⟨[], by simp⟩⟩
          | cons h parts =>
            obtain ⟨n, hix, hck, _, rfl⟩ := rdIns_inl (show rdIns q h parts = .inl ps1 from hrl)
            have hol := one_of (rowIx_some hix).1 hck q.words.length q.uses 0 [] (fun p hp => by cases hp)
            refine ⟨?_, ⟨_, rfl⟩⟩
            rcases hol with ⟨hu, _⟩ | ⟨t, _, hu, _⟩
            · exact ⟨[], by show (layGo n q.words.length 0 parts (ls0 q.uses)).u = _; rw [hu, List.append_nil]⟩
            · exact ⟨_, hu⟩
        cases L with
        | nil => cases hq; exact ⟨⟨[], by simp⟩, ⟨[], by simp⟩⟩
        | cons t ts =>
          rw [rdLine] at hq
          split at hq
          · split at hq
            · cases hq
            · exact ext { ps with labels := ps.labels ++ [((labN t).data.toList, (ps.words.length : Int))] } ts hq
          · exact ext ps (t :: ts) hq
      obtain ⟨⟨U1, e1⟩, X1, e2⟩ := hx
      refine ⟨by rw [List.length_cons, show i + (Ls.length + 1) = i + 1 + Ls.length by omega]; exact r1, ⟨U1 ++ U, by rw [r2, e1, List.append_assoc]⟩, X1 ++ X, by rw [r3, e2, List.append_assoc]⟩
theorem all_fill (lb : List (List UInt8 × Int)) (hlb : ∀ p ∈ lb, 0 ≤ p.2) : ∀ (Ls : List (List Tok)) (i : Nat) (ps ps' : PS) (W2 : List Int), (∀ (j : Nat) (L : List Tok), Ls[j]? = some L → Plc (i + j) L) → (∀ L ∈ Ls, ∀ t ∈ L, t.text.size ≤ 2000) → PInv ps i → rdAll ps Ls = .inl ps' → fillGo lb ps.uses ps.words = .inl W2 →
    (∃ ws mk, passD lb false i (Ls.map dl) W2 ps.labels = .inl (ws, mk) ∧ fillGo lb ps'.uses ps'.words = .inl ws) ∨ ∃ f, passD lb false i (Ls.map dl) W2 ps.labels = .inr f ∧ fillGo lb ps'.uses ps'.words = .inr f := by
  intro Ls
  induction Ls with
  | nil =>
    intro i ps ps' W2 _ _ _ hr hf
    cases hr
    exact .inl ⟨W2, ps.labels, rfl, hf⟩
  | cons L Ls ih =>
    intro i ps ps' W2 hp hs hi hr hf
    have hp0 := hp 0 L rfl
    rw [Nat.add_zero] at hp0
    have hstep : passD lb false i ((L :: Ls).map dl) W2 ps.labels = match lineD lb false i (endOf L) (tm L) W2 ps.labels with | .inl (ws', mk') => passD lb false (i + 1) (Ls.map dl) ws' mk' | .inr f => .inr f := rfl
    rw [hstep]
    rw [rdAll] at hr
    cases hq : rdLine ps L with
    | inr f => rw [hq] at hr; cases hr
    | inl ps1 =>
      rw [hq] at hr
      have hi1 := rdLine_inv hi L (hs L List.mem_cons_self) hq
      obtain ⟨_, _, hres⟩ := line_fill ps ps1 i L hp0 hq lb hlb W2 hf (fun u hu => (hi.us u hu).1) hi.wl
      rcases hres with ⟨ws, h1, h2⟩ | ⟨f, h1, h2⟩
      · rw [h1]
        exact ih (i + 1) ps1 ps' ws (fun j M hj => by
          have := hp (j + 1) M hj
          rw [show i + (j + 1) = i + 1 + j by omega] at this
          exact this) (fun M hM => hs M (List.mem_cons_of_mem _ hM)) hi1 hr h2
      · rw [h1]
        obtain ⟨_, ⟨U, e1⟩, X, e2⟩ := all_ext Ls (i + 1) ps1 ps' (fun M hM => hs M (List.mem_cons_of_mem _ hM)) hr hi1
        refine .inr ⟨f, rfl, ?_⟩
        rw [e1, e2, fill_app, fill_ext lb ps1.uses ps1.words X (fun u hu => (hi1.us u hu).1), h2]
/-- THE PROGRAM'S ANSWER TO A TEXT IS THE DOCUMENT'S. -/
theorem asm_same (s : ByteArray) : asmP s = asmD s := by
  unfold asmP asmD
  by_cases hs : 2000 < s.size
  · rw [if_pos hs, if_pos hs]
  · rw [if_neg hs, if_neg hs]
    have hs2 : s.size ≤ 2000 := by omega
    obtain ⟨b1, b2⟩ := cut_brk s s.size 0 cs0
    have e1 : (cs0 : CS).ln = 1 := rfl
    have e2 : (cs0 : CS).col = 1 := rfl
    rw [e1, e2] at b1 b2
    cases hb : brkGo s s.size 0 1 1 with
    | some pl =>
      rw [b1 pl hb]
    | none =>
      obtain ⟨st, hc⟩ := b2 hb
      rw [hc]
      simp only
      obtain ⟨_, htok, _, _⟩ := cut_all s hs2 st hc
      obtain ⟨hmap, hpl⟩ := cut_lines s st hb hc
      have hmap' : (linesD s).map toksD = (endLineS s s.size st).lines.map dl := hmap.symm
      rw [hmap']
      generalize (endLineS s s.size st).lines = Ls at *
      have hplc : ∀ (j : Nat) (L : List Tok), Ls[j]? = some L → Plc (0 + j) L := fun j L hj t ht => by
        obtain ⟨q1, q2⟩ := hpl j L hj t ht
        have hLm : L ∈ Ls := List.mem_of_getElem? hj
        rw [Nat.zero_add]
        exact ⟨q1, q2, (htok L hLm t ht).2.2.2⟩
      have hsz : ∀ L ∈ Ls, ∀ t ∈ L, t.text.size ≤ 2000 := fun L hL t ht => (htok L hL t ht).2.2.1
      obtain ⟨g1, g2⟩ := all_gather Ls 0 ps0 [] (fun j L hj => ⟨hplc j L hj, hsz L (List.mem_of_getElem? hj)⟩) rfl PInv.zero
      cases hr : rdAll ps0 Ls with
      | inr f =>
        have h1 : passD [] true 0 (Ls.map dl) [] [] = .inr f := g1 f hr
        rw [h1]
      | inl ps =>
        obtain ⟨ws', h1⟩ := g2 ps hr
        have h1' : passD [] true 0 (Ls.map dl) [] [] = .inl (ws', ps.labels) := h1
        rw [h1']
        simp only
        have hinv := (all_ext Ls 0 ps0 ps hsz hr PInv.zero).1
        rcases all_fill ps.labels (fun p hp => (hinv.lb p hp).1) Ls 0 ps0 ps [] hplc hsz PInv.zero hr rfl with ⟨ws, mk, h2, h3⟩ | ⟨f, h2, h3⟩
        · have h2' : passD ps.labels false 0 (Ls.map dl) [] [] = .inl (ws, mk) := h2
          rw [h2', h3]
        · have h2' : passD ps.labels false 0 (Ls.map dl) [] [] = .inr f := h2
          rw [h2', h3]
end Go.Proofs.YtmmflekajbeamaaDoor
