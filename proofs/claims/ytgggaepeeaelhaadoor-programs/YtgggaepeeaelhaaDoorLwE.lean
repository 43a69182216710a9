/-
  THE LAW Programs, walked: it answers true, for every two texts.
-/
import Derived.Test.YtgggaepeeaelhaaDoorLwD
namespace Go.Proofs.YtgggaepeeaelhaaDoor
open Go.RowKit

theorem book_new (w : World) : BookAt w.heap.size [] (.slice none 0 0) (w.alloc (.cells #[.slice none 0 0, .slice none 0 0, .slice none 0 0] 27)) := by
  refine ⟨?_, ?_, ?_, fun j => ?_, fun cur hc => ?_, World.ownsRow_nil _ _ _ _, fun i v hi => by simp at hi⟩
  iterate 3
    · rw [World.cell?_alloc_at (hn := rfl)]; rfl
  · rw [World.frozen?_alloc_at (hn := rfl)]
  · rw [_root_.Go.heap_alloc_new] at hc
    cases hc

set_option maxRecDepth 100000 in
set_option maxHeartbeats 1000000 in
theorem programs_any (s o : ByteArray) (w : World) (ht : Tab w) (hs : s.size ≤ maxLen) (ho : o.size ≤ maxLen) :
    Calls Tryd.prog 3 #[.string s, .string o] w fun e' w' => e' = .returned (.bool true) ∧ Below w.heap.size w w' := by
  have HT := hide ht
  have hpos := ht.pos
  have HS := hide hs; have HOs := hide ho
  clear ht hs ho
  go_enter Tryd.func3, Tryd.ntmps3
  go_wp2_with fail
  have hb0 : Below w.heap.size w (w.alloc (.cells #[.slice none 0 0, .slice none 0 0, .slice none 0 0] 27)) := (Below.refl _ _).alloc (Nat.le_refl _) _
  refine (assembles_any s w.heap.size 0 [] _ _ (book_new w) rfl (by decide) (HT.out.below hpos hb0) HS.out).mono ?_
  rintro e w1 ⟨rfl, ⟨vs1, vi1, hk1, hl1⟩, hb1⟩
  have HB1 := hide (hb0.trans hb1)
  have HK1 := hide hk1
  have HL1 := hide hl1
  clear hb0 hb1 hk1 hl1
  go_wp2_with fail
  refine (assembles_any o w.heap.size 1 vs1 vi1 w1 HK1.out HL1.out (by decide) (HT.out.below hpos HB1.out) HOs.out).mono ?_
  rintro e w2 ⟨rfl, ⟨vs2, vi2, hk2, hl2⟩, hb2⟩
  have HB2 := hide (HB1.out.trans hb2)
  have HK2 := hide hk2
  have HL2 := hide hl2
  clear hb2 hk2 hl2
  go_wp2_with fail
  refine (assembles_any s w.heap.size 2 vs2 vi2 w2 HK2.out HL2.out (by decide) (HT.out.below hpos HB2.out) HS.out).mono ?_
  rintro e w3 ⟨rfl, ⟨vs3, vi3, hk3, hl3⟩, hb3⟩
  have HB3 := hide (HB2.out.trans hb3)
  have HK3 := hide (looks_any w.heap.size vs3 vi3 w3 hk3 (by omega))
  clear hb3 hk3 hl3
  go_wp2_with fail
  refine (unhide HK3).mono ?_
  rintro e w' ⟨rfl, hw'⟩
  obtain rfl := hw'.symm
  go_wp2_with fail
  go_ret
  exact ⟨rfl, HB3.out⟩
end Go.Proofs.YtgggaepeeaelhaaDoor
