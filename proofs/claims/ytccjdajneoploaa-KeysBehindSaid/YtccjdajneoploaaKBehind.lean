/-
  KeysBehind: the walk of the law.
-/
import Derived.Test.YtccjdajneoploaaOpen
namespace Go.Proofs.Ytccjdajneoploaa.keysBehind
open Go.RowKit

set_option maxRecDepth 100000 in
set_option maxHeartbeats 1600000 in
theorem walk (s : ByteArray) (w : World) (hs : s.size ≤ 140737488351232) :
    Calls Try.prog 5 #[.string s] w fun e w' => e = .returned (.bool true) ∧ Below w.heap.size w w' := by
  have h1 := fun w => behind_any s w (by omega)
  have h2 := fun w => rbehind_any s w (by omega)
  obtain ⟨T, b, hT⟩ : ∃ T b, behR s = .tuple #[.string T, .bool b] := by
    unfold behR; split
    · exact ⟨_, _, rfl⟩
    · exact ⟨_, _, rfl⟩
  simp only [hT] at h1 h2
  clear hT
  go_enter Try.func5, Try.ntmps5
  go_wp2_with fail
  refine (shown_any _).mono ?_
  rintro e w1 ⟨rfl, hb1⟩
  go_wp2_with fail
  refine (h1 _).mono ?_
  rintro e w2 ⟨rfl, hb2⟩
  have hB2 : Below w.heap.size w w2 := hb1.trans (hb2.mono hb1.size)
  go_wp2_with fail
  refine (h2 _).mono ?_
  rintro e w3 ⟨rfl, hb3⟩
  have HB3 : Hid (Below w.heap.size w w3) := hB2.trans (hb3.mono hB2.size)
  clear hB2 hb3 hb2 hb1
  go_wp2
  go_ret
  exact ⟨ret_bool (by simp), HB3.out⟩
end Go.Proofs.Ytccjdajneoploaa.keysBehind
