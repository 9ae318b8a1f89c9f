/-
  KeysOne: the walk of the law.
-/
import Derived.Test.YtccjdajneoploaaOpen
import Derived.Test.YtccjdajneoploaaRead
namespace Go.Proofs.Ytccjdajneoploaa.keysOne
open Go.RowKit

set_option maxRecDepth 100000 in
set_option maxHeartbeats 1600000 in
theorem walk (s : ByteArray) (w : World) (hs : s.size ≤ 140737488351232) :
    Calls Try.prog 7 #[.string s] w fun e w' => e = .returned (.bool true) ∧ Below w.heap.size w w' := by
  go_enter Try.func7, Try.ntmps7
  go_wp2_with fail
  refine (shown_any _).mono ?_
  rintro e w1 ⟨rfl, hb1⟩
  go_wp2_with fail
  refine (read_any s _ (by omega)).mono ?_
  rintro e w2 ⟨(⟨l, A, c, hv, rfl, hr⟩ | ⟨hv, rfl⟩), hb2⟩
  · have HB2 : Hid (Below w.heap.size w w2) := hb1.trans (hb2.mono hb1.size)
    obtain ⟨g1, g2, g3⟩ := M.readV_some (byt s) (byt_lt s) l hv
    have h1 := lay_any A c l w2 hr (by have := (right_all g2).2.2; omega)
    rw [layR_yes g2, g1, strB_byt] at h1
    clear hb1 hb2 hv hr g1 g2 g3
    go_wp2_with fail
    refine h1.mono ?_
    rintro e w3 ⟨rfl, hb3⟩
    have HB3 : Hid (Below w.heap.size w w3) := HB2.out.trans (hb3.mono HB2.out.size)
    clear hb3 h1
    go_wp2
    go_ret
    exact ⟨ret_bool (by simp), HB3.out⟩
  · have HB2 : Hid (Below w.heap.size w w2) := hb1.trans (hb2.mono hb1.size)
    clear hb1 hb2 hv
    go_wp2
    go_ret
    exact ⟨rfl, HB2.out⟩
end Go.Proofs.Ytccjdajneoploaa.keysOne
