/-
  KeysWords: the walk of the law.
-/
import Derived.Test.YtccjdajneoploaaOpen
import Derived.Test.YtccjdajneoploaaRRead
namespace Go.Proofs.Ytccjdajneoploaa.keysWords
open Go.RowKit

set_option maxRecDepth 100000 in
set_option maxHeartbeats 1600000 in
theorem walk (A : Option Addr) (c : Nat) (l : List Part) (s : ByteArray) (w : World) (hr : RowP w w.heap.size A l) (hl : l.length ≤ 140737488351232) (_hc : l.length ≤ c) (hs : s.size ≤ 140737488351232) :
    Calls Try.prog 3 #[.slice A l.length c, .string s] w fun e w' => e = .returned (.bool true) ∧ Below w.heap.size w w' := by
  have h1 := fun w h => lay_any A c l w h hl
  have h2 := fun w h => rlay_any A c l w h hl
  have h3 := fun w h => right_any A c l w h hl
  have h4 := fun w h => rright_any A c l w h hl
  obtain ⟨T, z, hT⟩ : ∃ T z, layR l = .tuple #[.string T, .int .i64 z] := by
    unfold layR; split
    · exact ⟨_, _, rfl⟩
    · exact ⟨_, _, rfl⟩
  obtain ⟨b, hb⟩ : ∃ b, M.right l = b := ⟨_, rfl⟩
  simp only [hT] at h1 h2
  simp only [hb] at h3 h4
  have HR := Lib.hid hr
  clear hr hT hb
  go_enter Try.func3, Try.ntmps3
  go_wp2_with fail
  refine (shown_any _).mono ?_
  rintro e w1 ⟨rfl, hb1⟩
  have HB1 : Hid (Below w.heap.size w w1) := hb1
  clear hb1
  go_wp2_with fail
  refine (h1 _ (HR.out.up HB1.out)).mono ?_
  rintro e w2 ⟨rfl, hb2⟩
  have HB2 : Hid (Below w.heap.size w w2) := HB1.out.trans (hb2.mono HB1.out.size)
  clear hb2 h1
  go_wp2_with fail
  refine (h2 _ (HR.out.up HB2.out)).mono ?_
  rintro e w3 ⟨rfl, hb3⟩
  have HB3 : Hid (Below w.heap.size w w3) := HB2.out.trans (hb3.mono HB2.out.size)
  clear hb3 h2
  go_wp2_with fail
  refine (read_any s _ (by omega)).mono ?_
  rintro e w4 ⟨(⟨m, B, d, hv, rfl, hr4⟩ | ⟨hv, rfl⟩), hb4⟩
  · have HB4 : Hid (Below w.heap.size w w4) := HB3.out.trans (hb4.mono HB3.out.size)
    have HM := Lib.hid hr4
    have HV := Lib.hid hv
    clear hb4 hr4 hv
    go_wp2_with fail
    refine (rread_any s _ (by omega)).mono ?_
    rintro e w5 ⟨(⟨m', B', d', hv, rfl, hr5⟩ | ⟨hv, rfl⟩), hb5⟩
    · obtain rfl : m' = m := by have := HV.out; rw [hv] at this; injection this
      have hm8 : m'.length ≤ 140737488351232 := by
        have := (right_all (M.readV_some (byt s) (byt_lt s) m' hv).2.1).2.2
        omega
      have HB5 : Hid (Below w.heap.size w w5) := HB4.out.trans (hb5.mono HB4.out.size)
      have HM5 := Lib.hid (HM.out.up hb5)
      have HM6 := Lib.hid hr5
      clear hb5 hr5 hv HV
      go_wp2_with fail
      refine (h3 _ (HR.out.up HB5.out)).mono ?_
      rintro e w6 ⟨rfl, hb6⟩
      have HB6 : Hid (Below w.heap.size w w6) := HB5.out.trans (hb6.mono HB5.out.size)
      have HM7 := Lib.hid (HM5.out.up hb6)
      have HM8 := Lib.hid (HM6.out.up hb6)
      clear hb6 h3
      go_wp2_with fail
      refine (h4 _ (HR.out.up HB6.out)).mono ?_
      rintro e w7 ⟨rfl, hb7⟩
      have HB7 : Hid (Below w.heap.size w w7) := HB6.out.trans (hb7.mono HB6.out.size)
      have h6 := same_any B d m' B' d' w7 (HM7.out.up hb7) hm8 (HM8.out.up hb7)
      clear hb7 h4
      go_wp2_with (go_at_call 16; refine h6.mono ?_; rintro e w8 ⟨rfl, hb8⟩)
      go_ret
      exact ⟨ret_bool (by simp), HB7.out.trans (hb8.mono HB7.out.size)⟩
    · have := HV.out
      rw [hv] at this
      cases this
  · have HB4 : Hid (Below w.heap.size w w4) := HB3.out.trans (hb4.mono HB3.out.size)
    have HV := Lib.hid hv
    clear hb4 hv
    go_wp2_with fail
    refine (rread_any s _ (by omega)).mono ?_
    rintro e w5 ⟨(⟨m', B', d', hv, rfl, hr5⟩ | ⟨hv, rfl⟩), hb5⟩
    · have := HV.out
      rw [hv] at this
      cases this
    · have HB5 : Hid (Below w.heap.size w w5) := HB4.out.trans (hb5.mono HB4.out.size)
      clear hb5 hv HV
      go_wp2_with fail
      refine (h3 _ (HR.out.up HB5.out)).mono ?_
      rintro e w6 ⟨rfl, hb6⟩
      have HB6 : Hid (Below w.heap.size w w6) := HB5.out.trans (hb6.mono HB5.out.size)
      clear hb6 h3
      go_wp2_with fail
      refine (h4 _ (HR.out.up HB6.out)).mono ?_
      rintro e w7 ⟨rfl, hb7⟩
      have HB7 : Hid (Below w.heap.size w w7) := HB6.out.trans (hb7.mono HB6.out.size)
      have h6 := same_any none 0 [] none 0 w7 (RowP.none_ _ _ _) (by simp) (RowP.none_ _ _ _)
      rw [List.length_nil] at h6
      clear hb7 h4
      go_wp2_with (go_at_call 16; refine h6.mono ?_; rintro e w8 ⟨rfl, hb8⟩)
      go_ret
      exact ⟨ret_bool (by simp), HB7.out.trans (hb8.mono HB7.out.size)⟩
end Go.Proofs.Ytccjdajneoploaa.keysWords
