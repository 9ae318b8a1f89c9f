/-
  KeysStand: the walk of the law.
-/
import Derived.Test.YtccjdajneoploaaOpen
namespace Go.Proofs.Ytccjdajneoploaa.keysStand
open Go.RowKit

set_option maxRecDepth 100000 in
set_option maxHeartbeats 1600000 in
theorem walk (A : Option Addr) (c : Nat) (l : List Part) (B : Option Addr) (d : Nat) (m : List Part) (w : World) (hr : RowP w w.heap.size A l) (hl : l.length ≤ 140737488351232) (_hc : l.length ≤ c) (hr2 : RowP w w.heap.size B m) (hl2 : m.length ≤ 140737488351232) (_hd : m.length ≤ d) :
    Calls Try.prog 4 #[.slice A l.length c, .slice B m.length d] w fun e w' => e = .returned (.bool true) ∧ Below w.heap.size w w' := by
  have h1 := fun w h => rright_any A c l w h hl
  have h2 := fun w h => rright_any B d m w h hl2
  have h3 := fun w h h' => compare_any A c l B d m w h hl h' hl2
  have h4 := fun w h h' => rcompare_any A c l B d m w h hl h' hl2
  obtain ⟨x, hx⟩ : ∃ x, M.right l = x := ⟨_, rfl⟩
  obtain ⟨y, hy⟩ : ∃ y, M.right m = y := ⟨_, rfl⟩
  obtain ⟨z, hz⟩ : ∃ z, M.cmpL l m = z := ⟨_, rfl⟩
  simp only [hx] at h1
  simp only [hy] at h2
  simp only [hz] at h3 h4
  have HR := Lib.hid hr
  have HR2 := Lib.hid hr2
  clear hx hy hz hr hr2
  go_enter Try.func4, Try.ntmps4
  go_wp2_with fail
  refine (shown_any _).mono ?_
  rintro e w1 ⟨rfl, hb1⟩
  go_wp2_with fail
  refine (h1 _ (HR.out.up hb1)).mono ?_
  rintro e w2 ⟨rfl, hb2⟩
  have hB2 : Below w.heap.size w w2 := hb1.trans (hb2.mono hb1.size)
  go_wp2_with fail
  refine (h2 _ (HR2.out.up hB2)).mono ?_
  rintro e w3 ⟨rfl, hb3⟩
  have HB3 : Hid (Below w.heap.size w w3) := hB2.trans (hb3.mono hB2.size)
  clear hB2 hb3 hb2 hb1 h1 h2
  cases x with
  | false =>
    go_wp2
    go_ret
    exact ⟨rfl, HB3.out⟩
  | true =>
    cases y with
    | false =>
      go_wp2
      go_ret
      exact ⟨rfl, HB3.out⟩
    | true =>
      go_wp2_with fail
      refine (h3 _ (HR.out.up HB3.out) (HR2.out.up HB3.out)).mono ?_
      rintro e w4 ⟨rfl, hb4⟩
      have HB4 : Hid (Below w.heap.size w w4) := HB3.out.trans (hb4.mono HB3.out.size)
      clear hb4 h3
      go_wp2_with fail
      refine (h4 _ (HR.out.up HB4.out) (HR2.out.up HB4.out)).mono ?_
      rintro e w5 ⟨rfl, hb5⟩
      have HB5 : Hid (Below w.heap.size w w5) := HB4.out.trans (hb5.mono HB4.out.size)
      clear hb5 h4
      go_wp2
      go_ret
      exact ⟨ret_bool (by simp), HB5.out⟩
end Go.Proofs.Ytccjdajneoploaa.keysStand
