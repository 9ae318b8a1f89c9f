/-
  shown: the law's first line.
-/
import Derived.Test.YtccjdajneoploaaLay
namespace Go.Proofs.Ytccjdajneoploaa
open Go.RowKit

def two : List Part := [⟨false, 1, ⟨#[]⟩⟩, ⟨true, 0, ⟨#[97]⟩⟩]
theorem two_row (w : World) : RowP (w.alloc (.cells #[.bool false, .int .u64 1, .string ⟨#[]⟩, .bool true, .int .u64 0, .string ⟨#[97]⟩] 41)) (w.heap.size + 1) (some ⟨w.heap.size, 0, none⟩) two := by
  refine ⟨by decide, fun _ => ⟨w.heap.size, 0, rfl, by omega, fun j p hj => ?_⟩⟩
  match j, hj with
  | 0, hj => simp only [two] at hj; injection hj with hj; subst hj; simp [go_sem]
  | 1, hj => simp only [two] at hj; injection hj with hj; subst hj; simp [go_sem]
theorem two_lay : layR two = .tuple #[.string ⟨#[1, 0, 0, 0, 0, 0, 0, 0, 1, 2, 97, 0, 1]⟩, .int .i64 0] := by
  rw [layR_yes (by decide +kernel)]; rfl

set_option maxRecDepth 100000 in
set_option maxHeartbeats 1000000 in
theorem shown_any (w : World) : Calls Try.prog 9 #[] w fun e w' => e = .returned (.bool true) ∧ Below w.heap.size w w' := by
  have hb0 : Below w.heap.size w (w.alloc (.cells #[.bool false, .int .u64 1, .string ⟨#[]⟩, .bool true, .int .u64 0, .string ⟨#[97]⟩] 41)) := (Below.refl _ w).alloc (Nat.le_refl _) _
  have hc := lay_any (some ⟨w.heap.size, 0, none⟩) 2 two (w.alloc (.cells #[.bool false, .int .u64 1, .string ⟨#[]⟩, .bool true, .int .u64 0, .string ⟨#[97]⟩] 41)) (by have := two_row w; simpa using this) (by decide)
  rw [two_lay] at hc
  have HC := Lib.hid hc
  clear hc
  go_enter Try.func9, Try.ntmps9
  go_wp2_with fail
  refine HC.out.mono ?_
  rintro e w1 ⟨rfl, hb1⟩
  have HB : Hid (Below w.heap.size w w1) := hb0.trans (hb1.mono hb0.size)
  clear hb0 hb1
  go_wp2
  go_ret
  exact ⟨ret_bool (by decide +kernel), HB.out⟩
end Go.Proofs.Ytccjdajneoploaa
