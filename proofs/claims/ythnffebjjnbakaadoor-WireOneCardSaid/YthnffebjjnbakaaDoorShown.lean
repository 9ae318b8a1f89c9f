/-
  shown: the law's first line.
-/
import Derived.Test.YthnffebjjnbakaaDoorROpen
namespace Go.Proofs.YthnffebjjnbakaaDoor
open Go.RowKit

/-- A literal's bytes, marked: '[]byte("..")'. -/
theorem convert_same (n c : Nat) (w : World) (l : List Nat) (C : Array Value) (hC : C = (cellsB l).toArray) (hl : ∀ x ∈ l, x < 256) : ∃ W, (convert 22 22 (.slice (some ⟨w.heap.size, 0, none⟩) n c)).run Tryd.prog (w.alloc (.cells C 5)) = .ok (.slice (some ⟨w.heap.size, 0, none⟩) n c) W ∧ Row W W.heap.size (some ⟨w.heap.size, 0, none⟩) l ∧ Below w.heap.size w W := by
  have hsh : (w.alloc (.cells C 5)).shape? w.heap.size = some (5, C.size) := by
    unfold World.shape?
    rw [heap_alloc_new]
  have hblk : ((w.alloc (.cells C 5)).freeze ⟨w.heap.size, C.size, none⟩ 1).heap[w.heap.size]? = some (.cells C 5 (C.size, C.size + 1)) := by
    unfold World.freeze
    rw [if_neg (by decide)]
    show ((w.alloc (.cells C 5)).heap.modify w.heap.size _)[w.heap.size]? = _
    rw [Array.getElem?_modify, if_pos rfl, heap_alloc_new]
    simp
  refine ⟨(w.alloc (.cells C 5)).freeze ⟨w.heap.size, C.size, none⟩ 1, ?_, ⟨hl, fun _ => ⟨w.heap.size, 0, rfl, (Array.getElem?_eq_some_iff.1 hblk).1, fun j hj => ?_⟩⟩, ⟨?_, ?_, ?_, ?_, ?_⟩⟩
  · simp [convert, run_underlying Tryd.underlying22, run_underlying Tryd.underlying5, markStringish, hsh]
  · rw [Nat.zero_add, cell_of_row _ w.heap.size j C 5 _ hblk, hC]
    simpa using cellsB_get l j hj
  · rfl
  · rfl
  · rfl
  · simp [World.freeze]
  · intro k hk
    have : w.heap.size ≠ k := by omega
    simp [World.freeze, Array.getElem?_modify, this]
    exact Below.heap_alloc w _ k hk
theorem crc_nine : M.crc [49, 50, 51, 52, 53, 54, 55, 56, 57] = 3421780262 := by decide +kernel
theorem code_300 : M.code 300 = [129, 44] := by decide +kernel

set_option maxRecDepth 100000 in
set_option maxHeartbeats 1600000 in
theorem shown_any (w : World) (ht : Tab w) : Calls Tryd.prog 11 #[] w fun e w' => e = .returned (.bool true) ∧ Below w.heap.size w w' := by
  obtain ⟨w1, hcv, hrow, hb0⟩ := convert_same 9 9 w [49, 50, 51, 52, 53, 54, 55, 56, 57] #[.int .u8 49, .int .u8 50, .int .u8 51, .int .u8 52, .int .u8 53, .int .u8 54, .int .u8 55, .int .u8 56, .int .u8 57] rfl (by decide)
  have hsum := sum_any (some ⟨w.heap.size, 0, none⟩) 9 _ _ hrow (by decide) (ht.up hb0)
  rw [crc_nine] at hsum
  have hnum := number_any none 0 [] 300 w1 (Row.none_ _ _ _) (by decide) (by decide)
  rw [code_300, List.nil_append] at hnum
  have HSUM := Lib.hid hsum
  have HNUM := Lib.hid hnum
  clear hsum hnum
  have hstr : ((strB [129, 44]).toList == [129, 44]) = true := by rw [ByteArray.toList_eq]; rfl
  have HB0 := Lib.hid hb0
  clear hb0 hrow
  go_enter Tryd.func11, Tryd.ntmps11
  go_wp2_with fail
  refine HSUM.out.mono ?_
  rintro e w2 ⟨rfl, rfl⟩
  have hq : (((3421780262 : Nat) : Int) == 3421780262) = true := rfl
  go_wp2_with fail
  refine HNUM.out.mono ?_
  rintro e w2 ⟨g, cap, rfl, ho, hb2⟩
  have hst := run_str _ cap [129, 44] w2 _ (ho.row (by decide) ho.lt.2)
  simp only [List.length_cons, List.length_nil, Nat.zero_add, Nat.reduceAdd] at hst
  have HB2 : Hid (Below w.heap.size w w2) := HB0.out.trans (hb2.mono HB0.out.size)
  clear ho hb2
  go_wp2
  go_ret
  exact ⟨rfl, HB2.out⟩
end Go.Proofs.YthnffebjjnbakaaDoor
