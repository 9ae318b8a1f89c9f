/-
  Number, Text, Seal.
-/
import Derived.Test.YtadcmljcbmfcaaaWJoin
namespace Go.Proofs.Ytadcmljcbmfcaaa.Wi
open Go.RowKit

theorem parts_new (w : World) (ps : List Part) (h : ∀ p ∈ ps, Row w w.heap.size p.1 p.2.2) (cs : Array Value) (hcs : cs = (ps.map Part.val).toArray) :
    Parts (w.alloc (.cells cs 43)) (w.alloc (.cells cs 43)).heap.size w.heap.size 0 ps := by
  have hb : Below w.heap.size w (w.alloc (.cells cs 43)) := (Below.refl _ w).alloc (Nat.le_refl _) _
  refine ⟨by simp, fun j p hp => ⟨?_, (h p (List.mem_of_getElem? hp)).up hb⟩⟩
  rw [Nat.zero_add, cell_of_row _ w.heap.size j cs 43 (0, 0) (heap_alloc_new w _), hcs]
  simp [hp]
theorem Owned.lift {l : List Nat} {w w1 w' : World} {e : Ending} (h : Owned l w1 e w') (hb : Below w.heap.size w w1) : Owned l w e w' := by
  obtain ⟨g, cap, he, ho, hb2⟩ := h
  exact ⟨g, cap, he, ho.lower hb.size, hb.trans (hb2.mono hb.size)⟩
/-- join of parts that have just been laid. -/
theorem join_new (w : World) (ps : List Part) (n : Nat) (cs : Array Value) (hn : ps.length = n) (hcs : cs = (ps.map Part.val).toArray) (h : ∀ p ∈ ps, Row w w.heap.size p.1 p.2.2) (hlen : n ≤ 1000) (ht : (cat ps).length ≤ 281474976710656) :
    Calls Try.prog 56 #[.slice (some ⟨w.heap.size, 0, none⟩) n n] (w.alloc (.cells cs 43)) (Owned (cat ps) w) := by
  subst hn
  refine (join_any w.heap.size 0 ps.length ps _ (parts_new w ps h cs hcs) hlen ht).mono fun e w' ho => ?_
  exact ho.lift ((Below.refl _ w).alloc (Nat.le_refl _) _)

set_option maxRecDepth 100000 in
set_option maxHeartbeats 1600000 in
theorem number_any (A : Option Addr) (c : Nat) (l : List Nat) (n : Nat) (w : World) (hr : Row w w.heap.size A l) (hl : l.length ≤ 281474976710000) (hn : n < 18446744073709551616) :
    Calls Try.prog 44 #[.slice A l.length c, .int .u64 n] w (Owned (l ++ M.code n) w) := by
  have hcode := code_any n w hn
  obtain ⟨V, hV⟩ : ∃ V : Int, (n : Int) = V := ⟨_, rfl⟩
  rw [hV] at hcode ⊢
  have HR := Lib.hid hr
  have hlen := M.code_len n
  obtain ⟨C, hC⟩ : ∃ C, M.code n = C := ⟨_, rfl⟩
  rw [hC] at hcode hlen ⊢
  clear hr hn hV hC
  go_enter Try.func44, Try.ntmps44
  go_wp2_with fail
  refine hcode.mono ?_
  rintro e w1 ⟨A1, c1, rfl, hr1, hb1⟩
  have hj := join_new w1 [(A, c, l), (A1, c1, C)] 2 _ rfl rfl (by
    intro p hp
    rcases List.mem_cons.1 hp with rfl | hp
    · exact HR.out.up hb1
    · rcases List.mem_cons.1 hp with rfl | hp
      · exact hr1
      · cases hp) (by omega) (by simp [cat]; omega)
  have e : cat [(A, c, l), (A1, c1, C)] = l ++ C := by simp [cat]
  rw [e] at hj
  obtain ⟨L, hL⟩ : ∃ L, l ++ C = L := ⟨_, rfl⟩
  rw [hL] at hj
  have HL := Lib.hid hL
  simp only [List.map_cons, List.map_nil, Part.val] at hj
  have HB := Lib.hid hb1
  have HJ := Lib.hid hj
  clear hb1 hj hr1 e hL
  go_wp2_with (go_at_call 56; refine HJ.out.mono ?_; rintro e w' ⟨g, cap, rfl, ho, hb⟩; have HO := Lib.hid ho; clear ho)
  go_ret
  rw [HL.out]
  exact ⟨g, cap, rfl, HO.out.lower HB.out.size, HB.out.trans (hb.mono HB.out.size)⟩

theorem mem3 {p a b c : Part} {P : Part → Prop} (ha : P a) (hb : P b) (hc : P c) (h : p ∈ [a, b, c]) : P p := by
  rcases List.mem_cons.1 h with rfl | h
  · exact ha
  · rcases List.mem_cons.1 h with rfl | h
    · exact hb
    · rcases List.mem_cons.1 h with rfl | h
      · exact hc
      · cases h
theorem mem2 {p a b : Part} {P : Part → Prop} (ha : P a) (hb : P b) (h : p ∈ [a, b]) : P p := by
  rcases List.mem_cons.1 h with rfl | h
  · exact ha
  · rcases List.mem_cons.1 h with rfl | h
    · exact hb
    · cases h

set_option maxRecDepth 100000 in
set_option maxHeartbeats 1600000 in
theorem text_any (A : Option Addr) (c : Nat) (l : List Nat) (s : ByteArray) (w : World) (hr : Row w w.heap.size A l) (hl : l.length + s.size ≤ 281474976710000) :
    Calls Try.prog 45 #[.slice A l.length c, .string s] w (Owned (l ++ (M.code s.size ++ byt s)) w) := by
  have hcode := code_any s.size w (by omega)
  have HR := Lib.hid hr
  have hlen := M.code_len s.size
  obtain ⟨C, hC⟩ : ∃ C, M.code s.size = C := ⟨_, rfl⟩
  rw [hC] at hcode hlen ⊢
  clear hr hC
  go_enter Try.func45, Try.ntmps45
  go_wp2_with fail
  refine hcode.mono ?_
  rintro e w1 ⟨A1, c1, rfl, hr1, hb1⟩
  obtain ⟨c2, w2, hcv, hr2, hb2, -, -⟩ := run_byt s w1
  have hj := join_new w2 [(A, c, l), (A1, c1, C), (some ⟨w1.heap.size, 0, none⟩, c2, byt s)] 3 _ rfl rfl (fun p => mem3 (P := fun p => Row w2 w2.heap.size p.1 p.2.2) ((HR.out.up hb1).up hb2) (hr1.up hb2) hr2) (by omega) (by
    have := byt_length s
    simp [cat]; omega)
  have e : cat [(A, c, l), (A1, c1, C), (some ⟨w1.heap.size, 0, none⟩, c2, byt s)] = l ++ (C ++ byt s) := by simp [cat]
  rw [e] at hj
  obtain ⟨L, hL⟩ : ∃ L, l ++ (C ++ byt s) = L := ⟨_, rfl⟩
  rw [hL] at hj
  have HL := Lib.hid hL
  simp only [List.map_cons, List.map_nil, Part.val, byt_length] at hj
  have HB : Hid (Below w.heap.size w w2) := hb1.trans (hb2.mono hb1.size)
  have HJ := Lib.hid hj
  clear hb1 hj hr1 e hL hr2 hb2
  go_wp2_with (go_at_call 56; refine HJ.out.mono ?_; rintro e w' ⟨g, cap, rfl, ho, hb⟩; have HO := Lib.hid ho; clear ho)
  go_ret
  rw [HL.out]
  exact ⟨g, cap, rfl, HO.out.lower HB.out.size, HB.out.trans (hb.mono HB.out.size)⟩

end Go.Proofs.Ytadcmljcbmfcaaa.Wi
