/-
  Number, Text, Seal.
-/
import Derived.Test.YthnffebjjnbakaaDoorSum
namespace Go.Proofs.YthnffebjjnbakaaDoor
open Go.RowKit

theorem parts_new (w : World) (ps : List Part) (h : ∀ p ∈ ps, Row w w.heap.size p.1 p.2.2) (cs : Array Value) (hcs : cs = (ps.map Part.val).toArray) :
    Parts (w.alloc (.cells cs 22)) (w.alloc (.cells cs 22)).heap.size w.heap.size 0 ps := by
  have hb : Below w.heap.size w (w.alloc (.cells cs 22)) := (Below.refl _ w).alloc (Nat.le_refl _) _
  refine ⟨by simp, fun j p hp => ⟨?_, (h p (List.mem_of_getElem? hp)).up hb⟩⟩
  rw [Nat.zero_add, cell_of_row _ w.heap.size j cs 22 (0, 0) (heap_alloc_new w _), hcs]
  simp [hp]
theorem Owned.lift {l : List Nat} {w w1 w' : World} {e : Ending} (h : Owned l w1 e w') (hb : Below w.heap.size w w1) : Owned l w e w' := by
  obtain ⟨g, cap, he, ho, hb2⟩ := h
  exact ⟨g, cap, he, ho.lower hb.size, hb.trans (hb2.mono hb.size)⟩
/-- join of parts that have just been laid. -/
theorem join_new (w : World) (ps : List Part) (n : Nat) (cs : Array Value) (hn : ps.length = n) (hcs : cs = (ps.map Part.val).toArray) (h : ∀ p ∈ ps, Row w w.heap.size p.1 p.2.2) (hlen : n ≤ 1000) (ht : (cat ps).length ≤ 281474976710656) :
    Calls Tryd.prog 30 #[.slice (some ⟨w.heap.size, 0, none⟩) n n] (w.alloc (.cells cs 22)) (Owned (cat ps) w) := by
  subst hn
  refine (join_any w.heap.size 0 ps.length ps _ (parts_new w ps h cs hcs) hlen ht).mono fun e w' ho => ?_
  exact ho.lift ((Below.refl _ w).alloc (Nat.le_refl _) _)

set_option maxRecDepth 100000 in
set_option maxHeartbeats 1600000 in
theorem number_any (A : Option Addr) (c : Nat) (l : List Nat) (n : Nat) (w : World) (hr : Row w w.heap.size A l) (hl : l.length ≤ 281474976710000) (hn : n < 18446744073709551616) :
    Calls Tryd.prog 14 #[.slice A l.length c, .int .u64 n] w (Owned (l ++ M.code n) w) := by
  have hcode := code_any n w hn
  obtain ⟨V, hV⟩ : ∃ V : Int, (n : Int) = V := ⟨_, rfl⟩
  rw [hV] at hcode ⊢
  have HR := Lib.hid hr
  have hlen := M.code_len n
  obtain ⟨C, hC⟩ : ∃ C, M.code n = C := ⟨_, rfl⟩
  rw [hC] at hcode hlen ⊢
  clear hr hn hV hC
  go_enter Tryd.func14, Tryd.ntmps14
  go_wp2_with fail
  refine hcode.mono ?_
  rintro e w1 ⟨A1, c1, rfl, hr1, hb1⟩
  have hj := join_new w1 [(A, c, l), (A1, c1, C)] 2 _ rfl rfl (by
    intro p hp
    rcases List.mem_cons.1 hp with rfl | hp
    · exact HR.out.up hb1
    · rcases List.mem_cons.1 hp with rfl | hp
      · exact hr1
      · cases hp) (by omega) (by simp [cat]; omega)
  have e : cat [(A, c, l), (A1, c1, C)] = l ++ C := by simp [cat]
  rw [e] at hj
  obtain ⟨L, hL⟩ : ∃ L, l ++ C = L := ⟨_, rfl⟩
  rw [hL] at hj
  have HL := Lib.hid hL
  simp only [List.map_cons, List.map_nil, Part.val] at hj
  have HB := Lib.hid hb1
  have HJ := Lib.hid hj
  clear hb1 hj hr1 e hL
  go_wp2_with (go_at_call 30; refine HJ.out.mono ?_; rintro e w' ⟨g, cap, rfl, ho, hb⟩; have HO := Lib.hid ho; clear ho)
  go_ret
  rw [HL.out]
  exact ⟨g, cap, rfl, HO.out.lower HB.out.size, HB.out.trans (hb.mono HB.out.size)⟩

theorem mem3 {p a b c : Part} {P : Part → Prop} (ha : P a) (hb : P b) (hc : P c) (h : p ∈ [a, b, c]) : P p := by
  rcases List.mem_cons.1 h with rfl | h
  · exact ha
  · rcases List.mem_cons.1 h with rfl | h
    · exact hb
    · rcases List.mem_cons.1 h with rfl | h
      · exact hc
      · cases h
theorem mem2 {p a b : Part} {P : Part → Prop} (ha : P a) (hb : P b) (h : p ∈ [a, b]) : P p := by
  rcases List.mem_cons.1 h with rfl | h
  · exact ha
  · rcases List.mem_cons.1 h with rfl | h
    · exact hb
    · cases h

set_option maxRecDepth 100000 in
set_option maxHeartbeats 1600000 in
theorem text_any (A : Option Addr) (c : Nat) (l : List Nat) (s : ByteArray) (w : World) (hr : Row w w.heap.size A l) (hl : l.length + s.size ≤ 281474976710000) :
    Calls Tryd.prog 18 #[.slice A l.length c, .string s] w (Owned (l ++ (M.code s.size ++ byt s)) w) := by
  have hcode := code_any s.size w (by omega)
  have HR := Lib.hid hr
  have hlen := M.code_len s.size
  obtain ⟨C, hC⟩ : ∃ C, M.code s.size = C := ⟨_, rfl⟩
  rw [hC] at hcode hlen ⊢
  clear hr hC
  go_enter Tryd.func18, Tryd.ntmps18
  go_wp2_with fail
  refine hcode.mono ?_
  rintro e w1 ⟨A1, c1, rfl, hr1, hb1⟩
  obtain ⟨c2, w2, hcv, hr2, hb2, -, -⟩ := run_byt s w1
  have hj := join_new w2 [(A, c, l), (A1, c1, C), (some ⟨w1.heap.size, 0, none⟩, c2, byt s)] 3 _ rfl rfl (fun p => mem3 (P := fun p => Row w2 w2.heap.size p.1 p.2.2) ((HR.out.up hb1).up hb2) (hr1.up hb2) hr2) (by omega) (by
    have := byt_length s
    simp [cat]; omega)
  have e : cat [(A, c, l), (A1, c1, C), (some ⟨w1.heap.size, 0, none⟩, c2, byt s)] = l ++ (C ++ byt s) := by simp [cat]
  rw [e] at hj
  obtain ⟨L, hL⟩ : ∃ L, l ++ (C ++ byt s) = L := ⟨_, rfl⟩
  rw [hL] at hj
  have HL := Lib.hid hL
  simp only [List.map_cons, List.map_nil, Part.val, byt_length] at hj
  have HB : Hid (Below w.heap.size w w2) := hb1.trans (hb2.mono hb1.size)
  have HJ := Lib.hid hj
  clear hb1 hj hr1 e hL hr2 hb2
  go_wp2_with (go_at_call 30; refine HJ.out.mono ?_; rintro e w' ⟨g, cap, rfl, ho, hb⟩; have HO := Lib.hid ho; clear ho)
  go_ret
  rw [HL.out]
  exact ⟨g, cap, rfl, HO.out.lower HB.out.size, HB.out.trans (hb.mono HB.out.size)⟩

set_option maxRecDepth 100000 in
set_option maxHeartbeats 1600000 in
theorem seal_any (k : Nat) (s : ByteArray) (w : World) (hk : k < 256) (hl : s.size ≤ 281474976710000) (ht : Tab w) :
    Calls Tryd.prog 24 #[.int .u8 k, .string s] w fun e w' => e = .returned (.string (strB (M.sealed k (byt s)))) ∧ Below w.heap.size w w' := by
  have hb0 : Below w.heap.size w (w.alloc (.cells #[.int .u8 k] 5)) := (Below.refl _ w).alloc (Nat.le_refl _) _
  have hrk : Row (w.alloc (.cells #[.int .u8 k] 5)) (w.alloc (.cells #[.int .u8 k] 5)).heap.size (some ⟨w.heap.size, 0, none⟩) [k] :=
    Blok.row (g := w.heap.size) (l := [k]) (by have := Blok.new w 5 (cellsB [k]); simpa [cellsB] using this) (by simpa using hk) (by simp)
  have hcode := code_any s.size (w.alloc (.cells #[.int .u8 k] 5)) (by omega)
  have hlen := M.code_len s.size
  have hsl : Hid (M.head k (byt s) = [k] ++ (M.code s.size ++ byt s)) := by show _ = _; unfold M.head; rw [byt_length]; rfl
  have hh256 : Hid (∀ x ∈ M.head k (byt s), x < 256) := M.head_lt k (byt s) hk (byt_lt s) (by rw [byt_length]; omega)
  have hhl : Hid ((M.head k (byt s)).length ≤ 281474976710100) := by show _ ≤ _; rw [M.head_length, byt_length]; omega
  have hse : Hid (M.sealed k (byt s) = M.head k (byt s) ++ M.le4 (M.crc (M.head k (byt s)))) := rfl
  obtain ⟨R, hR⟩ : ∃ R, M.head k (byt s) = R := ⟨_, rfl⟩
  obtain ⟨S, hS⟩ : ∃ S, M.sealed k (byt s) = S := ⟨_, rfl⟩
  rw [hR] at hsl hh256 hhl hse
  rw [hS] at hse ⊢
  obtain ⟨C, hC⟩ : ∃ C, M.code s.size = C := ⟨_, rfl⟩
  rw [hC] at hcode hlen hsl
  have HT := Lib.hid ht
  have HRK := Lib.hid hrk
  have HB0 := Lib.hid hb0
  clear hC hR hS ht hrk hb0
  go_enter Tryd.func24, Tryd.ntmps24
  go_wp2_with fail
  refine hcode.mono ?_
  rintro e w1 ⟨A1, c1, rfl, hr1, hb1⟩
  obtain ⟨c2, w2, hcv, hr2, hb2, -, -⟩ := run_byt s w1
  have hj := join_new w2 [(some ⟨w.heap.size, 0, none⟩, 1, [k]), (A1, c1, C), (some ⟨w1.heap.size, 0, none⟩, c2, byt s)] 3 _ rfl rfl (fun p => mem3 (P := fun p => Row w2 w2.heap.size p.1 p.2.2) ((HRK.out.up hb1).up hb2) (hr1.up hb2) hr2) (by omega) (by
    have := byt_length s
    simp [cat]; omega)
  have e : cat [(some ⟨w.heap.size, 0, none⟩, 1, [k]), (A1, c1, C), (some ⟨w1.heap.size, 0, none⟩, c2, byt s)] = R := by rw [hsl.out]; simp [cat]
  rw [e] at hj
  simp only [List.map_cons, List.map_nil, Part.val, byt_length, List.length_singleton] at hj
  have HB : Hid (Below w.heap.size w w2) := (HB0.out.trans (hb1.mono HB0.out.size)).trans (hb2.mono (Nat.le_trans HB0.out.size hb1.size))
  have HJ := Lib.hid hj
  clear hb1 hj hr1 e hr2 hb2 hcode
  go_wp2_with fail
  refine HJ.out.mono ?_
  rintro e w3 ⟨g, cap, rfl, ho, hb3⟩
  have HB3 : Hid (Below w.heap.size w w3) := HB.out.trans (hb3.mono HB.out.size)
  have hr3 : Row w3 w3.heap.size (some ⟨g, 0, none⟩) R := ho.row hh256.out ho.lt.2
  have hck := check_any (some ⟨g, 0, none⟩) cap R w3 hr3 (by have := hhl.out; omega) (HT.out.up HB3.out)
  obtain ⟨K4, hK4⟩ : ∃ K4, M.le4 (M.crc R) = K4 := ⟨_, rfl⟩
  have hl4 : K4.length = 4 := by rw [← hK4]; rfl
  rw [hK4] at hck hse
  have HL4 := Lib.hid hl4
  have HR3 := Lib.hid hr3
  clear hK4 ho hb3 hr3 hl4
  go_wp2_with fail
  refine hck.mono ?_
  rintro e w4 ⟨A4, c4, rfl, hr4, hb4⟩
  have hj := join_new w4 [(some ⟨g, 0, none⟩, cap, R), (A4, c4, K4)] 2 _ rfl rfl (fun p => mem2 (P := fun p => Row w4 w4.heap.size p.1 p.2.2) (HR3.out.up hb4) hr4) (by omega) (by
    have := hhl.out
    have := HL4.out
    simp [cat]; omega)
  have e : cat [(some ⟨g, 0, none⟩, cap, R), (A4, c4, K4)] = S := by rw [hse.out]; simp [cat]
  rw [e] at hj
  simp only [List.map_cons, List.map_nil, Part.val] at hj
  have HB4 : Hid (Below w.heap.size w w4) := HB3.out.trans (hb4.mono HB3.out.size)
  have HJ4 := Lib.hid hj
  have hS256 : ∀ x ∈ S, x < 256 := by
    rw [hse.out]
    intro x hx
    rcases List.mem_append.1 hx with h | h
    · exact hh256.out x h
    · exact hr4.1 x h
  have HS256 := Lib.hid hS256
  clear hb4 hj hr4 e hck hS256
  go_wp2_with fail
  refine HJ4.out.mono ?_
  rintro e w5 ⟨g5, cap5, rfl, ho5, hb5⟩
  have hst := run_str _ cap5 S w5 _ (ho5.row HS256.out ho5.lt.2)
  have HB5 : Hid (Below w.heap.size w w5) := HB4.out.trans (hb5.mono HB4.out.size)
  clear ho5 hb5
  go_wp2
  go_ret
  exact ⟨rfl, HB5.out⟩
end Go.Proofs.YthnffebjjnbakaaDoor
