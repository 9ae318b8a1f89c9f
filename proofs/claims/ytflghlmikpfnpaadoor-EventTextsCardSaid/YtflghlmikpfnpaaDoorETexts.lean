/-
  EventTexts: the walk of the law.
-/
import Derived.Test.YtflghlmikpfnpaaDoorEThree
import Derived.Test.YtflghlmikpfnpaaDoorERParse
namespace Go.Proofs.YtflghlmikpfnpaaDoor.E
open Go.RowKit

def parseA : Option Tr → Tr × Int
  | some t => (t, 0)
  | none => (.leaf 0, 50)
theorem ParseR.ans {r : Option Tr} {w w' : World} {e : Ending} (h : ParseR r w e w') : Ans (parseA r) w e w' := by
  obtain ⟨hb, ⟨t, v, rfl, rfl, hin⟩ | ⟨rfl, rfl⟩⟩ := h
  · exact ⟨v, rfl, hin, hb⟩
  · exact ⟨_, rfl, ⟨none, 0, rfl⟩, hb⟩
theorem parse_ans (s : ByteArray) (hs : s.size ≤ 140737488355328) (w : World) : Calls Tryd.prog 27 #[.string s] w (Ans (parseA (parse (ul s))) w) := (parse_any s hs w).mono fun _ _ h => h.ans
theorem rparse_ans (s : ByteArray) (hs : s.size ≤ 140737488355328) (w : World) : Calls Tryd.prog 28 #[.string s] w (Ans (parseA (parse (ul s))) w) := (rparse_any s hs w).mono fun _ _ h => h.ans

set_option maxRecDepth 100000 in
set_option maxHeartbeats 6400000 in
theorem texts_walk (TA : Option Tr) (a : Value) (s : ByteArray) (w : World) (htab : Tab w) (ha : Arg w TA a) (hs : s.size ≤ 140737488351232) : Calls Tryd.prog 5 #[a, .string s] w fun e w' => e = .returned (.bool true) ∧ Below w.heap.size w w' := by
  obtain ⟨oa, Aa, na, ca, rfl⟩ := ha.form
  have HA := Lib.hid ha
  have HTB := Lib.hid htab
  have HX0 := Lib.hid ((XS.begin w).boxed (.int .i64 oa) (.slice Aa na ca) 24)
  simp only [List.nil_append] at HX0
  clear htab ha
  unfold tv
  go_enter Tryd.func5, Tryd.ntmps5
  go_wp2_with fail
  refine (shown_any _ (HTB.out.up HX0.out.bel)).mono ?_
  rintro e w1 ⟨rfl, hb1⟩
  have HX1 := Lib.hid (HX0.out.next hb1)
  clear hb1 HX0
  have f := HX1.out.at0
  simp only [List.mem_cons, List.not_mem_nil, or_false, forall_eq_or_imp, forall_eq] at f
  obtain ⟨p0, p1⟩ := f
  obtain ⟨U, z, hU⟩ : ∃ (U : ByteArray) (z : Int), showR TA = .tuple #[.string U, .int .i64 z] := by cases TA <;> exact ⟨_, _, rfl⟩
  have HU := Lib.hid hU
  clear hU
  have hcall := show_arg (HA.out.up HX1.out.bel) (HTB.out.up HX1.out.bel)
  rw [HU.out] at hcall
  try unfold tv at hcall
  go_wp2_with fail
  refine hcall.mono ?_
  rintro e w2 ⟨rfl, hb2⟩
  have HX2 := Lib.hid (HX1.out.next hb2)
  skip
  clear hcall hb2 HX1 p0 p1
  have f := HX2.out.at0
  simp only [List.mem_cons, List.not_mem_nil, or_false, forall_eq_or_imp, forall_eq] at f
  obtain ⟨p0, p1⟩ := f
  have hcall := rshow_arg (HA.out.up HX2.out.bel)
  rw [HU.out] at hcall
  try unfold tv at hcall
  go_wp2_with fail
  refine hcall.mono ?_
  rintro e w3 ⟨rfl, hb3⟩
  have HX3 := Lib.hid (HX2.out.next hb3)
  skip
  clear hcall hb3 HX2 p0 p1
  have f := HX3.out.at0
  simp only [List.mem_cons, List.not_mem_nil, or_false, forall_eq_or_imp, forall_eq] at f
  obtain ⟨p0, p1⟩ := f
  have hcall := parse_ans s (by omega) w3
  obtain ⟨rx, EX0⟩ : ∃ r, parseA (parse (ul s)) = r := ⟨_, rfl⟩
  rw [EX0] at hcall
  obtain ⟨tx, zx⟩ := rx
  have EX := Lib.hid EX0
  clear EX0
  try unfold tv at hcall
  go_wp2_with fail
  refine hcall.mono ?_
  rintro e w4 ⟨vx, rfl, hTx, hb4⟩
  obtain ⟨Ax, nx, cx, rfl⟩ := hTx.form
  simp only at hTx
  obtain ⟨ox, hox⟩ : ∃ o, tx.N = o := ⟨_, rfl⟩
  rw [hox] at hTx ⊢
  clear hox
  have hXX := HX3.out.next hb4
  have HX4 := Lib.hid (hXX.boxed (.int .i64 ox) (.slice Ax nx cx) 24)
  simp only [List.nil_append, List.cons_append] at HX4
  have hbx : Below w4.heap.size w4 (w4.alloc (.cells #[.int .i64 ox, .slice Ax nx cx] 24)) := (Below.refl _ w4).alloc (Nat.le_refl _) _
  have hby : Below w3.heap.size w3 (w4.alloc (.cells #[.int .i64 ox, .slice Ax nx cx] 24)) := hb4.trans (hbx.mono hb4.size)
  have Tx4 := Lib.hid (hTx.old.up hbx)
  clear hcall hXX hbx hby hb4 hTx HX3 p0 p1
  unfold tv
  have f := HX4.out.at0
  simp only [List.mem_cons, List.not_mem_nil, or_false, forall_eq_or_imp, forall_eq] at f
  obtain ⟨p0, p1, p2, p3⟩ := f
  have hcall := rparse_ans s (by omega) (w4.alloc (.cells #[.int .i64 ox, .slice Ax nx cx] 24))
  obtain ⟨ry, EY0⟩ : ∃ r, parseA (parse (ul s)) = r := ⟨_, rfl⟩
  rw [EY0] at hcall
  obtain ⟨ty, zy⟩ := ry
  have EY := Lib.hid EY0
  clear EY0
  try unfold tv at hcall
  go_wp2_with fail
  refine hcall.mono ?_
  rintro e w5 ⟨vy, rfl, hTy, hb5⟩
  obtain ⟨Ay, ny, cy, rfl⟩ := hTy.form
  simp only at hTy
  obtain ⟨oy, hoy⟩ : ∃ o, ty.N = o := ⟨_, rfl⟩
  rw [hoy] at hTy ⊢
  clear hoy
  have hXX := HX4.out.next hb5
  have HX5 := Lib.hid (hXX.boxed (.int .i64 oy) (.slice Ay ny cy) 24)
  simp only [List.nil_append, List.cons_append] at HX5
  have hbx : Below w5.heap.size w5 (w5.alloc (.cells #[.int .i64 oy, .slice Ay ny cy] 24)) := (Below.refl _ w5).alloc (Nat.le_refl _) _
  have hby : Below (w4.alloc (.cells #[.int .i64 ox, .slice Ax nx cx] 24)).heap.size (w4.alloc (.cells #[.int .i64 ox, .slice Ax nx cx] 24)) (w5.alloc (.cells #[.int .i64 oy, .slice Ay ny cy] 24)) := hb5.trans (hbx.mono hb5.size)
  have Tx5 := Lib.hid (Tx4.out.up hby)
  clear Tx4
  have Ty5 := Lib.hid (hTy.old.up hbx)
  clear hcall hXX hbx hby hb5 hTy HX4 p0 p1 p2 p3
  unfold tv
  have f := HX5.out.at0
  simp only [List.mem_cons, List.not_mem_nil, or_false, forall_eq_or_imp, forall_eq] at f
  obtain ⟨p0, p1, p2, p3, p4, p5⟩ := f
  have hxy : (tx, zx) = (ty, zy) := by rw [← EX.out, ← EY.out]
  injection hxy with e1 e2
  subst e1
  subst e2
  clear EX EY
  have hcall := equal_any tx tx _ _ _ _ _ Tx5.out Ty5.out
  rw [eqT_refl] at hcall
  try unfold tv at hcall
  go_wp2_with fail
  refine hcall.mono ?_
  rintro e w6 ⟨rfl, hb6⟩
  have HX6 := Lib.hid (HX5.out.next hb6)
  have Tx6 := Lib.hid (Tx5.out.up hb6)
  clear Tx5
  have Ty6 := Lib.hid (Ty5.out.up hb6)
  clear Ty5
  clear hcall hb6 HX5 p0 p1 p2 p3 p4 p5
  have f := HX6.out.at0
  simp only [List.mem_cons, List.not_mem_nil, or_false, forall_eq_or_imp, forall_eq] at f
  obtain ⟨p0, p1, p2, p3, p4, p5⟩ := f
  clear p0 p1 p2 p3 p4 p5
  go_wp2
  go_ret
  exact ⟨rfl, HX6.out.bel⟩
end Go.Proofs.YtflghlmikpfnpaaDoor.E
