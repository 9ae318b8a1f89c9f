/-
  own: an equal operation that shares no memory.
-/
import Derived.Test.YtdffifkleaekhaaPBut
namespace Go.Proofs.Ytdffifkleaekhaa.O
open Go.RowKit Go.Proofs.Ytdffifkleaekhaa.V
set_option linter.unusedVariables false
set_option linter.unusedSimpArgs false


/-- A block of cells, a cell of it written. -/
theorem blk_set {w : World} {k i : Nat} {cs : Array Value} {t : TypeId} {fr : Nat × Nat} (h : w.heap[k]? = some (.cells cs t fr)) (v : Value) : (w.setCell ⟨k, i, none⟩ v).heap[k]? = some (.cells (cs.setIfInBounds i v) t fr) := by
  obtain ⟨hlt, hk⟩ := Array.getElem?_eq_some_iff.1 h
  show (w.heap.modify k _)[k]? = _
  rw [Array.getElem?_eq_getElem (by rw [Array.size_modify]; exact hlt), Array.getElem_modify_self, hk]
  rfl
/-- A variable of eight cells. -/
def B8 (w : World) (k : Nat) (a0 a1 a2 a3 a4 a5 a6 a7 : Value) : Prop := w.heap[k]? = some (.cells #[a0, a1, a2, a3, a4, a5, a6, a7] 26 (0, 0))
structure B8.Cells (w : World) (k : Nat) (a0 a1 a2 a3 a4 a5 a6 a7 : Value) : Prop where
  c0 : w.cell? ⟨k, 0, none⟩ = some a0
  c1 : w.cell? ⟨k, 1, none⟩ = some a1
  c2 : w.cell? ⟨k, 2, none⟩ = some a2
  c3 : w.cell? ⟨k, 3, none⟩ = some a3
  c4 : w.cell? ⟨k, 4, none⟩ = some a4
  c5 : w.cell? ⟨k, 5, none⟩ = some a5
  c6 : w.cell? ⟨k, 6, none⟩ = some a6
  c7 : w.cell? ⟨k, 7, none⟩ = some a7
structure B8.Fr (w : World) (k : Nat) : Prop where
  f0 : w.frozen? ⟨k, 0, none⟩ = false
  f1 : w.frozen? ⟨k, 1, none⟩ = false
  f2 : w.frozen? ⟨k, 2, none⟩ = false
  f3 : w.frozen? ⟨k, 3, none⟩ = false
  f4 : w.frozen? ⟨k, 4, none⟩ = false
  f5 : w.frozen? ⟨k, 5, none⟩ = false
  f6 : w.frozen? ⟨k, 6, none⟩ = false
  f7 : w.frozen? ⟨k, 7, none⟩ = false
variable {w : World} {k : Nat} {a0 a1 a2 a3 a4 a5 a6 a7 : Value}
theorem B8.at (h : B8 w k a0 a1 a2 a3 a4 a5 a6 a7) : B8.Cells w k a0 a1 a2 a3 a4 a5 a6 a7 := by
  refine ⟨?_, ?_, ?_, ?_, ?_, ?_, ?_, ?_⟩
  · rw [cell_of_row w k 0 _ 26 (0, 0) h]; rfl
  · rw [cell_of_row w k 1 _ 26 (0, 0) h]; rfl
  · rw [cell_of_row w k 2 _ 26 (0, 0) h]; rfl
  · rw [cell_of_row w k 3 _ 26 (0, 0) h]; rfl
  · rw [cell_of_row w k 4 _ 26 (0, 0) h]; rfl
  · rw [cell_of_row w k 5 _ 26 (0, 0) h]; rfl
  · rw [cell_of_row w k 6 _ 26 (0, 0) h]; rfl
  · rw [cell_of_row w k 7 _ 26 (0, 0) h]; rfl
theorem B8.fr (h : B8 w k a0 a1 a2 a3 a4 a5 a6 a7) : B8.Fr w k := by
  have h' : w.heap[k]? = some (.cells #[a0, a1, a2, a3, a4, a5, a6, a7] 26 (0, 0)) := h
  refine ⟨?_, ?_, ?_, ?_, ?_, ?_, ?_, ?_⟩ <;> simp [World.frozen?, h']
theorem B8.lt (h : B8 w k a0 a1 a2 a3 a4 a5 a6 a7) : k < w.heap.size := (Array.getElem?_eq_some_iff.1 h).1
theorem B8.below {w' : World} {B : Nat} (h : B8 w k a0 a1 a2 a3 a4 a5 a6 a7) (hb : Below B w w') (hB : k < B) : B8 w' k a0 a1 a2 a3 a4 a5 a6 a7 := (hb.block k hB).trans h
theorem B8.other {g i : Nat} (h : B8 w k a0 a1 a2 a3 a4 a5 a6 a7) (hne : k ≠ g) (x : Value) : B8 (w.setCell ⟨g, i, none⟩ x) k a0 a1 a2 a3 a4 a5 a6 a7 := (Below.heap_setCell w _ x k hne).trans h
theorem B8.set0 (h : B8 w k a0 a1 a2 a3 a4 a5 a6 a7) (x : Value) : B8 (w.setCell ⟨k, 0, none⟩ x) k x a1 a2 a3 a4 a5 a6 a7 := blk_set h x
theorem B8.set1 (h : B8 w k a0 a1 a2 a3 a4 a5 a6 a7) (x : Value) : B8 (w.setCell ⟨k, 1, none⟩ x) k a0 x a2 a3 a4 a5 a6 a7 := blk_set h x
theorem B8.set2 (h : B8 w k a0 a1 a2 a3 a4 a5 a6 a7) (x : Value) : B8 (w.setCell ⟨k, 2, none⟩ x) k a0 a1 x a3 a4 a5 a6 a7 := blk_set h x
theorem B8.set3 (h : B8 w k a0 a1 a2 a3 a4 a5 a6 a7) (x : Value) : B8 (w.setCell ⟨k, 3, none⟩ x) k a0 a1 a2 x a4 a5 a6 a7 := blk_set h x
theorem B8.set4 (h : B8 w k a0 a1 a2 a3 a4 a5 a6 a7) (x : Value) : B8 (w.setCell ⟨k, 4, none⟩ x) k a0 a1 a2 a3 x a5 a6 a7 := blk_set h x
theorem B8.set5 (h : B8 w k a0 a1 a2 a3 a4 a5 a6 a7) (x : Value) : B8 (w.setCell ⟨k, 5, none⟩ x) k a0 a1 a2 a3 a4 x a6 a7 := blk_set h x
theorem B8.set6 (h : B8 w k a0 a1 a2 a3 a4 a5 a6 a7) (x : Value) : B8 (w.setCell ⟨k, 6, none⟩ x) k a0 a1 a2 a3 a4 a5 x a7 := blk_set h x
theorem B8.set7 (h : B8 w k a0 a1 a2 a3 a4 a5 a6 a7) (x : Value) : B8 (w.setCell ⟨k, 7, none⟩ x) k a0 a1 a2 a3 a4 a5 a6 x := blk_set h x
theorem B8.new (w : World) (a0 a1 a2 a3 a4 a5 a6 a7 : Value) : B8 (w.alloc (.cells #[a0, a1, a2, a3, a4, a5, a6, a7] 26)) w.heap.size a0 a1 a2 a3 a4 a5 a6 a7 := heap_alloc_new w _
/-- Eight cells written, one by one. -/
def set8 (w : World) (k : Nat) (a0 a1 a2 a3 a4 a5 a6 a7 : Value) : World := (((((((w.setCell ⟨k, 0, none⟩ a0).setCell ⟨k, 1, none⟩ a1).setCell ⟨k, 2, none⟩ a2).setCell ⟨k, 3, none⟩ a3).setCell ⟨k, 4, none⟩ a4).setCell ⟨k, 5, none⟩ a5).setCell ⟨k, 6, none⟩ a6).setCell ⟨k, 7, none⟩ a7
theorem set8_b8 {b0 b1 b2 b3 b4 b5 b6 b7 : Value} (h : B8 w k b0 b1 b2 b3 b4 b5 b6 b7) (a0 a1 a2 a3 a4 a5 a6 a7 : Value) : B8 (set8 w k a0 a1 a2 a3 a4 a5 a6 a7) k a0 a1 a2 a3 a4 a5 a6 a7 :=
  (((((((h.set0 _).set1 _).set2 _).set3 _).set4 _).set5 _).set6 _).set7 _
theorem set8_below {B : Nat} (hB : B ≤ k) (h : Below B w w) (a0 a1 a2 a3 a4 a5 a6 a7 : Value) : Below B w (set8 w k a0 a1 a2 a3 a4 a5 a6 a7) := by
  unfold set8
  exact (((((((h.setCell (p := ⟨k, 0, none⟩) hB _).setCell (p := ⟨k, 1, none⟩) hB _).setCell (p := ⟨k, 2, none⟩) hB _).setCell (p := ⟨k, 3, none⟩) hB _).setCell (p := ⟨k, 4, none⟩) hB _).setCell (p := ⟨k, 5, none⟩) hB _).setCell (p := ⟨k, 6, none⟩) hB _).setCell (p := ⟨k, 7, none⟩) hB _
theorem set8_but {X : Nat → Prop} (hk : X k ∨ w.heap.size ≤ k) (a0 a1 a2 a3 a4 a5 a6 a7 : Value) : But X w (set8 w k a0 a1 a2 a3 a4 a5 a6 a7) := by
  unfold set8
  exact ((((((((But.refl X w).setCell (p := ⟨k, 0, none⟩) hk _).setCell (p := ⟨k, 1, none⟩) hk _).setCell (p := ⟨k, 2, none⟩) hk _).setCell (p := ⟨k, 3, none⟩) hk _).setCell (p := ⟨k, 4, none⟩) hk _).setCell (p := ⟨k, 5, none⟩) hk _).setCell (p := ⟨k, 6, none⟩) hk _).setCell (p := ⟨k, 7, none⟩) hk _

set_option maxRecDepth 100000 in
set_option maxHeartbeats 3200000 in
theorem own_any (x : Ov) {w : World} (hx : x.ok w w.heap.size) (h1 : x.o.deps.length ≤ 10000000) (h2 : x.o.seen.length ≤ 10000000) :
    Calls Try.prog 72 #[x.v] w fun e w' => (∃ y : Ov, y.o = x.o ∧ e = .returned y.v ∧ y.ok w' w'.heap.size ∧ Lies y.A w.heap.size w'.heap.size ∧ Lies y.A2 w.heap.size w'.heap.size) ∧ Below w.heap.size w w' := by
  obtain ⟨⟨⟨s, n⟩, dp, ct, kd, it, q, sn⟩, A, c, A2, c2⟩ := x
  have HX := Lib.hid hx
  simp only at h1 h2
  obtain ⟨a1, ha1⟩ : ∃ L, dp.length = L := ⟨_, rfl⟩
  obtain ⟨a2, ha2⟩ : ∃ L, sn.length = L := ⟨_, rfl⟩
  have HL := Lib.hid (And.intro ha1 (And.intro ha2 (And.intro h1 h2)))
  simp only [Ov.v, Ov.cells]
  rw [ha1, ha2]
  have hb1 : Below w.heap.size w ((w.alloc (.cells #[.string s, .int .i64 n, .slice A a1 c, .string ct, .int .i64 kd, .string it, .int .i64 q, .slice A2 a2 c2] 26)).alloc (.cells #[.string ⟨#[]⟩, .int .i64 0, .slice none 0 0, .string ⟨#[]⟩, .int .i64 0, .string ⟨#[]⟩, .int .i64 0, .slice none 0 0] 26)) := ((Below.refl _ w).alloc (Nat.le_refl _) _).alloc (by simp) _
  have hP := (B8.new w (.string s) (.int .i64 n) (.slice A a1 c) (.string ct) (.int .i64 kd) (.string it) (.int .i64 q) (.slice A2 a2 c2)).below (((Below.refl (w.heap.size + 1) _).alloc (by simp) (.cells #[.string ⟨#[]⟩, .int .i64 0, .slice none 0 0, .string ⟨#[]⟩, .int .i64 0, .string ⟨#[]⟩, .int .i64 0, .slice none 0 0] 26))) (by omega)
  have hZ := B8.new (w.alloc (.cells #[.string s, .int .i64 n, .slice A a1 c, .string ct, .int .i64 kd, .string it, .int .i64 q, .slice A2 a2 c2] 26)) (.string ⟨#[]⟩) (.int .i64 0) (.slice none 0 0) (.string ⟨#[]⟩) (.int .i64 0) (.string ⟨#[]⟩) (.int .i64 0) (.slice none 0 0)
  rw [World.size_alloc] at hZ
  obtain ⟨W1, hW1⟩ : ∃ W1, (w.alloc (.cells #[.string s, .int .i64 n, .slice A a1 c, .string ct, .int .i64 kd, .string it, .int .i64 q, .slice A2 a2 c2] 26)).alloc (.cells #[.string ⟨#[]⟩, .int .i64 0, .slice none 0 0, .string ⟨#[]⟩, .int .i64 0, .string ⟨#[]⟩, .int .i64 0, .slice none 0 0] 26) = W1 := ⟨_, rfl⟩
  have HWE := Lib.hid hW1
  have hsz : W1.heap.size = w.heap.size + 2 := by rw [← hW1]; simp
  rw [hW1] at hb1 hP hZ
  have HB1 := Lib.hid hb1
  have HZ := Lib.hid hZ
  have HP := Lib.hid hP
  have HSZ := Lib.hid hsz
  obtain ⟨c0, c1, c2_, c3, c4, c5, c6, c7⟩ := hP.at
  clear hb1 hP hZ hW1 ha1 ha2 h1 h2 hx hsz
  go_enter Try.func72, Try.ntmps72
  go_upto_region 1 with fail
  rw [HWE.out]
  have hcall := (copied_any (HX.out.d.up HB1.out) HL.out.2.2.1)
  simp only at hcall
  rw [HL.out.1] at hcall
  go_wp2_with fail
  refine hcall.mono ?_
  rintro e wa ⟨⟨A', c', rfl, ok1, fr1⟩, hba⟩
  clear hcall c0 c1 c2_ c3 c4 c5 c6 c7
  have hsa := hba.size
  have hPa := HP.out.below hba (by have := HSZ.out; omega)
  obtain ⟨c0, c1, c2_, c3, c4, c5, c6, c7⟩ := hPa.at
  have ff := hPa.fr.f2
  obtain ⟨Wb, hWb⟩ : ∃ Wb, wa.setCell ⟨w.heap.size, 2, none⟩ (.slice A' a1 c') = Wb := ⟨_, rfl⟩
  have HWb := Lib.hid hWb
  have hPb : B8 Wb w.heap.size (.string s) (.int .i64 n) (.slice A' a1 c') (.string ct) (.int .i64 kd) (.string it) (.int .i64 q) (.slice A2 a2 c2) := by rw [← hWb]; exact hPa.set2 _
  have HZb : Hid (B8 Wb (w.heap.size + 1) (.string ⟨#[]⟩) (.int .i64 0) (.slice none 0 0) (.string ⟨#[]⟩) (.int .i64 0) (.string ⟨#[]⟩) (.int .i64 0) (.slice none 0 0)) := by show B8 _ _ _ _ _ _ _ _ _ _; rw [← hWb]; exact (HZ.out.below hba (by have := HSZ.out; omega)).other (by omega) _
  have HBb : Hid (Below w.heap.size w Wb) := by show Below _ _ _; rw [← hWb]; exact (HB1.out.trans (hba.mono HB1.out.size)).setCell (p := ⟨w.heap.size, 2, none⟩) (Nat.le_refl _) _
  have HO1 : Hid (Vc.ok ⟨A', c', dp⟩ Wb Wb.heap.size ∧ Lies A' (w.heap.size + 2) Wb.heap.size) := by
    have hf : Lies A' (w.heap.size + 2) Wb.heap.size := fr1.mono (by rw [HSZ.out]; exact Nat.le_refl _) (by rw [← hWb]; simp [World.setCell])
    refine ⟨?_, hf⟩
    rw [← hWb]
    exact ((But.refl (fun k => k = w.heap.size) wa).setCell (p := ⟨w.heap.size, 2, none⟩) (.inl rfl) _).vc ok1 (hf.fresh.apart fun k hk => by omega)
  clear hPa ok1 fr1 hba hWb
  go_upto_region 2 with fail
  rw [HWb.out]
  clear c0 c1 c2_ c3 c4 c5 c6 c7 ff
  obtain ⟨c0, c1, c2_, c3, c4, c5, c6, c7⟩ := hPb.at
  have HPb := Lib.hid hPb
  clear hPb
  have hcall := (copied_any (HX.out.s.up HBb.out) HL.out.2.2.2)
  simp only at hcall
  rw [HL.out.2.1] at hcall
  go_wp2_with fail
  refine hcall.mono ?_
  rintro e wc ⟨⟨A3, c3_, rfl, ok2, fr2⟩, hbc⟩
  clear hcall c0 c1 c2_ c3 c4 c5 c6 c7
  have hsc := hbc.size
  have hszb := HZb.out.lt
  have hPc := HPb.out.below hbc (by omega)
  obtain ⟨c0, c1, c2_, c3, c4, c5, c6, c7⟩ := hPc.at
  have ff := hPc.fr.f7
  obtain ⟨Wd, hWd⟩ : ∃ Wd, wc.setCell ⟨w.heap.size, 7, none⟩ (.slice A3 a2 c3_) = Wd := ⟨_, rfl⟩
  have HWd := Lib.hid hWd
  have hPd : B8 Wd w.heap.size (.string s) (.int .i64 n) (.slice A' a1 c') (.string ct) (.int .i64 kd) (.string it) (.int .i64 q) (.slice A3 a2 c3_) := by rw [← hWd]; exact hPc.set7 _
  have hZd : B8 Wd (w.heap.size + 1) (.string ⟨#[]⟩) (.int .i64 0) (.slice none 0 0) (.string ⟨#[]⟩) (.int .i64 0) (.string ⟨#[]⟩) (.int .i64 0) (.slice none 0 0) := by rw [← hWd]; exact (HZb.out.below hbc (by omega)).other (by omega) _
  have HBd : Hid (Below w.heap.size w Wd) := by show Below _ _ _; rw [← hWd]; exact (HBb.out.trans (hbc.mono HBb.out.size)).setCell (p := ⟨w.heap.size, 7, none⟩) (Nat.le_refl _) _
  have HO2 : Hid (Vc.ok ⟨A', c', dp⟩ Wd Wd.heap.size ∧ Vc.ok ⟨A3, c3_, sn⟩ Wd Wd.heap.size ∧ Lies A' (w.heap.size + 2) Wd.heap.size ∧ Lies A3 (w.heap.size + 2) Wd.heap.size) := by
    have hwd : Wd.heap.size = wc.heap.size := by rw [← hWd]; simp [World.setCell]
    have hf : Lies A3 (w.heap.size + 2) Wd.heap.size := fr2.mono (by omega) (by omega)
    have hf1 : Lies A' (w.heap.size + 2) Wd.heap.size := HO1.out.2.mono (Nat.le_refl _) (by omega)
    have hb := (But.refl (fun k => k = w.heap.size) wc).setCell (p := ⟨w.heap.size, 7, none⟩) (.inl rfl) (.slice A3 a2 c3_)
    rw [← hWd]
    exact ⟨hb.vc (HO1.out.1.up hbc) (HO1.out.2.fresh.apart fun k hk => by omega), hb.vc ok2 (hf.fresh.apart fun k hk => by omega), by rw [hWd]; exact hf1, by rw [hWd]; exact hf⟩
  clear hPc ok2 fr2 hbc hWd hsc hszb
  go_upto_region 3 with fail
  rw [HWd.out]
  clear c0 c1 c2_ c3 c4 c5 c6 c7 ff
  obtain ⟨c0, c1, c2_, c3, c4, c5, c6, c7⟩ := hPd.at
  obtain ⟨f0, f1, f2, f3, f4, f5, f6, f7⟩ := hZd.fr
  obtain ⟨d0, d1, d2, d3, d4, d5, d6, d7⟩ := hZd.at
  have HE : Hid (B8 (set8 Wd (w.heap.size + 1) (.string s) (.int .i64 n) (.slice A' a1 c') (.string ct) (.int .i64 kd) (.string it) (.int .i64 q) (.slice A3 a2 c3_)) (w.heap.size + 1) (.string s) (.int .i64 n) (.slice A' a1 c') (.string ct) (.int .i64 kd) (.string it) (.int .i64 q) (.slice A3 a2 c3_)) := set8_b8 hZd _ _ _ _ _ _ _ _
  have HF : Hid (But (fun k => k = w.heap.size + 1) Wd (set8 Wd (w.heap.size + 1) (.string s) (.int .i64 n) (.slice A' a1 c') (.string ct) (.int .i64 kd) (.string it) (.int .i64 q) (.slice A3 a2 c3_))) := set8_but (X := fun k => k = w.heap.size + 1) (.inl rfl) _ _ _ _ _ _ _ _
  clear hPd hZd
  go_wp2
  have he := HE.out.at
  have hk := HF.out
  clear HE HF
  obtain ⟨We, hWe⟩ : ∃ We, set8 Wd (w.heap.size + 1) (.string s) (.int .i64 n) (.slice A' a1 c') (.string ct) (.int .i64 kd) (.string it) (.int .i64 q) (.slice A3 a2 c3_) = We := ⟨_, rfl⟩
  have hWe2 := hWe
  unfold set8 at hWe2
  try rw [hWe2]
  rw [hWe] at he hk
  clear c0 c1 c2_ c3 c4 c5 c6 c7 d0 d1 d2 d3 d4 d5 d6 d7 f0 f1 f2 f3 f4 f5 f6 f7 hWe hWe2
  obtain ⟨c0, c1, c2_, c3, c4, c5, c6, c7⟩ := he
  refine bodyPost_ret (v := .agg #[.string s, .int .i64 n, .slice A' a1 c', .string ct, .int .i64 kd, .string it, .int .i64 q, .slice A3 a2 c3_]) (by rw [results_cell rfl]; go_simp; try rfl) rfl ?_
  refine ⟨⟨⟨⟨(s, n), dp, ct, kd, it, q, sn⟩, A', c', A3, c3_⟩, rfl, ?_, ⟨hk.vc HO2.out.1 (HO1.out.2.fresh.apart fun k hk => by omega), hk.vc HO2.out.2.1 (HO2.out.2.2.2.fresh.apart fun k hk => by omega), HX.out.fit⟩, HO2.out.2.2.1.mono (by omega) hk.size, HO2.out.2.2.2.mono (by omega) hk.size⟩, ?_⟩
  · simp only [Ov.v, Ov.cells]
    rw [HL.out.1, HL.out.2.1]
  · exact HBd.out.trans (hk.below (B := w.heap.size) (fun k hk => by omega) HBd.out.size)

end Go.Proofs.Ytdffifkleaekhaa.O
