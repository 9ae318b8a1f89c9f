/-
  StampCauses: an event.
-/
import Derived.Test.YtoaglkjpjolacaaDoorCC2
namespace Go.Proofs.YtoaglkjpjolacaaDoor.S
open Go.RowKit
set_option linter.unusedVariables false
set_option linter.unusedSimpArgs false
/-- One's own new event. -/
def ownL (n : Nat) : List Bool := (List.replicate (n + 1) false).set n true
theorem ownL_len (n : Nat) : (ownL n).length = n + 1 := by simp [ownL]
theorem ownL_sees (n k : Nat) : sees (ownL n) k = decide (k = n) := by
  unfold sees ownL
  rw [List.getElem?_set]
  by_cases h : n = k
  · subst h; simp
  · rw [if_neg h, List.getElem?_replicate]
    split <;> simp [Ne.symm h]
set_option maxRecDepth 100000 in
set_option maxHeartbeats 12800000 in
theorem cevent_any {W : World} {B g gl gs n a : Nat} {CS : List Sc} {SS : List Rw} {Q : List St3} {q : St3} {e' : E.Tr} (h : Stt W B g gl gs CS SS Q n) (hq : Q[a]? = some q) (hn : n < 1000) (hQ : Q.length ≤ 8)
    (hev : eventR (I.fit q.1) (E.fit q.2.1) = ((q.1, e'), 0)) (ll : q.2.2.length ≤ 1000) (hB : B ≤ W.heap.size) : Calls Tryd.prog 38 #[.pointer (some ⟨g, 0, none⟩), .int .i64 a] W (Done W B g (Q.set a (q.1, e', bothL q.2.2 (ownL n))) (n + 1)) := by
  have ha : a < Q.length := (List.getElem?_eq_some_iff.1 hq).1
  obtain ⟨s, hs, hsi, hse⟩ := h.el a q hq
  obtain ⟨⟨A, m0, c⟩, hr, hrk⟩ := h.er a q hq
  obtain ⟨e1, hmc, hrow⟩ := id hrk
  simp only at e1 hmc
  subst e1
  have hsin := (sin_of hsi hse).1
  obtain ⟨c0, c1, c2⟩ := h.c3
  obtain ⟨d0, d1, d2, d3⟩ := h.c4 hs
  have lg := h.st.lt
  have lgl := h.bl.lt
  have lgs := h.bs.lt
  have n1 : gl ≠ g := h.bl.ne h.st (by decide)
  have n2 : gs ≠ g := h.bs.ne h.st (by decide)
  have n3 : gs ≠ gl := h.bs.ne h.bl (by decide)
  have hcall := event_any hsin.arg
  rw [hev] at hcall
  have HT := Lib.hid h
  have HR := Lib.hid hr
  have HQ := Lib.hid hq
  have HRK := Lib.hid hrk
  have HA := Lib.hid ha
  have HLL := Lib.hid ll
  have hai : (a : Int) < (Q.length : Int) := by omega
  obtain ⟨m, hm⟩ : ∃ m, n + 1 = m := ⟨_, rfl⟩
  rw [hm]
  have hml : m ≤ 1000 := by omega
  have hnm : n < m := by omega
  have hm1 : (n : Int) + 1 = (m : Int) := by omega
  have hm2 : (m : Int) - 1 = (n : Int) := by omega
  have hnmi : (n : Int) < (m : Int) := by omega
  have HM := Lib.hid hm
  clear hm
  obtain ⟨lq, hlq⟩ : ∃ l, Q.length = l := ⟨_, rfl⟩
  obtain ⟨lc, hlc⟩ : ∃ l, CS.length = l := ⟨_, rfl⟩
  obtain ⟨ls, hls⟩ : ∃ l, SS.length = l := ⟨_, rfl⟩
  rw [hlq] at hai c0 c1
  rw [hlc] at c0
  rw [hls] at c1
  have HLQ := Lib.hid hlq
  have HLC := Lib.hid hlc
  have HLS := Lib.hid hls
  have HEV := Lib.hid hev
  clear h hq hr hrk hs hsi hse hsin hrow hmc hlq hlc hls ha hev ll
  obtain ⟨so, sA, sn, sc, sz, sB, sm, sd⟩ := s
  simp only at d0 d1 d2 d3
  unfold Sc.v sv at hcall
  go_enter Tryd.func38, Tryd.ntmps38
  go_wp2_with fail
  refine hcall.mono ?_
  rintro e w2 ⟨vx, rfl, hx, hb2⟩
  simp only at hx ⊢
  obtain ⟨ox, Ax, nx, cx, Bx, mx, dx, rfl, hxi, hxe⟩ := hx
  obtain ⟨zx, hzx⟩ : ∃ z, e'.N = z := ⟨_, rfl⟩
  rw [hzx] at hxe ⊢
  have hb3 : Below w2.heap.size w2 (w2.alloc (.cells #[.bool ox, .slice Ax nx cx, .int .i64 zx, .slice Bx mx dx] 29)) := (Below.refl _ w2).alloc (Nat.le_refl _) _
  have HT3 := Lib.hid ((HT.out.next hb2).next hb3)
  have HXI := Lib.hid (I.InT.up hxi hb3)
  have HXE := Lib.hid (E.InP.up hxe hb3)
  have HBX : Hid (CX [(w2.heap.size, 0, .bool ox), (w2.heap.size, 1, .slice Ax nx cx), (w2.heap.size, 2, .int .i64 zx), (w2.heap.size, 3, .slice Bx mx dx)] (w2.alloc (.cells #[.bool ox, .slice Ax nx cx, .int .i64 zx, .slice Bx mx dx] 29))) := Lib.hid (by
    intro f hf
    simp only [List.mem_cons, List.not_mem_nil, or_false] at hf
    rcases hf with rfl | rfl | rfl | rfl <;> simp [go_sem])
  have HBE : Hid (Below B W (w2.alloc (.cells #[.bool ox, .slice Ax nx cx, .int .i64 zx, .slice Bx mx dx] 29))) := Lib.hid ((hb2.mono hB).trans (hb3.mono (Nat.le_trans hB hb2.size)))
  have s2 : W.heap.size ≤ w2.heap.size := hb2.size
  have HZX := Lib.hid hzx
  clear hcall hxi hxe hb2 hb3 hzx c0 c1 c2 d0 d1 d2 d3
  unfold sv
  go_upto_region 2 with fail
  generalize w2.alloc (.cells #[.bool ox, .slice Ax nx cx, .int .i64 zx, .slice Bx mx dx] 29) = w3 at *
  obtain ⟨c0, c1, c2⟩ := HT3.out.c3
  have f2 := HT3.out.st.frozen 2
  have hmk := fun (W : World) => run_make_row' (P := Tryd.prog) 74 4 (.bool false) 1 Tryd.underlying74 info4 rfl .i64 .i64 m (by omega) (by omega) W
  have hmc : (madeCells #[.bool false] m : Array Value) = (boolsV (List.replicate m false)).toArray := by
    apply Array.ext
    · simp [madeCells, boolsV]
    · intro i h1 h2; simp [madeCells, boolsV, Nat.mod_one]
  rw [hmc] at hmk
  clear hmc
  go_upto_region 5 with fail
  have HT4 := Lib.hid (HT3.out.count m)
  have HXI4 := Lib.hid ((three_noT HT3.out.st).iin (set_but w3 g 2 (.int .i64 (m : Int))) HXI.out)
  have HXE4 := Lib.hid ((three_noT HT3.out.st).ein (set_but w3 g 2 (.int .i64 (m : Int))) HXE.out)
  have HBX4 := Lib.hid (HBX.out.but (set_but w3 g 2 (.int .i64 (m : Int))) (by simp only [List.mem_cons, List.not_mem_nil, or_false, forall_eq_or_imp, forall_eq]; omega))
  have HBE4 := Lib.hid (HBE.out.setCell (p := ⟨g, 2, none⟩) HT3.out.hB.1 (.int .i64 (m : Int)))
  have s4 : (w3.setCell ⟨g, 2, none⟩ (.int .i64 (m : Int))).heap.size = w3.heap.size := set_size _ _ _
  have s3 : w2.heap.size < w3.heap.size := World.block_lt_of_cell? w3 ⟨w2.heap.size, 0, none⟩ (HBX.out _ (List.mem_cons_self ..))
  rw [← s4] at HXI4 HXE4 s3
  clear s4 HT3 HXI HXE HBX HBE c0 c1 c2 f2
  generalize w3.setCell ⟨g, 2, none⟩ (.int .i64 (m : Int)) = w4 at *
  obtain ⟨c0, c1, c2⟩ := HT4.out.c3
  go_upto_region 6 with fail
  have HO5 : Hid (Blk (w4.alloc (.cells (boolsV (List.replicate m false)).toArray 4)) w4.heap.size 4 (boolsV (List.replicate m false))) := Lib.hid (Blk.new _ _ _)
  have hb5 : Below w4.heap.size w4 (w4.alloc (.cells (boolsV (List.replicate m false)).toArray 4)) := (Below.refl _ _).alloc (Nat.le_refl _) _
  have HT5 := Lib.hid (HT4.out.next hb5)
  have HB5 := Lib.hid hb5
  clear hb5 hmk c0 c1 c2
  generalize w4.alloc (.cells (boolsV (List.replicate m false)).toArray 4) = w5 at *
  obtain ⟨c0, c1, c2⟩ := HT5.out.c3
  have f5 := HO5.out.frozen n
  have k5 : w5.cell? ⟨w4.heap.size, n, none⟩ = some (.bool false) := by rw [HO5.out.cell]; simp [boolsV, hnm]
  go_upto_region 7 with fail
  have HO6 : Hid (Blk (w5.setCell ⟨w4.heap.size, n, none⟩ (.bool true)) w4.heap.size 4 (boolsV (ownL n))) := Lib.hid (by
    have := HO5.out.store n (.bool true)
    rw [show (boolsV (List.replicate m false)).set n (.bool true) = boolsV (ownL n) by unfold boolsV ownL; rw [HM.out, List.map_set]] at this
    exact this)
  have hb6 : Below w4.heap.size w4 (w5.setCell ⟨w4.heap.size, n, none⟩ (.bool true)) := HB5.out.setCell (p := ⟨w4.heap.size, n, none⟩) (Nat.le_refl _) _
  have HT6 := Lib.hid (HT4.out.next hb6)
  have HXI6 := Lib.hid (I.InT.up HXI4.out hb6)
  have HXE6 := Lib.hid (E.InP.up HXE4.out hb6)
  have HBX6 := Lib.hid (HBX4.out.next hb6)
  have HBE6 := Lib.hid (HBE4.out.trans (hb6.mono (Nat.le_trans hB (HBE4.out.size))))
  clear HO5 HT5 HB5 HT4 HXI4 HXE4 HBX4 HBE4 hb6 f5 k5 c0 c1 c2
  generalize w5.setCell ⟨w4.heap.size, n, none⟩ (.bool true) = w6 at *
  have hd : Below w6.heap.size w6 w6.drew := (Below.refl _ _).drew
  have HX7 : Hid (CX [(g, 0, .slice (some ⟨gl, 0, none⟩) lq lc), (w2.heap.size, 0, .bool ox), (w2.heap.size, 1, .slice Ax nx cx), (w2.heap.size, 2, .int .i64 zx), (w2.heap.size, 3, .slice Bx mx dx)] w6.drew) := Lib.hid (by
    have h1 := HBX6.out.next hd
    obtain ⟨c0, _, _⟩ := (HT6.out.next hd).c3
    rw [HLQ.out, HLC.out] at c0
    intro f hf
    rcases List.mem_cons.1 hf with rfl | hf
    · exact c0
    · exact h1 f hf)
  have HT7 := Lib.hid (HT6.out.next hd)
  have HO7 := Lib.hid (HO6.out.below hd HO6.out.lt)
  have HXI7 := Lib.hid (I.InT.up HXI6.out hd)
  have HXE7 := Lib.hid (E.InP.up HXE6.out hd)
  have HBE7 := Lib.hid (HBE6.out.trans (hd.mono (Nat.le_trans hB HBE6.out.size)))
  refine wp_region_held_drew (S := fun W => CX [(g, 0, .slice (some ⟨gl, 0, none⟩) lq lc), (w2.heap.size, 0, .bool ox), (w2.heap.size, 1, .slice Ax nx cx), (w2.heap.size, 2, .int .i64 zx), (w2.heap.size, 3, .slice Bx mx dx)] W) (by kernel_rfl) HX7.out (fun hS => ?_)
  clear hd HT6 HO6 HXI6 HXE6 HBE6 HBX6
  generalize w6.drew = wd at *
  refine wpAnyH_take (i := 0) (v := ?_) rfl (by kernel_rfl) (by kernel_rfl) (by kernel_rfl) (fun _ _ _ h => h) (Yields.yieldsIf (Or.inl ⟨by kernel_rfl, ?_⟩)) hS ?_
  rotate_left
  · first | (intro w; go_simp; done) | (intro w; go_simp; with_reducible rfl)
  refine wpAnyH_take (i := 1) (v := ?_) rfl (by kernel_rfl) (by kernel_rfl) (by kernel_rfl) (fun _ _ _ h => h) (Yields.yieldsIf (Or.inl ⟨by kernel_rfl, ?_⟩)) hS ?_
  rotate_left
  · first | (intro w; go_simp; done) | (intro w; go_simp; with_reducible rfl)
  refine wpAnyH_take (i := 2) (v := ?_) rfl (by kernel_rfl) (by kernel_rfl) (by kernel_rfl) (fun _ _ _ h => h) (Yields.yieldsIf (Or.inl ⟨by kernel_rfl, ?_⟩)) hS ?_
  rotate_left
  · first | (intro w; go_simp; done) | (intro w; go_simp; with_reducible rfl)
  refine wpAnyH_take (i := 3) (v := ?_) rfl (by kernel_rfl) (by kernel_rfl) (by kernel_rfl) (fun _ _ _ h => h) (Or.inl ⟨by kernel_rfl, fun W hW => ?_⟩) hS ?_
  rotate_left
  · have f := hW
    simp only [CX, List.mem_cons, List.not_mem_nil, or_false, forall_eq_or_imp, forall_eq] at f
    obtain ⟨p0, p1, p2, p3, p4⟩ := f
    first | (go_simp; done) | (go_simp; with_reducible rfl)
  refine wpAnyH_take (i := 4) (v := ?_) rfl (by kernel_rfl) (by kernel_rfl) (by kernel_rfl) (fun _ _ _ h => h) (Yields.yieldsIf (Or.inl ⟨by kernel_rfl, ?_⟩)) hS ?_
  rotate_left
  · first | (intro w; go_simp; done) | (intro w; go_simp; with_reducible rfl)
  refine wpAnyH_take (i := 5) (v := ?_) rfl (by kernel_rfl) (by kernel_rfl) (by kernel_rfl) (fun _ _ _ h => h) (Or.inl ⟨by kernel_rfl, fun W hW => ?_⟩) hS ?_
  rotate_left
  · have f := hW
    simp only [CX, List.mem_cons, List.not_mem_nil, or_false, forall_eq_or_imp, forall_eq] at f
    obtain ⟨p0, p1, p2, p3, p4⟩ := f
    first | (go_simp; done) | (go_simp; with_reducible rfl)
  refine wpAnyH_take (i := 6) (v := ?_) rfl (by kernel_rfl) (by kernel_rfl) (by kernel_rfl) (fun _ _ _ h => h) (Yields.yieldsIf (Or.inl ⟨by kernel_rfl, ?_⟩)) hS ?_
  rotate_left
  · first | (intro w; go_simp; done) | (intro w; go_simp; with_reducible rfl)
  try go_simp
  refine wpAnyH_ready (rs := [7]) (by kernel_rfl) (by simp) ?_
  refine AllReadyH.cons rfl (fun K hK => ?_) AllReadyH.nil
  obtain ⟨s0, k0, k1, k2⟩ := HT7.out.el a q HQ.out
  obtain ⟨d0, d1, d2, d3⟩ := HT7.out.c4 k0
  have f0 := HT7.out.bl.frozen (a * 4)
  have f1 := HT7.out.bl.frozen (a * 4 + 1)
  have f2 := HT7.out.bl.frozen (a * 4 + 2)
  have f3 := HT7.out.bl.frozen (a * 4 + 3)
  clear k0 k1 k2
  go_simp
  go_wp2
  refine hK.out _ _ (HX7.out.but (put4_but wd gl a ⟨ox, Ax, nx, cx, zx, Bx, mx, dx⟩) (by simp only [List.mem_cons, List.not_mem_nil, or_false, forall_eq_or_imp, forall_eq]; omega)) (fun hS => ?_)
  clear hK K
  have HT8 : Hid (Stt ((((wd.setCell ⟨gl, a * 4, none⟩ (.bool ox)).setCell ⟨gl, a * 4 + 1, none⟩ (.slice Ax nx cx)).setCell ⟨gl, a * 4 + 2, none⟩ (.int .i64 zx)).setCell ⟨gl, a * 4 + 3, none⟩ (.slice Bx mx dx)) B g gl gs (CS.set a ⟨ox, Ax, nx, cx, zx, Bx, mx, dx⟩) SS (Q.set a (q.1, e', q.2.2)) m) := Lib.hid (HT7.out.put HQ.out ⟨ox, Ax, nx, cx, zx, Bx, mx, dx⟩ HXI7.out HXE7.out)
  have HO8 : Hid (Blk ((((wd.setCell ⟨gl, a * 4, none⟩ (.bool ox)).setCell ⟨gl, a * 4 + 1, none⟩ (.slice Ax nx cx)).setCell ⟨gl, a * 4 + 2, none⟩ (.int .i64 zx)).setCell ⟨gl, a * 4 + 3, none⟩ (.slice Bx mx dx)) w4.heap.size 4 (boolsV (ownL n))) := Lib.hid (HO7.out.but (put4_but wd gl a ⟨ox, Ax, nx, cx, zx, Bx, mx, dx⟩) (by omega))
  have HBE8 : Hid (Below B W ((((wd.setCell ⟨gl, a * 4, none⟩ (.bool ox)).setCell ⟨gl, a * 4 + 1, none⟩ (.slice Ax nx cx)).setCell ⟨gl, a * 4 + 2, none⟩ (.int .i64 zx)).setCell ⟨gl, a * 4 + 3, none⟩ (.slice Bx mx dx))) := Lib.hid (put4_below HBE7.out HT7.out.hB.2.1 a ⟨ox, Ax, nx, cx, zx, Bx, mx, dx⟩)
  clear HT7 HO7 HXI7 HXE7 HBE7 HX7 hS d0 d1 d2 d3 f0 f1 f2 f3
  generalize (((wd.setCell ⟨gl, a * 4, none⟩ (.bool ox)).setCell ⟨gl, a * 4 + 1, none⟩ (.slice Ax nx cx)).setCell ⟨gl, a * 4 + 2, none⟩ (.int .i64 zx)).setCell ⟨gl, a * 4 + 3, none⟩ (.slice Bx mx dx) = w8 at *
  try go_simp
  refine wpAnyH_done (by kernel_rfl) ?_ _
  go_upto_region 8 with fail
  have hd : Below w8.heap.size w8 w8.drew := (Below.refl _ _).drew
  have HT9 := Lib.hid (HT8.out.next hd)
  have HX9 : Hid (CX [(g, 1, .slice (some ⟨gs, 0, none⟩) lq ls)] w8.drew) := Lib.hid (by
    obtain ⟨_, c1, _⟩ := HT9.out.c3
    rw [List.length_set, HLQ.out, HLS.out] at c1
    intro f hf
    simp only [List.mem_singleton] at hf
    subst hf
    exact c1)
  have HO9 := Lib.hid (HO8.out.below hd HO8.out.lt)
  have HBE9 := Lib.hid (HBE8.out.trans (hd.mono (Nat.le_trans hB HBE8.out.size)))
  have HQS : Hid ((Q.set a (q.1, e', q.2.2))[a]? = some (q.1, e', q.2.2)) := Lib.hid (by rw [List.getElem?_set, if_pos rfl, if_pos HA.out])
  have HRK9 : Hid (RowK w8.drew ⟨A, q.2.2.length, c⟩ q.2.2) := Lib.hid (by
    obtain ⟨r, h1, h2⟩ := HT9.out.er a _ HQS.out
    rw [HR.out] at h1
    injection h1 with h1
    subst h1
    exact h2)
  refine wp_region_held_drew (S := fun W => CX [(g, 1, .slice (some ⟨gs, 0, none⟩) lq ls)] W) (by kernel_rfl) HX9.out (fun hS => ?_)
  clear hd HT8 HO8 HBE8
  generalize w8.drew = wd at *
  refine wpAnyH_take (i := 0) (v := ?_) rfl (by kernel_rfl) (by kernel_rfl) (by kernel_rfl) (fun _ _ _ h => h) (Yields.yieldsIf (Or.inl ⟨by kernel_rfl, ?_⟩)) hS ?_
  rotate_left
  · first | (intro w; go_simp; done) | (intro w; go_simp; with_reducible rfl)
  refine wpAnyH_take (i := 1) (v := ?_) rfl (by kernel_rfl) (by kernel_rfl) (by kernel_rfl) (fun _ _ _ h => h) (Yields.yieldsIf (Or.inl ⟨by kernel_rfl, ?_⟩)) hS ?_
  rotate_left
  · first | (intro w; go_simp; done) | (intro w; go_simp; with_reducible rfl)
  refine wpAnyH_take (i := 2) (v := ?_) rfl (by kernel_rfl) (by kernel_rfl) (by kernel_rfl) (fun _ _ _ h => h) (Yields.yieldsIf (Or.inl ⟨by kernel_rfl, ?_⟩)) hS ?_
  rotate_left
  · first | (intro w; go_simp; done) | (intro w; go_simp; with_reducible rfl)
  refine wpAnyH_take (i := 3) (v := ?_) rfl (by kernel_rfl) (by kernel_rfl) (by kernel_rfl) (fun _ _ _ h => h) (Or.inl ⟨by kernel_rfl, fun W hW => ?_⟩) hS ?_
  rotate_left
  · have f := hW
    simp only [CX, List.mem_cons, List.not_mem_nil, or_false, forall_eq_or_imp, forall_eq] at f
    have p0 := f
    first | (go_simp; done) | (go_simp; with_reducible rfl)
  refine wpAnyH_take (i := 4) (v := ?_) rfl (by kernel_rfl) (by kernel_rfl) (by kernel_rfl) (fun _ _ _ h => h) (Yields.yieldsIf (Or.inl ⟨by kernel_rfl, ?_⟩)) hS ?_
  rotate_left
  · first | (intro w; go_simp; done) | (intro w; go_simp; with_reducible rfl)
  refine wpAnyH_take (i := 5) (v := ?_) rfl (by kernel_rfl) (by kernel_rfl) (by kernel_rfl) (fun _ _ _ h => h) (Yields.yieldsIf (Or.inl ⟨by kernel_rfl, ?_⟩)) hS ?_
  rotate_left
  · first | (intro w; go_simp; done) | (intro w; go_simp; with_reducible rfl)
  refine wpAnyH_take (i := 6) (v := ?_) rfl (by kernel_rfl) (by kernel_rfl) (by kernel_rfl) (fun _ _ _ h => h) (Yields.yieldsIf (Or.inl ⟨by kernel_rfl, ?_⟩)) hS ?_
  rotate_left
  · first | (intro w; go_simp; done) | (intro w; go_simp; with_reducible rfl)
  refine wpAnyH_take (i := 7) (v := ?_) rfl (by kernel_rfl) (by kernel_rfl) (by kernel_rfl) (fun _ _ _ h => h) (Yields.yieldsIf (Or.inl ⟨by kernel_rfl, ?_⟩)) hS ?_
  rotate_left
  · first | (intro w; go_simp; done) | (intro w; go_simp; with_reducible rfl)
  refine wpAnyH_take (i := 8) (v := ?_) rfl (by kernel_rfl) (by kernel_rfl) (by kernel_rfl) (fun _ _ _ h => h) (Or.inl ⟨by kernel_rfl, fun W hW => ?_⟩) hS ?_
  rotate_left
  · have f := hW
    simp only [CX, List.mem_cons, List.not_mem_nil, or_false, forall_eq_or_imp, forall_eq] at f
    have p0 := f
    first | (go_simp; done) | (go_simp; with_reducible rfl)
  refine wpAnyH_take (i := 9) (v := ?_) rfl (by kernel_rfl) (by kernel_rfl) (by kernel_rfl) (fun _ _ _ h => h) (Yields.yieldsIf (Or.inl ⟨by kernel_rfl, ?_⟩)) hS ?_
  rotate_left
  · first | (intro w; go_simp; done) | (intro w; go_simp; with_reducible rfl)
  refine wpAnyH_take (i := 10) (v := ?_) rfl (by kernel_rfl) (by kernel_rfl) (by kernel_rfl) (fun _ _ _ h => h) (Yields.yieldsIf (Or.inl ⟨by kernel_rfl, ?_⟩)) hS ?_
  rotate_left
  · first | (intro w; go_simp; done) | (intro w; go_simp; with_reducible rfl)
  refine wpAnyH_take (i := 12) (v := ?_) rfl (by kernel_rfl) (by kernel_rfl) (by kernel_rfl) (fun _ _ _ h => h) (Yields.yieldsIf (Or.inl ⟨by kernel_rfl, ?_⟩)) hS ?_
  rotate_left
  · first | (intro w; go_simp; done) | (intro w; go_simp; with_reducible rfl)
  try go_simp
  refine wpAnyH_ready (rs := [11]) (by kernel_rfl) (by simp) ?_
  refine AllReadyH.cons rfl (fun K hK => ?_) AllReadyH.nil
  have k1 := HT9.out.c1 HR.out
  simp only at k1
  go_simp
  have hS3 : CX [(g, 1, .slice (some ⟨gs, 0, none⟩) lq ls)] wd := HX9.out
  clear k1
  refine hK.out _ _ hS3 (fun hS => ?_)
  clear hK K hS3
  try go_simp
  refine wpAnyH_ready (rs := [13]) (by kernel_rfl) (by simp) ?_
  refine AllReadyH.cons rfl (fun K hK => ?_) AllReadyH.nil
  have hcall := both_any A (some ⟨w4.heap.size, 0, none⟩) q.2.2 (ownL n) c m wd HRK9.out.rowB ((show RowK wd ⟨some ⟨w4.heap.size, 0, none⟩, m, m⟩ (ownL n) from ⟨by rw [ownL_len]; exact HM.out.symm, by rw [ownL_len]; exact Nat.le_of_eq HM.out, .inr ⟨_, rfl, HO9.out⟩⟩).rowB) (by have := HLL.out; omega) (by rw [ownL_len]; omega) HRK9.out.2.1 (by rw [ownL_len]; exact Nat.le_of_eq HM.out)
  rw [ownL_len, HM.out] at hcall
  obtain ⟨L2, hL2⟩ : ∃ L2, bothL q.2.2 (ownL n) = L2 := ⟨_, rfl⟩
  rw [hL2] at hcall
  have HL2 := Lib.hid hL2
  clear hL2
  go_simp
  go_wp2_with fail
  refine hcall.mono ?_
  rintro e wx ⟨rfl, hbk, hbx⟩
  have HT10 := Lib.hid (HT9.out.next hbx)
  have HBK := Lib.hid hbk
  have HX10 := Lib.hid (HX9.out.next hbx)
  have HBE10 := Lib.hid (HBE9.out.trans (hbx.mono (Nat.le_trans hB HBE9.out.size)))
  clear hcall hbk hbx HT9 HO9 HX9 HBE9 HRK9
  refine hK.out _ _ (HX10.out) (fun hS => ?_)
  clear hK K
  refine wpAnyH_take (i := 14) (v := ?_) rfl (by kernel_rfl) (by kernel_rfl) (by kernel_rfl) (fun _ _ _ h => h) (Yields.yieldsIf (Or.inl ⟨by kernel_rfl, ?_⟩)) hS ?_
  rotate_left
  · first | (intro w; go_simp; done) | (intro w; go_simp; with_reducible rfl)
  try go_simp
  refine wpAnyH_ready (rs := [15]) (by kernel_rfl) (by simp) ?_
  refine AllReadyH.cons rfl (fun K hK => ?_) AllReadyH.nil
  have k1 := HT10.out.c1 HR.out
  have f1 := HT10.out.bs.frozen a
  go_simp
  go_wp2
  refine hK.out _ _ (HX10.out.but (set_but wx gs a (.slice (some ⟨wd.heap.size, 0, none⟩) L2.length L2.length)) (by simp only [List.mem_singleton, forall_eq]; omega)) (fun hS => ?_)
  clear hK K
  have HTE : Hid (Stt (wx.setCell ⟨gs, a, none⟩ (.slice (some ⟨wd.heap.size, 0, none⟩) L2.length L2.length)) B g gl gs (CS.set a ⟨ox, Ax, nx, cx, zx, Bx, mx, dx⟩) (SS.set a ⟨some ⟨wd.heap.size, 0, none⟩, L2.length, L2.length⟩) (Q.set a (q.1, e', L2)) m) := Lib.hid (by
    have h1 := HT10.out.see HQS.out ⟨some ⟨wd.heap.size, 0, none⟩, L2.length, L2.length⟩ (l := L2) ⟨rfl, Nat.le_refl _, .inr ⟨_, rfl, HBK.out⟩⟩
    rw [List.set_set] at h1
    exact h1)
  have HBEE := Lib.hid (HBE10.out.setCell (p := ⟨gs, a, none⟩) HT10.out.hB.2.2 (.slice (some ⟨wd.heap.size, 0, none⟩) L2.length L2.length))
  clear HT10 HBK HX10 HBE10 hS k1 f1
  generalize wx.setCell ⟨gs, a, none⟩ (.slice (some ⟨wd.heap.size, 0, none⟩) L2.length L2.length) = we at *
  try go_simp
  refine wpAnyH_done (by kernel_rfl) ?_ _
  go_wp2
  go_ret
  rw [HL2.out]
  exact ⟨rfl, ⟨gl, gs, _, _, HTE.out⟩, HBEE.out⟩
end Go.Proofs.YtoaglkjpjolacaaDoor.S
namespace Go.Proofs.YtoaglkjpjolacaaDoor.S
open Go.RowKit
set_option linter.unusedVariables false
set_option linter.unusedSimpArgs false
set_option maxRecDepth 100000 in
set_option maxHeartbeats 12800000 in
theorem cfork_no {W : World} {B g gl gs n a : Nat} {CS : List Sc} {SS : List Rw} {Q : List St3} {q : St3} (h : Stt W B g gl gs CS SS Q n) (hq : Q[a]? = some q) (hQ : Q.length ≤ 8)
    (hev : forkR (I.fit q.1) (E.fit q.2.1) = (zeroS, zeroS, 41)) (hB : B ≤ W.heap.size) : Calls Tryd.prog 39 #[.pointer (some ⟨g, 0, none⟩), .int .i64 a] W (Done W B g Q n) := by
  have ha : a < Q.length := (List.getElem?_eq_some_iff.1 hq).1
  obtain ⟨s, hs, hsi, hse⟩ := h.el a q hq
  obtain ⟨⟨A, m0, c⟩, hr, hrk⟩ := h.er a q hq
  obtain ⟨e1, hmc, hrow⟩ := id hrk
  simp only at e1 hmc
  subst e1
  have hsin := (sin_of hsi hse).1
  obtain ⟨c0, c1, c2⟩ := h.c3
  obtain ⟨d0, d1, d2, d3⟩ := h.c4 hs
  have lg := h.st.lt
  have lgl := h.bl.lt
  have lgs := h.bs.lt
  have n1 : gl ≠ g := h.bl.ne h.st (by decide)
  have n2 : gs ≠ g := h.bs.ne h.st (by decide)
  have n3 : gs ≠ gl := h.bs.ne h.bl (by decide)
  have HT := Lib.hid h
  have HR := Lib.hid hr
  have HQ := Lib.hid hq
  have HRK := Lib.hid hrk
  have HA := Lib.hid ha
  have hai : (a : Int) < (Q.length : Int) := by omega
  obtain ⟨lq, hlq⟩ : ∃ l, Q.length = l := ⟨_, rfl⟩
  obtain ⟨lc, hlc⟩ : ∃ l, CS.length = l := ⟨_, rfl⟩
  obtain ⟨ls, hls⟩ : ∃ l, SS.length = l := ⟨_, rfl⟩
  rw [hlq] at hai c0 c1
  rw [hlc] at c0
  rw [hls] at c1
  have hlq8 : lq ≤ 8 := by omega
  have HLQ := Lib.hid hlq
  have HLC := Lib.hid hlc
  have HLS := Lib.hid hls
  have hcall := fork_any hsin.arg
  rw [hev] at hcall
  clear h hq hr hrk hs hsi hse hsin hrow hmc hlq hlc hls ha hev hQ
  obtain ⟨so, sA, sn, sc, sz, sB, sm, sd⟩ := s
  simp only at d0 d1 d2 d3
  unfold Sc.v sv at hcall
  go_enter Tryd.func39, Tryd.ntmps39
  go_wp2_with fail
  refine hcall.mono ?_
  rintro e w2 ⟨vx, vy, rfl, hx, hy, hb2⟩
  simp only at hx hy ⊢
  obtain ⟨ox, Ax, nx, cx, Bx, mx, dx, rfl, hxi, hxe⟩ := hx
  obtain ⟨oy, Ay, ny, cy, By, my, dy, rfl, hyi, hye⟩ := hy
  simp only [zeroS, E.Tr.N]
  have HT2 := Lib.hid (HT.out.next hb2)
  have HBE2 := Lib.hid (hb2.mono hB)
  have hb3 : Below w2.heap.size w2 ((w2.alloc (.cells #[.bool ox, .slice Ax nx cx, .int .i64 0, .slice Bx mx dx] 29)).alloc (.cells #[.bool oy, .slice Ay ny cy, .int .i64 0, .slice By my dy] 29)) := (((Below.refl _ w2).alloc (Nat.le_refl _) _).alloc (by simp) _)
  have HT3 := Lib.hid (HT2.out.next hb3)
  have HBE3 := Lib.hid (HBE2.out.trans (hb3.mono (Nat.le_trans hB hb2.size)))
  clear hcall hxi hxe hyi hye hb2 hb3 c0 c1 c2 d0 d1 d2 d3 HT2 HBE2
  unfold sv
  go_upto_region 2 with fail
  generalize (w2.alloc (.cells #[.bool ox, .slice Ax nx cx, .int .i64 0, .slice Bx mx dx] 29)).alloc (.cells #[.bool oy, .slice Ay ny cy, .int .i64 0, .slice By my dy] 29) = w3 at *
  go_wp2
  go_ret
  exact ⟨rfl, ⟨gl, gs, _, _, HT3.out⟩, HBE3.out⟩
set_option maxRecDepth 100000 in
set_option maxHeartbeats 12800000 in
theorem cfork_yes {W : World} {B g gl gs n a : Nat} {CS : List Sc} {SS : List Rw} {Q : List St3} {q : St3} {i1 i2 : I.Tr} {e1 e2 : E.Tr} (h : Stt W B g gl gs CS SS Q n) (hq : Q[a]? = some q) (hQ : Q.length ≤ 8)
    (hev : forkR (I.fit q.1) (E.fit q.2.1) = ((i1, e1), (i2, e2), 0)) (hB : B ≤ W.heap.size) : Calls Tryd.prog 39 #[.pointer (some ⟨g, 0, none⟩), .int .i64 a] W (Done W B g (Q.set a (i1, e1, q.2.2) ++ [(i2, e2, q.2.2)]) n) := by
  have ha : a < Q.length := (List.getElem?_eq_some_iff.1 hq).1
  obtain ⟨s, hs, hsi, hse⟩ := h.el a q hq
  obtain ⟨⟨A, m0, c⟩, hr, hrk⟩ := h.er a q hq
  obtain ⟨e1, hmc, hrow⟩ := id hrk
  simp only at e1 hmc
  subst e1
  have hsin := (sin_of hsi hse).1
  obtain ⟨c0, c1, c2⟩ := h.c3
  obtain ⟨d0, d1, d2, d3⟩ := h.c4 hs
  have lg := h.st.lt
  have lgl := h.bl.lt
  have lgs := h.bs.lt
  have n1 : gl ≠ g := h.bl.ne h.st (by decide)
  have n2 : gs ≠ g := h.bs.ne h.st (by decide)
  have n3 : gs ≠ gl := h.bs.ne h.bl (by decide)
  have HT := Lib.hid h
  have HR := Lib.hid hr
  have HQ := Lib.hid hq
  have HRK := Lib.hid hrk
  have HA := Lib.hid ha
  have hai : (a : Int) < (Q.length : Int) := by omega
  obtain ⟨lq, hlq⟩ : ∃ l, Q.length = l := ⟨_, rfl⟩
  obtain ⟨lc, hlc⟩ : ∃ l, CS.length = l := ⟨_, rfl⟩
  obtain ⟨ls, hls⟩ : ∃ l, SS.length = l := ⟨_, rfl⟩
  rw [hlq] at hai c0 c1
  rw [hlc] at c0
  rw [hls] at c1
  have hlq8 : lq ≤ 8 := by omega
  have HLQ := Lib.hid hlq
  have HLC := Lib.hid hlc
  have HLS := Lib.hid hls
  have hcall := fork_any hsin.arg
  rw [hev] at hcall
  clear h hq hr hrk hs hsi hse hsin hrow hmc hlq hlc hls ha hev hQ
  obtain ⟨so, sA, sn, sc, sz, sB, sm, sd⟩ := s
  simp only at d0 d1 d2 d3
  unfold Sc.v sv at hcall
  go_enter Tryd.func39, Tryd.ntmps39
  go_wp2_with fail
  refine hcall.mono ?_
  rintro e w2 ⟨vx, vy, rfl, hx, hy, hb2⟩
  simp only at hx hy ⊢
  obtain ⟨ox, Ax, nx, cx, Bx, mx, dx, rfl, hxi, hxe⟩ := hx
  obtain ⟨oy, Ay, ny, cy, By, my, dy, rfl, hyi, hye⟩ := hy
  obtain ⟨zx, hzx⟩ : ∃ z, e1.N = z := ⟨_, rfl⟩
  obtain ⟨zy, hzy⟩ : ∃ z, e2.N = z := ⟨_, rfl⟩
  rw [hzx] at hxe ⊢
  rw [hzy] at hye ⊢
  have hb3 : Below w2.heap.size w2 ((w2.alloc (.cells #[.bool ox, .slice Ax nx cx, .int .i64 zx, .slice Bx mx dx] 29)).alloc (.cells #[.bool oy, .slice Ay ny cy, .int .i64 zy, .slice By my dy] 29)) := (((Below.refl _ w2).alloc (Nat.le_refl _) _).alloc (by simp) _)
  have HT3 := Lib.hid ((HT.out.next hb2).next hb3)
  have HXI := Lib.hid (I.InT.up hxi hb3)
  have HXE := Lib.hid (E.InP.up hxe hb3)
  have HYI := Lib.hid (I.InT.up hyi hb3)
  have HYE := Lib.hid (E.InP.up hye hb3)
  have HBX : Hid (CX [(w2.heap.size, 0, .bool ox), (w2.heap.size, 1, .slice Ax nx cx), (w2.heap.size, 2, .int .i64 zx), (w2.heap.size, 3, .slice Bx mx dx), (w2.heap.size + 1, 0, .bool oy), (w2.heap.size + 1, 1, .slice Ay ny cy), (w2.heap.size + 1, 2, .int .i64 zy), (w2.heap.size + 1, 3, .slice By my dy)] ((w2.alloc (.cells #[.bool ox, .slice Ax nx cx, .int .i64 zx, .slice Bx mx dx] 29)).alloc (.cells #[.bool oy, .slice Ay ny cy, .int .i64 zy, .slice By my dy] 29))) := Lib.hid (by
    intro f hf
    simp only [List.mem_cons, List.not_mem_nil, or_false] at hf
    rcases hf with rfl | rfl | rfl | rfl | rfl | rfl | rfl | rfl <;> simp [go_sem])
  have HBE := Lib.hid ((hb2.mono hB).trans (hb3.mono (Nat.le_trans hB hb2.size)))
  have s2 : W.heap.size ≤ w2.heap.size := hb2.size
  clear hcall hxi hxe hyi hye hb2 hb3 hzx hzy c0 c1 c2 d0 d1 d2 d3
  unfold sv
  go_upto_region 2 with fail
  generalize (w2.alloc (.cells #[.bool ox, .slice Ax nx cx, .int .i64 zx, .slice Bx mx dx] 29)).alloc (.cells #[.bool oy, .slice Ay ny cy, .int .i64 zy, .slice By my dy] 29) = w3 at *
  go_upto_region 4 with fail
  have hd : Below w3.heap.size w3 w3.drew := (Below.refl _ _).drew
  have HX4 : Hid (CX [(g, 0, .slice (some ⟨gl, 0, none⟩) lq lc), (w2.heap.size, 0, .bool ox), (w2.heap.size, 1, .slice Ax nx cx), (w2.heap.size, 2, .int .i64 zx), (w2.heap.size, 3, .slice Bx mx dx), (w2.heap.size + 1, 0, .bool oy), (w2.heap.size + 1, 1, .slice Ay ny cy), (w2.heap.size + 1, 2, .int .i64 zy), (w2.heap.size + 1, 3, .slice By my dy)] w3.drew) := Lib.hid (by
    have h1 := HBX.out.next hd
    obtain ⟨c0, _, _⟩ := (HT3.out.next hd).c3
    rw [HLQ.out, HLC.out] at c0
    intro f hf
    rcases List.mem_cons.1 hf with rfl | hf
    · exact c0
    · exact h1 f hf)
  have HT4 := Lib.hid (HT3.out.next hd)
  have HXI4 := Lib.hid (I.InT.up HXI.out hd)
  have HXE4 := Lib.hid (E.InP.up HXE.out hd)
  have HYI4 := Lib.hid (I.InT.up HYI.out hd)
  have HYE4 := Lib.hid (E.InP.up HYE.out hd)
  have HBE4 := Lib.hid (HBE.out.trans (hd.mono (Nat.le_trans hB HBE.out.size)))
  refine wp_region_held_drew (S := fun W => CX [(g, 0, .slice (some ⟨gl, 0, none⟩) lq lc), (w2.heap.size, 0, .bool ox), (w2.heap.size, 1, .slice Ax nx cx), (w2.heap.size, 2, .int .i64 zx), (w2.heap.size, 3, .slice Bx mx dx), (w2.heap.size + 1, 0, .bool oy), (w2.heap.size + 1, 1, .slice Ay ny cy), (w2.heap.size + 1, 2, .int .i64 zy), (w2.heap.size + 1, 3, .slice By my dy)] W) (by kernel_rfl) HX4.out (fun hS => ?_)
  clear hd HT3 HXI HXE HYI HYE HBE HBX
  generalize w3.drew = wd at *
  refine wpAnyH_take (i := 0) (v := ?_) rfl (by kernel_rfl) (by kernel_rfl) (by kernel_rfl) (fun _ _ _ h => h) (Yields.yieldsIf (Or.inl ⟨by kernel_rfl, ?_⟩)) hS ?_
  rotate_left
  · first | (intro w; go_simp; done) | (intro w; go_simp; with_reducible rfl)
  refine wpAnyH_take (i := 1) (v := ?_) rfl (by kernel_rfl) (by kernel_rfl) (by kernel_rfl) (fun _ _ _ h => h) (Yields.yieldsIf (Or.inl ⟨by kernel_rfl, ?_⟩)) hS ?_
  rotate_left
  · first | (intro w; go_simp; done) | (intro w; go_simp; with_reducible rfl)
  refine wpAnyH_take (i := 2) (v := ?_) rfl (by kernel_rfl) (by kernel_rfl) (by kernel_rfl) (fun _ _ _ h => h) (Yields.yieldsIf (Or.inl ⟨by kernel_rfl, ?_⟩)) hS ?_
  rotate_left
  · first | (intro w; go_simp; done) | (intro w; go_simp; with_reducible rfl)
  refine wpAnyH_take (i := 3) (v := ?_) rfl (by kernel_rfl) (by kernel_rfl) (by kernel_rfl) (fun _ _ _ h => h) (Or.inl ⟨by kernel_rfl, fun W hW => ?_⟩) hS ?_
  rotate_left
  · have f := hW
    simp only [CX, List.mem_cons, List.not_mem_nil, or_false, forall_eq_or_imp, forall_eq] at f
    obtain ⟨p0, p1, p2, p3, p4, p5, p6, p7, p8⟩ := f
    first | (go_simp; done) | (go_simp; with_reducible rfl)
  refine wpAnyH_take (i := 4) (v := ?_) rfl (by kernel_rfl) (by kernel_rfl) (by kernel_rfl) (fun _ _ _ h => h) (Yields.yieldsIf (Or.inl ⟨by kernel_rfl, ?_⟩)) hS ?_
  rotate_left
  · first | (intro w; go_simp; done) | (intro w; go_simp; with_reducible rfl)
  refine wpAnyH_take (i := 5) (v := ?_) rfl (by kernel_rfl) (by kernel_rfl) (by kernel_rfl) (fun _ _ _ h => h) (Or.inl ⟨by kernel_rfl, fun W hW => ?_⟩) hS ?_
  rotate_left
  · have f := hW
    simp only [CX, List.mem_cons, List.not_mem_nil, or_false, forall_eq_or_imp, forall_eq] at f
    obtain ⟨p0, p1, p2, p3, p4, p5, p6, p7, p8⟩ := f
    first | (go_simp; done) | (go_simp; with_reducible rfl)
  refine wpAnyH_take (i := 6) (v := ?_) rfl (by kernel_rfl) (by kernel_rfl) (by kernel_rfl) (fun _ _ _ h => h) (Yields.yieldsIf (Or.inl ⟨by kernel_rfl, ?_⟩)) hS ?_
  rotate_left
  · first | (intro w; go_simp; done) | (intro w; go_simp; with_reducible rfl)
  try go_simp
  refine wpAnyH_ready (rs := [7]) (by kernel_rfl) (by simp) ?_
  refine AllReadyH.cons rfl (fun K hK => ?_) AllReadyH.nil
  obtain ⟨s0, k0, k1, k2⟩ := HT4.out.el a q HQ.out
  obtain ⟨d0, d1, d2, d3⟩ := HT4.out.c4 k0
  have f0 := HT4.out.bl.frozen (a * 4)
  have f1 := HT4.out.bl.frozen (a * 4 + 1)
  have f2 := HT4.out.bl.frozen (a * 4 + 2)
  have f3 := HT4.out.bl.frozen (a * 4 + 3)
  clear k0 k1 k2
  go_simp
  go_wp2
  refine hK.out _ _ (HX4.out.but (put4_but wd gl a ⟨ox, Ax, nx, cx, zx, Bx, mx, dx⟩) (by simp only [List.mem_cons, List.not_mem_nil, or_false, forall_eq_or_imp, forall_eq]; omega)) (fun hS => ?_)
  clear hK K
  have hsz : (put4 wd gl a ⟨ox, Ax, nx, cx, zx, Bx, mx, dx⟩).heap.size = wd.heap.size := put4_size _ _ _ _
  have HT8 : Hid (Stt ((((wd.setCell ⟨gl, a * 4, none⟩ (.bool ox)).setCell ⟨gl, a * 4 + 1, none⟩ (.slice Ax nx cx)).setCell ⟨gl, a * 4 + 2, none⟩ (.int .i64 zx)).setCell ⟨gl, a * 4 + 3, none⟩ (.slice Bx mx dx)) B g gl gs (CS.set a ⟨ox, Ax, nx, cx, zx, Bx, mx, dx⟩) SS (Q.set a (i1, e1, q.2.2)) n) := Lib.hid (HT4.out.put HQ.out ⟨ox, Ax, nx, cx, zx, Bx, mx, dx⟩ HXI4.out HXE4.out)
  have HYI8 : Hid (IT ((((wd.setCell ⟨gl, a * 4, none⟩ (.bool ox)).setCell ⟨gl, a * 4 + 1, none⟩ (.slice Ax nx cx)).setCell ⟨gl, a * 4 + 2, none⟩ (.int .i64 zx)).setCell ⟨gl, a * 4 + 3, none⟩ (.slice Bx mx dx)) i2 (I.tv oy Ay ny cy)) := Lib.hid ((cellsS_noT HT4.out.bl).it (put4_but wd gl a ⟨ox, Ax, nx, cx, zx, Bx, mx, dx⟩) (Nat.le_of_eq hsz.symm) HYI4.out)
  have HYE8 : Hid (ET ((((wd.setCell ⟨gl, a * 4, none⟩ (.bool ox)).setCell ⟨gl, a * 4 + 1, none⟩ (.slice Ax nx cx)).setCell ⟨gl, a * 4 + 2, none⟩ (.int .i64 zx)).setCell ⟨gl, a * 4 + 3, none⟩ (.slice Bx mx dx)) e2 (E.tv zy By my dy)) := Lib.hid ((cellsS_noT HT4.out.bl).et (put4_but wd gl a ⟨ox, Ax, nx, cx, zx, Bx, mx, dx⟩) (Nat.le_of_eq hsz.symm) HYE4.out)
  have HBY8 : Hid (CX [(w2.heap.size + 1, 0, .bool oy), (w2.heap.size + 1, 1, .slice Ay ny cy), (w2.heap.size + 1, 2, .int .i64 zy), (w2.heap.size + 1, 3, .slice By my dy)] ((((wd.setCell ⟨gl, a * 4, none⟩ (.bool ox)).setCell ⟨gl, a * 4 + 1, none⟩ (.slice Ax nx cx)).setCell ⟨gl, a * 4 + 2, none⟩ (.int .i64 zx)).setCell ⟨gl, a * 4 + 3, none⟩ (.slice Bx mx dx))) := Lib.hid ((HX4.out.but (put4_but wd gl a ⟨ox, Ax, nx, cx, zx, Bx, mx, dx⟩) (by simp only [List.mem_cons, List.not_mem_nil, or_false, forall_eq_or_imp, forall_eq]; omega)).sub (by simp))
  have HBE8 : Hid (Below B W ((((wd.setCell ⟨gl, a * 4, none⟩ (.bool ox)).setCell ⟨gl, a * 4 + 1, none⟩ (.slice Ax nx cx)).setCell ⟨gl, a * 4 + 2, none⟩ (.int .i64 zx)).setCell ⟨gl, a * 4 + 3, none⟩ (.slice Bx mx dx))) := Lib.hid (put4_below HBE4.out HT4.out.hB.2.1 a ⟨ox, Ax, nx, cx, zx, Bx, mx, dx⟩)
  clear HT4 HXI4 HXE4 HYI4 HYE4 HBE4 HX4 hS hsz d0 d1 d2 d3 f0 f1 f2 f3
  generalize (((wd.setCell ⟨gl, a * 4, none⟩ (.bool ox)).setCell ⟨gl, a * 4 + 1, none⟩ (.slice Ax nx cx)).setCell ⟨gl, a * 4 + 2, none⟩ (.int .i64 zx)).setCell ⟨gl, a * 4 + 3, none⟩ (.slice Bx mx dx) = w8 at *
  try go_simp
  refine wpAnyH_done (by kernel_rfl) ?_ _
  go_upto_region 5 with fail
  obtain ⟨Q8, hQ8⟩ : ∃ Q8, Q.set a (i1, e1, q.2.2) = Q8 := ⟨_, rfl⟩
  have hl8 : Q8.length = lq := by rw [← hQ8, List.length_set]; exact HLQ.out
  obtain ⟨CS8, hC8⟩ : ∃ C, CS.set a ⟨ox, Ax, nx, cx, zx, Bx, mx, dx⟩ = C := ⟨_, rfl⟩
  have hc8 : CS8.length = lc := by rw [← hC8, List.length_set]; exact HLC.out
  rw [hQ8, hC8] at HT8
  have hRQ : Q8[a]? = some (i1, e1, q.2.2) := by rw [← hQ8, List.getElem?_set, if_pos rfl, if_pos HA.out]
  have HQ8 := Lib.hid hQ8
  have HRQ := Lib.hid hRQ
  have HL8 := Lib.hid hl8
  have HC8 := Lib.hid hc8
  clear hQ8 hC8 hl8 hc8 hRQ
  have hd : Below w8.heap.size w8 w8.drew := (Below.refl _ _).drew
  have HT9 := Lib.hid (HT8.out.next hd).x
  have HYI9 := Lib.hid (I.InT.up HYI8.out hd)
  have HYE9 := Lib.hid (E.InP.up HYE8.out hd)
  have HX9 := Lib.hid (HBY8.out.next hd)
  have HBE9 := Lib.hid (HBE8.out.trans (hd.mono (Nat.le_trans hB HBE8.out.size)))
  refine wp_region_held_drew (S := fun W => CX [(w2.heap.size + 1, 0, .bool oy), (w2.heap.size + 1, 1, .slice Ay ny cy), (w2.heap.size + 1, 2, .int .i64 zy), (w2.heap.size + 1, 3, .slice By my dy)] W) (by kernel_rfl) HX9.out (fun hS => ?_)
  clear hd HT8 HYI8 HYE8 HBY8 HBE8
  generalize w8.drew = wd8 at *
  refine wpAnyH_take (i := 0) (v := ?_) rfl (by kernel_rfl) (by kernel_rfl) (by kernel_rfl) (fun _ _ _ h => h) (Yields.yieldsIf (Or.inl ⟨by kernel_rfl, ?_⟩)) hS ?_
  rotate_left
  · first | (intro w; go_simp; done) | (intro w; go_simp; with_reducible rfl)
  refine wpAnyH_take (i := 1) (v := ?_) rfl (by kernel_rfl) (by kernel_rfl) (by kernel_rfl) (fun _ _ _ h => h) (Yields.yieldsIf (Or.inl ⟨by kernel_rfl, ?_⟩)) hS ?_
  rotate_left
  · first | (intro w; go_simp; done) | (intro w; go_simp; with_reducible rfl)
  refine wpAnyH_take (i := 2) (v := ?_) rfl (by kernel_rfl) (by kernel_rfl) (by kernel_rfl) (fun _ _ _ h => h) (Yields.yieldsIf (Or.inl ⟨by kernel_rfl, ?_⟩)) hS ?_
  rotate_left
  · first | (intro w; go_simp; done) | (intro w; go_simp; with_reducible rfl)
  refine wpAnyH_take (i := 3) (v := ?_) rfl (by kernel_rfl) (by kernel_rfl) (by kernel_rfl) (fun _ _ _ h => h) (Yields.yieldsIf (Or.inl ⟨by kernel_rfl, ?_⟩)) hS ?_
  rotate_left
  · first | (intro w; go_simp; done) | (intro w; go_simp; with_reducible rfl)
  refine wpAnyH_take (i := 5) (v := ?_) rfl (by kernel_rfl) (by kernel_rfl) (by kernel_rfl) (fun _ _ _ h => h) (Or.inl ⟨by kernel_rfl, fun W hW => ?_⟩) hS ?_
  rotate_left
  · have f := hW
    simp only [CX, List.mem_cons, List.not_mem_nil, or_false, forall_eq_or_imp, forall_eq] at f
    obtain ⟨p0, p1, p2, p3⟩ := f
    first | (go_simp; done) | (go_simp; with_reducible rfl)
  try go_simp
  refine wpAnyH_ready (rs := [4, 6]) (by kernel_rfl) (by simp) ?_
  refine AllReadyH.cons rfl (fun K hK => ?_) (AllReadyH.cons rfl (fun K hK => ?_) AllReadyH.nil)
  · have k0 := HT9.out.c3.1
    rw [HL8.out, HC8.out] at k0
    skip
    go_simp
    have hS3 : CX [(w2.heap.size + 1, 0, .bool oy), (w2.heap.size + 1, 1, .slice Ay ny cy), (w2.heap.size + 1, 2, .int .i64 zy), (w2.heap.size + 1, 3, .slice By my dy)] wd8 := HX9.out
    clear k0
    refine hK.out _ _ hS3 (fun hS => ?_)
    clear hK K hS3
    try go_simp
    refine wpAnyH_ready (rs := [6]) (by kernel_rfl) (by simp) ?_
    refine AllReadyH.cons rfl (fun K hK => ?_) AllReadyH.nil
    have hb10 : Below wd8.heap.size wd8 (wd8.alloc (.cells #[.bool oy, .slice Ay ny cy, .int .i64 zy, .slice By my dy] 29)) := (Below.refl _ _).alloc (Nat.le_refl _) _
    have HT10 := Lib.hid (HT9.out.next hb10)
    have HYI10 := Lib.hid (I.InT.up HYI9.out hb10)
    have HYE10 := Lib.hid (E.InP.up HYE9.out hb10)
    have HX10 := Lib.hid (HX9.out.next hb10)
    have HBE10 := Lib.hid (HBE9.out.trans (hb10.mono (Nat.le_trans hB HBE9.out.size)))
    have HNC : Hid (∀ j u, (Sc.l ⟨oy, Ay, ny, cy, zy, By, my, dy⟩)[j]? = some u → (wd8.alloc (.cells #[.bool oy, .slice Ay ny cy, .int .i64 zy, .slice By my dy] 29)).cell? ((⟨wd8.heap.size, 0, none⟩ : Addr).add j) = some u) := Lib.hid (new_cells wd8 ⟨oy, Ay, ny, cy, zy, By, my, dy⟩)
    clear hb10
    go_simp
    refine hK.out _ _ (HX10.out) (fun hS => ?_)
    clear hK K
    try go_simp
    refine wpAnyH_ready (rs := [7]) (by kernel_rfl) (by simp) ?_
    refine AllReadyH.cons rfl (fun K hK => ?_) AllReadyH.nil
    obtain ⟨g', CS', w11, hap, hAS⟩ := app_st HT10.out.bl (n := lq) (by rw [HC8.out, ← HL8.out, ← HC8.out]; exact HT10.out.lc) (by omega) ⟨oy, Ay, ny, cy, zy, By, my, dy⟩ ⟨wd8.heap.size, 0, none⟩ 1 HNC.out
    rw [HC8.out] at hap
    have HAS := Lib.hid hAS
    have HAP := Lib.hid hap
    clear hap hAS
    refine oper_append_run _ _ _ _ rfl _ _ rfl rfl HAP.out ?_
    go_simp
    have HX11 : Hid (CX [(w2.heap.size + 1, 0, .bool oy), (w2.heap.size + 1, 1, .slice Ay ny cy), (w2.heap.size + 1, 2, .int .i64 zy), (w2.heap.size + 1, 3, .slice By my dy)] w11) := Lib.hid (HX10.out.but (grown_but HAS.out.grw) (by simp only [List.mem_cons, List.not_mem_nil, or_false, forall_eq_or_imp, forall_eq]; omega))
    refine hK.out _ _ (HX11.out) (fun hS => ?_)
    clear hK K
    refine wpAnyH_take (i := 8) (v := ?_) rfl (by kernel_rfl) (by kernel_rfl) (by kernel_rfl) (fun _ _ _ h => h) (Yields.yieldsIf (Or.inl ⟨by kernel_rfl, ?_⟩)) hS ?_
    rotate_left
    · first | (intro w; go_simp; done) | (intro w; go_simp; with_reducible rfl)
    refine wpAnyH_take (i := 9) (v := ?_) rfl (by kernel_rfl) (by kernel_rfl) (by kernel_rfl) (fun _ _ _ h => h) (Yields.yieldsIf (Or.inl ⟨by kernel_rfl, ?_⟩)) hS ?_
    rotate_left
    · first | (intro w; go_simp; done) | (intro w; go_simp; with_reducible rfl)
    try go_simp
    refine wpAnyH_ready (rs := [10]) (by kernel_rfl) (by simp) ?_
    refine AllReadyH.cons rfl (fun K hK => ?_) AllReadyH.nil
    have k0 : w11.cell? ⟨g, 0, none⟩ = some (.slice (some ⟨gl, 0, none⟩) Q8.length CS8.length) := (grown_but HAS.out.grw).cell (by omega) HT10.out.c3.1
    have f0 : w11.frozen? ⟨g, 0, none⟩ = false := (grown_blk HT10.out.st HAS.out.grw (by omega)).frozen 0
    go_simp
    go_wp2
    refine hK.out _ _ (HX11.out.but (set_but w11 g 0 (.slice (some ⟨g', 0, none⟩) (lq + 1) CS'.length)) (by simp only [List.mem_cons, List.not_mem_nil, or_false, forall_eq_or_imp, forall_eq]; omega)) (fun hS => ?_)
    clear hK K
    have HT12 : Hid (Stx (w11.setCell ⟨g, 0, none⟩ (.slice (some ⟨g', 0, none⟩) (lq + 1) CS'.length)) B g g' gs CS' SS (Q8 ++ [(i2, e2, q.2.2)]) Q8 n) := Lib.hid (by
      have hAS := HAS.out
      rw [← HL8.out] at hAS ⊢
      exact HT10.out.appL hAS (q := (i2, e2, q.2.2)) HYI10.out HYE10.out (Nat.le_trans hB HBE10.out.size))
    have HBE12 : Hid (Below B W (w11.setCell ⟨g, 0, none⟩ (.slice (some ⟨g', 0, none⟩) (lq + 1) CS'.length))) := Lib.hid ((HBE10.out.grown HAS.out.grw (Nat.le_trans hB HBE10.out.size) (by rintro k hk; injection hk with hk; subst hk; exact HT10.out.hB.2.1)).setCell (p := ⟨g, 0, none⟩) HT10.out.hB.1 _)
    clear HT9 HT10 HYI9 HYI10 HYE9 HYE10 HX9 HX10 HX11 HBE9 HBE10 HAS HAP HNC hS k0 f0
    generalize w11.setCell ⟨g, 0, none⟩ (.slice (some ⟨g', 0, none⟩) (lq + 1) CS'.length) = w12 at *
    try go_simp
    refine wpAnyH_done (by kernel_rfl) ?_ _
    go_upto_region 6 with fail
    have hd : Below w12.heap.size w12 w12.drew := (Below.refl _ _).drew
    have HT19 := Lib.hid (HT12.out.next hd)
    have HX19 : Hid (CX [(gs, a, .slice A q.2.2.length c)] w12.drew) := Lib.hid (by
      have h1 := HT19.out.c1 HR.out
      intro f hf
      simp only [List.mem_singleton] at hf
      subst hf
      exact h1)
    have HBE19 := Lib.hid (HBE12.out.trans (hd.mono (Nat.le_trans hB HBE12.out.size)))
    have HRK19 : Hid (RowK w12.drew ⟨A, q.2.2.length, c⟩ q.2.2) := Lib.hid (by
      obtain ⟨r, h1, h2⟩ := HT19.out.er a _ HRQ.out
      rw [HR.out] at h1
      injection h1 with h1
      subst h1
      exact h2)
    refine wp_region_held_drew (S := fun W => CX [(gs, a, .slice A q.2.2.length c)] W) (by kernel_rfl) HX19.out (fun hS => ?_)
    clear hd HT12 HBE12
    generalize w12.drew = wd12 at *
    refine wpAnyH_take (i := 0) (v := ?_) rfl (by kernel_rfl) (by kernel_rfl) (by kernel_rfl) (fun _ _ _ h => h) (Yields.yieldsIf (Or.inl ⟨by kernel_rfl, ?_⟩)) hS ?_
    rotate_left
    · first | (intro w; go_simp; done) | (intro w; go_simp; with_reducible rfl)
    refine wpAnyH_take (i := 1) (v := ?_) rfl (by kernel_rfl) (by kernel_rfl) (by kernel_rfl) (fun _ _ _ h => h) (Yields.yieldsIf (Or.inl ⟨by kernel_rfl, ?_⟩)) hS ?_
    rotate_left
    · first | (intro w; go_simp; done) | (intro w; go_simp; with_reducible rfl)
    refine wpAnyH_take (i := 2) (v := ?_) rfl (by kernel_rfl) (by kernel_rfl) (by kernel_rfl) (fun _ _ _ h => h) (Yields.yieldsIf (Or.inl ⟨by kernel_rfl, ?_⟩)) hS ?_
    rotate_left
    · first | (intro w; go_simp; done) | (intro w; go_simp; with_reducible rfl)
    refine wpAnyH_take (i := 3) (v := ?_) rfl (by kernel_rfl) (by kernel_rfl) (by kernel_rfl) (fun _ _ _ h => h) (Yields.yieldsIf (Or.inl ⟨by kernel_rfl, ?_⟩)) hS ?_
    rotate_left
    · first | (intro w; go_simp; done) | (intro w; go_simp; with_reducible rfl)
    refine wpAnyH_take (i := 5) (v := ?_) rfl (by kernel_rfl) (by kernel_rfl) (by kernel_rfl) (fun _ _ _ h => h) (Yields.yieldsIf (Or.inl ⟨by kernel_rfl, ?_⟩)) hS ?_
    rotate_left
    · first | (intro w; go_simp; done) | (intro w; go_simp; with_reducible rfl)
    refine wpAnyH_take (i := 6) (v := ?_) rfl (by kernel_rfl) (by kernel_rfl) (by kernel_rfl) (fun _ _ _ h => h) (Yields.yieldsIf (Or.inl ⟨by kernel_rfl, ?_⟩)) hS ?_
    rotate_left
    · first | (intro w; go_simp; done) | (intro w; go_simp; with_reducible rfl)
    refine wpAnyH_take (i := 7) (v := ?_) rfl (by kernel_rfl) (by kernel_rfl) (by kernel_rfl) (fun _ _ _ h => h) (Yields.yieldsIf (Or.inl ⟨by kernel_rfl, ?_⟩)) hS ?_
    rotate_left
    · first | (intro w; go_simp; done) | (intro w; go_simp; with_reducible rfl)
    refine wpAnyH_take (i := 9) (v := ?_) rfl (by kernel_rfl) (by kernel_rfl) (by kernel_rfl) (fun _ _ _ h => h) (Yields.yieldsIf (Or.inl ⟨by kernel_rfl, ?_⟩)) hS ?_
    rotate_left
    · first | (intro w; go_simp; done) | (intro w; go_simp; with_reducible rfl)
    try go_simp
    refine wpAnyH_ready (rs := [4, 8]) (by kernel_rfl) (by simp) ?_
    refine AllReadyH.cons rfl (fun K hK => ?_) (AllReadyH.cons rfl (fun K hK => ?_) AllReadyH.nil)
    · have k0 := HT19.out.c3.2.1
      rw [HL8.out, HLS.out] at k0
      go_simp
      have hS3 : CX [(gs, a, .slice A q.2.2.length c)] wd12 := HX19.out
      clear k0
      refine hK.out _ _ hS3 (fun hS => ?_)
      clear hK K hS3
      try go_simp
      refine wpAnyH_ready (rs := [8]) (by kernel_rfl) (by simp) ?_
      refine AllReadyH.cons rfl (fun K hK => ?_) AllReadyH.nil
      have k0 := HT19.out.c3.2.1
      rw [HL8.out, HLS.out] at k0
      go_simp
      have hS3 : CX [(gs, a, .slice A q.2.2.length c)] wd12 := HX19.out
      clear k0
      refine hK.out _ _ hS3 (fun hS => ?_)
      clear hK K hS3
      refine wpAnyH_take (i := 10) (v := ?_) rfl (by kernel_rfl) (by kernel_rfl) (by kernel_rfl) (fun _ _ _ h => h) (Yields.yieldsIf (Or.inl ⟨by kernel_rfl, ?_⟩)) hS ?_
      rotate_left
      · first | (intro w; go_simp; done) | (intro w; go_simp; with_reducible rfl)
      refine wpAnyH_take (i := 11) (v := ?_) rfl (by kernel_rfl) (by kernel_rfl) (by kernel_rfl) (fun _ _ _ h => h) (Or.inl ⟨by kernel_rfl, fun W hW => ?_⟩) hS ?_
      rotate_left
      · have f := hW
        simp only [CX, List.mem_cons, List.not_mem_nil, or_false, forall_eq_or_imp, forall_eq] at f
        have p0 := f
        first | (go_simp; done) | (go_simp; with_reducible rfl)
      try go_simp
      refine wpAnyH_ready (rs := [12]) (by kernel_rfl) (by simp) ?_
      refine AllReadyH.cons rfl (fun K hK => ?_) AllReadyH.nil
      have hb20 : Below wd12.heap.size wd12 (wd12.alloc (.cells #[.slice A q.2.2.length c] 74)) := (Below.refl _ _).alloc (Nat.le_refl _) _
      have HT20 := Lib.hid (HT19.out.next hb20)
      have HX20 := Lib.hid (HX19.out.next hb20)
      have HRK20 := Lib.hid (HRK19.out.up hb20)
      have HBE20 := Lib.hid (HBE19.out.trans (hb20.mono (Nat.le_trans hB HBE19.out.size)))
      have HNC : Hid (∀ j u, [(Rw.mk A q.2.2.length c).v][j]? = some u → (wd12.alloc (.cells #[.slice A q.2.2.length c] 74)).cell? ((⟨wd12.heap.size, 0, none⟩ : Addr).add j) = some u) := Lib.hid (cell_one_new wd12 _ 74)
      clear hb20
      go_simp
      refine hK.out _ _ (HX20.out) (fun hS => ?_)
      clear hK K
      try go_simp
      refine wpAnyH_ready (rs := [13]) (by kernel_rfl) (by simp) ?_
      refine AllReadyH.cons rfl (fun K hK => ?_) AllReadyH.nil
      obtain ⟨g'', SS', w21, hap, hAS⟩ := app_rw HT20.out.bs (n := lq) (by have := HT20.out.ls; rw [HL8.out] at this; exact this) (by omega) ⟨A, q.2.2.length, c⟩ ⟨wd12.heap.size, 0, none⟩ 1 HNC.out
      rw [HLS.out] at hap
      have HAS := Lib.hid hAS
      have HAP := Lib.hid hap
      have lz : a < lq := by have := HA.out; rw [HLQ.out] at this; exact this
      have HX21 : Hid (CX [(gs, a, .slice A q.2.2.length c)] w21) := Lib.hid (by
        have h1 : SS'[a]? = some ⟨A, q.2.2.length, c⟩ := (HAS.out.old a lz).trans HR.out
        have h0 := HX20.out
        intro f hf
        simp only [List.mem_singleton] at hf
        subst hf
        by_cases hg : g'' = gs
        · subst hg
          exact (HAS.out.blk.cell a).trans (cellsR_get SS' a _ h1)
        · exact ((HAS.out.rst.resolve_left hg).cell a).trans (cellsR_get SS a _ HR.out))
      clear hap hAS lz
      refine oper_append_run _ _ _ _ rfl _ _ rfl rfl HAP.out ?_
      go_simp
      refine hK.out _ _ (HX21.out) (fun hS => ?_)
      clear hK K
      refine wpAnyH_take (i := 14) (v := ?_) rfl (by kernel_rfl) (by kernel_rfl) (by kernel_rfl) (fun _ _ _ h => h) (Yields.yieldsIf (Or.inl ⟨by kernel_rfl, ?_⟩)) hS ?_
      rotate_left
      · first | (intro w; go_simp; done) | (intro w; go_simp; with_reducible rfl)
      refine wpAnyH_take (i := 15) (v := ?_) rfl (by kernel_rfl) (by kernel_rfl) (by kernel_rfl) (fun _ _ _ h => h) (Yields.yieldsIf (Or.inl ⟨by kernel_rfl, ?_⟩)) hS ?_
      rotate_left
      · first | (intro w; go_simp; done) | (intro w; go_simp; with_reducible rfl)
      try go_simp
      refine wpAnyH_ready (rs := [16]) (by kernel_rfl) (by simp) ?_
      refine AllReadyH.cons rfl (fun K hK => ?_) AllReadyH.nil
      have k0 : w21.cell? ⟨g, 1, none⟩ = some (.slice (some ⟨gs, 0, none⟩) Q8.length SS.length) := (grown_but HAS.out.grw).cell (by omega) HT20.out.c3.2.1
      have f0 : w21.frozen? ⟨g, 1, none⟩ = false := (grown_blk HT20.out.st HAS.out.grw (by omega)).frozen 1
      go_simp
      go_wp2
      refine hK.out _ _ (HX21.out.but (set_but w21 g 1 (.slice (some ⟨g'', 0, none⟩) (lq + 1) SS'.length)) (by simp only [List.mem_singleton, forall_eq]; omega)) (fun hS => ?_)
      clear hK K
      have HT22 : Hid (Stx (w21.setCell ⟨g, 1, none⟩ (.slice (some ⟨g'', 0, none⟩) (lq + 1) SS'.length)) B g g' g'' CS' SS' (Q8 ++ [(i2, e2, q.2.2)]) (Q8 ++ [(i2, e2, q.2.2)]) n) := Lib.hid (by
        have hAS := HAS.out
        rw [← HL8.out] at hAS ⊢
        exact HT20.out.appR hAS (q := (i2, e2, q.2.2)) HRK20.out (Nat.le_trans hB HBE20.out.size))
      have HBE22 : Hid (Below B W (w21.setCell ⟨g, 1, none⟩ (.slice (some ⟨g'', 0, none⟩) (lq + 1) SS'.length))) := Lib.hid ((HBE20.out.grown HAS.out.grw (Nat.le_trans hB HBE20.out.size) (by rintro k hk; injection hk with hk; subst hk; exact HT20.out.hB.2.2)).setCell (p := ⟨g, 1, none⟩) HT20.out.hB.1 _)
      clear HT19 HT20 HX19 HX20 HX21 HBE19 HBE20 HRK19 HRK20 HAS HAP HNC hS k0 f0
      generalize w21.setCell ⟨g, 1, none⟩ (.slice (some ⟨g'', 0, none⟩) (lq + 1) SS'.length) = w22 at *
      try go_simp
      refine wpAnyH_done (by kernel_rfl) ?_ _
      go_wp2
      go_ret
      rw [HQ8.out]
      exact ⟨rfl, ⟨g', g'', _, _, HT22.out.t⟩, HBE22.out⟩
    · have k0 := HT19.out.c3.2.1
      rw [HL8.out, HLS.out] at k0
      go_simp
      have hS3 : CX [(gs, a, .slice A q.2.2.length c)] wd12 := HX19.out
      clear k0
      refine hK.out _ _ hS3 (fun hS => ?_)
      clear hK K hS3
      refine wpAnyH_take (i := 10) (v := ?_) rfl (by kernel_rfl) (by kernel_rfl) (by kernel_rfl) (fun _ _ _ h => h) (Yields.yieldsIf (Or.inl ⟨by kernel_rfl, ?_⟩)) hS ?_
      rotate_left
      · first | (intro w; go_simp; done) | (intro w; go_simp; with_reducible rfl)
      refine wpAnyH_take (i := 11) (v := ?_) rfl (by kernel_rfl) (by kernel_rfl) (by kernel_rfl) (fun _ _ _ h => h) (Or.inl ⟨by kernel_rfl, fun W hW => ?_⟩) hS ?_
      rotate_left
      · have f := hW
        simp only [CX, List.mem_cons, List.not_mem_nil, or_false, forall_eq_or_imp, forall_eq] at f
        have p0 := f
        first | (go_simp; done) | (go_simp; with_reducible rfl)
      try go_simp
      refine wpAnyH_ready (rs := [4, 12]) (by kernel_rfl) (by simp) ?_
      refine AllReadyH.cons rfl (fun K hK => ?_) (AllReadyH.cons rfl (fun K hK => ?_) AllReadyH.nil)
      · have k0 := HT19.out.c3.2.1
        rw [HL8.out, HLS.out] at k0
        go_simp
        have hS3 : CX [(gs, a, .slice A q.2.2.length c)] wd12 := HX19.out
        clear k0
        refine hK.out _ _ hS3 (fun hS => ?_)
        clear hK K hS3
        try go_simp
        refine wpAnyH_ready (rs := [12]) (by kernel_rfl) (by simp) ?_
        refine AllReadyH.cons rfl (fun K hK => ?_) AllReadyH.nil
        have hb20 : Below wd12.heap.size wd12 (wd12.alloc (.cells #[.slice A q.2.2.length c] 74)) := (Below.refl _ _).alloc (Nat.le_refl _) _
        have HT20 := Lib.hid (HT19.out.next hb20)
        have HX20 := Lib.hid (HX19.out.next hb20)
        have HRK20 := Lib.hid (HRK19.out.up hb20)
        have HBE20 := Lib.hid (HBE19.out.trans (hb20.mono (Nat.le_trans hB HBE19.out.size)))
        have HNC : Hid (∀ j u, [(Rw.mk A q.2.2.length c).v][j]? = some u → (wd12.alloc (.cells #[.slice A q.2.2.length c] 74)).cell? ((⟨wd12.heap.size, 0, none⟩ : Addr).add j) = some u) := Lib.hid (cell_one_new wd12 _ 74)
        clear hb20
        go_simp
        refine hK.out _ _ (HX20.out) (fun hS => ?_)
        clear hK K
        try go_simp
        refine wpAnyH_ready (rs := [13]) (by kernel_rfl) (by simp) ?_
        refine AllReadyH.cons rfl (fun K hK => ?_) AllReadyH.nil
        obtain ⟨g'', SS', w21, hap, hAS⟩ := app_rw HT20.out.bs (n := lq) (by have := HT20.out.ls; rw [HL8.out] at this; exact this) (by omega) ⟨A, q.2.2.length, c⟩ ⟨wd12.heap.size, 0, none⟩ 1 HNC.out
        rw [HLS.out] at hap
        have HAS := Lib.hid hAS
        have HAP := Lib.hid hap
        have lz : a < lq := by have := HA.out; rw [HLQ.out] at this; exact this
        have HX21 : Hid (CX [(gs, a, .slice A q.2.2.length c)] w21) := Lib.hid (by
          have h1 : SS'[a]? = some ⟨A, q.2.2.length, c⟩ := (HAS.out.old a lz).trans HR.out
          have h0 := HX20.out
          intro f hf
          simp only [List.mem_singleton] at hf
          subst hf
          by_cases hg : g'' = gs
          · subst hg
            exact (HAS.out.blk.cell a).trans (cellsR_get SS' a _ h1)
          · exact ((HAS.out.rst.resolve_left hg).cell a).trans (cellsR_get SS a _ HR.out))
        clear hap hAS lz
        refine oper_append_run _ _ _ _ rfl _ _ rfl rfl HAP.out ?_
        go_simp
        refine hK.out _ _ (HX21.out) (fun hS => ?_)
        clear hK K
        refine wpAnyH_take (i := 14) (v := ?_) rfl (by kernel_rfl) (by kernel_rfl) (by kernel_rfl) (fun _ _ _ h => h) (Yields.yieldsIf (Or.inl ⟨by kernel_rfl, ?_⟩)) hS ?_
        rotate_left
        · first | (intro w; go_simp; done) | (intro w; go_simp; with_reducible rfl)
        refine wpAnyH_take (i := 15) (v := ?_) rfl (by kernel_rfl) (by kernel_rfl) (by kernel_rfl) (fun _ _ _ h => h) (Yields.yieldsIf (Or.inl ⟨by kernel_rfl, ?_⟩)) hS ?_
        rotate_left
        · first | (intro w; go_simp; done) | (intro w; go_simp; with_reducible rfl)
        try go_simp
        refine wpAnyH_ready (rs := [16]) (by kernel_rfl) (by simp) ?_
        refine AllReadyH.cons rfl (fun K hK => ?_) AllReadyH.nil
        have k0 : w21.cell? ⟨g, 1, none⟩ = some (.slice (some ⟨gs, 0, none⟩) Q8.length SS.length) := (grown_but HAS.out.grw).cell (by omega) HT20.out.c3.2.1
        have f0 : w21.frozen? ⟨g, 1, none⟩ = false := (grown_blk HT20.out.st HAS.out.grw (by omega)).frozen 1
        go_simp
        go_wp2
        refine hK.out _ _ (HX21.out.but (set_but w21 g 1 (.slice (some ⟨g'', 0, none⟩) (lq + 1) SS'.length)) (by simp only [List.mem_singleton, forall_eq]; omega)) (fun hS => ?_)
        clear hK K
        have HT22 : Hid (Stx (w21.setCell ⟨g, 1, none⟩ (.slice (some ⟨g'', 0, none⟩) (lq + 1) SS'.length)) B g g' g'' CS' SS' (Q8 ++ [(i2, e2, q.2.2)]) (Q8 ++ [(i2, e2, q.2.2)]) n) := Lib.hid (by
          have hAS := HAS.out
          rw [← HL8.out] at hAS ⊢
          exact HT20.out.appR hAS (q := (i2, e2, q.2.2)) HRK20.out (Nat.le_trans hB HBE20.out.size))
        have HBE22 : Hid (Below B W (w21.setCell ⟨g, 1, none⟩ (.slice (some ⟨g'', 0, none⟩) (lq + 1) SS'.length))) := Lib.hid ((HBE20.out.grown HAS.out.grw (Nat.le_trans hB HBE20.out.size) (by rintro k hk; injection hk with hk; subst hk; exact HT20.out.hB.2.2)).setCell (p := ⟨g, 1, none⟩) HT20.out.hB.1 _)
        clear HT19 HT20 HX19 HX20 HX21 HBE19 HBE20 HRK19 HRK20 HAS HAP HNC hS k0 f0
        generalize w21.setCell ⟨g, 1, none⟩ (.slice (some ⟨g'', 0, none⟩) (lq + 1) SS'.length) = w22 at *
        try go_simp
        refine wpAnyH_done (by kernel_rfl) ?_ _
        go_wp2
        go_ret
        rw [HQ8.out]
        exact ⟨rfl, ⟨g', g'', _, _, HT22.out.t⟩, HBE22.out⟩
      · have hb20 : Below wd12.heap.size wd12 (wd12.alloc (.cells #[.slice A q.2.2.length c] 74)) := (Below.refl _ _).alloc (Nat.le_refl _) _
        have HT20 := Lib.hid (HT19.out.next hb20)
        have HX20 := Lib.hid (HX19.out.next hb20)
        have HRK20 := Lib.hid (HRK19.out.up hb20)
        have HBE20 := Lib.hid (HBE19.out.trans (hb20.mono (Nat.le_trans hB HBE19.out.size)))
        have HNC : Hid (∀ j u, [(Rw.mk A q.2.2.length c).v][j]? = some u → (wd12.alloc (.cells #[.slice A q.2.2.length c] 74)).cell? ((⟨wd12.heap.size, 0, none⟩ : Addr).add j) = some u) := Lib.hid (cell_one_new wd12 _ 74)
        clear hb20
        go_simp
        refine hK.out _ _ (HX20.out) (fun hS => ?_)
        clear hK K
        try go_simp
        refine wpAnyH_ready (rs := [4]) (by kernel_rfl) (by simp) ?_
        refine AllReadyH.cons rfl (fun K hK => ?_) AllReadyH.nil
        have k0 := HT20.out.c3.2.1
        rw [HL8.out, HLS.out] at k0
        go_simp
        have hS3 : CX [(gs, a, .slice A q.2.2.length c)] (wd12.alloc (.cells #[.slice A q.2.2.length c] 74)) := HX20.out
        clear k0
        refine hK.out _ _ hS3 (fun hS => ?_)
        clear hK K hS3
        try go_simp
        refine wpAnyH_ready (rs := [13]) (by kernel_rfl) (by simp) ?_
        refine AllReadyH.cons rfl (fun K hK => ?_) AllReadyH.nil
        obtain ⟨g'', SS', w21, hap, hAS⟩ := app_rw HT20.out.bs (n := lq) (by have := HT20.out.ls; rw [HL8.out] at this; exact this) (by omega) ⟨A, q.2.2.length, c⟩ ⟨wd12.heap.size, 0, none⟩ 1 HNC.out
        rw [HLS.out] at hap
        have HAS := Lib.hid hAS
        have HAP := Lib.hid hap
        have lz : a < lq := by have := HA.out; rw [HLQ.out] at this; exact this
        have HX21 : Hid (CX [(gs, a, .slice A q.2.2.length c)] w21) := Lib.hid (by
          have h1 : SS'[a]? = some ⟨A, q.2.2.length, c⟩ := (HAS.out.old a lz).trans HR.out
          have h0 := HX20.out
          intro f hf
          simp only [List.mem_singleton] at hf
          subst hf
          by_cases hg : g'' = gs
          · subst hg
            exact (HAS.out.blk.cell a).trans (cellsR_get SS' a _ h1)
          · exact ((HAS.out.rst.resolve_left hg).cell a).trans (cellsR_get SS a _ HR.out))
        clear hap hAS lz
        refine oper_append_run _ _ _ _ rfl _ _ rfl rfl HAP.out ?_
        go_simp
        refine hK.out _ _ (HX21.out) (fun hS => ?_)
        clear hK K
        refine wpAnyH_take (i := 14) (v := ?_) rfl (by kernel_rfl) (by kernel_rfl) (by kernel_rfl) (fun _ _ _ h => h) (Yields.yieldsIf (Or.inl ⟨by kernel_rfl, ?_⟩)) hS ?_
        rotate_left
        · first | (intro w; go_simp; done) | (intro w; go_simp; with_reducible rfl)
        refine wpAnyH_take (i := 15) (v := ?_) rfl (by kernel_rfl) (by kernel_rfl) (by kernel_rfl) (fun _ _ _ h => h) (Yields.yieldsIf (Or.inl ⟨by kernel_rfl, ?_⟩)) hS ?_
        rotate_left
        · first | (intro w; go_simp; done) | (intro w; go_simp; with_reducible rfl)
        try go_simp
        refine wpAnyH_ready (rs := [16]) (by kernel_rfl) (by simp) ?_
        refine AllReadyH.cons rfl (fun K hK => ?_) AllReadyH.nil
        have k0 : w21.cell? ⟨g, 1, none⟩ = some (.slice (some ⟨gs, 0, none⟩) Q8.length SS.length) := (grown_but HAS.out.grw).cell (by omega) HT20.out.c3.2.1
        have f0 : w21.frozen? ⟨g, 1, none⟩ = false := (grown_blk HT20.out.st HAS.out.grw (by omega)).frozen 1
        go_simp
        go_wp2
        refine hK.out _ _ (HX21.out.but (set_but w21 g 1 (.slice (some ⟨g'', 0, none⟩) (lq + 1) SS'.length)) (by simp only [List.mem_singleton, forall_eq]; omega)) (fun hS => ?_)
        clear hK K
        have HT22 : Hid (Stx (w21.setCell ⟨g, 1, none⟩ (.slice (some ⟨g'', 0, none⟩) (lq + 1) SS'.length)) B g g' g'' CS' SS' (Q8 ++ [(i2, e2, q.2.2)]) (Q8 ++ [(i2, e2, q.2.2)]) n) := Lib.hid (by
          have hAS := HAS.out
          rw [← HL8.out] at hAS ⊢
          exact HT20.out.appR hAS (q := (i2, e2, q.2.2)) HRK20.out (Nat.le_trans hB HBE20.out.size))
        have HBE22 : Hid (Below B W (w21.setCell ⟨g, 1, none⟩ (.slice (some ⟨g'', 0, none⟩) (lq + 1) SS'.length))) := Lib.hid ((HBE20.out.grown HAS.out.grw (Nat.le_trans hB HBE20.out.size) (by rintro k hk; injection hk with hk; subst hk; exact HT20.out.hB.2.2)).setCell (p := ⟨g, 1, none⟩) HT20.out.hB.1 _)
        clear HT19 HT20 HX19 HX20 HX21 HBE19 HBE20 HRK19 HRK20 HAS HAP HNC hS k0 f0
        generalize w21.setCell ⟨g, 1, none⟩ (.slice (some ⟨g'', 0, none⟩) (lq + 1) SS'.length) = w22 at *
        try go_simp
        refine wpAnyH_done (by kernel_rfl) ?_ _
        go_wp2
        go_ret
        rw [HQ8.out]
        exact ⟨rfl, ⟨g', g'', _, _, HT22.out.t⟩, HBE22.out⟩
  · have hb10 : Below wd8.heap.size wd8 (wd8.alloc (.cells #[.bool oy, .slice Ay ny cy, .int .i64 zy, .slice By my dy] 29)) := (Below.refl _ _).alloc (Nat.le_refl _) _
    have HT10 := Lib.hid (HT9.out.next hb10)
    have HYI10 := Lib.hid (I.InT.up HYI9.out hb10)
    have HYE10 := Lib.hid (E.InP.up HYE9.out hb10)
    have HX10 := Lib.hid (HX9.out.next hb10)
    have HBE10 := Lib.hid (HBE9.out.trans (hb10.mono (Nat.le_trans hB HBE9.out.size)))
    have HNC : Hid (∀ j u, (Sc.l ⟨oy, Ay, ny, cy, zy, By, my, dy⟩)[j]? = some u → (wd8.alloc (.cells #[.bool oy, .slice Ay ny cy, .int .i64 zy, .slice By my dy] 29)).cell? ((⟨wd8.heap.size, 0, none⟩ : Addr).add j) = some u) := Lib.hid (new_cells wd8 ⟨oy, Ay, ny, cy, zy, By, my, dy⟩)
    clear hb10
    go_simp
    refine hK.out _ _ (HX10.out) (fun hS => ?_)
    clear hK K
    try go_simp
    refine wpAnyH_ready (rs := [4]) (by kernel_rfl) (by simp) ?_
    refine AllReadyH.cons rfl (fun K hK => ?_) AllReadyH.nil
    have k0 := HT9.out.c3.1
    rw [HL8.out, HC8.out] at k0
    have k0 := HT10.out.c3.1
    rw [HL8.out, HC8.out] at k0
    go_simp
    have hS3 : CX [(w2.heap.size + 1, 0, .bool oy), (w2.heap.size + 1, 1, .slice Ay ny cy), (w2.heap.size + 1, 2, .int .i64 zy), (w2.heap.size + 1, 3, .slice By my dy)] (wd8.alloc (.cells #[.bool oy, .slice Ay ny cy, .int .i64 zy, .slice By my dy] 29)) := HX10.out
    clear k0
    refine hK.out _ _ hS3 (fun hS => ?_)
    clear hK K hS3
    try go_simp
    refine wpAnyH_ready (rs := [7]) (by kernel_rfl) (by simp) ?_
    refine AllReadyH.cons rfl (fun K hK => ?_) AllReadyH.nil
    obtain ⟨g', CS', w11, hap, hAS⟩ := app_st HT10.out.bl (n := lq) (by rw [HC8.out, ← HL8.out, ← HC8.out]; exact HT10.out.lc) (by omega) ⟨oy, Ay, ny, cy, zy, By, my, dy⟩ ⟨wd8.heap.size, 0, none⟩ 1 HNC.out
    rw [HC8.out] at hap
    have HAS := Lib.hid hAS
    have HAP := Lib.hid hap
    clear hap hAS
    refine oper_append_run _ _ _ _ rfl _ _ rfl rfl HAP.out ?_
    go_simp
    have HX11 : Hid (CX [(w2.heap.size + 1, 0, .bool oy), (w2.heap.size + 1, 1, .slice Ay ny cy), (w2.heap.size + 1, 2, .int .i64 zy), (w2.heap.size + 1, 3, .slice By my dy)] w11) := Lib.hid (HX10.out.but (grown_but HAS.out.grw) (by simp only [List.mem_cons, List.not_mem_nil, or_false, forall_eq_or_imp, forall_eq]; omega))
    refine hK.out _ _ (HX11.out) (fun hS => ?_)
    clear hK K
    refine wpAnyH_take (i := 8) (v := ?_) rfl (by kernel_rfl) (by kernel_rfl) (by kernel_rfl) (fun _ _ _ h => h) (Yields.yieldsIf (Or.inl ⟨by kernel_rfl, ?_⟩)) hS ?_
    rotate_left
    · first | (intro w; go_simp; done) | (intro w; go_simp; with_reducible rfl)
    refine wpAnyH_take (i := 9) (v := ?_) rfl (by kernel_rfl) (by kernel_rfl) (by kernel_rfl) (fun _ _ _ h => h) (Yields.yieldsIf (Or.inl ⟨by kernel_rfl, ?_⟩)) hS ?_
    rotate_left
    · first | (intro w; go_simp; done) | (intro w; go_simp; with_reducible rfl)
    try go_simp
    refine wpAnyH_ready (rs := [10]) (by kernel_rfl) (by simp) ?_
    refine AllReadyH.cons rfl (fun K hK => ?_) AllReadyH.nil
    have k0 : w11.cell? ⟨g, 0, none⟩ = some (.slice (some ⟨gl, 0, none⟩) Q8.length CS8.length) := (grown_but HAS.out.grw).cell (by omega) HT10.out.c3.1
    have f0 : w11.frozen? ⟨g, 0, none⟩ = false := (grown_blk HT10.out.st HAS.out.grw (by omega)).frozen 0
    go_simp
    go_wp2
    refine hK.out _ _ (HX11.out.but (set_but w11 g 0 (.slice (some ⟨g', 0, none⟩) (lq + 1) CS'.length)) (by simp only [List.mem_cons, List.not_mem_nil, or_false, forall_eq_or_imp, forall_eq]; omega)) (fun hS => ?_)
    clear hK K
    have HT12 : Hid (Stx (w11.setCell ⟨g, 0, none⟩ (.slice (some ⟨g', 0, none⟩) (lq + 1) CS'.length)) B g g' gs CS' SS (Q8 ++ [(i2, e2, q.2.2)]) Q8 n) := Lib.hid (by
      have hAS := HAS.out
      rw [← HL8.out] at hAS ⊢
      exact HT10.out.appL hAS (q := (i2, e2, q.2.2)) HYI10.out HYE10.out (Nat.le_trans hB HBE10.out.size))
    have HBE12 : Hid (Below B W (w11.setCell ⟨g, 0, none⟩ (.slice (some ⟨g', 0, none⟩) (lq + 1) CS'.length))) := Lib.hid ((HBE10.out.grown HAS.out.grw (Nat.le_trans hB HBE10.out.size) (by rintro k hk; injection hk with hk; subst hk; exact HT10.out.hB.2.1)).setCell (p := ⟨g, 0, none⟩) HT10.out.hB.1 _)
    clear HT9 HT10 HYI9 HYI10 HYE9 HYE10 HX9 HX10 HX11 HBE9 HBE10 HAS HAP HNC hS k0 f0
    generalize w11.setCell ⟨g, 0, none⟩ (.slice (some ⟨g', 0, none⟩) (lq + 1) CS'.length) = w12 at *
    try go_simp
    refine wpAnyH_done (by kernel_rfl) ?_ _
    go_upto_region 6 with fail
    have hd : Below w12.heap.size w12 w12.drew := (Below.refl _ _).drew
    have HT19 := Lib.hid (HT12.out.next hd)
    have HX19 : Hid (CX [(gs, a, .slice A q.2.2.length c)] w12.drew) := Lib.hid (by
      have h1 := HT19.out.c1 HR.out
      intro f hf
      simp only [List.mem_singleton] at hf
      subst hf
      exact h1)
    have HBE19 := Lib.hid (HBE12.out.trans (hd.mono (Nat.le_trans hB HBE12.out.size)))
    have HRK19 : Hid (RowK w12.drew ⟨A, q.2.2.length, c⟩ q.2.2) := Lib.hid (by
      obtain ⟨r, h1, h2⟩ := HT19.out.er a _ HRQ.out
      rw [HR.out] at h1
      injection h1 with h1
      subst h1
      exact h2)
    refine wp_region_held_drew (S := fun W => CX [(gs, a, .slice A q.2.2.length c)] W) (by kernel_rfl) HX19.out (fun hS => ?_)
    clear hd HT12 HBE12
    generalize w12.drew = wd12 at *
    refine wpAnyH_take (i := 0) (v := ?_) rfl (by kernel_rfl) (by kernel_rfl) (by kernel_rfl) (fun _ _ _ h => h) (Yields.yieldsIf (Or.inl ⟨by kernel_rfl, ?_⟩)) hS ?_
    rotate_left
    · first | (intro w; go_simp; done) | (intro w; go_simp; with_reducible rfl)
    refine wpAnyH_take (i := 1) (v := ?_) rfl (by kernel_rfl) (by kernel_rfl) (by kernel_rfl) (fun _ _ _ h => h) (Yields.yieldsIf (Or.inl ⟨by kernel_rfl, ?_⟩)) hS ?_
    rotate_left
    · first | (intro w; go_simp; done) | (intro w; go_simp; with_reducible rfl)
    refine wpAnyH_take (i := 2) (v := ?_) rfl (by kernel_rfl) (by kernel_rfl) (by kernel_rfl) (fun _ _ _ h => h) (Yields.yieldsIf (Or.inl ⟨by kernel_rfl, ?_⟩)) hS ?_
    rotate_left
    · first | (intro w; go_simp; done) | (intro w; go_simp; with_reducible rfl)
    refine wpAnyH_take (i := 3) (v := ?_) rfl (by kernel_rfl) (by kernel_rfl) (by kernel_rfl) (fun _ _ _ h => h) (Yields.yieldsIf (Or.inl ⟨by kernel_rfl, ?_⟩)) hS ?_
    rotate_left
    · first | (intro w; go_simp; done) | (intro w; go_simp; with_reducible rfl)
    refine wpAnyH_take (i := 5) (v := ?_) rfl (by kernel_rfl) (by kernel_rfl) (by kernel_rfl) (fun _ _ _ h => h) (Yields.yieldsIf (Or.inl ⟨by kernel_rfl, ?_⟩)) hS ?_
    rotate_left
    · first | (intro w; go_simp; done) | (intro w; go_simp; with_reducible rfl)
    refine wpAnyH_take (i := 6) (v := ?_) rfl (by kernel_rfl) (by kernel_rfl) (by kernel_rfl) (fun _ _ _ h => h) (Yields.yieldsIf (Or.inl ⟨by kernel_rfl, ?_⟩)) hS ?_
    rotate_left
    · first | (intro w; go_simp; done) | (intro w; go_simp; with_reducible rfl)
    refine wpAnyH_take (i := 7) (v := ?_) rfl (by kernel_rfl) (by kernel_rfl) (by kernel_rfl) (fun _ _ _ h => h) (Yields.yieldsIf (Or.inl ⟨by kernel_rfl, ?_⟩)) hS ?_
    rotate_left
    · first | (intro w; go_simp; done) | (intro w; go_simp; with_reducible rfl)
    refine wpAnyH_take (i := 9) (v := ?_) rfl (by kernel_rfl) (by kernel_rfl) (by kernel_rfl) (fun _ _ _ h => h) (Yields.yieldsIf (Or.inl ⟨by kernel_rfl, ?_⟩)) hS ?_
    rotate_left
    · first | (intro w; go_simp; done) | (intro w; go_simp; with_reducible rfl)
    try go_simp
    refine wpAnyH_ready (rs := [4, 8]) (by kernel_rfl) (by simp) ?_
    refine AllReadyH.cons rfl (fun K hK => ?_) (AllReadyH.cons rfl (fun K hK => ?_) AllReadyH.nil)
    · have k0 := HT19.out.c3.2.1
      rw [HL8.out, HLS.out] at k0
      go_simp
      have hS3 : CX [(gs, a, .slice A q.2.2.length c)] wd12 := HX19.out
      clear k0
      refine hK.out _ _ hS3 (fun hS => ?_)
      clear hK K hS3
      try go_simp
      refine wpAnyH_ready (rs := [8]) (by kernel_rfl) (by simp) ?_
      refine AllReadyH.cons rfl (fun K hK => ?_) AllReadyH.nil
      have k0 := HT19.out.c3.2.1
      rw [HL8.out, HLS.out] at k0
      go_simp
      have hS3 : CX [(gs, a, .slice A q.2.2.length c)] wd12 := HX19.out
      clear k0
      refine hK.out _ _ hS3 (fun hS => ?_)
      clear hK K hS3
      refine wpAnyH_take (i := 10) (v := ?_) rfl (by kernel_rfl) (by kernel_rfl) (by kernel_rfl) (fun _ _ _ h => h) (Yields.yieldsIf (Or.inl ⟨by kernel_rfl, ?_⟩)) hS ?_
      rotate_left
      · first | (intro w; go_simp; done) | (intro w; go_simp; with_reducible rfl)
      refine wpAnyH_take (i := 11) (v := ?_) rfl (by kernel_rfl) (by kernel_rfl) (by kernel_rfl) (fun _ _ _ h => h) (Or.inl ⟨by kernel_rfl, fun W hW => ?_⟩) hS ?_
      rotate_left
      · have f := hW
        simp only [CX, List.mem_cons, List.not_mem_nil, or_false, forall_eq_or_imp, forall_eq] at f
        have p0 := f
        first | (go_simp; done) | (go_simp; with_reducible rfl)
      try go_simp
      refine wpAnyH_ready (rs := [12]) (by kernel_rfl) (by simp) ?_
      refine AllReadyH.cons rfl (fun K hK => ?_) AllReadyH.nil
      have hb20 : Below wd12.heap.size wd12 (wd12.alloc (.cells #[.slice A q.2.2.length c] 74)) := (Below.refl _ _).alloc (Nat.le_refl _) _
      have HT20 := Lib.hid (HT19.out.next hb20)
      have HX20 := Lib.hid (HX19.out.next hb20)
      have HRK20 := Lib.hid (HRK19.out.up hb20)
      have HBE20 := Lib.hid (HBE19.out.trans (hb20.mono (Nat.le_trans hB HBE19.out.size)))
      have HNC : Hid (∀ j u, [(Rw.mk A q.2.2.length c).v][j]? = some u → (wd12.alloc (.cells #[.slice A q.2.2.length c] 74)).cell? ((⟨wd12.heap.size, 0, none⟩ : Addr).add j) = some u) := Lib.hid (cell_one_new wd12 _ 74)
      clear hb20
      go_simp
      refine hK.out _ _ (HX20.out) (fun hS => ?_)
      clear hK K
      try go_simp
      refine wpAnyH_ready (rs := [13]) (by kernel_rfl) (by simp) ?_
      refine AllReadyH.cons rfl (fun K hK => ?_) AllReadyH.nil
      obtain ⟨g'', SS', w21, hap, hAS⟩ := app_rw HT20.out.bs (n := lq) (by have := HT20.out.ls; rw [HL8.out] at this; exact this) (by omega) ⟨A, q.2.2.length, c⟩ ⟨wd12.heap.size, 0, none⟩ 1 HNC.out
      rw [HLS.out] at hap
      have HAS := Lib.hid hAS
      have HAP := Lib.hid hap
      have lz : a < lq := by have := HA.out; rw [HLQ.out] at this; exact this
      have HX21 : Hid (CX [(gs, a, .slice A q.2.2.length c)] w21) := Lib.hid (by
        have h1 : SS'[a]? = some ⟨A, q.2.2.length, c⟩ := (HAS.out.old a lz).trans HR.out
        have h0 := HX20.out
        intro f hf
        simp only [List.mem_singleton] at hf
        subst hf
        by_cases hg : g'' = gs
        · subst hg
          exact (HAS.out.blk.cell a).trans (cellsR_get SS' a _ h1)
        · exact ((HAS.out.rst.resolve_left hg).cell a).trans (cellsR_get SS a _ HR.out))
      clear hap hAS lz
      refine oper_append_run _ _ _ _ rfl _ _ rfl rfl HAP.out ?_
      go_simp
      refine hK.out _ _ (HX21.out) (fun hS => ?_)
      clear hK K
      refine wpAnyH_take (i := 14) (v := ?_) rfl (by kernel_rfl) (by kernel_rfl) (by kernel_rfl) (fun _ _ _ h => h) (Yields.yieldsIf (Or.inl ⟨by kernel_rfl, ?_⟩)) hS ?_
      rotate_left
      · first | (intro w; go_simp; done) | (intro w; go_simp; with_reducible rfl)
      refine wpAnyH_take (i := 15) (v := ?_) rfl (by kernel_rfl) (by kernel_rfl) (by kernel_rfl) (fun _ _ _ h => h) (Yields.yieldsIf (Or.inl ⟨by kernel_rfl, ?_⟩)) hS ?_
      rotate_left
      · first | (intro w; go_simp; done) | (intro w; go_simp; with_reducible rfl)
      try go_simp
      refine wpAnyH_ready (rs := [16]) (by kernel_rfl) (by simp) ?_
      refine AllReadyH.cons rfl (fun K hK => ?_) AllReadyH.nil
      have k0 : w21.cell? ⟨g, 1, none⟩ = some (.slice (some ⟨gs, 0, none⟩) Q8.length SS.length) := (grown_but HAS.out.grw).cell (by omega) HT20.out.c3.2.1
      have f0 : w21.frozen? ⟨g, 1, none⟩ = false := (grown_blk HT20.out.st HAS.out.grw (by omega)).frozen 1
      go_simp
      go_wp2
      refine hK.out _ _ (HX21.out.but (set_but w21 g 1 (.slice (some ⟨g'', 0, none⟩) (lq + 1) SS'.length)) (by simp only [List.mem_singleton, forall_eq]; omega)) (fun hS => ?_)
      clear hK K
      have HT22 : Hid (Stx (w21.setCell ⟨g, 1, none⟩ (.slice (some ⟨g'', 0, none⟩) (lq + 1) SS'.length)) B g g' g'' CS' SS' (Q8 ++ [(i2, e2, q.2.2)]) (Q8 ++ [(i2, e2, q.2.2)]) n) := Lib.hid (by
        have hAS := HAS.out
        rw [← HL8.out] at hAS ⊢
        exact HT20.out.appR hAS (q := (i2, e2, q.2.2)) HRK20.out (Nat.le_trans hB HBE20.out.size))
      have HBE22 : Hid (Below B W (w21.setCell ⟨g, 1, none⟩ (.slice (some ⟨g'', 0, none⟩) (lq + 1) SS'.length))) := Lib.hid ((HBE20.out.grown HAS.out.grw (Nat.le_trans hB HBE20.out.size) (by rintro k hk; injection hk with hk; subst hk; exact HT20.out.hB.2.2)).setCell (p := ⟨g, 1, none⟩) HT20.out.hB.1 _)
      clear HT19 HT20 HX19 HX20 HX21 HBE19 HBE20 HRK19 HRK20 HAS HAP HNC hS k0 f0
      generalize w21.setCell ⟨g, 1, none⟩ (.slice (some ⟨g'', 0, none⟩) (lq + 1) SS'.length) = w22 at *
      try go_simp
      refine wpAnyH_done (by kernel_rfl) ?_ _
      go_wp2
      go_ret
      rw [HQ8.out]
      exact ⟨rfl, ⟨g', g'', _, _, HT22.out.t⟩, HBE22.out⟩
    · have k0 := HT19.out.c3.2.1
      rw [HL8.out, HLS.out] at k0
      go_simp
      have hS3 : CX [(gs, a, .slice A q.2.2.length c)] wd12 := HX19.out
      clear k0
      refine hK.out _ _ hS3 (fun hS => ?_)
      clear hK K hS3
      refine wpAnyH_take (i := 10) (v := ?_) rfl (by kernel_rfl) (by kernel_rfl) (by kernel_rfl) (fun _ _ _ h => h) (Yields.yieldsIf (Or.inl ⟨by kernel_rfl, ?_⟩)) hS ?_
      rotate_left
      · first | (intro w; go_simp; done) | (intro w; go_simp; with_reducible rfl)
      refine wpAnyH_take (i := 11) (v := ?_) rfl (by kernel_rfl) (by kernel_rfl) (by kernel_rfl) (fun _ _ _ h => h) (Or.inl ⟨by kernel_rfl, fun W hW => ?_⟩) hS ?_
      rotate_left
      · have f := hW
        simp only [CX, List.mem_cons, List.not_mem_nil, or_false, forall_eq_or_imp, forall_eq] at f
        have p0 := f
        first | (go_simp; done) | (go_simp; with_reducible rfl)
      try go_simp
      refine wpAnyH_ready (rs := [4, 12]) (by kernel_rfl) (by simp) ?_
      refine AllReadyH.cons rfl (fun K hK => ?_) (AllReadyH.cons rfl (fun K hK => ?_) AllReadyH.nil)
      · have k0 := HT19.out.c3.2.1
        rw [HL8.out, HLS.out] at k0
        go_simp
        have hS3 : CX [(gs, a, .slice A q.2.2.length c)] wd12 := HX19.out
        clear k0
        refine hK.out _ _ hS3 (fun hS => ?_)
        clear hK K hS3
        try go_simp
        refine wpAnyH_ready (rs := [12]) (by kernel_rfl) (by simp) ?_
        refine AllReadyH.cons rfl (fun K hK => ?_) AllReadyH.nil
        have hb20 : Below wd12.heap.size wd12 (wd12.alloc (.cells #[.slice A q.2.2.length c] 74)) := (Below.refl _ _).alloc (Nat.le_refl _) _
        have HT20 := Lib.hid (HT19.out.next hb20)
        have HX20 := Lib.hid (HX19.out.next hb20)
        have HRK20 := Lib.hid (HRK19.out.up hb20)
        have HBE20 := Lib.hid (HBE19.out.trans (hb20.mono (Nat.le_trans hB HBE19.out.size)))
        have HNC : Hid (∀ j u, [(Rw.mk A q.2.2.length c).v][j]? = some u → (wd12.alloc (.cells #[.slice A q.2.2.length c] 74)).cell? ((⟨wd12.heap.size, 0, none⟩ : Addr).add j) = some u) := Lib.hid (cell_one_new wd12 _ 74)
        clear hb20
        go_simp
        refine hK.out _ _ (HX20.out) (fun hS => ?_)
        clear hK K
        try go_simp
        refine wpAnyH_ready (rs := [13]) (by kernel_rfl) (by simp) ?_
        refine AllReadyH.cons rfl (fun K hK => ?_) AllReadyH.nil
        obtain ⟨g'', SS', w21, hap, hAS⟩ := app_rw HT20.out.bs (n := lq) (by have := HT20.out.ls; rw [HL8.out] at this; exact this) (by omega) ⟨A, q.2.2.length, c⟩ ⟨wd12.heap.size, 0, none⟩ 1 HNC.out
        rw [HLS.out] at hap
        have HAS := Lib.hid hAS
        have HAP := Lib.hid hap
        have lz : a < lq := by have := HA.out; rw [HLQ.out] at this; exact this
        have HX21 : Hid (CX [(gs, a, .slice A q.2.2.length c)] w21) := Lib.hid (by
          have h1 : SS'[a]? = some ⟨A, q.2.2.length, c⟩ := (HAS.out.old a lz).trans HR.out
          have h0 := HX20.out
          intro f hf
          simp only [List.mem_singleton] at hf
          subst hf
          by_cases hg : g'' = gs
          · subst hg
            exact (HAS.out.blk.cell a).trans (cellsR_get SS' a _ h1)
          · exact ((HAS.out.rst.resolve_left hg).cell a).trans (cellsR_get SS a _ HR.out))
        clear hap hAS lz
        refine oper_append_run _ _ _ _ rfl _ _ rfl rfl HAP.out ?_
        go_simp
        refine hK.out _ _ (HX21.out) (fun hS => ?_)
        clear hK K
        refine wpAnyH_take (i := 14) (v := ?_) rfl (by kernel_rfl) (by kernel_rfl) (by kernel_rfl) (fun _ _ _ h => h) (Yields.yieldsIf (Or.inl ⟨by kernel_rfl, ?_⟩)) hS ?_
        rotate_left
        · first | (intro w; go_simp; done) | (intro w; go_simp; with_reducible rfl)
        refine wpAnyH_take (i := 15) (v := ?_) rfl (by kernel_rfl) (by kernel_rfl) (by kernel_rfl) (fun _ _ _ h => h) (Yields.yieldsIf (Or.inl ⟨by kernel_rfl, ?_⟩)) hS ?_
        rotate_left
        · first | (intro w; go_simp; done) | (intro w; go_simp; with_reducible rfl)
        try go_simp
        refine wpAnyH_ready (rs := [16]) (by kernel_rfl) (by simp) ?_
        refine AllReadyH.cons rfl (fun K hK => ?_) AllReadyH.nil
        have k0 : w21.cell? ⟨g, 1, none⟩ = some (.slice (some ⟨gs, 0, none⟩) Q8.length SS.length) := (grown_but HAS.out.grw).cell (by omega) HT20.out.c3.2.1
        have f0 : w21.frozen? ⟨g, 1, none⟩ = false := (grown_blk HT20.out.st HAS.out.grw (by omega)).frozen 1
        go_simp
        go_wp2
        refine hK.out _ _ (HX21.out.but (set_but w21 g 1 (.slice (some ⟨g'', 0, none⟩) (lq + 1) SS'.length)) (by simp only [List.mem_singleton, forall_eq]; omega)) (fun hS => ?_)
        clear hK K
        have HT22 : Hid (Stx (w21.setCell ⟨g, 1, none⟩ (.slice (some ⟨g'', 0, none⟩) (lq + 1) SS'.length)) B g g' g'' CS' SS' (Q8 ++ [(i2, e2, q.2.2)]) (Q8 ++ [(i2, e2, q.2.2)]) n) := Lib.hid (by
          have hAS := HAS.out
          rw [← HL8.out] at hAS ⊢
          exact HT20.out.appR hAS (q := (i2, e2, q.2.2)) HRK20.out (Nat.le_trans hB HBE20.out.size))
        have HBE22 : Hid (Below B W (w21.setCell ⟨g, 1, none⟩ (.slice (some ⟨g'', 0, none⟩) (lq + 1) SS'.length))) := Lib.hid ((HBE20.out.grown HAS.out.grw (Nat.le_trans hB HBE20.out.size) (by rintro k hk; injection hk with hk; subst hk; exact HT20.out.hB.2.2)).setCell (p := ⟨g, 1, none⟩) HT20.out.hB.1 _)
        clear HT19 HT20 HX19 HX20 HX21 HBE19 HBE20 HRK19 HRK20 HAS HAP HNC hS k0 f0
        generalize w21.setCell ⟨g, 1, none⟩ (.slice (some ⟨g'', 0, none⟩) (lq + 1) SS'.length) = w22 at *
        try go_simp
        refine wpAnyH_done (by kernel_rfl) ?_ _
        go_wp2
        go_ret
        rw [HQ8.out]
        exact ⟨rfl, ⟨g', g'', _, _, HT22.out.t⟩, HBE22.out⟩
      · have hb20 : Below wd12.heap.size wd12 (wd12.alloc (.cells #[.slice A q.2.2.length c] 74)) := (Below.refl _ _).alloc (Nat.le_refl _) _
        have HT20 := Lib.hid (HT19.out.next hb20)
        have HX20 := Lib.hid (HX19.out.next hb20)
        have HRK20 := Lib.hid (HRK19.out.up hb20)
        have HBE20 := Lib.hid (HBE19.out.trans (hb20.mono (Nat.le_trans hB HBE19.out.size)))
        have HNC : Hid (∀ j u, [(Rw.mk A q.2.2.length c).v][j]? = some u → (wd12.alloc (.cells #[.slice A q.2.2.length c] 74)).cell? ((⟨wd12.heap.size, 0, none⟩ : Addr).add j) = some u) := Lib.hid (cell_one_new wd12 _ 74)
        clear hb20
        go_simp
        refine hK.out _ _ (HX20.out) (fun hS => ?_)
        clear hK K
        try go_simp
        refine wpAnyH_ready (rs := [4]) (by kernel_rfl) (by simp) ?_
        refine AllReadyH.cons rfl (fun K hK => ?_) AllReadyH.nil
        have k0 := HT20.out.c3.2.1
        rw [HL8.out, HLS.out] at k0
        go_simp
        have hS3 : CX [(gs, a, .slice A q.2.2.length c)] (wd12.alloc (.cells #[.slice A q.2.2.length c] 74)) := HX20.out
        clear k0
        refine hK.out _ _ hS3 (fun hS => ?_)
        clear hK K hS3
        try go_simp
        refine wpAnyH_ready (rs := [13]) (by kernel_rfl) (by simp) ?_
        refine AllReadyH.cons rfl (fun K hK => ?_) AllReadyH.nil
        obtain ⟨g'', SS', w21, hap, hAS⟩ := app_rw HT20.out.bs (n := lq) (by have := HT20.out.ls; rw [HL8.out] at this; exact this) (by omega) ⟨A, q.2.2.length, c⟩ ⟨wd12.heap.size, 0, none⟩ 1 HNC.out
        rw [HLS.out] at hap
        have HAS := Lib.hid hAS
        have HAP := Lib.hid hap
        have lz : a < lq := by have := HA.out; rw [HLQ.out] at this; exact this
        have HX21 : Hid (CX [(gs, a, .slice A q.2.2.length c)] w21) := Lib.hid (by
          have h1 : SS'[a]? = some ⟨A, q.2.2.length, c⟩ := (HAS.out.old a lz).trans HR.out
          have h0 := HX20.out
          intro f hf
          simp only [List.mem_singleton] at hf
          subst hf
          by_cases hg : g'' = gs
          · subst hg
            exact (HAS.out.blk.cell a).trans (cellsR_get SS' a _ h1)
          · exact ((HAS.out.rst.resolve_left hg).cell a).trans (cellsR_get SS a _ HR.out))
        clear hap hAS lz
        refine oper_append_run _ _ _ _ rfl _ _ rfl rfl HAP.out ?_
        go_simp
        refine hK.out _ _ (HX21.out) (fun hS => ?_)
        clear hK K
        refine wpAnyH_take (i := 14) (v := ?_) rfl (by kernel_rfl) (by kernel_rfl) (by kernel_rfl) (fun _ _ _ h => h) (Yields.yieldsIf (Or.inl ⟨by kernel_rfl, ?_⟩)) hS ?_
        rotate_left
        · first | (intro w; go_simp; done) | (intro w; go_simp; with_reducible rfl)
        refine wpAnyH_take (i := 15) (v := ?_) rfl (by kernel_rfl) (by kernel_rfl) (by kernel_rfl) (fun _ _ _ h => h) (Yields.yieldsIf (Or.inl ⟨by kernel_rfl, ?_⟩)) hS ?_
        rotate_left
        · first | (intro w; go_simp; done) | (intro w; go_simp; with_reducible rfl)
        try go_simp
        refine wpAnyH_ready (rs := [16]) (by kernel_rfl) (by simp) ?_
        refine AllReadyH.cons rfl (fun K hK => ?_) AllReadyH.nil
        have k0 : w21.cell? ⟨g, 1, none⟩ = some (.slice (some ⟨gs, 0, none⟩) Q8.length SS.length) := (grown_but HAS.out.grw).cell (by omega) HT20.out.c3.2.1
        have f0 : w21.frozen? ⟨g, 1, none⟩ = false := (grown_blk HT20.out.st HAS.out.grw (by omega)).frozen 1
        go_simp
        go_wp2
        refine hK.out _ _ (HX21.out.but (set_but w21 g 1 (.slice (some ⟨g'', 0, none⟩) (lq + 1) SS'.length)) (by simp only [List.mem_singleton, forall_eq]; omega)) (fun hS => ?_)
        clear hK K
        have HT22 : Hid (Stx (w21.setCell ⟨g, 1, none⟩ (.slice (some ⟨g'', 0, none⟩) (lq + 1) SS'.length)) B g g' g'' CS' SS' (Q8 ++ [(i2, e2, q.2.2)]) (Q8 ++ [(i2, e2, q.2.2)]) n) := Lib.hid (by
          have hAS := HAS.out
          rw [← HL8.out] at hAS ⊢
          exact HT20.out.appR hAS (q := (i2, e2, q.2.2)) HRK20.out (Nat.le_trans hB HBE20.out.size))
        have HBE22 : Hid (Below B W (w21.setCell ⟨g, 1, none⟩ (.slice (some ⟨g'', 0, none⟩) (lq + 1) SS'.length))) := Lib.hid ((HBE20.out.grown HAS.out.grw (Nat.le_trans hB HBE20.out.size) (by rintro k hk; injection hk with hk; subst hk; exact HT20.out.hB.2.2)).setCell (p := ⟨g, 1, none⟩) HT20.out.hB.1 _)
        clear HT19 HT20 HX19 HX20 HX21 HBE19 HBE20 HRK19 HRK20 HAS HAP HNC hS k0 f0
        generalize w21.setCell ⟨g, 1, none⟩ (.slice (some ⟨g'', 0, none⟩) (lq + 1) SS'.length) = w22 at *
        try go_simp
        refine wpAnyH_done (by kernel_rfl) ?_ _
        go_wp2
        go_ret
        rw [HQ8.out]
        exact ⟨rfl, ⟨g', g'', _, _, HT22.out.t⟩, HBE22.out⟩
end Go.Proofs.YtoaglkjpjolacaaDoor.S
