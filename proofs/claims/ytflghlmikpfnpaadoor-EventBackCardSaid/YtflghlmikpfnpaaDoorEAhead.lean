/-
  The reference's ahead.
-/
import Derived.Test.YtflghlmikpfnpaaDoorEWithin
namespace Go.Proofs.YtflghlmikpfnpaaDoor.E
open Go.RowKit

theorem oper_append_run {P : Program} {w w' : World} {v' : Value} {o : Oper} {a : Act} {K : Act → World → Prop} {Q : Exit → Act → World → Prop} (s x : Operand) (t u : TypeId)
    (ho : o.op = .call { callee := .builtin .append, args := #[s, x], argTypes := #[t, u] }) (vs vx : Value) (hs : a.eval s = vs) (hx : a.eval x = vx) (hrun : (Builtin.append_ #[t, u] o.type #[vs, vx]).run P w = .ok v' w')
    (h : K (a.put o.dst v') w') : o.wp P a w K Q := by
  unfold Oper.wp execOp
  simp only [ho, resolve, invoke, builtin, Sem.run_bind, Sem.run_pure, Result.andThen_ok, List.map_toArray, List.map_cons, List.map_nil, hs, hx, hrun]
  exact h
/-- Whatever is not a row of bytes lies as it lay. -/
def FrB (w w' : World) : Prop := ∀ (k : Nat) (o : Obj), w.heap[k]? = some o → (∀ cs fr, o ≠ .cells cs 5 fr) → w'.heap[k]? = some o
/-- append(out, x...). -/
theorem GrR.app {w : World} {base c : Nat} {A : Option Addr} {l : List St} (h : GrR w base A c l) (hA : A ≠ none) (A2 : Option Addr) (d : Nat) (x : List St) (h2 : RowR w w.heap.size A2 x) (hx : 0 < x.length) (ty : TypeId) (hb : l.length + x.length ≤ 10000000) (hbase : base ≤ w.heap.size) :
    ∃ A' c' w', (Builtin.append_ #[49, 49] ty #[.slice A l.length c, .slice A2 x.length d]).run Tryd.prog w = .ok (.slice A' (l.length + x.length) c') w' ∧ A' ≠ none ∧ GrR w' base A' c' (l ++ x) ∧ Below base w w' := by
  obtain ⟨i0, hi, hz0, hz1, hz2⟩ := info_parts info90
  obtain ⟨g, off, rfl, hgb, hc⟩ := h2 hx
  have hcell : ∀ j u, (cellsR x)[j]? = some u → w.cell? ((⟨g, off, none⟩ : Addr).add j) = some u := by
    intro j u hu
    have e : (⟨g, off, none⟩ : Addr).add j = ⟨g, off + j, none⟩ := by
      unfold Addr.add; split
      · rename_i h; subst h; rfl
      · rfl
    have hj : j < x.length * 2 := by have := (List.getElem?_eq_some_iff.1 hu).1; rwa [cellsR_length] at this
    rw [e]
    obtain ⟨q, hq⟩ : ∃ q, j = q * 2 ∨ j = q * 2 + 1 := ⟨j / 2, by omega⟩
    have hqx : q < x.length := by omega
    obtain ⟨k0, k1⟩ := hc q _ (List.getElem?_eq_getElem hqx)
    obtain ⟨m0, m1⟩ := cellsR_get x q _ (List.getElem?_eq_getElem hqx)
    rcases hq with rfl | rfl
    · rw [k0, ← m0, hu]
    · rw [← Nat.add_assoc, k1, ← m1, hu]
  obtain ⟨v', w', hrun, ho, hg, hn⟩ := run_append_own_wide (P := Tryd.prog) w base 49 ty 90 i0 (.agg #[.int .u64 0, .int .i64 0]) 2 16 Tryd.underlying49 hi hz0 hz1 hz2 rfl (by decide) _ _ _ h _ x.length d (cellsR x) (by rw [cellsR_length]) hcell (oneCell_cellsR x) (by unfold maxLen; omega) (by omega) hbase
  have hB : Below base w w' := (Below.refl _ w).grown hg hbase (fun k e => (h.own k e).1)
  have e2 : cellsR (l ++ x) = cellsR l ++ cellsR x := by simp [cellsR]
  have e3 : (l ++ x).length = l.length + x.length := by simp
  rcases ho.2 with ⟨e, h0⟩ | ⟨g', cap', cur', e, _⟩
  · have := (hn.1 e).1
    injection this with this _ _
    exact absurd this hA
  · rw [e] at hrun ho
    exact ⟨_, _, w', hrun, by simp, by unfold GrR; rw [e2, e3]; exact ho, hB⟩
theorem make_steps (L : Nat) (hL : L ≤ 10000000) (w : World) : ∃ W, (Instr.makeSlice 49 (.int .i64 0) (.int .i64 (L : Int))).run Tryd.prog w = .ok (.slice (some ⟨w.heap.size, 0, none⟩) 0 L) W ∧ GrR W w.heap.size (some ⟨w.heap.size, 0, none⟩) L [] ∧ Below w.heap.size w W ∧ W.heap.size = w.heap.size + 1 := by
  obtain ⟨i0, hi, hz0, hz1, hz2⟩ := info_parts info90
  have h := run_make (P := Tryd.prog) w 49 90 i0 (.agg #[.int .u64 0, .int .i64 0]) Tryd.underlying49 hi hz0 .i64 .i64 0 (L : Int) (by omega) (by omega) (by rw [hz2]; omega) (by omega)
  refine ⟨_, h.trans (by rw [show ((L : Int)).toNat = L by omega]; rfl), ?_, (Below.refl _ w).alloc (Nat.le_refl _) _, by simp⟩
  refine ⟨by simp [cellsR], .inr ⟨w.heap.size, L, _, rfl, Nat.le_refl _, heap_alloc_new w _, Nat.zero_le _, by unfold maxLen; omega, ?_, by simp [cellsR]⟩⟩
  rw [size_madeCells, hz1]
theorem GrR.mono {w : World} {base base' c : Nat} {A : Option Addr} {l : List St} (h : GrR w base A c l) (hb : base' ≤ base) : GrR w base' A c l := by
  refine ⟨h.1, ?_⟩
  rcases h.2 with ⟨e, h0⟩ | ⟨g, cap, cur, e, hb', hc, h1⟩
  · exact .inl ⟨e, h0⟩
  · exact .inr ⟨g, cap, cur, e, by omega, hc, h1⟩
theorem row_one (w : World) (r : St) : RowR (w.alloc (.cells #[.int .u64 (r.1 : Int), .int .i64 r.2] 90)) (w.alloc (.cells #[.int .u64 (r.1 : Int), .int .i64 r.2] 90)).heap.size (some ⟨w.heap.size, 0, none⟩) [r] := by
  intro _
  refine ⟨w.heap.size, 0, rfl, by simp, fun j q hq => ?_⟩
  match j, hq with
  | 0, hq =>
    simp at hq
    subst hq
    exact ⟨by simp [go_sem], by simp [go_sem]⟩
  | j + 1, hq => simp at hq

set_option maxRecDepth 100000 in
set_option maxHeartbeats 3200000 in
theorem ahead_any (A : Option Addr) (c : Nat) (l : List St) (c0 : St) (a : Nat) (w : World) (hr : RowR w w.heap.size A l) (hl : l.length ≤ 2000000) (h0 : l[0]? = some c0) :
    Calls Tryd.prog 71 #[.slice A l.length c, .int .u64 (a : Int)] w fun e w' => ∃ A' c', e = .returned (.slice A' (l.length + 1) c') ∧ GrR w' w.heap.size A' c' ((a, c0.2) :: l) ∧ Below w.heap.size w w' := by
  have hp : 0 < l.length := (List.getElem?_eq_some_iff.1 h0).1
  have HR := Lib.hid hr
  obtain ⟨b, off, rfl, hb, hc⟩ := hr hp
  obtain ⟨p0, p1⟩ := hc 0 c0 h0
  simp only [Nat.zero_mul, Nat.add_zero] at p0 p1
  obtain ⟨z0, hz0⟩ : ∃ z, c0.2 = z := ⟨_, rfl⟩
  rw [hz0] at p1 ⊢
  have HF : Hid (∀ W, Below w.heap.size w W → W.cell? ⟨b, off + 1, none⟩ = some (.int .i64 z0)) := fun W hW => (hW.cell hb).trans p1
  have FIN : Hid (∀ (W : World) (m g : Nat), Below w.heap.size w W → GrR W w.heap.size (some ⟨m, 0, none⟩) (l.length + 1) [] → RowR W W.heap.size (some ⟨g, 0, none⟩) [(a, z0)] → ∃ A1 c1 W1 A2 c2 W2, (Builtin.append_ #[49, 49] 49 #[.slice (some ⟨m, 0, none⟩) 0 (l.length + 1), .slice (some ⟨g, 0, none⟩) 1 1]).run Tryd.prog W = .ok (.slice A1 1 c1) W1 ∧ (Builtin.append_ #[49, 49] 49 #[.slice A1 1 c1, .slice (some ⟨b, off, none⟩) l.length c]).run Tryd.prog W1 = .ok (.slice A2 (l.length + 1) c2) W2 ∧ Below w.heap.size w W1 ∧ GrR W2 w.heap.size A2 c2 ((a, z0) :: l) ∧ Below w.heap.size w W2) := by
    intro W m g hW hG hS
    obtain ⟨A1, c1, W1, e1, n1, g1, b1⟩ := hG.app (by simp) _ 1 [(a, z0)] hS (by simp) 49 (by simp) hW.size
    have hW1 := hW.trans b1
    obtain ⟨A2, c2, W2, e2, _, g2, b2⟩ := g1.app n1 _ c l (HR.out.up hW1) hp 49 (by simp; omega) hW1.size
    simp only [List.nil_append, List.length_cons, List.length_nil, Nat.zero_add, List.singleton_append] at e1 e2 g1 g2
    exact ⟨A1, c1, W1, A2, c2, W2, e1, by rw [e2, Nat.add_comm], hW1, g2, hW1.trans b2⟩
  have hlw : IntKind.i64.wrap ((l.length : Int) + 1) = (l.length : Int) + 1 := wrap_id (by omega) (by omega)
  have HLEN : Hid ((l.length : Int) + 1 = ((l.length + 1 : Nat) : Int)) := by show _ = _; omega
  have HMK : Hid (∀ W, ∃ W', (Instr.makeSlice 49 (.int .i64 0) (.int .i64 ((l.length : Int) + 1))).run Tryd.prog W = .ok (.slice (some ⟨W.heap.size, 0, none⟩) 0 (l.length + 1)) W' ∧ GrR W' W.heap.size (some ⟨W.heap.size, 0, none⟩) (l.length + 1) [] ∧ Below W.heap.size W W' ∧ W'.heap.size = W.heap.size + 1) := fun W => by rw [HLEN.out]; exact make_steps (l.length + 1) (by omega) W
  have hXD : Below w.heap.size w w.drew := (Below.refl _ w).drew
  clear hc p0 p1 h0 hz0 HR
  go_enter Tryd.func71, Tryd.ntmps71
  go_wp2
  refine wp_region_held_drew (S := fun W => Below w.heap.size w W) (by kernel_rfl) hXD (fun hS => ?_)
  clear hXD
  generalize w.drew = wd at hS ⊢
  refine wpAnyH_take (i := 0) (v := ?_) rfl (by kernel_rfl) (by kernel_rfl) (by kernel_rfl) (fun _ _ _ h => h) (Yields.yieldsIf (Or.inl ⟨by kernel_rfl, ?_⟩)) hS ?_
  rotate_left
  · first | (intro w; go_simp; done) | (intro w; go_simp; with_reducible rfl)
  refine wpAnyH_take (i := 1) (v := ?_) rfl (by kernel_rfl) (by kernel_rfl) (by kernel_rfl) (fun _ _ _ h => h) (Yields.yieldsIf (Or.inl ⟨by kernel_rfl, ?_⟩)) hS ?_
  rotate_left
  · first | (intro w; go_simp; done) | (intro w; go_simp; with_reducible rfl)
  refine wpAnyH_take (i := 2) (v := ?_) rfl (by kernel_rfl) (by kernel_rfl) (by kernel_rfl) (fun _ _ _ h => h) (Yields.yieldsIf (Or.inl ⟨by kernel_rfl, ?_⟩)) hS ?_
  rotate_left
  · first | (intro w; go_simp; done) | (intro w; go_simp; with_reducible rfl)
  refine wpAnyH_take (i := 4) (v := ?_) rfl (by kernel_rfl) (by kernel_rfl) (by kernel_rfl) (fun _ _ _ h => h) (Yields.yieldsIf (Or.inl ⟨by kernel_rfl, ?_⟩)) hS ?_
  rotate_left
  · first | (intro w; go_simp; done) | (intro w; go_simp; with_reducible rfl)
  refine wpAnyH_take (i := 5) (v := ?_) rfl (by kernel_rfl) (by kernel_rfl) (by kernel_rfl) (fun _ _ _ h => h) (Yields.yieldsIf (Or.inl ⟨by kernel_rfl, ?_⟩)) hS ?_
  rotate_left
  · first | (intro w; go_simp; done) | (intro w; go_simp; with_reducible rfl)
  refine wpAnyH_take (i := 6) (v := ?_) rfl (by kernel_rfl) (by kernel_rfl) (by kernel_rfl) (fun _ _ _ h => h) (Yields.yieldsIf (Or.inl ⟨by kernel_rfl, ?_⟩)) hS ?_
  rotate_left
  · first | (intro w; go_simp; done) | (intro w; go_simp; with_reducible rfl)
  refine wpAnyH_take (i := 7) (v := ?_) rfl (by kernel_rfl) (by kernel_rfl) (by kernel_rfl) (fun _ _ _ h => h) (Yields.yieldsIf (Or.inl ⟨by kernel_rfl, ?_⟩)) hS ?_
  rotate_left
  · first | (intro w; go_simp; done) | (intro w; go_simp; with_reducible rfl)
  refine wpAnyH_take (i := 8) (v := ?_) rfl (by kernel_rfl) (by kernel_rfl) (by kernel_rfl) (fun _ _ _ h => h) (Or.inl ⟨by kernel_rfl, fun W hW => ?_⟩) hS ?_
  rotate_left
  · have f0 := HF.out W hW
    first | (go_simp; done) | (go_simp; with_reducible rfl)
  refine wpAnyH_take (i := 9) (v := ?_) rfl (by kernel_rfl) (by kernel_rfl) (by kernel_rfl) (fun _ _ _ h => h) (Yields.yieldsIf (Or.inl ⟨by kernel_rfl, ?_⟩)) hS ?_
  rotate_left
  · first | (intro w; go_simp; done) | (intro w; go_simp; with_reducible rfl)
  refine wpAnyH_all (rs := [3, 10]) (by kernel_rfl) (by simp) (fun i hi => ?_)
  obtain rfl | rfl : i = 3 ∨ i = 10 := by simpa using hi
  · obtain ⟨W1, hmk, hg1, hb1, hs1⟩ := HMK.out wd
    have hS3 : Below w.heap.size w W1 := hS.trans (hb1.mono hS.size)
    have HG1 : Hid (GrR W1 w.heap.size (some ⟨wd.heap.size, 0, none⟩) (l.length + 1) []) := hg1.mono hS.size
    clear hg1 hb1 hs1 hS HMK hi
    refine wpOp_step rfl (fun K hK => ?_)
    have HK := Lib.hid hK
    clear hK
    go_simp
    go_wp2
    refine HK.out _ _ ⟨hS3, ?_⟩
    have hS := hS3
    clear HK K hS3 hmk
    have hbx : Below W1.heap.size W1 (W1.alloc (.cells #[.int .u64 (a : Int), .int .i64 z0] 90)) := (Below.refl _ W1).alloc (Nat.le_refl _) _
    have hS3 : Below w.heap.size w (W1.alloc (.cells #[.int .u64 (a : Int), .int .i64 z0] 90)) := hS.trans (hbx.mono hS.size)
    have HG2 : Hid (GrR (W1.alloc (.cells #[.int .u64 (a : Int), .int .i64 z0] 90)) w.heap.size (some ⟨wd.heap.size, 0, none⟩) (l.length + 1) []) := HG1.out.below hbx (Nat.le_refl _)
    have HRW : Hid (RowR (W1.alloc (.cells #[.int .u64 (a : Int), .int .i64 z0] 90)) (W1.alloc (.cells #[.int .u64 (a : Int), .int .i64 z0] 90)).heap.size (some ⟨W1.heap.size, 0, none⟩) [(a, z0)]) := row_one W1 (a, z0)
    clear hS HG1 hbx
    refine wpAnyH_ready (rs := [10]) (by kernel_rfl) (by simp) ?_
    refine AllReadyH.cons rfl (fun K hK => ?_) AllReadyH.nil
    go_simp
    refine hK.out _ _ hS3 (fun hS => ?_)
    clear hK K hS3
    obtain ⟨A1, c1, V1, A2, c2, V2, e1, e2, b1, g2, b2⟩ := FIN.out _ _ _ hS HG2.out HRW.out
    have E1 := Lib.hid e1
    have E2 := Lib.hid e2
    have B1 := Lib.hid b1
    have G2 := Lib.hid g2
    have B2 := Lib.hid b2
    clear e1 e2 b1 g2 b2 FIN HG2 HRW hS
    refine wpAnyH_ready (rs := [11]) (by kernel_rfl) (by simp) ?_
    refine AllReadyH.cons rfl (fun K hK => ?_) AllReadyH.nil
    refine oper_append_run _ _ _ _ rfl _ _ rfl rfl E1.out ?_
    clear E1
    go_simp
    refine hK.out _ _ B1.out (fun hS => ?_)
    clear hK K B1
    refine wpAnyH_take (i := 12) (v := ?_) rfl (by kernel_rfl) (by kernel_rfl) (by kernel_rfl) (fun _ _ _ h => h) (Yields.yieldsIf (Or.inl ⟨by kernel_rfl, ?_⟩)) hS ?_
    rotate_left
    · first | (intro w; go_simp; done) | (intro w; go_simp; with_reducible rfl)
    refine wpAnyH_done (by kernel_rfl) ?_ _
    go_wp2_with (at_builtin; refine wpList_append_run rfl _ _ _ _ rfl _ _ rfl rfl E2.out ?_; clear E2)
    go_ret
    exact ⟨A2, c2, rfl, G2.out, B2.out⟩
  · refine wpOp_step rfl (fun K hK => ?_)
    have HK := Lib.hid hK
    clear hK hi
    have hbx : Below wd.heap.size wd (wd.alloc (.cells #[.int .u64 (a : Int), .int .i64 z0] 90)) := (Below.refl _ wd).alloc (Nat.le_refl _) _
    have hS3 : Below w.heap.size w (wd.alloc (.cells #[.int .u64 (a : Int), .int .i64 z0] 90)) := hS.trans (hbx.mono hS.size)
    have HRW1 : Hid (RowR (wd.alloc (.cells #[.int .u64 (a : Int), .int .i64 z0] 90)) (wd.alloc (.cells #[.int .u64 (a : Int), .int .i64 z0] 90)).heap.size (some ⟨wd.heap.size, 0, none⟩) [(a, z0)]) := row_one wd (a, z0)
    clear hS hbx
    go_simp
    refine HK.out _ _ ⟨hS3, ?_⟩
    have hS := hS3
    clear HK K hS3
    obtain ⟨W1, hmk, hg1, hb1, hs1⟩ := HMK.out (wd.alloc (.cells #[.int .u64 (a : Int), .int .i64 z0] 90))
    rw [World.size_alloc] at hmk hg1
    have hS3 : Below w.heap.size w W1 := hS.trans (hb1.mono hS.size)
    have HG2 : Hid (GrR W1 w.heap.size (some ⟨wd.heap.size + 1, 0, none⟩) (l.length + 1) []) := hg1.mono (by have := hS.size; simp at this; omega)
    have HRW : Hid (RowR W1 W1.heap.size (some ⟨wd.heap.size, 0, none⟩) [(a, z0)]) := HRW1.out.up hb1
    clear hg1 hb1 hs1 hS HMK HRW1
    refine wpAnyH_ready (rs := [3]) (by kernel_rfl) (by simp) ?_
    refine AllReadyH.cons rfl (fun K hK => ?_) AllReadyH.nil
    go_simp
    go_wp2
    refine hK.out _ _ hS3 (fun hS => ?_)
    clear hK K hS3 hmk
    obtain ⟨A1, c1, V1, A2, c2, V2, e1, e2, b1, g2, b2⟩ := FIN.out _ _ _ hS HG2.out HRW.out
    have E1 := Lib.hid e1
    have E2 := Lib.hid e2
    have B1 := Lib.hid b1
    have G2 := Lib.hid g2
    have B2 := Lib.hid b2
    clear e1 e2 b1 g2 b2 FIN HG2 HRW hS
    refine wpAnyH_ready (rs := [11]) (by kernel_rfl) (by simp) ?_
    refine AllReadyH.cons rfl (fun K hK => ?_) AllReadyH.nil
    refine oper_append_run _ _ _ _ rfl _ _ rfl rfl E1.out ?_
    clear E1
    go_simp
    refine hK.out _ _ B1.out (fun hS => ?_)
    clear hK K B1
    refine wpAnyH_take (i := 12) (v := ?_) rfl (by kernel_rfl) (by kernel_rfl) (by kernel_rfl) (fun _ _ _ h => h) (Yields.yieldsIf (Or.inl ⟨by kernel_rfl, ?_⟩)) hS ?_
    rotate_left
    · first | (intro w; go_simp; done) | (intro w; go_simp; with_reducible rfl)
    refine wpAnyH_done (by kernel_rfl) ?_ _
    go_wp2_with (at_builtin; refine wpList_append_run rfl _ _ _ _ rfl _ _ rfl rfl E2.out ?_; clear E2)
    go_ret
    exact ⟨A2, c2, rfl, G2.out, B2.out⟩
end Go.Proofs.YtflghlmikpfnpaaDoor.E
