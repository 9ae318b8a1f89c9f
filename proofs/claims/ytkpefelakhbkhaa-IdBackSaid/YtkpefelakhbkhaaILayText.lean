/-
  The program's layText and Show.
-/
import Derived.Test.YtkpefelakhbkhaaIArg
import Derived.Test.YtkpefelakhbkhaaIGrow
namespace Go.Proofs.Ytkpefelakhbkhaa.I
open Go.RowKit

/-- An append whose run is known, by itself. -/
theorem oper_append_run {P : Program} {w w' : World} {v' : Value} {o : Oper} {a : Act} {K : Act → World → Prop} {Q : Exit → Act → World → Prop} (s x : Operand) (t u : TypeId)
    (ho : o.op = .call { callee := .builtin .append, args := #[s, x], argTypes := #[t, u] }) (vs vx : Value) (hs : a.eval s = vs) (hx : a.eval x = vx) (hrun : (Builtin.append_ #[t, u] o.type #[vs, vx]).run P w = .ok v' w')
    (h : K (a.put o.dst v') w') : o.wp P a w K Q := by
  unfold Oper.wp execOp
  simp only [ho, resolve, invoke, builtin, Sem.run_bind, Sem.run_pure, Result.andThen_ok, List.map_toArray, List.map_cons, List.map_nil, hs, hx, hrun]
  exact h
/-- Whatever is not a row of bytes lies as it lay. -/
def FrB (w w' : World) : Prop := ∀ (k : Nat) (o : Obj), w.heap[k]? = some o → (∀ cs fr, o ≠ .cells cs 5 fr) → w'.heap[k]? = some o
theorem FrB.refl (w : World) : FrB w w := fun _ _ h _ => h
theorem FrB.trans {a b c : World} (h : FrB a b) (g : FrB b c) : FrB a c := fun k o hk ho => g k o (h k o hk ho) ho
theorem FrB.alloc (w : World) (x : Obj) : FrB w (w.alloc x) := fun k _ hk _ => (Below.heap_alloc w x k (Array.getElem?_eq_some_iff.1 hk).1).trans hk
theorem FrB.below {w w' : World} (h : Below w.heap.size w w') : FrB w w' := fun k _ hk _ => (h.block k (Array.getElem?_eq_some_iff.1 hk).1).trans hk
theorem FrB.cell {w w' : World} (h : FrB w w') {k : Nat} {cs : Array Value} {t : TypeId} (hk : w.heap[k]? = some (.cells cs t (0, 0))) (ht : t ≠ 5) : w'.heap[k]? = some (.cells cs t (0, 0)) := h k _ hk (fun cs' fr e => by injection e with _ e2 _; exact ht e2)
theorem Gr.fr {w w' : World} {base c : Nat} {A : Option Addr} {l : List Nat} (h : Gr w base A c l) (hg : w.grownBy w' (Value.slice A l.length c).ownBlock) : FrB w w' := fun k o hk ho => by
  refine (hg.block k (Array.getElem?_eq_some_iff.1 hk).1 (fun e => ?_)).trans hk
  rcases h.cases with ⟨rfl, h2, rfl⟩ | ⟨g, rfl, hw⟩
  · simp [Value.ownBlock] at e
  · obtain rfl : k = g := by simpa [Value.ownBlock] using e
    obtain ⟨cur, _, hc, _⟩ := hw.parts
    rw [hc] at hk
    injection hk with hk
    exact ho cur (0, 0) hk.symm
/-- append(out, x): one byte that lies in a block of its own. -/
theorem Gr.put {w : World} {base c : Nat} {A : Option Addr} {l : List Nat} (h : Gr w base A c l) (b : Nat) (x : Nat) (B : Nat) (hr : Row w B (some ⟨b, 0, none⟩) [x]) (ty : TypeId) (hb : l.length ≤ 199999999999999) (hbase : base ≤ w.heap.size) :
    ∃ A' c' w', (Builtin.append_ #[40, 40] ty #[.slice A l.length c, .slice (some ⟨b, 0, none⟩) 1 1]).run Try.prog w = .ok (.slice A' (l.length + 1) c') w' ∧ Gr w' base A' c' (l ++ [x]) ∧ Below base w w' ∧ FrB w w' := by
  obtain ⟨i0, hi, hz0, hz1, hz2⟩ := info_parts info5
  obtain ⟨v', w', hrun, ho, hg, hn⟩ := run_append_own_wide (P := Try.prog) w base 40 ty 5 i0 (.int .u8 0) 1 1 Try.underlying40 hi hz0 hz1 hz2 rfl (by decide) _ _ _ h _ 1 1 (cellsB [x]) (by simp [cellsB]) (row_cells hr _ rfl) (oneCell_cellsB [x]) (by unfold maxLen; omega) (by omega) hbase
  have hB : Below base w w' := (Below.refl _ w).grown hg hbase h.own
  have e2 : cellsB (l ++ [x]) = cellsB l ++ cellsB [x] := by simp [cellsB]
  have e3 : (l ++ [x]).length = l.length + 1 := by simp
  rcases ho.2 with ⟨e, h0⟩ | ⟨g', cap', cur, e, _⟩
  · omega
  · rw [e] at hrun ho
    exact ⟨_, _, w', hrun, by unfold Gr; rw [e2, e3]; exact ho, hB, h.fr hg⟩
/-- What lays bytes behind others. -/
def Lays (l : List Nat) (base : Nat) (w : World) (e : Ending) (w' : World) : Prop := ∃ A c, e = .returned (.slice A l.length c) ∧ Gr w' base A c l ∧ Below base w w' ∧ FrB w w'
theorem text_small : ∀ t : Tr, ∀ x ∈ textT t, x < 256
  | .leaf true, x, h => by simp [textT] at h; omega
  | .leaf false, x, h => by simp [textT] at h; omega
  | .node a b, x, h => by
    simp only [textT, List.mem_cons, List.mem_append, List.not_mem_nil, or_false] at h
    rcases h with h | h | h | h | h
    · omega
    · exact text_small a x h
    · omega
    · exact text_small b x h
    · omega

set_option maxRecDepth 100000 in
set_option maxHeartbeats 3200000 in
theorem layText_any : ∀ (t : Tr) (v : Value) (A : Option Addr) (c : Nat) (l : List Nat) (base : Nat) (w : World), l.length + 4 * t.nodes ≤ 1000000 → InT w base t v → Gr w base A c l → base ≤ w.heap.size →
    Calls Try.prog 49 #[.slice A l.length c, v] w (Lays (l ++ textT t) base w) := by
  intro t
  induction t with
  | leaf o =>
    rintro v A c l base w hl ⟨A1, c1, rfl⟩ hg hbase
    have hb0 : Below w.heap.size w (w.alloc (.cells #[.bool o, .slice A1 0 c1] 24)) := (Below.refl _ w).alloc (Nat.le_refl _) _
    have hc := pleaf_any o A1 0 c1 (w.alloc (.cells #[.bool o, .slice A1 0 c1] 24))
    have HBX : Hid (((w.alloc (.cells #[.bool o, .slice A1 0 c1] 24)).heap[w.heap.size]?) = some (.cells #[.bool o, .slice A1 0 c1] 24 (0, 0))) := heap_alloc_new w _
    have HG := Lib.hid hg
    have HB0 := Lib.hid hb0
    simp only [Tr.nodes] at hl
    unfold tv at hc ⊢
    rw [decide_eq_true rfl] at hc
    clear hg hb0
    go_enter Try.func49, Try.ntmps49
    go_wp2_with fail
    refine hc.mono ?_
    rintro e w1 ⟨rfl, hb1⟩
    have hbx := (FrB.below hb1).cell HBX.out (by decide)
    have k0 : w1.cell? ⟨w.heap.size, 0, none⟩ = some (.bool o) := by rw [cell_of_row w1 _ 0 _ 24 (0, 0) hbx]; rfl
    have hB1 : Below w.heap.size w w1 := HB0.out.trans (hb1.mono HB0.out.size)
    have hg1 := HG.out.below hB1 (Nat.le_refl _)
    have hbase1 : base ≤ w1.heap.size := Nat.le_trans hbase hB1.size
    clear hc hb1 hbx HG HB0 HBX
    cases o with
    | true =>
      obtain ⟨A2, c2, w2, hap, hg2, hb2, hf2⟩ := (hg1.alloc (.cells #[.int .u8 49] 5)).put w1.heap.size 49 _ (row_one w1 49 (by decide)) 40 (by omega) (by simp; omega)
      have HAP := Lib.hid hap
      have HG2 := Lib.hid hg2
      have HB2 : Hid (Below base w w2) := (hB1.mono hbase).trans (((Below.refl _ w1).alloc hbase1 _).trans hb2)
      have HF2 : Hid (FrB w w2) := (FrB.below hB1).trans ((FrB.alloc w1 _).trans hf2)
      clear hap hg2 hb2 hf2 hg1 hB1
      go_wp2_with (at_builtin; refine wpList_append_run rfl _ _ _ _ rfl _ _ rfl rfl HAP.out ?_; clear HAP)
      go_ret
      exact ⟨A2, c2, by rw [List.length_append]; rfl, HG2.out, HB2.out, HF2.out⟩
    | false =>
      obtain ⟨A2, c2, w2, hap, hg2, hb2, hf2⟩ := (hg1.alloc (.cells #[.int .u8 48] 5)).put w1.heap.size 48 _ (row_one w1 48 (by decide)) 40 (by omega) (by simp; omega)
      have HAP := Lib.hid hap
      have HG2 := Lib.hid hg2
      have HB2 : Hid (Below base w w2) := (hB1.mono hbase).trans (((Below.refl _ w1).alloc hbase1 _).trans hb2)
      have HF2 : Hid (FrB w w2) := (FrB.below hB1).trans ((FrB.alloc w1 _).trans hf2)
      clear hap hg2 hb2 hf2 hg1 hB1
      go_wp2_with (at_builtin; refine wpList_append_run rfl _ _ _ _ rfl _ _ rfl rfl HAP.out ?_; clear HAP)
      go_ret
      exact ⟨A2, c2, by rw [List.length_append]; rfl, HG2.out, HB2.out, HF2.out⟩
  | node x y ihx ihy =>
    rintro v A c l base w hl ⟨b, off, c1, rfl, hb, ⟨o1, A1, n1, d1, e1, e2, e3⟩, ⟨o2, A2, n2, d2, g1, g2, g3⟩⟩ hg hbase
    have hb0 : Below w.heap.size w (w.alloc (.cells #[.bool false, .slice (some ⟨b, off, none⟩) 2 c1] 24)) := (Below.refl _ w).alloc (Nat.le_refl _) _
    have hc := pleaf_any false (some ⟨b, off, none⟩) 2 c1 (w.alloc (.cells #[.bool false, .slice (some ⟨b, off, none⟩) 2 c1] 24))
    have HBX : Hid (((w.alloc (.cells #[.bool false, .slice (some ⟨b, off, none⟩) 2 c1] 24)).heap[w.heap.size]?) = some (.cells #[.bool false, .slice (some ⟨b, off, none⟩) 2 c1] 24 (0, 0))) := heap_alloc_new w _
    have HG := Lib.hid hg
    have HB0 := Lib.hid hb0
    have HF : Hid (∀ W, (Below base w W ∧ W.heap[w.heap.size]? = some (.cells #[.bool false, .slice (some ⟨b, off, none⟩) 2 c1] 24 (0, 0))) → W.cell? ⟨w.heap.size, 1, none⟩ = some (.slice (some ⟨b, off, none⟩) 2 c1) ∧ W.cell? ⟨b, off, none⟩ = some (.bool o1) ∧ W.cell? ⟨b, off + 1, none⟩ = some (.slice A1 n1 d1) ∧ W.cell? ⟨b, off + 2, none⟩ = some (.bool o2) ∧ W.cell? ⟨b, off + 2 + 1, none⟩ = some (.slice A2 n2 d2)) := fun W hW => by
      have low : ∀ i, W.cell? ⟨b, i, none⟩ = w.cell? ⟨b, i, none⟩ := fun i => hW.1.cell hb
      exact ⟨by rw [cell_of_row W _ 1 _ 24 (0, 0) hW.2]; rfl, (low _).trans e1, (low _).trans e2, (low _).trans g1, (low _).trans g2⟩
    have hcx := fun W A' c' (L : List Nat) (hL : L.length + 4 * x.nodes ≤ 1000000) (hW : Below base w W) (hg : Gr W base A' c' L) => ihx (.agg #[.bool o1, .slice A1 n1 d1]) A' c' L base W hL (e3.below hW) hg (Nat.le_trans hbase hW.size)
    have hcy := fun W A' c' (L : List Nat) (hL : L.length + 4 * y.nodes ≤ 1000000) (hW : Below base w W) (hg : Gr W base A' c' L) => ihy (.agg #[.bool o2, .slice A2 n2 d2]) A' c' L base W hL (g3.below hW) hg (Nat.le_trans hbase hW.size)
    have HE : Hid (l ++ textT (.node x y) = (((l ++ [40]) ++ textT x) ++ [44]) ++ textT y ++ [41]) := by show _ = _; simp [textT]
    have hlx := textT_len x
    have hly := textT_len y
    simp only [Tr.nodes] at hl
    unfold tv at hc ⊢
    rw [show decide (2 = 0) = false from rfl] at hc
    clear hg hb0 ihx ihy e1 e2 e3 g1 g2 g3
    go_enter Try.func49, Try.ntmps49
    go_wp2_with fail
    refine hc.mono ?_
    rintro e w1 ⟨rfl, hb1⟩
    have hbx := (FrB.below hb1).cell HBX.out (by decide)
    have hB1 : Below w.heap.size w w1 := HB0.out.trans (hb1.mono HB0.out.size)
    have HG1 := Lib.hid (HG.out.below (hB1.drew) (Nat.le_refl _))
    have hS1 : Below base w w1.drew ∧ w1.drew.heap[w.heap.size]? = some (.cells #[.bool false, .slice (some ⟨b, off, none⟩) 2 c1] 24 (0, 0)) := ⟨(hB1.mono hbase).drew, hbx⟩
    have HFR1 : Hid (FrB w w1.drew) := FrB.below hB1.drew
    clear hc hb1 hbx HG HB0 HBX hB1
    go_wp2
    refine wp_region_held_drew (S := fun W => Below base w W ∧ W.heap[w.heap.size]? = some (.cells #[.bool false, .slice (some ⟨b, off, none⟩) 2 c1] 24 (0, 0))) (by kernel_rfl) hS1 (fun hS => ?_)
    clear hS1
    generalize w1.drew = wd at hS HG1 HFR1 ⊢
    refine wpAnyH_take (i := 0) (v := ?_) rfl (by kernel_rfl) (by kernel_rfl) (by kernel_rfl) (fun _ _ _ h => h) (Yields.yieldsIf (Or.inl ⟨by kernel_rfl, ?_⟩)) hS ?_
    rotate_left
    · first | (intro w; go_simp; done) | (intro w; go_simp; with_reducible rfl)
    refine wpAnyH_take (i := 3) (v := ?_) rfl (by kernel_rfl) (by kernel_rfl) (by kernel_rfl) (fun _ _ _ h => h) (Yields.yieldsIf (Or.inl ⟨by kernel_rfl, ?_⟩)) hS ?_
    rotate_left
    · first | (intro w; go_simp; done) | (intro w; go_simp; with_reducible rfl)
    refine wpAnyH_take (i := 4) (v := ?_) rfl (by kernel_rfl) (by kernel_rfl) (by kernel_rfl) (fun _ _ _ h => h) (Or.inl ⟨by kernel_rfl, fun W hW => ?_⟩) hS ?_
    rotate_left
    · obtain ⟨f0, f1, f2, f3, f4⟩ := HF.out W hW
      first | (go_simp; done) | (go_simp; with_reducible rfl)
    refine wpAnyH_take (i := 5) (v := ?_) rfl (by kernel_rfl) (by kernel_rfl) (by kernel_rfl) (fun _ _ _ h => h) (Yields.yieldsIf (Or.inl ⟨by kernel_rfl, ?_⟩)) hS ?_
    rotate_left
    · first | (intro w; go_simp; done) | (intro w; go_simp; with_reducible rfl)
    refine wpAnyH_take (i := 6) (v := ?_) rfl (by kernel_rfl) (by kernel_rfl) (by kernel_rfl) (fun _ _ _ h => h) (Or.inl ⟨by kernel_rfl, fun W hW => ?_⟩) hS ?_
    rotate_left
    · obtain ⟨f0, f1, f2, f3, f4⟩ := HF.out W hW
      first | (go_simp; done) | (go_simp; with_reducible rfl)
    have hbw : base ≤ wd.heap.size := Nat.le_trans hbase hS.1.size
    obtain ⟨A3, c3, w3, hap, hg3, hb3, hf3⟩ := (HG1.out.alloc (.cells #[.int .u8 40] 5)).put wd.heap.size 40 _ (row_one wd 40 (by decide)) 40 (by omega) (by simp; omega)
    have HAP := Lib.hid hap
    have HG3 := Lib.hid hg3
    have hSa : Below base w (wd.alloc (.cells #[.int .u8 40] 5)) ∧ (wd.alloc (.cells #[.int .u8 40] 5)).heap[w.heap.size]? = some (.cells #[.bool false, .slice (some ⟨b, off, none⟩) 2 c1] 24 (0, 0)) := ⟨hS.1.alloc hbw _, (FrB.alloc wd _).cell hS.2 (by decide)⟩
    have hSb : Below base w w3 ∧ w3.heap[w.heap.size]? = some (.cells #[.bool false, .slice (some ⟨b, off, none⟩) 2 c1] 24 (0, 0)) := ⟨hSa.1.trans hb3, hf3.cell hSa.2 (by decide)⟩
    have HF3 : Hid (FrB w w3) := HFR1.out.trans ((FrB.alloc wd _).trans hf3)
    have HSa := Lib.hid hSa
    have HSb := Lib.hid hSb
    clear hap hg3 hb3 hf3 hSa hSb HG1 HFR1 hbw hS
    refine wpAnyH_ready (rs := [1]) (by kernel_rfl) (by simp) ?_
    refine AllReadyH.cons rfl (fun K hK => ?_) AllReadyH.nil
    go_simp
    go_wp2
    refine hK.out _ _ HSa.out (fun _ => ?_)
    clear hK K HSa
    refine wpAnyH_ready (rs := [2]) (by kernel_rfl) (by simp) ?_
    refine AllReadyH.cons rfl (fun K hK => ?_) AllReadyH.nil
    refine oper_append_run _ _ _ _ rfl _ _ rfl rfl HAP.out ?_
    clear HAP
    go_simp
    refine hK.out _ _ HSb.out (fun hS => ?_)
    clear hK K HSb
    have hcc := hcx w3 A3 c3 (l ++ [40]) (by simp; omega) hS.1 HG3.out
    simp only [List.length_append, List.length_cons, List.length_nil, Nat.zero_add] at hcc
    unfold Lays at hcc
    obtain ⟨L, hL⟩ : ∃ L, (l ++ [40]) ++ textT x = L := ⟨_, rfl⟩
    rw [hL] at hcc HE
    have hLl : L.length ≤ l.length + 1 + 4 * x.nodes := by rw [← hL]; simp; omega
    clear hL hcx HG3
    refine wpAnyH_ready (rs := [7]) (by kernel_rfl) (by simp) ?_
    refine AllReadyH.cons rfl (fun K hK => ?_) AllReadyH.nil
    go_simp
    go_wp2_with (go_at_call 49; refine (hcc).mono ?_; rintro e w4 ⟨A4, c4, rfl, hg4, hb4, hf4⟩)
    have hS3 : Below base w w4 ∧ w4.heap[w.heap.size]? = some (.cells #[.bool false, .slice (some ⟨b, off, none⟩) 2 c1] 24 (0, 0)) := ⟨hS.1.trans hb4, hf4.cell hS.2 (by decide)⟩
    have HG4 := Lib.hid hg4
    have HFR4 : Hid (FrB w w4) := HF3.out.trans hf4
    clear hb4 hg4 hf4 hcc HF3 hS
    refine hK.out _ _ hS3 (fun hS => ?_)
    clear hK K hS3
    refine wpAnyH_take (i := 8) (v := ?_) rfl (by kernel_rfl) (by kernel_rfl) (by kernel_rfl) (fun _ _ _ h => h) (Yields.yieldsIf (Or.inl ⟨by kernel_rfl, ?_⟩)) hS ?_
    rotate_left
    · first | (intro w; go_simp; done) | (intro w; go_simp; with_reducible rfl)
    refine wpAnyH_done (by kernel_rfl) ?_ _
    have hS1 : Below base w w4.drew ∧ w4.drew.heap[w.heap.size]? = some (.cells #[.bool false, .slice (some ⟨b, off, none⟩) 2 c1] 24 (0, 0)) := ⟨hS.1.drew, hS.2⟩
    have HG4' := Lib.hid (HG4.out.below ((Below.refl w4.heap.size w4).drew) (Nat.le_refl _))
    have HFR4' : Hid (FrB w w4.drew) := HFR4.out.trans (FrB.below ((Below.refl w4.heap.size w4).drew))
    clear HG4 HFR4 hS
    rename Hid (Gr w4.drew base A4 c4 L) => HG4
    rename Hid (FrB w w4.drew) => HFR4
    go_wp2
    refine wp_region_held_drew (S := fun W => Below base w W ∧ W.heap[w.heap.size]? = some (.cells #[.bool false, .slice (some ⟨b, off, none⟩) 2 c1] 24 (0, 0))) (by kernel_rfl) hS1 (fun hS => ?_)
    clear hS1
    generalize w4.drew = wd at hS HG4 HFR4 ⊢
    refine wpAnyH_take (i := 0) (v := ?_) rfl (by kernel_rfl) (by kernel_rfl) (by kernel_rfl) (fun _ _ _ h => h) (Yields.yieldsIf (Or.inl ⟨by kernel_rfl, ?_⟩)) hS ?_
    rotate_left
    · first | (intro w; go_simp; done) | (intro w; go_simp; with_reducible rfl)
    refine wpAnyH_take (i := 3) (v := ?_) rfl (by kernel_rfl) (by kernel_rfl) (by kernel_rfl) (fun _ _ _ h => h) (Yields.yieldsIf (Or.inl ⟨by kernel_rfl, ?_⟩)) hS ?_
    rotate_left
    · first | (intro w; go_simp; done) | (intro w; go_simp; with_reducible rfl)
    refine wpAnyH_take (i := 4) (v := ?_) rfl (by kernel_rfl) (by kernel_rfl) (by kernel_rfl) (fun _ _ _ h => h) (Or.inl ⟨by kernel_rfl, fun W hW => ?_⟩) hS ?_
    rotate_left
    · obtain ⟨f0, f1, f2, f3, f4⟩ := HF.out W hW
      first | (go_simp; done) | (go_simp; with_reducible rfl)
    refine wpAnyH_take (i := 5) (v := ?_) rfl (by kernel_rfl) (by kernel_rfl) (by kernel_rfl) (fun _ _ _ h => h) (Yields.yieldsIf (Or.inl ⟨by kernel_rfl, ?_⟩)) hS ?_
    rotate_left
    · first | (intro w; go_simp; done) | (intro w; go_simp; with_reducible rfl)
    refine wpAnyH_take (i := 6) (v := ?_) rfl (by kernel_rfl) (by kernel_rfl) (by kernel_rfl) (fun _ _ _ h => h) (Or.inl ⟨by kernel_rfl, fun W hW => ?_⟩) hS ?_
    rotate_left
    · obtain ⟨f0, f1, f2, f3, f4⟩ := HF.out W hW
      first | (go_simp; done) | (go_simp; with_reducible rfl)
    have hbw : base ≤ wd.heap.size := Nat.le_trans hbase hS.1.size
    obtain ⟨A3, c3, w3, hap, hg3, hb3, hf3⟩ := (HG4.out.alloc (.cells #[.int .u8 44] 5)).put wd.heap.size 44 _ (row_one wd 44 (by decide)) 40 (by omega) (by simp; omega)
    have HAP := Lib.hid hap
    have HG3 := Lib.hid hg3
    have hSa : Below base w (wd.alloc (.cells #[.int .u8 44] 5)) ∧ (wd.alloc (.cells #[.int .u8 44] 5)).heap[w.heap.size]? = some (.cells #[.bool false, .slice (some ⟨b, off, none⟩) 2 c1] 24 (0, 0)) := ⟨hS.1.alloc hbw _, (FrB.alloc wd _).cell hS.2 (by decide)⟩
    have hSb : Below base w w3 ∧ w3.heap[w.heap.size]? = some (.cells #[.bool false, .slice (some ⟨b, off, none⟩) 2 c1] 24 (0, 0)) := ⟨hSa.1.trans hb3, hf3.cell hSa.2 (by decide)⟩
    have HF3 : Hid (FrB w w3) := HFR4.out.trans ((FrB.alloc wd _).trans hf3)
    have HSa := Lib.hid hSa
    have HSb := Lib.hid hSb
    clear hap hg3 hb3 hf3 hSa hSb HG4 HFR4 hbw hS
    refine wpAnyH_ready (rs := [1]) (by kernel_rfl) (by simp) ?_
    refine AllReadyH.cons rfl (fun K hK => ?_) AllReadyH.nil
    go_simp
    go_wp2
    refine hK.out _ _ HSa.out (fun _ => ?_)
    clear hK K HSa
    refine wpAnyH_ready (rs := [2]) (by kernel_rfl) (by simp) ?_
    refine AllReadyH.cons rfl (fun K hK => ?_) AllReadyH.nil
    refine oper_append_run _ _ _ _ rfl _ _ rfl rfl HAP.out ?_
    clear HAP
    go_simp
    refine hK.out _ _ HSb.out (fun hS => ?_)
    clear hK K HSb
    have hcc := hcy w3 A3 c3 (L ++ [44]) (by simp; omega) hS.1 HG3.out
    simp only [List.length_append, List.length_cons, List.length_nil, Nat.zero_add] at hcc
    unfold Lays at hcc
    obtain ⟨L', hL⟩ : ∃ L', (L ++ [44]) ++ textT y = L' := ⟨_, rfl⟩
    rw [hL] at hcc HE
    have hLl2 : L'.length ≤ L.length + 1 + 4 * y.nodes := by rw [← hL]; simp; omega
    clear hL hcy HG3
    refine wpAnyH_ready (rs := [7]) (by kernel_rfl) (by simp) ?_
    refine AllReadyH.cons rfl (fun K hK => ?_) AllReadyH.nil
    go_simp
    go_wp2_with (go_at_call 49; refine (hcc).mono ?_; rintro e w6 ⟨A6, c6, rfl, hg4, hb4, hf4⟩)
    have hS3 : Below base w w6 ∧ w6.heap[w.heap.size]? = some (.cells #[.bool false, .slice (some ⟨b, off, none⟩) 2 c1] 24 (0, 0)) := ⟨hS.1.trans hb4, hf4.cell hS.2 (by decide)⟩
    have HG6 := Lib.hid hg4
    have HFR6 : Hid (FrB w w6) := HF3.out.trans hf4
    clear hb4 hg4 hf4 hcc HF3 hS
    refine hK.out _ _ hS3 (fun hS => ?_)
    clear hK K hS3
    refine wpAnyH_take (i := 8) (v := ?_) rfl (by kernel_rfl) (by kernel_rfl) (by kernel_rfl) (fun _ _ _ h => h) (Yields.yieldsIf (Or.inl ⟨by kernel_rfl, ?_⟩)) hS ?_
    rotate_left
    · first | (intro w; go_simp; done) | (intro w; go_simp; with_reducible rfl)
    refine wpAnyH_done (by kernel_rfl) ?_ _
    have hbw : base ≤ w6.heap.size := Nat.le_trans hbase hS.1.size
    obtain ⟨A7, c7, w7, hap, hg7, hb7, hf7⟩ := (HG6.out.alloc (.cells #[.int .u8 41] 5)).put w6.heap.size 41 _ (row_one w6 41 (by decide)) 40 (by omega) (by simp; omega)
    have HAP := Lib.hid hap
    have HG7 := Lib.hid hg7
    have HB7 : Hid (Below base w w7) := hS.1.trans (((Below.refl _ w6).alloc hbw _).trans hb7)
    have HF7 : Hid (FrB w w7) := HFR6.out.trans ((FrB.alloc w6 _).trans hf7)
    clear hap hg7 hb7 hf7 hS HG6 HFR6
    go_wp2_with (at_builtin; refine wpList_append_run rfl _ _ _ _ rfl _ _ rfl rfl HAP.out ?_; clear HAP)
    go_ret
    exact ⟨A7, c7, by rw [HE.out, List.length_append]; rfl, by rw [HE.out]; exact HG7.out, HB7.out, HF7.out⟩

set_option maxRecDepth 100000 in
set_option maxHeartbeats 1600000 in
theorem show_arg {w : World} {T : Option Tr} {v : Value} (hv : Arg w T v) : Calls Try.prog 28 #[v] w fun e w' => e = .returned (showR T) ∧ Below w.heap.size w w' := by
  obtain ⟨o, A, n, c, rfl⟩ := hv.form
  have HX := Lib.hid ((XS.begin w).boxed (.bool o) (.slice A n c))
  have HV := Lib.hid hv
  clear hv
  have hr := right_arg (HV.out.up HX.out.bel)
  unfold tv at hr ⊢
  go_enter Try.func28, Try.ntmps28
  go_wp2_with fail
  refine hr.mono ?_
  rintro e w1 ⟨rfl, hb1⟩
  have HX1 := Lib.hid (HX.out.next hb1)
  clear hb1 hr HX
  have f := HX1.out.at0
  simp only [List.nil_append, List.mem_cons, List.not_mem_nil, or_false, forall_eq] at f
  obtain ⟨a0, a1, l1⟩ := f
  cases T with
  | none =>
    simp only [Option.isSome_none]
    go_wp2
    go_ret2
    exact ⟨rfl, HX1.out.bel⟩
  | some t =>
    simp only [Option.isSome_some]
    obtain ⟨hin, hd, hn⟩ := (HV.out.up HX1.out.bel).inT
    have hc := norm_any t _ w1 hin
    have hnn := norm_nodes t
    unfold tv at hc
    clear hin
    go_wp2_with fail
    refine hc.mono ?_
    rintro e w2 ⟨v2, rfl, ht2, hb2⟩
    have HX2 := Lib.hid (HX1.out.next hb2)
    have hc2 := layText_any t.norm v2 none 0 [] w2.heap.size w2 (by simp; omega) ht2 (Gr.nil _ _) (Nat.le_refl _)
    have HSM := Lib.hid (text_small t.norm)
    have HE : Hid (showR (some t) = .tuple #[.string (strB (textT t.norm)), .int .i64 0]) := rfl
    simp only [List.length_nil, List.nil_append] at hc2
    obtain ⟨L, hL⟩ : ∃ L, textT t.norm = L := ⟨_, rfl⟩
    rw [hL] at hc2 HSM HE
    clear hb2 hc HX1 a0 a1 l1 ht2 hL
    go_wp2_with fail
    refine hc2.mono ?_
    rintro e w3 ⟨A3, c3, rfl, hg3, hb3, hf3⟩
    have HB3 : Hid (Below w.heap.size w w3) := HX2.out.bel.trans (hb3.mono HX2.out.bel.size)
    have hrun := run_str A3 c3 L w3 _ (hg3.row HSM.out)
    obtain ⟨S, hS⟩ : ∃ S, strB L = S := ⟨_, rfl⟩
    rw [hS] at hrun HE
    clear hc2 hb3 hf3 hg3 HX2 hS
    go_wp2
    go_ret2
    exact ⟨by rw [HE.out]; rfl, HB3.out⟩
end Go.Proofs.Ytkpefelakhbkhaa.I
