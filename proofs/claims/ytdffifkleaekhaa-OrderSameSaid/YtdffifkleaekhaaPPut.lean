/-
  Put.
-/
import Derived.Test.YtdffifkleaekhaaPSettle
import Derived.Test.YtdffifkleaekhaaPEq
namespace Go.Proofs.Ytdffifkleaekhaa.O
open Go.RowKit Go.Proofs.Ytdffifkleaekhaa.V
set_option linter.unusedVariables false
set_option linter.unusedSimpArgs false

theorem find_cons (o : Op) (l : List Op) (d : D) : find (o :: l) d = if o.dot = d then some o else find l d := by
  unfold find
  rw [List.find?_cons]
  by_cases e : o.dot = d <;> simp [e]
theorem findO_cons (y : Ov) (l : List Ov) (d : D) : findO (y :: l) d = if y.o.dot = d then some y else findO l d := by
  unfold findO
  rw [List.find?_cons]
  by_cases e : y.o.dot = d <;> simp [e]
theorem nodup_cons {q : Pool} {o : Op} (hi : Inv q) (hn : ∀ x ∈ q.L ++ q.W, x.dot ≠ o.dot) : ((o :: (q.L ++ q.W)).map fun o => o.dot).Nodup := by
  rw [List.map_cons, List.nodup_cons]
  refine ⟨fun hm => ?_, hi.nd⟩
  obtain ⟨x, hx, he⟩ := List.mem_map.1 hm
  exact hn x hx he
theorem look_cons {pv pv' : Pv} {q : Pool} {o : Op} {y : Ov} {l : List Op} (hr : Rel pv q) (hi : Inv q) (hn : ∀ x ∈ q.L ++ q.W, x.dot ≠ o.dot) (hy : y.o = o) (h4 : pv'.O = y :: pv.O) (hp : (o :: (q.L ++ q.W)).Perm l) (d : D) : (findO pv'.O d).map (fun x => x.o) = find l d := by
  rw [← find_perm hp (nodup_cons hi hn), h4, findO_cons, find_cons, hy]
  by_cases e : o.dot = d
  · rw [if_pos e, if_pos e, Option.map_some, hy]
  · rw [if_neg e, if_neg e]; exact hr.look d
theorem rel_hand {pv pv' : Pv} {q : Pool} {o : Op} {y : Ov} (hr : Rel pv q) (hi : Inv q) (hro : rightO o = true) (hrd : ready q.K o = true) (hn : ∀ x ∈ q.L ++ q.W, x.dot ≠ o.dot) (hy : y.o = o)
    (h1 : pv'.ds = pv.ds ++ [o.dot]) (h2 : pv'.ws = pv.ws) (h3 : pv'.K = (withO pv.K o.dot).1) (h4 : pv'.O = y :: pv.O) : Rel pv' (hand q o) ∧ Inv (hand q o) := by
  have hp : (o :: (q.L ++ q.W)).Perm (q.L ++ [o] ++ q.W) := by
    rw [List.append_assoc]; exact List.perm_middle.symm
  exact ⟨⟨by rw [h1, hr.ds]; simp [hand], by rw [h2, hr.ws]; rfl, by rw [h3, hr.K]; rfl, look_cons hr hi hn hy h4 hp⟩, inv_hand hi hro hrd ((hp.map _).nodup_iff.1 (nodup_cons hi hn)) fun x hx => hx⟩
theorem rel_wait {pv pv' : Pv} {q : Pool} {o : Op} {y : Ov} (hr : Rel pv q) (hi : Inv q) (hn : ∀ x ∈ q.L ++ q.W, x.dot ≠ o.dot) (hy : y.o = o)
    (h1 : pv'.ds = pv.ds) (h2 : pv'.ws = pv.ws ++ [o.dot]) (h3 : pv'.K = pv.K) (h4 : pv'.O = y :: pv.O) : Rel pv' ⟨q.L, q.K, q.W ++ [o]⟩ := by
  have hp : (o :: (q.L ++ q.W)).Perm (q.L ++ (q.W ++ [o])) := by
    rw [← List.append_assoc]; exact (List.perm_append_singleton o (q.L ++ q.W)).symm
  exact ⟨by rw [h1, hr.ds], by rw [h2, hr.ws]; simp, by rw [h3, hr.K], look_cons hr hi hn hy h4 hp⟩
theorem settle_any {pv : Pv} {w : World} {b : Nat} {q : Pool} (h : pv.At w b) (hr : Rel pv q) (hi : Inv q) (hn : q.L.length + q.W.length ≤ 1000000) :
    Calls Try.prog 64 #[.pointer (some ⟨b, 0, none⟩)] w fun e w' => ∃ pv', e = .returned (.int .i64 (drain q.W.length q).2) ∧ Rel pv' (drain q.W.length q).1 ∧ Step pv w pv' w' b ∧ pv'.O = pv.O := callsIn_wide.1 (settle_in h hr hi hn)
theorem hr_few {o : Op} (h : rightO o = true) : o.deps.length ≤ 10000000 ∧ o.seen.length ≤ 10000000 := by
  have hr := rightO_iff h
  have h1 := right_len hr.deps
  unfold rightO at h
  simp only [Bool.and_eq_true, decide_eq_true_eq] at h
  have h2 := h.1.1.1.1.2
  omega
theorem look_nil {P : Program} {w : World} {t k e : TypeId} {z : Value} (ht : P.underlying t = some (.map k e)) (hz : (zeroValue e).run P w = .ok z w) {key : Value} {kl : Lit} (K : Go.Maps.Keyed P k) (hkey : keyOf P k key = some kl) (c : Bool) :
    (Instr.lookup t (.map none) key c).run P w = .ok (if c then .tuple #[z, .bool false] else z) w := by
  have hf : (Instr.findKey k key []).run P w = .ok none w := by
    rcases K.find w hkey [] (by simp) with h | ⟨j, e, _, h, _⟩
    · exact h.1
    · simp at h
  simp [Instr.lookup, run_underlying ht, K.check w _ hkey, hf, hz, Result.andThen]
theorem Pv.At.look {p : Pv} {w : World} {b : Nat} (h : p.At w b) {s : ByteArray} {n : Int} (hd : dotB (s, n) = true) :
    (Instr.lookup 86 (.map p.M) (.agg #[.string s, .int .i64 n]) true).run Try.prog w = .ok (match findO p.O (s, n) with | none => .tuple #[opZero, .bool false] | some x => .tuple #[x.v, .bool true]) w := by
  have hq := dotB_iff.1 hd
  simp only at hq
  have h1 : s.size ≤ maxLen := by have := (nameB_pos hq.1).2; unfold maxLen; omega
  have hm := h.mp
  unfold Pv.map at hm
  cases hM : p.M with
  | none =>
    rw [hM] at hm
    obtain ⟨l, hl⟩ := keyD h1 (wf64 hq.2)
    have := look_nil (w := w) (z := opZero) Try.underlying86 (zeroOp w) keyedD hl true
    rw [hm]
    exact this
  | some m =>
    rw [hM] at hm
    have := hm.2.look true h1 (wf64 hq.2)
    simp only [dv] at this
    rw [this]
    cases findO p.O (s, n) <;> rfl
/-- What comes of a Put. -/
def PutR (pv : Pv) (w : World) (b : Nat) (r : Pool × Int × Int) (e : Ending) (w' : World) : Prop :=
  ∃ pv', e = .returned (.tuple #[.int .i64 r.2.1, .int .i64 r.2.2]) ∧ Rel pv' r.1 ∧ Step pv w pv' w' b ∧ pv'.O.length ≤ pv.O.length + 1

set_option maxRecDepth 100000 in
set_option maxHeartbeats 12800000 in
theorem put_prog {pv : Pv} {w : World} {b : Nat} {q : Pool} (h : pv.At w b) (hr : Rel pv q) (hi : Inv q) (x : Ov) (hx : x.ok w w.heap.size) (ha1 : Clear (pv.own b) x.A x.o.deps.length) (ha2 : Clear (pv.own b) x.A2 x.o.seen.length) (hn : q.L.length + q.W.length ≤ 100000) (hO : pv.O.length ≤ 100000) :
    Calls Try.prog 22 #[.pointer (some ⟨b, 0, none⟩), x.v] w fun e w' => PutR pv w b (putQ q x.o) e w' := by
  have HK := Lib.hid (And.intro hr (And.intro hi (And.intro hn hO)))
  have HOK := Lib.hid (And.intro hx (And.intro ha1 ha2))
  have hst1 : Step pv w pv (w.alloc (.cells x.cells 26)) b := Step.of h ((Below.refl _ w).alloc (Nat.le_refl _) _)
  obtain ⟨PQ, hPQ⟩ : ∃ r, putQ q x.o = r := ⟨_, rfl⟩
  have hPQ2 : PQ = putQ q x.o := hPQ.symm
  unfold putQ at hPQ2
  have HPQ := Lib.hid hPQ2
  have HXo := Lib.hid hPQ
  rw [hPQ]
  clear hPQ hPQ2 ha1 ha2 hr hi hn hO
  have hb1 : Below w.heap.size w (w.alloc (.cells x.cells 26)) := (Below.refl _ w).alloc (Nat.le_refl _) _
  have hop : ∀ W, Below (w.alloc (.cells x.cells 26)).heap.size (w.alloc (.cells x.cells 26)) W → Op8.Cells W w.heap.size x := fun W hW => ((Op8.new w x).below hW (by simp)).at
  have hdd : ∀ W, Below (w.alloc (.cells x.cells 26)).heap.size (w.alloc (.cells x.cells 26)) W → x.ok W W.heap.size := fun W hW => (hx.up hb1).up hW
  obtain ⟨⟨⟨s, n⟩, dp, ct, kd, it, q_, sn⟩, A, c, A2, c2⟩ := x
  have HF := Lib.hid hx.fit
  clear hx
  simp only [Ov.v, Ov.cells] at hop hb1 hdd ⊢
  obtain ⟨a1, ha1⟩ : ∃ L, dp.length = L := ⟨_, rfl⟩
  obtain ⟨a2, ha2⟩ : ∃ L, sn.length = L := ⟨_, rfl⟩
  have HL := Lib.hid (And.intro ha1 ha2)
  rw [ha1, ha2] at hop hb1 hdd ⊢
  obtain ⟨W1, hW1⟩ : ∃ W1, w.alloc (.cells #[.string s, .int .i64 n, .slice A a1 c, .string ct, .int .i64 kd, .string it, .int .i64 q_, .slice A2 a2 c2] 26) = W1 := ⟨_, rfl⟩
  have HWE := Lib.hid hW1
  rw [hW1] at hop hb1 hdd
  have HC : Hid (∀ W, Below W1.heap.size W1 W → (W.cell? ⟨w.heap.size, 0, none⟩ = some (.string s) ∧ W.cell? ⟨w.heap.size, 1, none⟩ = some (.int .i64 n) ∧ W.cell? ⟨w.heap.size, 2, none⟩ = some (.slice A a1 c)) ∧ W.cell? ⟨w.heap.size, 3, none⟩ = some (.string ct) ∧ W.cell? ⟨w.heap.size, 4, none⟩ = some (.int .i64 kd) ∧ W.cell? ⟨w.heap.size, 5, none⟩ = some (.string it) ∧ W.cell? ⟨w.heap.size, 6, none⟩ = some (.int .i64 q_) ∧ W.cell? ⟨w.heap.size, 7, none⟩ = some (.slice A2 a2 c2)) := fun W hW => by
    obtain ⟨c0, c1, c2_, c3, c4, c5, c6, c7⟩ := hop W hW
    simp only at c0 c1 c2_ c3 c4 c5 c6 c7
    rw [ha1] at c2_; rw [ha2] at c7
    exact ⟨⟨c0, c1, c2_⟩, c3, c4, c5, c6, c7⟩
  have HB1 : Hid (∀ W, Below W1.heap.size W1 W → Below w.heap.size w W) := fun W hW => hb1.trans (hW.mono hb1.size)
  have HDR : Hid (∀ W, Below W1.heap.size W1 W → Vc.ok ⟨A, c, dp⟩ W W.heap.size ∧ Vc.ok ⟨A2, c2, sn⟩ W W.heap.size) := fun W hW => ⟨(hdd W hW).d, (hdd W hW).s⟩
  have hRw : Below W1.heap.size W1 W1 := Below.refl _ _
  clear hop hb1 hdd hW1 ha1 ha2
  have hW1 := HWE.out
  simp only [Ov.cells] at hst1
  rw [HL.out.1, HL.out.2, hW1] at hst1
  have HST1 := Lib.hid hst1
  have HNB : Hid (¬ pv.own b w.heap.size) := fun ho => by have := (h.own_lt _ ho).2; omega
  have HCB : Hid (∀ W, But (pv.own b) W1 W → (W.cell? ⟨w.heap.size, 0, none⟩ = some (.string s) ∧ W.cell? ⟨w.heap.size, 1, none⟩ = some (.int .i64 n) ∧ W.cell? ⟨w.heap.size, 2, none⟩ = some (.slice A a1 c)) ∧ W.cell? ⟨w.heap.size, 3, none⟩ = some (.string ct) ∧ W.cell? ⟨w.heap.size, 4, none⟩ = some (.int .i64 kd) ∧ W.cell? ⟨w.heap.size, 5, none⟩ = some (.string it) ∧ W.cell? ⟨w.heap.size, 6, none⟩ = some (.int .i64 q_) ∧ W.cell? ⟨w.heap.size, 7, none⟩ = some (.slice A2 a2 c2)) := fun W hW => by
    obtain ⟨⟨k0, k1, k2_⟩, k3, k4, k5, k6, k7⟩ := HC.out _ hRw
    have hn : ∀ i, ¬ (pv.own b) (Addr.block ⟨w.heap.size, i, none⟩) := fun i => HNB.out
    exact ⟨⟨hW.cell (hn 0) k0, hW.cell (hn 1) k1, hW.cell (hn 2) k2_⟩, hW.cell (hn 3) k3, hW.cell (hn 4) k4, hW.cell (hn 5) k5, hW.cell (hn 6) k6, hW.cell (hn 7) k7⟩
  have HXV : Hid (∀ (p' : Pv) (W : World), Step pv w p' W b → Ov.ok ⟨⟨(s, n), dp, ct, kd, it, q_, sn⟩, A, c, A2, c2⟩ W W.heap.size) := fun p' W hW => hW.but.ov' HOK.out.1 HOK.out.2.1 HOK.out.2.2
  obtain ⟨⟨c0, c1, c2_⟩, c3, c4, c5, c6, c7⟩ := HC.out _ hRw
  have HRw := Lib.hid hRw
  clear hst1 hRw hW1
  go_enter Try.func22, Try.ntmps22
  go_upto_region 3 with fail
  rw [HWE.out]
  have hcall := right_op _ (HXV.out _ _ HST1.out)
  simp only [Ov.v, Ov.cells] at hcall
  rw [HL.out.1, HL.out.2] at hcall
  obtain ⟨RO, hRO⟩ : ∃ R, rightO ⟨(s, n), dp, ct, kd, it, q_, sn⟩ = R := ⟨_, rfl⟩
  rw [hRO] at hcall
  have HRO := Lib.hid hRO
  clear hRO
  go_wp2_with fail
  refine hcall.mono ?_
  rintro e wa ⟨rfl, hba⟩
  clear hcall c0 c1 c2_ c3 c4 c5 c6 c7
  have HSTa : Hid (Step pv w pv wa b) := HST1.out.then hba
  have HBa : Hid (But (pv.own b) W1 wa) := But.of hba
  clear hba
  obtain ⟨⟨c0, c1, c2_⟩, c3, c4, c5, c6, c7⟩ := HCB.out _ HBa.out
  cases RO with
  | false =>
    have hR : Hid (PQ = (q, 0, 2)) := by show _ = _; rw [HPQ.out, if_neg (by rw [HRO.out]; simp)]
    go_wp2
    go_ret2
    rw [hR.out]
    exact ⟨pv, rfl, HK.out.1, HSTa.out, by omega⟩
  | true =>
    have HDB : Hid (dotB (s, n) = true) := (rightO_iff HRO.out).dot
    have HF := Lib.hid (hr_few HRO.out)
    go_upto_region 5 with fail
    have HLK := Lib.hid (HK.out.1.look (s, n))
    have HAd := Lib.hid (HSTa.out.at_.up (Below.refl _ wa).drew)
    have HSTd : Hid (Step pv w pv wa.drew b) := HSTa.out.then (Below.refl _ _).drew
    have HBd : Hid (But (pv.own b) W1 wa.drew) := HBa.out.drew
    have hS : Below wa.drew.heap.size wa.drew wa.drew := Below.refl _ _
    clear c0 c1 c2_ c3 c4 c5 c6 c7
    have HCd : Hid (∀ W, Below wa.drew.heap.size wa.drew W → But (pv.own b) W1 W) := fun W hW => HBd.out.trans (But.of hW)
    refine wp_region_held_drew (S := fun W => Below wa.drew.heap.size wa.drew W) (by kernel_rfl) hS (fun hS => ?_)
    generalize wa.drew = Wd at *
    obtain ⟨M, hM⟩ : ∃ M, pv.M = M := ⟨_, rfl⟩
    cases hfo : findO pv.O (s, n) with
    | some x0 =>
      have hx0 := (HAd.out.ops x0 (List.mem_of_find?_eq_some hfo)).1
      have HFO := Lib.hid hfo
      obtain ⟨⟨⟨s0, n0⟩, dp0, ct0, kd0, it0, q0, sn0⟩, A0, c0_, A02, c02⟩ := x0
      obtain ⟨b1, hb1⟩ : ∃ L, dp0.length = L := ⟨_, rfl⟩
      obtain ⟨b2, hb2⟩ : ∃ L, sn0.length = L := ⟨_, rfl⟩
      have HL0 := Lib.hid (And.intro hb1 hb2)
      have HX0 := Lib.hid hx0
      have HFX : Hid (∀ W, Below Wd.heap.size Wd W → W.cell? ⟨b, 0, none⟩ = some (.map M) ∧ (Instr.lookup 86 (.map M) (.agg #[.string s, .int .i64 n]) true).run Try.prog W = .ok (.tuple #[.agg #[.string s0, .int .i64 n0, .slice A0 b1 c0_, .string ct0, .int .i64 kd0, .string it0, .int .i64 q0, .slice A02 b2 c02], .bool true]) W) := fun W hW => by
        have ha := HAd.out.up hW
        have h1 := ha.look HDB.out
        have h0 := ha.box.at.c0
        rw [hM] at h0 h1
        rw [hfo] at h1
        refine ⟨h0, ?_⟩
        simp only [Ov.v, Ov.cells] at h1
        rw [hb1, hb2] at h1
        exact h1
      have HM := Lib.hid hM
      clear hfo hx0 hb1 hb2 hM
      refine wpAnyH_take (i := 0) (v := ?_) rfl (by kernel_rfl) (by kernel_rfl) (by kernel_rfl) (fun _ _ _ h => h) (Yields.yieldsIf (Or.inl ⟨by kernel_rfl, ?_⟩)) hS ?_
      rotate_left
      · first | (intro w; go_simp; done) | (intro w; go_simp; with_reducible rfl)
      refine wpAnyH_take (i := 1) (v := ?_) rfl (by kernel_rfl) (by kernel_rfl) (by kernel_rfl) (fun _ _ _ h => h) (Yields.yieldsIf (Or.inl ⟨by kernel_rfl, ?_⟩)) hS ?_
      rotate_left
      · first | (intro w; go_simp; done) | (intro w; go_simp; with_reducible rfl)
      refine wpAnyH_take (i := 2) (v := ?_) rfl (by kernel_rfl) (by kernel_rfl) (by kernel_rfl) (fun _ _ _ h => h) (Yields.yieldsIf (Or.inl ⟨by kernel_rfl, ?_⟩)) hS ?_
      rotate_left
      · first | (intro w; go_simp; done) | (intro w; go_simp; with_reducible rfl)
      refine wpAnyH_take (i := 3) (v := ?_) rfl (by kernel_rfl) (by kernel_rfl) (by kernel_rfl) (fun _ _ _ h => h) (Or.inl ⟨by kernel_rfl, fun W hW => ?_⟩) hS ?_
      rotate_left
      · obtain ⟨⟨c0, c1, c2_⟩, c3, c4, c5, c6, c7⟩ := HCB.out W (HCd.out W hW); obtain ⟨d0, lk⟩ := HFX.out W hW
        first | (go_simp; done) | (go_simp; with_reducible rfl)
      refine wpAnyH_take (i := 4) (v := ?_) rfl (by kernel_rfl) (by kernel_rfl) (by kernel_rfl) (fun _ _ _ h => h) (Yields.yieldsIf (Or.inl ⟨by kernel_rfl, ?_⟩)) hS ?_
      rotate_left
      · first | (intro w; go_simp; done) | (intro w; go_simp; with_reducible rfl)
      refine wpAnyH_take (i := 5) (v := ?_) rfl (by kernel_rfl) (by kernel_rfl) (by kernel_rfl) (fun _ _ _ h => h) (Or.inl ⟨by kernel_rfl, fun W hW => ?_⟩) hS ?_
      rotate_left
      · obtain ⟨⟨c0, c1, c2_⟩, c3, c4, c5, c6, c7⟩ := HCB.out W (HCd.out W hW); obtain ⟨d0, lk⟩ := HFX.out W hW
        first | (go_simp; done) | (go_simp; with_reducible rfl)
      refine wpAnyH_take (i := 6) (v := ?_) rfl (by kernel_rfl) (by kernel_rfl) (by kernel_rfl) (fun _ _ _ h => h) (Or.inl ⟨by kernel_rfl, fun W hW => ?_⟩) hS ?_
      rotate_left
      · obtain ⟨⟨c0, c1, c2_⟩, c3, c4, c5, c6, c7⟩ := HCB.out W (HCd.out W hW); obtain ⟨d0, lk⟩ := HFX.out W hW
        first | (go_simp; done) | (go_simp; with_reducible rfl)
      refine wpAnyH_take (i := 7) (v := ?_) rfl (by kernel_rfl) (by kernel_rfl) (by kernel_rfl) (fun _ _ _ h => h) (Yields.yieldsIf (Or.inl ⟨by kernel_rfl, ?_⟩)) hS ?_
      rotate_left
      · first | (intro w; go_simp; done) | (intro w; go_simp; with_reducible rfl)
      refine wpAnyH_take (i := 8) (v := ?_) rfl (by kernel_rfl) (by kernel_rfl) (by kernel_rfl) (fun _ _ _ h => h) (Yields.yieldsIf (Or.inl ⟨by kernel_rfl, ?_⟩)) hS ?_
      rotate_left
      · first | (intro w; go_simp; done) | (intro w; go_simp; with_reducible rfl)
      refine wpAnyH_take (i := 9) (v := ?_) rfl (by kernel_rfl) (by kernel_rfl) (by kernel_rfl) (fun _ _ _ h => h) (Yields.yieldsIf (Or.inl ⟨by kernel_rfl, ?_⟩)) hS ?_
      rotate_left
      · first | (intro w; go_simp; done) | (intro w; go_simp; with_reducible rfl)
      try go_simp
      refine wpAnyH_ready (rs := [10]) (by kernel_rfl) (by simp) ?_
      refine AllReadyH.cons rfl (fun K hK => ?_) AllReadyH.nil
      go_simp
      go_wp2_with fail
      have hS3 : Below Wd.heap.size Wd (Wd.alloc (.cells #[.string ⟨#[]⟩, .int .i64 0, .slice none 0 0, .string ⟨#[]⟩, .int .i64 0, .string ⟨#[]⟩, .int .i64 0, .slice none 0 0] 26)) := (Below.refl _ Wd).alloc (Nat.le_refl _) _
      have hz := B8.new Wd (.string ⟨#[]⟩) (.int .i64 0) (.slice none 0 0) (.string ⟨#[]⟩) (.int .i64 0) (.string ⟨#[]⟩) (.int .i64 0) (.slice none 0 0)
      have HZ := Lib.hid hz
      clear hz
      obtain ⟨Wz, hWz⟩ : ∃ Wz, Wd.alloc (.cells #[.string ⟨#[]⟩, .int .i64 0, .slice none 0 0, .string ⟨#[]⟩, .int .i64 0, .string ⟨#[]⟩, .int .i64 0, .slice none 0 0] 26) = Wz := ⟨_, rfl⟩
      rw [hWz] at HZ hS3 ⊢
      have HSZ := Lib.hid hS3
      clear hWz
      refine hK.out _ _ hS3 (fun hS => ?_)
      clear hK K hS3
      try go_simp
      refine wpAnyH_ready (rs := [11]) (by kernel_rfl) (by simp) ?_
      refine AllReadyH.cons rfl (fun K hK => ?_) AllReadyH.nil
      obtain ⟨f0, f1, f2, f3, f4, f5, f6, f7⟩ := HZ.out.fr
      obtain ⟨z0, z1, z2, z3, z4, z5, z6, z7⟩ := HZ.out.at
      have HE : Hid (B8 (set8 Wz Wd.heap.size (.string s0) (.int .i64 n0) (.slice A0 b1 c0_) (.string ct0) (.int .i64 kd0) (.string it0) (.int .i64 q0) (.slice A02 b2 c02)) Wd.heap.size (.string s0) (.int .i64 n0) (.slice A0 b1 c0_) (.string ct0) (.int .i64 kd0) (.string it0) (.int .i64 q0) (.slice A02 b2 c02)) := set8_b8 HZ.out _ _ _ _ _ _ _ _
      have HSE : Hid (Below Wd.heap.size Wd (set8 Wz Wd.heap.size (.string s0) (.int .i64 n0) (.slice A0 b1 c0_) (.string ct0) (.int .i64 kd0) (.string it0) (.int .i64 q0) (.slice A02 b2 c02))) := HSZ.out.trans (set8_below (Nat.le_refl _) (Below.refl _ _) _ _ _ _ _ _ _ _)
      go_simp
      go_wp2_with fail
      obtain ⟨We, hWe⟩ : ∃ We, set8 Wz Wd.heap.size (.string s0) (.int .i64 n0) (.slice A0 b1 c0_) (.string ct0) (.int .i64 kd0) (.string it0) (.int .i64 q0) (.slice A02 b2 c02) = We := ⟨_, rfl⟩
      have hWe2 := hWe
      unfold set8 at hWe2
      rw [hWe2]
      rw [hWe] at HE HSE
      clear f0 f1 f2 f3 f4 f5 f6 f7 z0 z1 z2 z3 z4 z5 z6 z7 hWe hWe2
      have hS3 := HSE.out
      refine hK.out _ _ hS3 (fun hS => ?_)
      clear hK K hS3
      refine wpAnyH_take (i := 12) (v := ?_) rfl (by kernel_rfl) (by kernel_rfl) (by kernel_rfl) (fun _ _ _ h => h) (Yields.yieldsIf (Or.inl ⟨by kernel_rfl, ?_⟩)) hS ?_
      rotate_left
      · first | (intro w; go_simp; done) | (intro w; go_simp; with_reducible rfl)
      try go_simp
      refine wpAnyH_done (by kernel_rfl) ?_ _
      have HSTe : Hid (Step pv w pv We b) := HSTd.out.then HSE.out
      have hBe : But (pv.own b) W1 We := HBd.out.trans (But.of HSE.out)
      obtain ⟨⟨c0, c1, c2_⟩, c3, c4, c5, c6, c7⟩ := HCB.out _ hBe
      obtain ⟨z0, z1, z2, z3, z4, z5, z6, z7⟩ := HE.out.at
      have hcall := equal_any _ _ (HX0.out.up HSE.out) (HXV.out _ _ HSTe.out)
      simp only [Ov.v, Ov.cells] at hcall
      rw [HL.out.1, HL.out.2, HL0.out.1, HL0.out.2] at hcall
      obtain ⟨EQ, hEQ⟩ : ∃ E, decide ((⟨(s0, n0), dp0, ct0, kd0, it0, q0, sn0⟩ : Op) = ⟨(s, n), dp, ct, kd, it, q_, sn⟩) = E := ⟨_, rfl⟩
      rw [hEQ] at hcall
      have HEQ := Lib.hid hEQ
      clear hEQ hBe hS
      go_wp2_with fail
      refine hcall.mono ?_
      rintro e wf ⟨rfl, hbf⟩
      clear hcall c0 c1 c2_ c3 c4 c5 c6 c7 z0 z1 z2 z3 z4 z5 z6 z7
      have HSTf : Hid (Step pv w pv wf b) := HSTe.out.then hbf
      clear hbf
      have hR : Hid (PQ = (q, 0, if EQ = true then 0 else 81)) := by
        show _ = _
        rw [HPQ.out, if_pos HRO.out, ← HLK.out]
        rw [HFO.out]
        show (q, 0, if (⟨(s0, n0), dp0, ct0, kd0, it0, q0, sn0⟩ : Op) = ⟨(s, n), dp, ct, kd, it, q_, sn⟩ then 0 else 81) = _
        rw [← HEQ.out]
        simp
      cases EQ with
      | true =>
        go_wp2
        go_ret2
        rw [hR.out]
        exact ⟨pv, rfl, HK.out.1, HSTf.out, by omega⟩
      | false =>
        go_wp2
        go_ret2
        rw [hR.out]
        exact ⟨pv, rfl, HK.out.1, HSTf.out, by omega⟩
    | none =>
      have HFX : Hid (∀ W, Below Wd.heap.size Wd W → W.cell? ⟨b, 0, none⟩ = some (.map M) ∧ (Instr.lookup 86 (.map M) (.agg #[.string s, .int .i64 n]) true).run Try.prog W = .ok (.tuple #[.agg #[.string ByteArray.empty, .int .i64 0, .slice none 0 0, .string ByteArray.empty, .int .i64 0, .string ByteArray.empty, .int .i64 0, .slice none 0 0], .bool false]) W) := fun W hW => by
        have ha := HAd.out.up hW
        have h1 := ha.look HDB.out
        have h0 := ha.box.at.c0
        rw [hM] at h0 h1
        rw [hfo] at h1
        refine ⟨h0, ?_⟩
        have hz : opZero = .agg #[.string ByteArray.empty, .int .i64 0, .slice none 0 0, .string ByteArray.empty, .int .i64 0, .string ByteArray.empty, .int .i64 0, .slice none 0 0] := rfl
        simp only [hz] at h1
        exact h1
      have HFO := Lib.hid hfo
      have HM := Lib.hid hM
      clear hfo hM
      refine wpAnyH_take (i := 0) (v := ?_) rfl (by kernel_rfl) (by kernel_rfl) (by kernel_rfl) (fun _ _ _ h => h) (Yields.yieldsIf (Or.inl ⟨by kernel_rfl, ?_⟩)) hS ?_
      rotate_left
      · first | (intro w; go_simp; done) | (intro w; go_simp; with_reducible rfl)
      refine wpAnyH_take (i := 1) (v := ?_) rfl (by kernel_rfl) (by kernel_rfl) (by kernel_rfl) (fun _ _ _ h => h) (Yields.yieldsIf (Or.inl ⟨by kernel_rfl, ?_⟩)) hS ?_
      rotate_left
      · first | (intro w; go_simp; done) | (intro w; go_simp; with_reducible rfl)
      refine wpAnyH_take (i := 2) (v := ?_) rfl (by kernel_rfl) (by kernel_rfl) (by kernel_rfl) (fun _ _ _ h => h) (Yields.yieldsIf (Or.inl ⟨by kernel_rfl, ?_⟩)) hS ?_
      rotate_left
      · first | (intro w; go_simp; done) | (intro w; go_simp; with_reducible rfl)
      refine wpAnyH_take (i := 3) (v := ?_) rfl (by kernel_rfl) (by kernel_rfl) (by kernel_rfl) (fun _ _ _ h => h) (Or.inl ⟨by kernel_rfl, fun W hW => ?_⟩) hS ?_
      rotate_left
      · obtain ⟨⟨c0, c1, c2_⟩, c3, c4, c5, c6, c7⟩ := HCB.out W (HCd.out W hW); obtain ⟨d0, lk⟩ := HFX.out W hW
        first | (go_simp; done) | (go_simp; with_reducible rfl)
      refine wpAnyH_take (i := 4) (v := ?_) rfl (by kernel_rfl) (by kernel_rfl) (by kernel_rfl) (fun _ _ _ h => h) (Yields.yieldsIf (Or.inl ⟨by kernel_rfl, ?_⟩)) hS ?_
      rotate_left
      · first | (intro w; go_simp; done) | (intro w; go_simp; with_reducible rfl)
      refine wpAnyH_take (i := 5) (v := ?_) rfl (by kernel_rfl) (by kernel_rfl) (by kernel_rfl) (fun _ _ _ h => h) (Or.inl ⟨by kernel_rfl, fun W hW => ?_⟩) hS ?_
      rotate_left
      · obtain ⟨⟨c0, c1, c2_⟩, c3, c4, c5, c6, c7⟩ := HCB.out W (HCd.out W hW); obtain ⟨d0, lk⟩ := HFX.out W hW
        first | (go_simp; done) | (go_simp; with_reducible rfl)
      refine wpAnyH_take (i := 6) (v := ?_) rfl (by kernel_rfl) (by kernel_rfl) (by kernel_rfl) (fun _ _ _ h => h) (Or.inl ⟨by kernel_rfl, fun W hW => ?_⟩) hS ?_
      rotate_left
      · obtain ⟨⟨c0, c1, c2_⟩, c3, c4, c5, c6, c7⟩ := HCB.out W (HCd.out W hW); obtain ⟨d0, lk⟩ := HFX.out W hW
        first | (go_simp; done) | (go_simp; with_reducible rfl)
      refine wpAnyH_take (i := 7) (v := ?_) rfl (by kernel_rfl) (by kernel_rfl) (by kernel_rfl) (fun _ _ _ h => h) (Yields.yieldsIf (Or.inl ⟨by kernel_rfl, ?_⟩)) hS ?_
      rotate_left
      · first | (intro w; go_simp; done) | (intro w; go_simp; with_reducible rfl)
      refine wpAnyH_take (i := 8) (v := ?_) rfl (by kernel_rfl) (by kernel_rfl) (by kernel_rfl) (fun _ _ _ h => h) (Yields.yieldsIf (Or.inl ⟨by kernel_rfl, ?_⟩)) hS ?_
      rotate_left
      · first | (intro w; go_simp; done) | (intro w; go_simp; with_reducible rfl)
      refine wpAnyH_take (i := 9) (v := ?_) rfl (by kernel_rfl) (by kernel_rfl) (by kernel_rfl) (fun _ _ _ h => h) (Yields.yieldsIf (Or.inl ⟨by kernel_rfl, ?_⟩)) hS ?_
      rotate_left
      · first | (intro w; go_simp; done) | (intro w; go_simp; with_reducible rfl)
      try go_simp
      refine wpAnyH_ready (rs := [10]) (by kernel_rfl) (by simp) ?_
      refine AllReadyH.cons rfl (fun K hK => ?_) AllReadyH.nil
      go_simp
      go_wp2_with fail
      have hS3 : Below Wd.heap.size Wd (Wd.alloc (.cells #[.string ⟨#[]⟩, .int .i64 0, .slice none 0 0, .string ⟨#[]⟩, .int .i64 0, .string ⟨#[]⟩, .int .i64 0, .slice none 0 0] 26)) := (Below.refl _ Wd).alloc (Nat.le_refl _) _
      have hz := B8.new Wd (.string ⟨#[]⟩) (.int .i64 0) (.slice none 0 0) (.string ⟨#[]⟩) (.int .i64 0) (.string ⟨#[]⟩) (.int .i64 0) (.slice none 0 0)
      have HZ := Lib.hid hz
      clear hz
      obtain ⟨Wz, hWz⟩ : ∃ Wz, Wd.alloc (.cells #[.string ⟨#[]⟩, .int .i64 0, .slice none 0 0, .string ⟨#[]⟩, .int .i64 0, .string ⟨#[]⟩, .int .i64 0, .slice none 0 0] 26) = Wz := ⟨_, rfl⟩
      rw [hWz] at HZ hS3 ⊢
      have HSZ := Lib.hid hS3
      clear hWz
      refine hK.out _ _ hS3 (fun hS => ?_)
      clear hK K hS3
      try go_simp
      refine wpAnyH_ready (rs := [11]) (by kernel_rfl) (by simp) ?_
      refine AllReadyH.cons rfl (fun K hK => ?_) AllReadyH.nil
      obtain ⟨f0, f1, f2, f3, f4, f5, f6, f7⟩ := HZ.out.fr
      obtain ⟨z0, z1, z2, z3, z4, z5, z6, z7⟩ := HZ.out.at
      have HE : Hid (B8 (set8 Wz Wd.heap.size (.string ByteArray.empty) (.int .i64 0) (.slice none 0 0) (.string ByteArray.empty) (.int .i64 0) (.string ByteArray.empty) (.int .i64 0) (.slice none 0 0)) Wd.heap.size (.string ByteArray.empty) (.int .i64 0) (.slice none 0 0) (.string ByteArray.empty) (.int .i64 0) (.string ByteArray.empty) (.int .i64 0) (.slice none 0 0)) := set8_b8 HZ.out _ _ _ _ _ _ _ _
      have HSE : Hid (Below Wd.heap.size Wd (set8 Wz Wd.heap.size (.string ByteArray.empty) (.int .i64 0) (.slice none 0 0) (.string ByteArray.empty) (.int .i64 0) (.string ByteArray.empty) (.int .i64 0) (.slice none 0 0))) := HSZ.out.trans (set8_below (Nat.le_refl _) (Below.refl _ _) _ _ _ _ _ _ _ _)
      go_simp
      go_wp2_with fail
      obtain ⟨We, hWe⟩ : ∃ We, set8 Wz Wd.heap.size (.string ByteArray.empty) (.int .i64 0) (.slice none 0 0) (.string ByteArray.empty) (.int .i64 0) (.string ByteArray.empty) (.int .i64 0) (.slice none 0 0) = We := ⟨_, rfl⟩
      have hWe2 := hWe
      unfold set8 at hWe2
      rw [hWe2]
      rw [hWe] at HE HSE
      clear f0 f1 f2 f3 f4 f5 f6 f7 z0 z1 z2 z3 z4 z5 z6 z7 hWe hWe2
      have hS3 := HSE.out
      refine hK.out _ _ hS3 (fun hS => ?_)
      clear hK K hS3
      refine wpAnyH_take (i := 12) (v := ?_) rfl (by kernel_rfl) (by kernel_rfl) (by kernel_rfl) (fun _ _ _ h => h) (Yields.yieldsIf (Or.inl ⟨by kernel_rfl, ?_⟩)) hS ?_
      rotate_left
      · first | (intro w; go_simp; done) | (intro w; go_simp; with_reducible rfl)
      try go_simp
      refine wpAnyH_done (by kernel_rfl) ?_ _
      have HSTe : Hid (Step pv w pv We b) := HSTd.out.then HSE.out
      have HBe : Hid (But (pv.own b) W1 We) := HBd.out.trans (But.of HSE.out)
      obtain ⟨⟨c0, c1, c2_⟩, c3, c4, c5, c6, c7⟩ := HCB.out _ HBe.out
      have hcall := hasRoom_any HSTe.out.at_ s n
      obtain ⟨RB, hRB⟩ : ∃ E, roomB pv.K (s, n) = E := ⟨_, rfl⟩
      rw [hRB] at hcall
      have HRB : Hid (roomB q.K (s, n) = RB) := by show _ = _; rw [← HK.out.1.K]; exact hRB
      have hR : Hid (PQ = (if RB = true then (if leqB dp q.K = true then (let r := drain q.W.length (hand q ⟨(s, n), dp, ct, kd, it, q_, sn⟩); (r.1, r.2 + 1, 0)) else if 256 ≤ q.W.length then (q, 0, 82) else (⟨q.L, q.K, q.W ++ [⟨(s, n), dp, ct, kd, it, q_, sn⟩]⟩, 0, 0)) else (q, 0, 70))) := by
        show _ = _
        rw [HPQ.out, if_pos HRO.out, ← HLK.out, HFO.out, ← HRB.out]
        rfl
      clear hRB hS
      go_wp2_with fail
      refine hcall.mono ?_
      rintro e wf ⟨rfl, hbf⟩
      clear hcall c0 c1 c2_ c3 c4 c5 c6 c7
      have HSTf : Hid (Step pv w pv wf b) := HSTe.out.then hbf
      have HBf : Hid (But (pv.own b) W1 wf) := HBe.out.trans (But.of hbf)
      clear hbf
      obtain ⟨⟨c0, c1, c2_⟩, c3, c4, c5, c6, c7⟩ := HCB.out _ HBf.out
      cases RB with
      | false =>
        have hR2 : Hid (PQ = (q, 0, 70)) := by show _ = _; rw [hR.out]; simp
        go_wp2
        go_ret2
        rw [hR2.out]
        exact ⟨pv, rfl, HK.out.1, HSTf.out, by omega⟩
      | true =>
        have hcall := deliverable_any HSTf.out.at_ _ (HXV.out _ _ HSTf.out)
        simp only [Ov.v, Ov.cells] at hcall
        rw [HL.out.1, HL.out.2] at hcall
        obtain ⟨LB, hLB⟩ : ∃ E, leqB dp pv.K = E := ⟨_, rfl⟩
        rw [hLB] at hcall
        have HLB : Hid (leqB dp q.K = LB) := by show _ = _; rw [← HK.out.1.K]; exact hLB
        clear hLB
        go_wp2_with fail
        refine hcall.mono ?_
        rintro e wg ⟨rfl, hbg⟩
        clear hcall c0 c1 c2_ c3 c4 c5 c6 c7
        have HSTg : Hid (Step pv w pv wg b) := HSTf.out.then hbg
        have HBg : Hid (But (pv.own b) W1 wg) := HBf.out.trans (But.of hbg)
        clear hbg
        obtain ⟨⟨c0, c1, c2_⟩, c3, c4, c5, c6, c7⟩ := HCB.out _ HBg.out
        have hkeep : ∀ W, Step pv w pv W b → Calls Try.prog 62 #[.pointer (some ⟨b, 0, none⟩), .agg #[.string s, .int .i64 n, .slice A a1 c, .string ct, .int .i64 kd, .string it, .int .i64 q_, .slice A2 a2 c2]] W fun e w' => ∃ (y : Ov) (m : Nat), y.o = ⟨(s, n), dp, ct, kd, it, q_, sn⟩ ∧ e = .returned (.tuple #[]) ∧ Step pv W { pv with M := some m, O := y :: pv.O } w' b := fun W hW => by
          have h0 := keep_any hW.at_ _ (HXV.out _ _ hW) HDB.out HF.out.1 HF.out.2 (by have := HK.out.2.2.2; omega) HOK.out.2.1 HOK.out.2.2
          simp only [Ov.v, Ov.cells] at h0
          rw [HL.out.1, HL.out.2] at h0
          exact h0
        have HKEEP := Lib.hid hkeep
        have HND : Hid (∀ x ∈ q.L ++ q.W, x.dot ≠ (s, n)) := fun x hx => find_none (by rw [← HLK.out, HFO.out]; rfl) x hx
        have HROO := Lib.hid HRO.out
        clear hkeep
        cases LB with
        | true =>
          have hcall := HKEEP.out _ HSTg.out
          go_wp2_with fail
          refine hcall.mono ?_
          rintro e wh ⟨y, m, hy, rfl, hst⟩
          clear hcall c0 c1 c2_ c3 c4 c5 c6 c7
          have HST1' := Lib.hid hst
          have HBh : Hid (But (pv.own b) W1 wh) := HBg.out.trans hst.but
          have HY := Lib.hid hy
          clear hst hy
          obtain ⟨⟨c0, c1, c2_⟩, c3, c4, c5, c6, c7⟩ := HCB.out _ HBh.out
          have HRDY : Hid (ready q.K ⟨(s, n), dp, ct, kd, it, q_, sn⟩ = true) := ready_of HK.out.2.1 HRO.out (by
            cases hq : find q.L (s, n) with
            | none => rfl
            | some z => exact absurd (find_some hq).2 (HND.out z (List.mem_append.2 (.inl (find_some hq).1)))) ((room_iff HK.out.2.1.rk _).1 HRB.out) HLB.out
          have HWK : Hid ((withO pv.K (s, n)).2 = 0) := by
            have h0 := HRDY.out
            unfold ready at h0
            have h1 := of_decide_eq_true (Bool.and_eq_true_iff.1 h0).1
            rw [← HK.out.1.K] at h1
            exact h1
          have hcall := deliver_any HST1'.out.at_ s n HWK.out (by show pv.ds.length ≤ _; rw [HK.out.1.ds]; have := HK.out.2.2.1; simp; omega)
          go_wp2_with fail
          refine hcall.mono ?_
          rintro e wi ⟨Ad', cd', Ak', ck', rfl, hst⟩
          clear hcall c0 c1 c2_ c3 c4 c5 c6 c7
          have HST2' := Lib.hid hst
          clear hst
          obtain ⟨hrel, hinv⟩ := rel_hand (pv' := { pv with M := some m, O := y :: pv.O, Ad := Ad', cd := cd', Ak := Ak', ck := ck', ds := pv.ds ++ [(s, n)], K := (withO pv.K (s, n)).1 }) HK.out.1 HK.out.2.1 HROO.out HRDY.out HND.out HY.out rfl rfl rfl rfl
          have hcall := settle_any HST2'.out.at_ hrel hinv (by show (q.L ++ [_]).length + q.W.length ≤ _; have := HK.out.2.2.1; rw [List.length_append]; simp; omega)
          obtain ⟨DR, hDR⟩ : ∃ r, drain (hand q ⟨(s, n), dp, ct, kd, it, q_, sn⟩).W.length (hand q ⟨(s, n), dp, ct, kd, it, q_, sn⟩) = r := ⟨_, rfl⟩
          have hcount := drain_count (hand q ⟨(s, n), dp, ct, kd, it, q_, sn⟩).W.length (hand q ⟨(s, n), dp, ct, kd, it, q_, sn⟩)
          have hR2 : Hid (PQ = (DR.1, DR.2 + 1, 0)) := by
            show _ = _
            rw [hR.out, if_pos trivial, HLB.out, if_pos rfl, ← hDR]
            rfl
          rw [hDR] at hcall hcount
          have hql : (hand q ⟨(s, n), dp, ct, kd, it, q_, sn⟩).W.length ≤ 100000 := by show q.W.length ≤ _; have := HK.out.2.2.1; omega
          have hwr : IntKind.wrap .i64 (1 + DR.2) = DR.2 + 1 := by rw [IntKind.wrap_i64]; omega
          clear hrel hinv hDR hcount hql
          go_wp2_with fail
          refine hcall.mono ?_
          rintro e wj ⟨pvF, rfl, hrelF, hstF, hOF⟩
          clear hcall
          have HFIN := Lib.hid (And.intro hrelF (And.intro hstF hOF))
          clear hrelF hstF hOF
          go_wp2
          go_ret2
          rw [hR2.out]
          exact ⟨pvF, rfl, HFIN.out.1, ((HSTg.out.trans HST1'.out).trans HST2'.out).trans HFIN.out.2.1, by rw [HFIN.out.2.2]; simp⟩
        | false =>
          have HWN : Hid (pv.ws.length = q.W.length) := by show _ = _; rw [HK.out.1.ws]; simp
          obtain ⟨wl, hwl⟩ : ∃ wl, pv.ws.length = wl := ⟨_, rfl⟩
          obtain ⟨Aw, hAw⟩ : ∃ A, pv.Aw = A := ⟨_, rfl⟩
          obtain ⟨cw, hcw⟩ : ∃ A, pv.cw = A := ⟨_, rfl⟩
          have d2 : wg.cell? ⟨b, 2, none⟩ = some (.slice Aw wl cw) := by have h0 := HSTg.out.at_.box.at.c2; rw [hwl, hAw, hcw] at h0; exact h0
          have HWL := Lib.hid (And.intro hwl (And.intro hAw hcw))
          have hR1 : Hid (PQ = if 256 ≤ wl then (q, 0, 82) else (⟨q.L, q.K, q.W ++ [⟨(s, n), dp, ct, kd, it, q_, sn⟩]⟩, 0, 0)) := by
            show _ = _
            rw [hR.out, if_pos trivial, HLB.out, if_neg (by simp), ← HWN.out, hwl]
          clear hwl hAw hcw
          by_cases h256 : 256 ≤ wl
          · have hR2 : Hid (PQ = (q, 0, 82)) := by show _ = _; rw [hR1.out, if_pos h256]
            have hg : (256 : Int) ≤ (wl : Int) := by omega
            go_wp2
            go_ret2
            rw [hR2.out]
            exact ⟨pv, rfl, HK.out.1, HSTg.out, by omega⟩
          · have hR2 : Hid (PQ = (⟨q.L, q.K, q.W ++ [⟨(s, n), dp, ct, kd, it, q_, sn⟩]⟩, 0, 0)) := by show _ = _; rw [hR1.out, if_neg h256]
            have hg : ¬ (256 : Int) ≤ (wl : Int) := by omega
            have hcall := HKEEP.out _ HSTg.out
            go_wp2_with fail
            refine hcall.mono ?_
            rintro e wh ⟨y, m, hy, rfl, hst⟩
            clear hcall c0 c1 c2_ c3 c4 c5 c6 c7 d2 hg
            have HST1' := Lib.hid hst
            have HBh : Hid (But (pv.own b) W1 wh) := HBg.out.trans hst.but
            have HY := Lib.hid hy
            clear hst hy
            go_upto_region 19 with fail
            obtain ⟨p1, hp1⟩ : ∃ p1, { pv with M := some m, O := y :: pv.O } = p1 := ⟨_, rfl⟩
            have HST2' : Hid (Step pv w p1 wh.drew b) := by
              have h0 := (HSTg.out.trans HST1'.out).then (Below.refl _ wh).drew
              rw [hp1] at h0; exact h0
            have HP1 := Lib.hid hp1
            have HNB1 : Hid (¬ p1.own b w.heap.size) := fun ho => by
              have h0 := HST1'.out.own w.heap.size (by rw [hp1]; exact ho)
              rcases h0 with h0 | h0
              · exact HNB.out h0
              · have h1 := HBg.out.size
                have h2 : W1.heap.size = w.heap.size + 1 := by rw [← HWE.out]; simp
                omega
            have HBh2 : Hid (But (pv.own b) W1 wh.drew) := HBh.out.drew
            clear hp1
            have hS0 : But (p1.own b) wh.drew wh.drew := But.refl _ _
            have HC2 : Hid (∀ W, But (p1.own b) wh.drew W → W.cell? ⟨w.heap.size, 0, none⟩ = some (.string s) ∧ W.cell? ⟨w.heap.size, 1, none⟩ = some (.int .i64 n)) := fun W hW => by
              obtain ⟨⟨e0, e1, _⟩, _⟩ := HCB.out _ HBh2.out
              exact ⟨hW.cell (p := ⟨w.heap.size, 0, none⟩) HNB1.out e0, hW.cell (p := ⟨w.heap.size, 1, none⟩) HNB1.out e1⟩
            refine wp_region_held_drew (S := fun W => But (p1.own b) wh.drew W) (by kernel_rfl) hS0 (fun hS => ?_)
            clear hS0
            generalize wh.drew = We2 at *
            have HWL1 : Hid (p1.ws.length = wl ∧ p1.Aw = Aw ∧ p1.cw = cw ∧ p1.ws = pv.ws) := by rw [← HP1.out]; exact ⟨HWL.out.1, HWL.out.2.1, HWL.out.2.2, rfl⟩
            obtain ⟨A', c', w', hrun, hg', hbl', hsm', hsz', hwh'⟩ := GrD.one HST2'.out.at_.gw (s, n) 24 (by rw [HWL1.out.1]; omega) (by have := (HST2'.out.at_.own_lt b (.inl rfl)).2; omega)
            rw [HWL1.out.1, HWL1.out.2.1, HWL1.out.2.2.1] at hrun
            simp only at hrun
            have HRUN := Lib.hid hrun
            have HG : Hid (Step p1 We2 { p1 with Aw := A', cw := c', ws := p1.ws ++ [(s, n)] } (w'.setCell ⟨b, 2, none⟩ (.slice A' (p1.ws ++ [(s, n)]).length c')) b) := HST2'.out.at_.waits hg' hsm' hbl' hwh'
            have HFR2 : Hid (w'.frozen? ⟨b, 2, none⟩ = false ∧ ∃ v, w'.cell? ⟨b, 2, none⟩ = some v) := by
              have h0 : B4 w' b _ _ _ _ := (hsm' b (HST2'.out.at_.own_lt b (.inl rfl)).2 HST2'.out.at_.apart.2.2).trans HST2'.out.at_.box
              exact ⟨h0.fr.f2, _, h0.at.c2⟩
            have HBW : Hid (But (p1.own b) We2 w') := ⟨hbl'.os, hbl'.tape, hbl'.output, hbl'.size, fun k hk hx => hsm' k hk fun e => hx (.inr (.inr (.inr e)))⟩
            have hlen : (p1.ws ++ [(s, n)]).length = wl + 1 := by rw [List.length_append, HWL1.out.1]; rfl
            rw [hlen] at HG
            clear hrun hg' hbl' hsm' hwh' hlen hsz'
            refine wpAnyH_take (i := 0) (v := ?_) rfl (by kernel_rfl) (by kernel_rfl) (by kernel_rfl) (fun _ _ _ h => h) (Yields.yieldsIf (Or.inl ⟨by kernel_rfl, ?_⟩)) hS ?_
            rotate_left
            · first | (intro w; go_simp; done) | (intro w; go_simp; with_reducible rfl)
            refine wpAnyH_take (i := 1) (v := ?_) rfl (by kernel_rfl) (by kernel_rfl) (by kernel_rfl) (fun _ _ _ h => h) (Yields.yieldsIf (Or.inl ⟨by kernel_rfl, ?_⟩)) hS ?_
            rotate_left
            · first | (intro w; go_simp; done) | (intro w; go_simp; with_reducible rfl)
            refine wpAnyH_take (i := 2) (v := ?_) rfl (by kernel_rfl) (by kernel_rfl) (by kernel_rfl) (fun _ _ _ h => h) (Yields.yieldsIf (Or.inl ⟨by kernel_rfl, ?_⟩)) hS ?_
            rotate_left
            · first | (intro w; go_simp; done) | (intro w; go_simp; with_reducible rfl)
            refine wpAnyH_take (i := 3) (v := ?_) rfl (by kernel_rfl) (by kernel_rfl) (by kernel_rfl) (fun _ _ _ h => h) (Yields.yieldsIf (Or.inl ⟨by kernel_rfl, ?_⟩)) hS ?_
            rotate_left
            · first | (intro w; go_simp; done) | (intro w; go_simp; with_reducible rfl)
            refine wpAnyH_take (i := 5) (v := ?_) rfl (by kernel_rfl) (by kernel_rfl) (by kernel_rfl) (fun _ _ _ h => h) (Yields.yieldsIf (Or.inl ⟨by kernel_rfl, ?_⟩)) hS ?_
            rotate_left
            · first | (intro w; go_simp; done) | (intro w; go_simp; with_reducible rfl)
            refine wpAnyH_take (i := 6) (v := ?_) rfl (by kernel_rfl) (by kernel_rfl) (by kernel_rfl) (fun _ _ _ h => h) (Or.inl ⟨by kernel_rfl, fun W hW => ?_⟩) hS ?_
            rotate_left
            · obtain ⟨c0, c1⟩ := HC2.out W hW
              first | (go_simp; done) | (go_simp; with_reducible rfl)
            try go_simp
            refine wpAnyH_ready (rs := [4, 7]) (by kernel_rfl) (by simp) ?_
            refine AllReadyH.cons rfl (fun K hK => ?_) (AllReadyH.cons rfl (fun K hK => ?_) AllReadyH.nil)
            · have k1 : (We2).cell? ⟨b, 2, none⟩ = some (.slice Aw wl cw) := by
                have h0 := (show p1.At (We2) b from HST2'.out.at_).box.at.c2
                rw [HWL1.out.1, HWL1.out.2.1, HWL1.out.2.2.1] at h0; exact h0
              go_simp
              have hS3 : But (p1.own b) We2 (We2) := But.refl _ _
              clear k1
              refine hK.out _ _ hS3 (fun hS => ?_)
              clear hK K hS3
              try go_simp
              refine wpAnyH_ready (rs := [7]) (by kernel_rfl) (by simp) ?_
              refine AllReadyH.cons rfl (fun K hK => ?_) AllReadyH.nil
              go_simp
              go_wp2_with fail
              have hS3 : But (p1.own b) We2 (We2.alloc (.cells #[.string s, .int .i64 n] 23)) := (But.refl _ We2).alloc _
              refine hK.out _ _ hS3 (fun hS => ?_)
              clear hK K hS3
              try go_simp
              refine wpAnyH_ready (rs := [8]) (by kernel_rfl) (by simp) ?_
              refine AllReadyH.cons rfl (fun K hK => ?_) AllReadyH.nil
              refine Go.Lib.wp_append_run _ _ _ _ _ rfl _ _ rfl rfl _ _ HRUN.out ?_
              have hS3 : But (p1.own b) We2 w' := HBW.out
              refine hK.out _ _ hS3 (fun hS => ?_)
              clear hK K hS3
              refine wpAnyH_take (i := 9) (v := ?_) rfl (by kernel_rfl) (by kernel_rfl) (by kernel_rfl) (fun _ _ _ h => h) (Yields.yieldsIf (Or.inl ⟨by kernel_rfl, ?_⟩)) hS ?_
              rotate_left
              · first | (intro w; go_simp; done) | (intro w; go_simp; with_reducible rfl)
              refine wpAnyH_take (i := 10) (v := ?_) rfl (by kernel_rfl) (by kernel_rfl) (by kernel_rfl) (fun _ _ _ h => h) (Yields.yieldsIf (Or.inl ⟨by kernel_rfl, ?_⟩)) hS ?_
              rotate_left
              · first | (intro w; go_simp; done) | (intro w; go_simp; with_reducible rfl)
              try go_simp
              refine wpAnyH_ready (rs := [11]) (by kernel_rfl) (by simp) ?_
              refine AllReadyH.cons rfl (fun K hK => ?_) AllReadyH.nil
              obtain ⟨f1, v1, g1⟩ := HFR2.out
              go_simp
              go_wp2_with fail
              have hS3 : But (p1.own b) We2 (w'.setCell ⟨b, 2, none⟩ (.slice A' (wl + 1) c')) := HG.out.but
              clear f1 g1
              refine hK.out _ _ hS3 (fun hS => ?_)
              clear hK K hS3
              try go_simp
              refine wpAnyH_done (by kernel_rfl) ?_ _
              go_wp2
              go_ret2
              rw [hR2.out]
              refine ⟨_, rfl, rel_wait HK.out.1 HK.out.2.1 HND.out HY.out ?_ ?_ ?_ ?_, HST2'.out.trans HG.out, ?_⟩
              · show p1.ds = _; rw [← HP1.out]
              · show p1.ws ++ _ = _; rw [HWL1.out.2.2.2]
              · show p1.K = _; rw [← HP1.out]
              · show p1.O = _; rw [← HP1.out]
              · show p1.O.length ≤ _; rw [← HP1.out]; simp
            · go_simp
              go_wp2_with fail
              have hS3 : But (p1.own b) We2 (We2.alloc (.cells #[.string s, .int .i64 n] 23)) := (But.refl _ We2).alloc _
              refine hK.out _ _ hS3 (fun hS => ?_)
              clear hK K hS3
              try go_simp
              refine wpAnyH_ready (rs := [4]) (by kernel_rfl) (by simp) ?_
              refine AllReadyH.cons rfl (fun K hK => ?_) AllReadyH.nil
              have k1 : (We2.alloc (.cells #[.string s, .int .i64 n] 23)).cell? ⟨b, 2, none⟩ = some (.slice Aw wl cw) := by
                have h0 := (show p1.At (We2.alloc (.cells #[.string s, .int .i64 n] 23)) b from HST2'.out.at_.up ((Below.refl _ We2).alloc (Nat.le_refl _) (.cells #[.string s, .int .i64 n] 23))).box.at.c2
                rw [HWL1.out.1, HWL1.out.2.1, HWL1.out.2.2.1] at h0; exact h0
              go_simp
              have hS3 : But (p1.own b) We2 (We2.alloc (.cells #[.string s, .int .i64 n] 23)) := (But.refl _ We2).alloc _
              clear k1
              refine hK.out _ _ hS3 (fun hS => ?_)
              clear hK K hS3
              try go_simp
              refine wpAnyH_ready (rs := [8]) (by kernel_rfl) (by simp) ?_
              refine AllReadyH.cons rfl (fun K hK => ?_) AllReadyH.nil
              refine Go.Lib.wp_append_run _ _ _ _ _ rfl _ _ rfl rfl _ _ HRUN.out ?_
              have hS3 : But (p1.own b) We2 w' := HBW.out
              refine hK.out _ _ hS3 (fun hS => ?_)
              clear hK K hS3
              refine wpAnyH_take (i := 9) (v := ?_) rfl (by kernel_rfl) (by kernel_rfl) (by kernel_rfl) (fun _ _ _ h => h) (Yields.yieldsIf (Or.inl ⟨by kernel_rfl, ?_⟩)) hS ?_
              rotate_left
              · first | (intro w; go_simp; done) | (intro w; go_simp; with_reducible rfl)
              refine wpAnyH_take (i := 10) (v := ?_) rfl (by kernel_rfl) (by kernel_rfl) (by kernel_rfl) (fun _ _ _ h => h) (Yields.yieldsIf (Or.inl ⟨by kernel_rfl, ?_⟩)) hS ?_
              rotate_left
              · first | (intro w; go_simp; done) | (intro w; go_simp; with_reducible rfl)
              try go_simp
              refine wpAnyH_ready (rs := [11]) (by kernel_rfl) (by simp) ?_
              refine AllReadyH.cons rfl (fun K hK => ?_) AllReadyH.nil
              obtain ⟨f1, v1, g1⟩ := HFR2.out
              go_simp
              go_wp2_with fail
              have hS3 : But (p1.own b) We2 (w'.setCell ⟨b, 2, none⟩ (.slice A' (wl + 1) c')) := HG.out.but
              clear f1 g1
              refine hK.out _ _ hS3 (fun hS => ?_)
              clear hK K hS3
              try go_simp
              refine wpAnyH_done (by kernel_rfl) ?_ _
              go_wp2
              go_ret2
              rw [hR2.out]
              refine ⟨_, rfl, rel_wait HK.out.1 HK.out.2.1 HND.out HY.out ?_ ?_ ?_ ?_, HST2'.out.trans HG.out, ?_⟩
              · show p1.ds = _; rw [← HP1.out]
              · show p1.ws ++ _ = _; rw [HWL1.out.2.2.2]
              · show p1.K = _; rw [← HP1.out]
              · show p1.O = _; rw [← HP1.out]
              · show p1.O.length ≤ _; rw [← HP1.out]; simp

end Go.Proofs.Ytdffifkleaekhaa.O
