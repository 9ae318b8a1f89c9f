/-
  The program's Lay.
  The program's Lay, for whatever is handed in.
-/
import Derived.Test.YtflghlmikpfnpaaDoorZLy
import Derived.Test.YtflghlmikpfnpaaDoorENorm
import Derived.Test.YtflghlmikpfnpaaDoorEOps
import Derived.Test.YtflghlmikpfnpaaDoorZRl
import Derived.OrdersHeld
namespace Go.Proofs.YtflghlmikpfnpaaDoor.E
open Go.RowKit Go.Shelf
attribute [local go_sem] Oper.semAt_some

/-- An append whose run is known, within a fence. -/
theorem wpListIn_append_run {F : Fence} {n : Nat} {P : Program} {w w' : World} {v' : Value} {ops : Array Oper} {rest : List Oper} {o : Oper} {a : Act} {Q : Exit → Act → World → Prop} (hg : o.guard = none) (s x : Operand) (t u : TypeId)
    (hop : o.op = .call { callee := .builtin .append, args := #[s, x], argTypes := #[t, u] }) (vs vx : Value) (hs : a.eval s = vs) (hx : a.eval x = vx) (hrun : (Builtin.append_ #[t, u] o.type #[vs, vx]).run P w = .ok v' w')
    (h : wpListIn F n P ops Q rest (a.put o.dst v') w') : wpListIn F n P ops Q (o :: rest) a w := by
  refine wpListIn_plain hg fun K hK' => ?_
  unfold Oper.wpIn
  refine ⟨?_, ?_⟩
  · simp [Oper.about, hop, resolve, Target.leads, Sem.run_pure]
  · rw [Oper.semAt_plain F _ _ (by rw [hop]; intro c hc'; cases hc')]
    simp [execOp, hop, resolve, invoke, builtin, hs, hx, hrun, Result.andThen]
    exact hK' _ _ h

theorem OwnY.row {V : World} {base c : Nat} {A : Option Addr} {l : List Nat} (h : OwnY V base A c l) (hl : ∀ x ∈ l, x < 256) : Row V V.heap.size A l := by
  refine ⟨hl, fun hn => ?_⟩
  rcases h with ⟨_, rfl, _⟩ | ⟨g, cs, rfl, hg, hW, _, _, _, _, h4⟩
  · simp at hn
  · refine ⟨g, 0, rfl, (Array.getElem?_eq_some_iff.1 hW).1, fun j hj => ?_⟩
    rw [Nat.zero_add, cell_of_row V g j cs 5 (0, 0) hW, ← cellsB_get l j hj, ← h4, List.getElem?_take, if_pos hj]
    simp
theorem boxed_putD {V : World} {g D : Nat} {t : TypeId} {v : Value} (h : Boxed V g t v) {x : Option (List Deferred)} (hD : V.heap[D]? = some (.deferred x)) (o' : Obj) : Boxed (V.putObj D o') g t v :=
  (World.putObj_heap_other (fun e => by
    subst e
    have h1 : V.heap[g]? = some (Obj.cells #[v] t (0, 0)) := h
    rw [hD] at h1
    cases h1)).trans h
theorem OwnY.putD {V : World} {base c D : Nat} {A : Option Addr} {l : List Nat} (h : OwnY V base A c l) {x : Option (List Deferred)} (hD : V.heap[D]? = some (.deferred x)) (o' : Obj) : OwnY (V.putObj D o') base A c l := by
  rcases h with h | ⟨g, cs, rfl, hg, hW, hr⟩
  · exact .inl h
  · refine .inr ⟨g, cs, rfl, hg, (World.putObj_heap_other (fun e => ?_)).trans hW, hr⟩
    subst e
    rw [hD] at hW
    cases hW
/-- A region that draws its order inside a round, at the wide fence, by what holds in every world that is met. -/
theorem region_heldIn {y n : Nat} {P : Program} {Q : Exit → Act → World → Prop} {id : Nat} {a : Act} {w : World} {l : List Oper} (S : World → Prop) (hm : P.follows .mixedOrders = true)
    (hd : (l.all fun o => match o.op with | .defer _ => false | _ => true) = true) (hq : ∀ a w, ¬ Q .outgrown a w)
    (h : wpAnyH P .any l.toArray Q S l.length (Array.replicate l.length false) a w.drew) : (Code.region id l.toArray true).wpIn (Fence.wide.inRound y) n P Q a w :=
  wpIn_region_any hm (anyIn_of (noDefers l hd) hq _ _ _ _ (by simpa using wpAny_of_held _ _ _ _ h))

set_option maxRecDepth 100000 in
set_option maxHeartbeats 6400000 in
theorem lay_main (A : Option Addr) (c : Nat) (l : List Nat) (n : Nat) (t : Tr) (v : Value) (w : World) (hr : Row w w.heap.size A l) (hlc : l.length ≤ c) (hl : l.length ≤ 140737488351232) (hV : M.Valid l n) (hv : Arg w (some t) v) :
    Calls Tryd.prog 29 #[.slice A l.length c, .int .i64 (n : Int), v] w (AnsB (layO l (n : Int) (some t)) w) := by
  obtain ⟨o, B, m, d, rfl⟩ := hv.form
  have hN : n ≤ 1125899906842624 := by have := hV.1; omega
  have hfl : n / 8 ≤ l.length := by have := hV.1; omega
  have hbW : Below w.heap.size w ((((w.alloc (.cells #[.int .i64 o, .slice B m d] 24)).alloc (.cells #[.slice none 0 0] 38)).alloc (.cells #[.int .i64 0] 3)).alloc (.cells #[.int .i64 0] 26)) := four_boxes w _ _ _ _
  have hcr := Go.Proofs.YtflghlmikpfnpaaDoor.right_any A c l (n : Int) ((((w.alloc (.cells #[.int .i64 o, .slice B m d] 24)).alloc (.cells #[.slice none 0 0] 38)).alloc (.cells #[.int .i64 0] 3)).alloc (.cells #[.int .i64 0] 26)) _ (row_up hr hbW) (by omega) (by omega) (by omega)
  rw [M.rightB_nat hV] at hcr
  have hct := right_arg (hv.up hbW)
  have HV := Lib.hid hv
  have HR := Lib.hid hr
  have HVA := Lib.hid hV
  have HBW := Lib.hid hbW
  simp only [Option.isSome_some] at hct
  have hcr := (callsIn_wide (n := 2)).2 hcr
  have hct := (callsIn_wide (n := 2)).2 hct
  clear hv hr hV hbW
  refine (callsIn_wide (n := 3)).1 ?_
  unfold tv at hct ⊢
  refine callsIn_of_wp_marks Tryd.func29 rfl trivial ?_ rfl
  simp only [Tryd.ntmps29, List.size_toArray, List.length_cons, List.length_nil, Nat.reduceAdd, Nat.reduceSub, Array.replicate_succ, Array.replicate_zero, List.push_toArray, List.append_toArray, List.nil_append, List.cons_append]
  gi_wp2_with (refine ⟨trivial, ?_⟩; gi_at_call 56; refine hcr.mono ?_; clear hcr; rintro e w' ⟨rfl, rfl⟩)
  refine ⟨trivial, hct.mono ?_⟩
  clear hct
  rintro e w1 ⟨rfl, hb1⟩
  obtain ⟨W0, hW0⟩ : ∃ W0, (((w.alloc (.cells #[.int .i64 o, .slice B m d] 24)).alloc (.cells #[.slice none 0 0] 38)).alloc (.cells #[.int .i64 0] 3)).alloc (.cells #[.int .i64 0] 26) = W0 := ⟨_, rfl⟩
  have hs0 : W0.heap.size = w.heap.size + 4 := by rw [← hW0]; simp
  have t0 : W0.cell? ⟨w.heap.size, 0, none⟩ = some (.int .i64 o) := by rw [← hW0]; simp [go_sem]
  have t1 : W0.cell? ⟨w.heap.size, 1, none⟩ = some (.slice B m d) := by rw [← hW0]; simp [go_sem]
  have k6 : Boxed W0 (w.heap.size + 1) 38 (.slice none 0 0) := by
    have h := ((Boxed.new (w.alloc (.cells #[.int .i64 o, .slice B m d] 24)) 38 (.slice none 0 0)).alloc (.cells #[.int .i64 0] 3)).alloc (.cells #[.int .i64 0] 26)
    rw [hW0] at h
    simp only [World.size_alloc] at h
    exact h
  have k7 : Boxed W0 (w.heap.size + 2) 3 (.int .i64 0) := by
    have h := (Boxed.new ((w.alloc (.cells #[.int .i64 o, .slice B m d] 24)).alloc (.cells #[.slice none 0 0] 38)) 3 (.int .i64 0)).alloc (.cells #[.int .i64 0] 26)
    rw [hW0] at h
    simp only [World.size_alloc] at h
    exact h
  have k8 : Boxed W0 (w.heap.size + 3) 26 (.int .i64 0) := by
    have h := Boxed.new (((w.alloc (.cells #[.int .i64 o, .slice B m d] 24)).alloc (.cells #[.slice none 0 0] 38)).alloc (.cells #[.int .i64 0] 3)) 26 (.int .i64 0)
    rw [hW0] at h
    simp only [World.size_alloc] at h
    exact h
  rw [hW0] at hb1 HBW
  have hb1w : Below w.heap.size w w1 := HBW.out.trans (hb1.mono HBW.out.size)
  have hs1 : w.heap.size + 4 ≤ w1.heap.size := by have := hb1.size; omega
  -- the box of how many bytes are full, then the full bytes
  obtain ⟨F, hF⟩ : ∃ F : Nat, n / 8 = F := ⟨_, rfl⟩
  have hF' : (n : Int) / 8 = (F : Int) := by omega
  obtain ⟨K8, hK8⟩ : ∃ K : Nat, n % 8 = K := ⟨_, rfl⟩
  obtain ⟨W2, hW2⟩ : ∃ W2, w1.alloc (.cells #[.int .i64 (F : Int)] 3) = W2 := ⟨_, rfl⟩
  have hb2 : Below w1.heap.size w1 W2 := by rw [← hW2]; exact (Below.refl _ w1).alloc (Nat.le_refl _) _
  have hs2 : W2.heap.size = w1.heap.size + 1 := by rw [← hW2]; simp
  have hb2w : Below w.heap.size w W2 := hb1w.trans (hb2.mono hb1w.size)
  have k9 : Boxed W2 w1.heap.size 3 (.int .i64 (F : Int)) := by rw [← hW2]; exact Boxed.new w1 3 _
  rw [hF] at hfl
  have hrow2 : RowN W2 none A l := ⟨HR.out.1, fun hn => by
    obtain ⟨b, off, e, hb, hc⟩ := HR.out.2 hn
    exact ⟨b, off, e, by have := hb2w.size; omega, by simp, fun j hj => (hb2w.cell (p := ⟨b, off + j, none⟩) hb).trans (hc j hj)⟩⟩
  obtain ⟨A3, c3, W3, hap, hA3⟩ := OwnY.append (W := W2) (base := w.heap.size) (A := none) (c := 0) (l := []) (.inl ⟨rfl, rfl, rfl⟩) A c (l.take F) W2.heap.size (hrow2.take F).row 38 (by rw [List.length_take]; simp; omega) hb2w.size
  rw [List.length_take, Nat.min_eq_left hfl] at hap
  simp only [List.length_nil, Nat.zero_add] at hap
  have hb3 : Below W2.heap.size W2 W3 := ⟨hA3.bel.os, hA3.bel.tape, hA3.bel.output, hA3.bel.size, fun k hk => hA3.oth k hk (by simp [lies])⟩
  have hb3w : Below w.heap.size w W3 := hb2w.trans (hb3.mono hb2w.size)
  have hhead := slice_head A l.length c F (by omega)
  have htail := slice_tail A l.length c F hfl
  obtain ⟨W4, hW4⟩ : ∃ W4, ((W3.alloc (.cells #[.slice A3 F c3] 38)).alloc (.cells #[.slice (tailA A c F) (l.length - F) (c - F)] 38)).alloc (.cells #[.int .i64 (K8 : Int)] 3) = W4 := ⟨_, rfl⟩
  have hb4 : Below W3.heap.size W3 W4 := by rw [← hW4]; exact three_boxes W3 _ _ _
  have hs4 : W4.heap.size = W3.heap.size + 3 := by rw [← hW4]; simp
  have hlt : (l.take F).length = F := by rw [List.length_take]; omega
  have HLY0 : Hid (LY w w1.heap.size W3.heap.size (l.take F) (l.drop F) K8 A3 c3 (tailA A c F) (c - F) (F : Int) W4) := by
    have k10 : Boxed W4 W3.heap.size 38 (.slice A3 (l.take F).length c3) := by rw [← hW4, hlt]; exact ((Boxed.new W3 38 _).alloc _).alloc _
    have k11 : Boxed W4 (W3.heap.size + 1) 38 (.slice (tailA A c F) (l.drop F).length (c - F)) := by
      rw [List.length_drop]
      have h := (Boxed.new (W3.alloc (.cells #[.slice A3 F c3] 38)) 38 (.slice (tailA A c F) (l.length - F) (c - F))).alloc (.cells #[.int .i64 (K8 : Int)] 3)
      rw [hW4] at h
      simp only [World.size_alloc] at h
      exact h
    have k12 : Boxed W4 (W3.heap.size + 2) 3 (.int .i64 (K8 : Int)) := by
      have h := Boxed.new ((W3.alloc (.cells #[.slice A3 F c3] 38)).alloc (.cells #[.slice (tailA A c F) (l.length - F) (c - F)] 38)) 3 (.int .i64 (K8 : Int))
      rw [hW4] at h
      simp only [World.size_alloc] at h
      exact h
    have hrow3 : RowN W3 (lies A3) A l := ⟨HR.out.1, fun hn => by
      obtain ⟨b, off, e, hb, hc⟩ := HR.out.2 hn
      refine ⟨b, off, e, by have := hb3w.size; omega, fun e2 => ?_, fun j hj => (hb3w.cell (p := ⟨b, off + j, none⟩) hb).trans (hc j hj)⟩
      rcases hA3.own with ⟨h, _⟩ | ⟨g, _, h, hg, _⟩
      · rw [h] at e2; simp [lies] at e2
      · rw [h] at e2; simp only [lies, Option.map_some, Option.some.injEq] at e2; omega⟩
    have x13 : Below W2.heap.size W2 W4 := hb3.trans (hb4.mono hb3.size)
    have y6 := boxed_below (boxed_below (boxed_below k6 hb1 k6.lt) hb2 (by have := hb1.size; omega)) x13 (by omega)
    have y7 := boxed_below (boxed_below (boxed_below k7 hb1 k7.lt) hb2 (by have := hb1.size; omega)) x13 (by omega)
    have y8 := boxed_below (boxed_below (boxed_below k8 hb1 k8.lt) hb2 (by have := hb1.size; omega)) x13 (by omega)
    exact ⟨y6, y7, y8, boxed_below k9 x13 k9.lt, k10, k11, k12, (by have := hA3.own; rw [List.nil_append] at this; exact this.below hb4), (hrow3.drop c F hlc).below hb4, by rw [List.length_drop]; omega, hb3w.trans (hb4.mono hb3w.size), hs1, by have := hb3.size; omega⟩
  have HCUT : Hid (CutB l n [] (l.take F) (l.drop F) K8) := by have := CutB.begin HVA.out HR.out.1; rw [hF, hK8] at this; exact this
  have hcn := (callsIn_wide (n := 2)).2 (norm_any t 4611686018427387904 _ _ W4 ((HV.out.up hb3w).up hb4).inT.1 ((okT_iff t).1 HV.out.inT.2).2.1 (by omega))
  have u0 : W4.cell? ⟨w.heap.size, 0, none⟩ = some (.int .i64 o) := (hb4.cell (p := ⟨w.heap.size, 0, none⟩) (by show w.heap.size < _; have := hb3w.size; have := hb3.size; omega)).trans ((hb3.cell (p := ⟨w.heap.size, 0, none⟩) (by show w.heap.size < _; omega)).trans ((hb2.cell (p := ⟨w.heap.size, 0, none⟩) (by show w.heap.size < _; omega)).trans ((hb1.cell (p := ⟨w.heap.size, 0, none⟩) (by show w.heap.size < _; omega)).trans t0)))
  have u1 : W4.cell? ⟨w.heap.size, 1, none⟩ = some (.slice B m d) := (hb4.cell (p := ⟨w.heap.size, 1, none⟩) (by show w.heap.size < _; have := hb3w.size; have := hb3.size; omega)).trans ((hb3.cell (p := ⟨w.heap.size, 1, none⟩) (by show w.heap.size < _; omega)).trans ((hb2.cell (p := ⟨w.heap.size, 1, none⟩) (by show w.heap.size < _; omega)).trans ((hb1.cell (p := ⟨w.heap.size, 1, none⟩) (by show w.heap.size < _; omega)).trans t1)))
  have HAP := Lib.hid hap
  have HB4 : Hid (Below w.heap.size w W4) := hb3w.trans (hb4.mono hb3w.size)
  have HW4 := Lib.hid hW4
  have hk2 := k9.cell
  have hm8 : (n : Int) % 8 = (K8 : Int) := by omega
  have HK8 := Lib.hid hK8
  have HFF := Lib.hid hF
  clear hK8 hF
  have hk3 : W3.cell? ⟨w1.heap.size, 0, none⟩ = some (.int .i64 (F : Int)) := (hb3.cell (p := ⟨w1.heap.size, 0, none⟩) (by show w1.heap.size < _; omega)).trans hk2
  have hk3' : (W3.alloc (.cells #[.slice A3 F c3] 38)).cell? ⟨w1.heap.size, 0, none⟩ = some (.int .i64 (F : Int)) := (((Below.refl _ W3).alloc (Nat.le_refl _) _).cell (p := ⟨w1.heap.size, 0, none⟩) (World.block_lt_of_cell? W3 _ hk3)).trans hk3
  have hs23 := hb3.size
  clear hb1 hb1w hb2 hb2w hb3 hb3w hb4 hrow2 k6 k7 k8 k9 hA3 hap hW0 t0 t1 HBW hs0
  unfold tv at hcn
  gi_wp2_with (first | (gi_at_builtin; refine wpListIn_append_run rfl _ _ _ _ rfl _ _ rfl rfl HAP.out ?_; clear HAP))
  refine ⟨trivial, hcn.mono ?_⟩
  clear hcn
  rintro e w5 ⟨v5, rfl, hT5, hb5⟩
  obtain ⟨ks, A5, c5, rfl, hkd, htr⟩ := unT hT5
  have hokn := (okT_iff _).1 (okT_norm HV.out.inT.2)
  have HOKN := Lib.hid hokn
  have HTR := Lib.hid htr
  obtain ⟨o5, ho5⟩ : ∃ o, t.norm.N = o := ⟨_, rfl⟩
  rw [ho5] at HTR ⊢
  have HG := HLY0.out.hG
  have hs5 : W4.heap.size ≤ w5.heap.size := hb5.size
  obtain ⟨W6, hW6⟩ : ∃ W6, (w5.alloc (.cells #[.int .i64 o5, .slice A5 ks.len c5] 24)).alloc (.cells #[.int .i64 0, .int .i64 0] 58) = W6 := ⟨_, rfl⟩
  have hs6 : W6.heap.size = w5.heap.size + 2 := by rw [← hW6]; simp
  have hb6 : Below w5.heap.size w5 W6 := by rw [← hW6]; exact ((Below.refl _ w5).alloc (Nat.le_refl _) _).alloc (by simp) _
  have a0 : W6.cell? ⟨w5.heap.size, 0, none⟩ = some (.int .i64 o5) := by rw [← hW6]; simp [go_sem]
  have a1 : W6.cell? ⟨w5.heap.size, 1, none⟩ = some (.slice A5 ks.len c5) := by rw [← hW6]; simp [go_sem]
  have a2 : W6.cell? ⟨w5.heap.size + 1, 0, none⟩ = some (.int .i64 0) := by rw [← hW6]; simp [go_sem]
  have a3 : W6.cell? ⟨w5.heap.size + 1, 1, none⟩ = some (.int .i64 0) := by rw [← hW6]; simp [go_sem]
  have HLY6 : Hid (LB w w1.heap.size W3.heap.size l n [] W6) := ⟨_, _, _, _, _, _, _, _, (HLY0.out.up hb5).up hb6, HCUT.out⟩
  have hb6w : Below w.heap.size w W6 := (HB4.out.trans (hb5.mono HB4.out.size)).trans (hb6.mono (by have := HB4.out.size; omega))
  have hseq := By.nodes_seq (New W4 w5) (ks.size + 1) o5 ks A5 c5 0 0 w5.heap.size (w5.heap.size + 1) (LX w w1.heap.size W3.heap.size) (fun pre x => pre.map It.key ++ [x.key] <+: walkT o5 ks 0 0) (fun x => x.n = 0 ∨ x.n = 2) W6 (Nat.lt_succ_self _) (fun _ h => h) (fun _ _ h => h)
    (hkd.keep fun p v hp hc => (hb6.cell hp.2).trans hc) (fun b hb => by have := hb.2; omega) (by omega) (by omega) a0 a1 a2 a3 (by unfold LX; omega) (by unfold LX; omega) (fun k h => ⟨fun hp => by have := hp.1; unfold LX at h; omega, by unfold LX at h; omega⟩)
  unfold tv
  gi_wp2_with (refine ⟨trivial, ?_⟩; gi_at_call 41; refine (nodes_in _ o5 A5 ks.len c5 _ _ _).mono ?_; rintro e w' ⟨rfl, rfl⟩)
  simp only [Nat.add_assoc, Nat.reduceAdd]
  clear a0 a1 a2 a3 hW6 hkd hT5 htr ho5 HLY0 HCUT hb5 hb6 u0 u1
  refine By.range_own (gf := 73) (lb := #[.pointer (some ⟨w5.heap.size, 0, none⟩), .pointer (some ⟨w5.heap.size + 1, 0, none⟩)]) rfl (enters_of Tryd.func73 (by kernel_rfl) rfl) hseq (fun k h => by unfold LX at h; omega) (Below.refl _ _) (fun _ => rfl)
    (fun q V => LB w w1.heap.size W3.heap.size l n ((q.map It.key).flatMap codeE) V ∧ (q.map It.key).all smallK = true)
    (fun cd q V => cd = .ret ∧ (Boxed V (w.heap.size + 1) 38 (.slice none 0 0) ∧ Boxed V (w.heap.size + 2) 3 (.int .i64 0) ∧ Boxed V (w.heap.size + 3) 26 (.int .i64 50)) ∧ Below w.heap.size w V ∧ (q.map It.key).all smallK = false)
    (OwnFrom.and (LB.own w _ _ l n _ (by have := hb6w.size; omega) (fun q => (q.map It.key).flatMap codeE)) (ownFrom_pure _ _))
    (fun cd => OwnFrom.and (ownFrom_pure _ _) (OwnFrom.and (OwnFrom.and ((boxed_own _ _ _).from _) (OwnFrom.and ((boxed_own _ _ _).from _) ((boxed_own _ _ _).from _))) (OwnFrom.and (ownFrom_below (Nat.le_refl _) (by have := hb6w.size; omega)) (ownFrom_pure _ _))))
    ⟨HLY6.out, rfl⟩
    (fun x a' V => ∃ Bx, W3.heap.size + 2 < Bx ∧ V.cell? ⟨Bx, 0, none⟩ = some (.int .i64 x.o) ∧ V.cell? ⟨Bx, 1, none⟩ = some (.slice x.A x.n x.c) ∧ a' = { tmps := #[.slice A l.length c, .int .i64 (n : Int), .agg #[.int .i64 o, .slice B m d], undef, undef, .pointer (some ⟨w.heap.size, 0, none⟩), .pointer (some ⟨w.heap.size + 1, 0, none⟩), .pointer (some ⟨w.heap.size + 2, 0, none⟩), .pointer (some ⟨w.heap.size + 3, 0, none⟩), .pointer (some ⟨w1.heap.size, 0, none⟩), .pointer (some ⟨W3.heap.size, 0, none⟩), .pointer (some ⟨W3.heap.size + 1, 0, none⟩), .pointer (some ⟨W3.heap.size + 2, 0, none⟩), .pointer (some ⟨Bx, 0, none⟩), undef, undef, .slice A l.length c, .int .i64 (n : Int), .bool true, .bool false, .bool false, .agg #[.int .i64 o, .slice B m d], .bool true, .bool false, .bool false, .int .i64 (n : Int), .int .i64 (F : Int), .slice A l.length c, .int .i64 (F : Int), .slice A F c, .slice A3 F c3, .slice A l.length c, .int .i64 (F : Int), .slice (tailA A c F) (l.length - F) (c - F), .int .i64 (n : Int), .int .i64 (K8 : Int), .agg #[.int .i64 o, .slice B m d], .agg #[.int .i64 o5, .slice A5 ks.len c5], .agg #[.int .i64 0, .int .i64 0], .func (.func 73) #[] #[.pointer (some ⟨w5.heap.size, 0, none⟩), .pointer (some ⟨w5.heap.size + 1, 0, none⟩)], .agg #[.int .i64 x.o, .slice x.A x.n x.c], .agg #[.int .i64 x.d, .int .i64 x.s], undef, undef, undef, undef, undef, undef, undef, undef, undef, undef, undef, undef, undef, undef, undef, undef, undef, undef, undef, undef, undef, undef, undef, undef, undef, undef, undef, undef, undef, undef, undef, undef, undef, undef, undef, undef, undef, undef, undef, undef, undef, undef], defers := [] })
    (fun x a' _ V V' row hs hg hr => by 
      obtain ⟨Bx, hx, b0, b1, e⟩ := hs
      exact ⟨Bx, hx, cell_kept b0 hg (fun r e => (hr r e).2), cell_kept b1 hg (fun r e => (hr r e).2), e⟩) ?assign ?body ?done ?stop
  case assign =>
    rintro l' q x V K hsv ⟨hI, hI2⟩ hK
    unfold It.enc tv
    dsimp only
    gi_wp2
    obtain ⟨O, R, k, A1, c1, A2, c2, f, hY, hcut⟩ := hI
    exact hK _ _ ((By.Kept.refl _ V).alloc _) ⟨⟨O, R, k, A1, c1, A2, c2, f, hY.up ((Below.refl _ V).alloc (Nat.le_refl _) _), hcut⟩, hI2⟩ ⟨V.heap.size, hY.b12.lt, by simp [go_sem], by simp [go_sem], rfl⟩
  case body =>
    rintro l' q x a' V hsv ⟨⟨O, R, k, A1, c1, A2, c2, f, hY, hcut⟩, hsm⟩ ⟨Bx, hBx, b0, b1, rfl⟩ hq
    have hwl := walk_lim HTR.out hq
    have hwo := walkT_ok (m := 4611686018427387904) 0 0 HTR.out HOKN.out.2.1 (by omega) x.key hwl.2
    have hbl := bitsE_len t.norm 4611686018427387904 HOKN.out.2.1 (by omega)
    have hnn := HOKN.out.2.2
    have hxo : 0 ≤ x.o ∧ x.o ≤ 4611686018427387904 := hwo.1
    have HXN : Hid (x.n = 0 ∨ x.n = 2) := hwo.2
    have hmx : Tryd.prog.follows .mixedOrders = true := by kernel_rfl
    have hcode : codeE x.key = (if x.n = 0 then 0 else 1) :: gam x.o.toNat := rfl
    obtain ⟨kb, hkb⟩ : ∃ kb : Nat, (if x.n = 0 then 0 else 1) = kb := ⟨_, rfl⟩
    have hkb2 : kb < 2 := by rw [← hkb]; split <;> omega
    have hkbi : (if x.n = 0 then (0 : Int) else 1) = (kb : Int) := by rw [← hkb]; split <;> rfl
    rw [hkb] at hcode
    have hRl := hcut.len
    have hk8 := hcut.lt
    have hkind := fun (W : World) => kind_any x.o x.A x.n x.c W
    rw [hkbi] at hkind
    have hput := fun (W : World) (hr : Row W W.heap.size A2 R) => put_new A2 c2 R k kb 1 W hr (by omega) hcut.val (by omega) (by omega)
    rw [digs_bit kb hkb2] at hput
    have hv1 := M.put_valid [kb] hcut.sm hcut.val (fun b hb => by simp at hb; omega)
    have hl1 := put_len hcut.val [kb]
    simp only [List.length_singleton] at hv1 hl1
    have HL2 : Hid (M.putL (M.putL R k [kb]) (k + 1) (gam x.o.toNat) = M.putL R k (codeE x.key) ∧ k + 1 + (gam x.o.toNat).length = k + (codeE x.key).length) := by
      rw [hcode]
      exact ⟨rfl, by simp only [List.length_cons]; omega⟩
    have HNX := Lib.hid (hcut.next (codeE x.key) (codeE_lt x.key))
    obtain ⟨L1, hL1⟩ : ∃ L, M.putL R k [kb] = L := ⟨_, rfl⟩
    obtain ⟨k1, hk1⟩ : ∃ j, k + 1 = j := ⟨_, rfl⟩
    rw [hL1, hk1] at hput hv1 HL2
    rw [hL1] at hl1
    have HV1 := Lib.hid hv1
    have hpos := hcut.pos
    have HCUT := Lib.hid hcut
    have HSM := Lib.hid hsm
    have HQ := Lib.hid hq
    have HWL := Lib.hid hwl
    have HKIND := Lib.hid hkind
    have HPUT := Lib.hid hput
    have HKX : Hid ((k : Int) + 1 = (k1 : Int)) := by show _ = _; omega
    clear hkind hput hv1 hcut hsm hq hwo hL1 hcode hkb hkbi hseq hwl
    unfold tv at HKIND
    gi_wp2
    -- region 9
    have hbd : Below V.heap.size V V.drew := (Below.refl _ V).drew
    have HYd := Lib.hid (hY.up hbd)
    have HK0 : Hid (By.Kept (LX w w1.heap.size W3.heap.size) V V.drew) := By.Kept.below hbd (Nat.le_refl _)
    have hS : V.drew.cell? ⟨Bx, 0, none⟩ = some (.int .i64 x.o) ∧ V.drew.cell? ⟨Bx, 1, none⟩ = some (.slice x.A x.n x.c) := ⟨b0, b1⟩
    have HBXG : Hid (W3.heap.size + 2 < Bx) := hBx
    refine region_heldIn (fun W => W.cell? ⟨Bx, 0, none⟩ = some (.int .i64 x.o) ∧ W.cell? ⟨Bx, 1, none⟩ = some (.slice x.A x.n x.c)) hmx (by kernel_rfl) (fun _ _ h => h) ?_
    clear hbd b0 b1 hY
    generalize V.drew = Vd at HYd HK0 hS ⊢
    refine wpAnyH_take (i := 2) (v := ?_) rfl (by kernel_rfl) (by kernel_rfl) (by kernel_rfl) (fun _ _ _ h => h) (Or.inl ⟨by kernel_rfl, fun W hW => ?_⟩) hS ?_
    rotate_left
    · obtain ⟨f0, f1⟩ := hW
      first | (go_simp; done) | (go_simp; with_reducible rfl)
    have d11 := HYd.out.b11.cell
    have d12 := HYd.out.b12.cell
    refine wpAnyH_ready (rs := [0, 1, 3]) (by kernel_rfl) (by simp) ?_
    refine AllReadyH.cons rfl (fun K hK => ?_) (AllReadyH.cons rfl (fun K hK => ?_) (AllReadyH.cons rfl (fun K hK => ?_) AllReadyH.nil))
    · skip
      go_simp
      refine hK.out _ _ hS (fun hS => ?_)
      clear hK K
      refine wpAnyH_ready (rs := [1, 3]) (by kernel_rfl) (by simp) ?_
      refine AllReadyH.cons rfl (fun K hK => ?_) (AllReadyH.cons rfl (fun K hK => ?_) AllReadyH.nil)
      · skip
        go_simp
        refine hK.out _ _ hS (fun hS => ?_)
        clear hK K
        refine wpAnyH_ready (rs := [3]) (by kernel_rfl) (by simp) ?_
        refine AllReadyH.cons rfl (fun K hK => ?_) AllReadyH.nil
        go_simp
        go_wp2_with (go_at_call 58; refine (HKIND.out Vd).mono ?_; rintro e V2 ⟨rfl, hb2⟩)
        have HY2 := Lib.hid (HYd.out.up hb2)
        have HK2 : Hid (By.Kept (LX w w1.heap.size W3.heap.size) V V2) := HK0.out.trans (By.Kept.below hb2 (Nat.le_refl _))
        have hS3 : V2.cell? ⟨Bx, 0, none⟩ = some (.int .i64 x.o) ∧ V2.cell? ⟨Bx, 1, none⟩ = some (.slice x.A x.n x.c) := ⟨(hb2.cell (World.block_lt_of_cell? Vd _ hS.1)).trans hS.1, (hb2.cell (World.block_lt_of_cell? Vd _ hS.2)).trans hS.2⟩
        clear hb2 d11 d12 HYd HK0 hS
        have d11 := HY2.out.b11.cell
        have d12 := HY2.out.b12.cell
        refine hK.out _ _ hS3 (fun hS => ?_)
        clear hK K hS3
        have HK2' := Lib.hid HK2.out
        refine wpAnyH_ready (rs := [4]) (by kernel_rfl) (by simp) ?_
        refine AllReadyH.cons rfl (fun K hK => ?_) AllReadyH.nil
        go_simp
        go_wp2_with (go_at_call 57; refine (HPUT.out V2 HY2.out.row.row).mono ?_; rintro e V3 ⟨rfl, hbk3, hlt3, hb3⟩)
        have HP3 := Lib.hid (HY2.out.put (k' := k1) hb3 hbk3 (Nat.le_refl _) hlt3)
        have hY3 := HY2.out.up hb3
        have c11 := hY3.b11.cell
        have f11 := hY3.b11.frozen
        have c12 := hY3.b12.cell
        have f12 := hY3.b12.frozen
        have hS3 : V3.cell? ⟨Bx, 0, none⟩ = some (.int .i64 x.o) ∧ V3.cell? ⟨Bx, 1, none⟩ = some (.slice x.A x.n x.c) := ⟨(hb3.cell (World.block_lt_of_cell? V2 _ hS.1)).trans hS.1, (hb3.cell (World.block_lt_of_cell? V2 _ hS.2)).trans hS.2⟩
        have HK3 : Hid (By.Kept (LX w w1.heap.size W3.heap.size) V ((V3.setCell ⟨W3.heap.size + 1, 0, none⟩ (.slice (some ⟨V2.heap.size, 0, none⟩) L1.length L1.length)).setCell ⟨W3.heap.size + 2, 0, none⟩ (.int .i64 (k1 : Int)))) := ((HK2.out.trans (By.Kept.below hb3 (Nat.le_refl _))).setCell (p := ⟨W3.heap.size + 1, 0, none⟩) (.inr (.inr (.inr (.inr (.inr (.inl rfl)))))) _).setCell (p := ⟨W3.heap.size + 2, 0, none⟩) (.inr (.inr (.inr (.inr (.inr (.inr rfl)))))) _
        have HSF : Hid (∀ (j : Nat) (u1 : Value) (z : Value), V3.cell? ⟨Bx, j, none⟩ = some z → (V3.setCell ⟨W3.heap.size + 1, 0, none⟩ u1).cell? ⟨Bx, j, none⟩ = some z) := fun j u1 z h => (World.cell?_setCell_other _ _ _ _ (fun e => by injection e; have := HBXG.out; omega)).trans h
        have HSF2 : Hid (∀ (j : Nat) (u1 u2 : Value) (z : Value), V3.cell? ⟨Bx, j, none⟩ = some z → ((V3.setCell ⟨W3.heap.size + 1, 0, none⟩ u1).setCell ⟨W3.heap.size + 2, 0, none⟩ u2).cell? ⟨Bx, j, none⟩ = some z) := fun j u1 u2 z h => (World.cell?_setCell_other _ _ _ _ (fun e => by injection e; have := HBXG.out; omega)).trans (HSF.out j u1 z h)
        have c12' : ∀ u, (V3.setCell ⟨W3.heap.size + 1, 0, none⟩ u).cell? ⟨W3.heap.size + 2, 0, none⟩ = some (.int .i64 (k : Int)) := fun u => (World.cell?_setCell_other _ _ _ _ (fun e => by injection e; omega)).trans c12
        clear d11 d12 hS hb3 hbk3 hlt3 hY3 HK2 HK2' HY2
        refine hK.out _ _ hS3 (fun hS => ?_)
        clear hK K hS3
        refine wpAnyH_take (i := 5) (v := ?_) rfl (by kernel_rfl) (by kernel_rfl) (by kernel_rfl) (fun _ _ _ h => h) (Yields.yieldsIf (Or.inl ⟨by kernel_rfl, ?_⟩)) hS ?_
        rotate_left
        · first | (intro w; go_simp; done) | (intro w; go_simp; with_reducible rfl)
        refine wpAnyH_take (i := 6) (v := ?_) rfl (by kernel_rfl) (by kernel_rfl) (by kernel_rfl) (fun _ _ _ h => h) (Yields.yieldsIf (Or.inl ⟨by kernel_rfl, ?_⟩)) hS ?_
        rotate_left
        · first | (intro w; go_simp; done) | (intro w; go_simp; with_reducible rfl)
        refine wpAnyH_take (i := 7) (v := ?_) rfl (by kernel_rfl) (by kernel_rfl) (by kernel_rfl) (fun _ _ _ h => h) (Yields.yieldsIf (Or.inl ⟨by kernel_rfl, ?_⟩)) hS ?_
        rotate_left
        · first | (intro w; go_simp; done) | (intro w; go_simp; with_reducible rfl)
        refine wpAnyH_take (i := 8) (v := ?_) rfl (by kernel_rfl) (by kernel_rfl) (by kernel_rfl) (fun _ _ _ h => h) (Yields.yieldsIf (Or.inl ⟨by kernel_rfl, ?_⟩)) hS ?_
        rotate_left
        · first | (intro w; go_simp; done) | (intro w; go_simp; with_reducible rfl)
        refine wpAnyH_ready (rs := [9]) (by kernel_rfl) (by simp) ?_
        refine AllReadyH.cons rfl (fun K hK => ?_) AllReadyH.nil
        go_simp
        refine hK.out _ _ ⟨HSF.out 0 _ _ hS.1, HSF.out 1 _ _ hS.2⟩ (fun _ => ?_)
        clear hK K
        refine wpAnyH_ready (rs := [10]) (by kernel_rfl) (by simp) ?_
        refine AllReadyH.cons rfl (fun K hK => ?_) AllReadyH.nil
        go_simp
        refine hK.out _ _ ⟨HSF2.out 0 _ _ _ hS.1, HSF2.out 1 _ _ _ hS.2⟩ (fun _ => ?_)
        clear hK K
        refine wpAnyH_done (by kernel_rfl) ?_ _
        have g0 := HSF2.out 0 (.slice (some ⟨V2.heap.size, 0, none⟩) L1.length L1.length) (.int .i64 (k1 : Int)) _ hS.1
        clear hS c11 f11 c12 f12 c12' HSF HSF2
        generalize ((V3.setCell ⟨W3.heap.size + 1, 0, none⟩ (.slice (some ⟨V2.heap.size, 0, none⟩) L1.length L1.length)).setCell ⟨W3.heap.size + 2, 0, none⟩ (.int .i64 (k1 : Int))) = U3 at HP3 HK3 g0 ⊢
        obtain ⟨g2, hg2⟩ : ∃ g, V2.heap.size = g := ⟨_, rfl⟩
        rw [hg2] at HP3 ⊢
        clear hg2
        have d11 := HP3.out.b11.cell
        have d12 := HP3.out.b12.cell
        by_cases hs : x.o < 4611686018427387904
        · have hown : Calls Tryd.prog 59 #[.slice (some ⟨g2, 0, none⟩) L1.length L1.length, .int .i64 (k1 : Int), .int .u64 x.o] U3 (GivesNew (M.putL L1 k1 (gam x.o.toNat)) (k1 + (gam x.o.toNat).length) U3) := by
            have := putOwn_new (some ⟨g2, 0, none⟩) L1.length L1 k1 x.o.toNat U3 HP3.out.row.row (by omega) HV1.out (by omega)
            rw [show ((x.o.toNat : Nat) : Int) = x.o by omega] at this
            exact this
          rw [HL2.out.1, HL2.out.2] at hown
          have hownI := CallsIn.inRound l' ((callsIn_wide (n := 2)).2 hown)
          clear hown
          obtain ⟨L2, hL2⟩ : ∃ L, M.putL R k (codeE x.key) = L := ⟨_, rfl⟩
          obtain ⟨k2, hk2⟩ : ∃ j, k + (codeE x.key).length = j := ⟨_, rfl⟩
          rw [hL2, hk2] at hownI
          have HN2 := Lib.hid HNX.out
          rw [hL2, hk2] at HN2
          have hcl : (codeE x.key).length ≤ 200 := by
            have := gam_len x.o.toNat (by omega)
            show ((if x.n = 0 then 0 else 1) :: gam x.o.toNat).length ≤ 200
            rw [List.length_cons]; omega
          have hk2b : k2 ≤ 300 := by omega
          obtain ⟨F2, hF2⟩ : ∃ j, k2 / 8 = j := ⟨_, rfl⟩
          obtain ⟨K2, hK2⟩ : ∃ j, k2 % 8 = j := ⟨_, rfl⟩
          rw [hF2, hK2] at HN2
          have hF2i : (k2 : Int) / 8 = (F2 : Int) := by omega
          have hK2i : (k2 : Int) % 8 = (K2 : Int) := by omega
          have hK2t : (k2 : Int).tmod 8 = (K2 : Int) := by rw [Int.tmod_eq_emod_of_nonneg (by omega)]; omega
          have hL2l : F2 ≤ L2.length := by
            have := M.putL_length R k (codeE x.key) HCUT.out.val.1
            rw [hL2] at this
            omega
          have hOl : O.length ≤ 140737489000000 := by
            have h1 := HWL.out.1
            omega
          have HFF2 := Lib.hid hF2
          clear hL2 hk2 hF2 hK2 hcl HNX
          have f11 := HP3.out.b11.frozen
          have f12 := HP3.out.b12.frozen
          gi_wp2_with fail
          refine ⟨trivial, ?_⟩
          refine hownI.mono ?_
          rintro e V5 ⟨rfl, hbk5, hlt5, hb5⟩
          have HP5 := Lib.hid (HP3.out.put (k' := k2) hb5 hbk5 (Nat.le_refl _) hlt5)
          have hY5 := HP3.out.up hb5
          have hg1 := HP3.out.hs1
          have hg3 := HP3.out.hG
          have c11 := hY5.b11.cell
          have f11 := hY5.b11.frozen
          have c12 := hY5.b12.cell
          have f12 := hY5.b12.frozen
          have c9 := hY5.b9.cell
          have f9 := hY5.b9.frozen
          have c12' : ∀ u, (V5.setCell ⟨W3.heap.size + 1, 0, none⟩ u).cell? ⟨W3.heap.size + 2, 0, none⟩ = some (.int .i64 (k1 : Int)) := fun u => (World.cell?_setCell_other _ _ _ _ (fun e => by injection e; omega)).trans c12
          have c9' : ∀ u1 u2, ((V5.setCell ⟨W3.heap.size + 1, 0, none⟩ u1).setCell ⟨W3.heap.size + 2, 0, none⟩ u2).cell? ⟨w1.heap.size, 0, none⟩ = some (.int .i64 f) := fun u1 u2 => (World.cell?_setCell_other _ _ _ _ (fun e => by injection e; omega)).trans ((World.cell?_setCell_other _ _ _ _ (fun e => by injection e; omega)).trans c9)
          have HP6 := Lib.hid (HP5.out.full (F2 : Int))
          have HK6 : Hid (By.Kept (LX w w1.heap.size W3.heap.size) V (((V5.setCell ⟨W3.heap.size + 1, 0, none⟩ (.slice (some ⟨U3.heap.size, 0, none⟩) L2.length L2.length)).setCell ⟨W3.heap.size + 2, 0, none⟩ (.int .i64 (k2 : Int))).setCell ⟨w1.heap.size, 0, none⟩ (.int .i64 (F2 : Int)))) := (((HK3.out.trans (By.Kept.below hb5 (Nat.le_refl _))).setCell (p := ⟨W3.heap.size + 1, 0, none⟩) (.inr (.inr (.inr (.inr (.inr (.inl rfl)))))) _).setCell (p := ⟨W3.heap.size + 2, 0, none⟩) (.inr (.inr (.inr (.inr (.inr (.inr rfl)))))) _).setCell (p := ⟨w1.heap.size, 0, none⟩) (.inr (.inr (.inr (.inl rfl)))) _
          clear hownI HK3 HP3 HP5 hY5 hb5 hbk5 hlt5 d11 d12 g0
          gi_wp2
          generalize (((V5.setCell ⟨W3.heap.size + 1, 0, none⟩ (.slice (some ⟨U3.heap.size, 0, none⟩) L2.length L2.length)).setCell ⟨W3.heap.size + 2, 0, none⟩ (.int .i64 (k2 : Int))).setCell ⟨w1.heap.size, 0, none⟩ (.int .i64 (F2 : Int))) = U6 at HP6 HK6 ⊢
          obtain ⟨g5, hg5⟩ : ∃ g, U3.heap.size = g := ⟨_, rfl⟩
          rw [hg5] at HP6 ⊢
          clear hg5 c11 f11 c12 f12 c9 f9 c12' c9'
          -- region 14
          have hbd : Below U6.heap.size U6 U6.drew := (Below.refl _ U6).drew
          have HPd := Lib.hid (HP6.out.up hbd)
          have HKd : Hid (By.Kept (LX w w1.heap.size W3.heap.size) V U6.drew) := HK6.out.trans (By.Kept.below hbd (Nat.le_refl _))
          clear hbd HP6 HK6
          have hS : U6.drew.cell? ⟨W3.heap.size + 1, 0, none⟩ = some (.slice (some ⟨g5, 0, none⟩) L2.length L2.length) ∧ U6.drew.cell? ⟨w1.heap.size, 0, none⟩ = some (.int .i64 (F2 : Int)) := ⟨HPd.out.b11.cell, HPd.out.b9.cell⟩
          have hhead2 := slice_head (some ⟨g5, 0, none⟩) L2.length L2.length F2 hL2l
          refine region_heldIn (fun W => W.cell? ⟨W3.heap.size + 1, 0, none⟩ = some (.slice (some ⟨g5, 0, none⟩) L2.length L2.length) ∧ W.cell? ⟨w1.heap.size, 0, none⟩ = some (.int .i64 (F2 : Int))) hmx (by kernel_rfl) (fun _ _ h => h) ?_
          generalize U6.drew = Ud at HPd HKd hS ⊢
          refine wpAnyH_take (i := 1) (v := ?_) rfl (by kernel_rfl) (by kernel_rfl) (by kernel_rfl) (fun _ _ _ h => h) (Or.inl ⟨by kernel_rfl, fun W hW => ?_⟩) hS ?_
          rotate_left
          · obtain ⟨f0, f1⟩ := hW
            first | (go_simp; done) | (go_simp; with_reducible rfl)
          refine wpAnyH_take (i := 2) (v := ?_) rfl (by kernel_rfl) (by kernel_rfl) (by kernel_rfl) (fun _ _ _ h => h) (Or.inl ⟨by kernel_rfl, fun W hW => ?_⟩) hS ?_
          rotate_left
          · obtain ⟨f0, f1⟩ := hW
            first | (go_simp; done) | (go_simp; with_reducible rfl)
          refine wpAnyH_take (i := 3) (v := ?_) rfl (by kernel_rfl) (by kernel_rfl) (by kernel_rfl) (fun _ _ _ h => h) (Yields.yieldsIf (Or.inl ⟨by kernel_rfl, ?_⟩)) hS ?_
          rotate_left
          · first | (intro w; go_simp; done) | (intro w; go_simp; with_reducible rfl)
          have d10 := HPd.out.b10.cell
          have hF2l : (L2.take F2).length = F2 := by rw [List.length_take]; omega
          obtain ⟨A7, c7, W7, hap7, ha7⟩ := HPd.out.own.append (some ⟨g5, 0, none⟩) L2.length (L2.take F2) Ud.heap.size (HPd.out.row.take F2).row 38 (by rw [hF2l]; omega) HPd.out.bel.size
          rw [hF2l] at hap7
          have HAP7 := Lib.hid hap7
          have HP7 := Lib.hid (HPd.out.app ha7)
          rw [hF2l] at HP7
          have HK7 : Hid (By.Kept (LX w w1.heap.size W3.heap.size) V (W7.setCell ⟨W3.heap.size, 0, none⟩ (.slice A7 (O.length + F2) c7))) := (HKd.out.trans (ha7.kept.mono (fun _ h => h.elim))).setCell (p := ⟨W3.heap.size, 0, none⟩) (.inr (.inr (.inr (.inr (.inl rfl))))) _
          have bx : ∀ {g : Nat} {t : TypeId} {v : Value}, Boxed Ud g t v → t ≠ 5 → Boxed W7 g t v := fun hb ht => (ha7.oth _ hb.lt (HPd.out.own.ne_box hb ht)).trans hb
          have hS7 : W7.cell? ⟨W3.heap.size + 1, 0, none⟩ = some (.slice (some ⟨g5, 0, none⟩) L2.length L2.length) ∧ W7.cell? ⟨w1.heap.size, 0, none⟩ = some (.int .i64 (F2 : Int)) := ⟨(bx HPd.out.b11 (by decide)).cell, (bx HPd.out.b9 (by decide)).cell⟩
          have e10 := (bx HPd.out.b10 (by decide)).cell
          have z10 := (bx HPd.out.b10 (by decide)).frozen
          have hgG := HPd.out.hG
          have hS8 : ∀ u, (W7.setCell ⟨W3.heap.size, 0, none⟩ u).cell? ⟨W3.heap.size + 1, 0, none⟩ = some (.slice (some ⟨g5, 0, none⟩) L2.length L2.length) ∧ (W7.setCell ⟨W3.heap.size, 0, none⟩ u).cell? ⟨w1.heap.size, 0, none⟩ = some (.int .i64 (F2 : Int)) := fun u => ⟨(World.cell?_setCell_other _ _ _ _ (fun e => by injection e; omega)).trans hS7.1, (World.cell?_setCell_other _ _ _ _ (fun e => by injection e; omega)).trans hS7.2⟩
          clear hap7 ha7 bx HPd HKd
          refine wpAnyH_ready (rs := [0]) (by kernel_rfl) (by simp) ?_
          refine AllReadyH.cons rfl (fun K hK => ?_) AllReadyH.nil
          go_simp
          refine hK.out _ _ hS (fun _ => ?_)
          clear hK K hS d10
          refine wpAnyH_ready (rs := [4]) (by kernel_rfl) (by simp) ?_
          refine AllReadyH.cons rfl (fun K hK => ?_) AllReadyH.nil
          refine oper_append_run _ _ _ _ rfl _ _ rfl rfl HAP7.out ?_
          clear HAP7
          go_simp
          refine hK.out _ _ hS7 (fun _ => ?_)
          clear hK K hS7
          refine wpAnyH_ready (rs := [5]) (by kernel_rfl) (by simp) ?_
          refine AllReadyH.cons rfl (fun K hK => ?_) AllReadyH.nil
          go_simp
          refine hK.out _ _ (hS8 _) (fun _ => ?_)
          clear hK K hS8 e10 z10
          refine wpAnyH_done (by kernel_rfl) ?_ _
          generalize W7.setCell ⟨W3.heap.size, 0, none⟩ (.slice A7 (O.length + F2) c7) = U8 at HP7 HK7 ⊢
          gi_wp2
          -- region 15
          have hbd : Below U8.heap.size U8 U8.drew := (Below.refl _ U8).drew
          have HPe := Lib.hid (HP7.out.up hbd)
          have HKe : Hid (By.Kept (LX w w1.heap.size W3.heap.size) V U8.drew) := HK7.out.trans (By.Kept.below hbd (Nat.le_refl _))
          clear hbd HP7 HK7
          have hS : U8.drew.cell? ⟨w1.heap.size, 0, none⟩ = some (.int .i64 (F2 : Int)) := HPe.out.b9.cell
          have htail2 := slice_tail (some ⟨g5, 0, none⟩) L2.length L2.length F2 hL2l
          refine region_heldIn (fun W => W.cell? ⟨w1.heap.size, 0, none⟩ = some (.int .i64 (F2 : Int))) hmx (by kernel_rfl) (fun _ _ h => h) ?_
          generalize U8.drew = Ue at HPe HKe hS ⊢
          have HP9 := Lib.hid (HPe.out.cut F2 K2)
          obtain ⟨TA, hTA⟩ : ∃ T, tailA (some ⟨g5, 0, none⟩) L2.length F2 = T := ⟨_, rfl⟩
          rw [hTA] at HP9 htail2
          clear hTA
          have HFIN : Hid (By.Kept (LX w w1.heap.size W3.heap.size) V ((Ue.setCell ⟨W3.heap.size + 1, 0, none⟩ (.slice TA (L2.length - F2) (L2.length - F2))).setCell ⟨W3.heap.size + 2, 0, none⟩ (.int .i64 (K2 : Int))) ∧ (x.n = 0 ∨ x.n = 2) ∧ LB w w1.heap.size W3.heap.size l n (((q ++ [x]).map It.key).flatMap codeE) ((Ue.setCell ⟨W3.heap.size + 1, 0, none⟩ (.slice TA (L2.length - F2) (L2.length - F2))).setCell ⟨W3.heap.size + 2, 0, none⟩ (.int .i64 (K2 : Int))) ∧ ((q ++ [x]).map It.key).all smallK = true) :=
            ⟨(HKe.out.setCell (p := ⟨W3.heap.size + 1, 0, none⟩) (.inr (.inr (.inr (.inr (.inr (.inl rfl)))))) _).setCell (p := ⟨W3.heap.size + 2, 0, none⟩) (.inr (.inr (.inr (.inr (.inr (.inr rfl)))))) _, HXN.out, ⟨_, _, _, _, _, _, _, _, HP9.out, by rw [List.map_append, List.flatMap_append]; simpa using HN2.out⟩, by rw [List.map_append, List.all_append, HSM.out]; simp [smallK, It.key, hs]⟩
          have c11 := HPe.out.b11.cell
          have f11 := HPe.out.b11.frozen
          have c12 := HPe.out.b12.cell
          have f12 := HPe.out.b12.frozen
          have hgG2 := HPe.out.hG
          have c12' : ∀ u, (Ue.setCell ⟨W3.heap.size + 1, 0, none⟩ u).cell? ⟨W3.heap.size + 2, 0, none⟩ = some (.int .i64 (k2 : Int)) := fun u => (World.cell?_setCell_other _ _ _ _ (fun e => by injection e; omega)).trans c12
          have hS1 : ∀ u, (Ue.setCell ⟨W3.heap.size + 1, 0, none⟩ u).cell? ⟨w1.heap.size, 0, none⟩ = some (.int .i64 (F2 : Int)) := fun u => (World.cell?_setCell_other _ _ _ _ (fun e => by injection e; omega)).trans hS
          have hS2 : ∀ u u2, ((Ue.setCell ⟨W3.heap.size + 1, 0, none⟩ u).setCell ⟨W3.heap.size + 2, 0, none⟩ u2).cell? ⟨w1.heap.size, 0, none⟩ = some (.int .i64 (F2 : Int)) := fun u u2 => (World.cell?_setCell_other _ _ _ _ (fun e => by injection e; omega)).trans (hS1 u)
          clear HP9 HPe HKe
          refine wpAnyH_take (i := 1) (v := ?_) rfl (by kernel_rfl) (by kernel_rfl) (by kernel_rfl) (fun _ _ _ h => h) (Or.inl ⟨by kernel_rfl, fun W hW => ?_⟩) hS ?_
          rotate_left
          · skip
            first | (go_simp; done) | (go_simp; with_reducible rfl)
          refine wpAnyH_ready (rs := [0, 3]) (by kernel_rfl) (by simp) ?_
          refine AllReadyH.cons rfl (fun K hK => ?_) (AllReadyH.cons rfl (fun K hK => ?_) AllReadyH.nil)
          · skip
            go_simp
            refine hK.out _ _ hS (fun _ => ?_)
            clear hK K
            refine wpAnyH_take (i := 2) (v := ?_) rfl (by kernel_rfl) (by kernel_rfl) (by kernel_rfl) (fun _ _ _ h => h) (Yields.yieldsIf (Or.inl ⟨by kernel_rfl, ?_⟩)) hS ?_
            rotate_left
            · first | (intro w; go_simp; done) | (intro w; go_simp; with_reducible rfl)
            refine wpAnyH_ready (rs := [3, 5]) (by kernel_rfl) (by simp) ?_
            refine AllReadyH.cons rfl (fun K hK => ?_) (AllReadyH.cons rfl (fun K hK => ?_) AllReadyH.nil)
            · skip
              go_simp
              refine hK.out _ _ hS (fun _ => ?_)
              clear hK K
              refine wpAnyH_take (i := 4) (v := ?_) rfl (by kernel_rfl) (by kernel_rfl) (by kernel_rfl) (fun _ _ _ h => h) (Yields.yieldsIf (Or.inl ⟨by kernel_rfl, ?_⟩)) hS ?_
              rotate_left
              · first | (intro w; go_simp; done) | (intro w; go_simp; with_reducible rfl)
              refine wpAnyH_ready (rs := [5]) (by kernel_rfl) (by simp) ?_
              refine AllReadyH.cons rfl (fun K hK => ?_) AllReadyH.nil
              go_simp
              refine hK.out _ _ (hS1 _) (fun _ => ?_)
              clear hK K
              refine wpAnyH_ready (rs := [6]) (by kernel_rfl) (by simp) ?_
              refine AllReadyH.cons rfl (fun K hK => ?_) AllReadyH.nil
              go_simp
              refine hK.out _ _ (hS2 _ _) (fun _ => ?_)
              clear hK K
              refine wpAnyH_done (by kernel_rfl) ?_ _
              gi_wp2
              exact HFIN.out
            · skip
              go_simp
              refine hK.out _ _ (hS1 _) (fun _ => ?_)
              clear hK K
              refine wpAnyH_ready (rs := [3]) (by kernel_rfl) (by simp) ?_
              refine AllReadyH.cons rfl (fun K hK => ?_) AllReadyH.nil
              go_simp
              refine hK.out _ _ (hS1 _) (fun _ => ?_)
              clear hK K
              refine wpAnyH_take (i := 4) (v := ?_) rfl (by kernel_rfl) (by kernel_rfl) (by kernel_rfl) (fun _ _ _ h => h) (Yields.yieldsIf (Or.inl ⟨by kernel_rfl, ?_⟩)) (hS1 _) ?_
              rotate_left
              · first | (intro w; go_simp; done) | (intro w; go_simp; with_reducible rfl)
              refine wpAnyH_ready (rs := [6]) (by kernel_rfl) (by simp) ?_
              refine AllReadyH.cons rfl (fun K hK => ?_) AllReadyH.nil
              go_simp
              refine hK.out _ _ (hS2 _ _) (fun _ => ?_)
              clear hK K
              refine wpAnyH_done (by kernel_rfl) ?_ _
              gi_wp2
              exact HFIN.out
          · skip
            go_simp
            refine hK.out _ _ hS (fun _ => ?_)
            clear hK K
            refine wpAnyH_take (i := 4) (v := ?_) rfl (by kernel_rfl) (by kernel_rfl) (by kernel_rfl) (fun _ _ _ h => h) (Yields.yieldsIf (Or.inl ⟨by kernel_rfl, ?_⟩)) hS ?_
            rotate_left
            · first | (intro w; go_simp; done) | (intro w; go_simp; with_reducible rfl)
            refine wpAnyH_ready (rs := [0]) (by kernel_rfl) (by simp) ?_
            refine AllReadyH.cons rfl (fun K hK => ?_) AllReadyH.nil
            go_simp
            refine hK.out _ _ hS (fun _ => ?_)
            clear hK K
            refine wpAnyH_take (i := 2) (v := ?_) rfl (by kernel_rfl) (by kernel_rfl) (by kernel_rfl) (fun _ _ _ h => h) (Yields.yieldsIf (Or.inl ⟨by kernel_rfl, ?_⟩)) hS ?_
            rotate_left
            · first | (intro w; go_simp; done) | (intro w; go_simp; with_reducible rfl)
            refine wpAnyH_ready (rs := [5]) (by kernel_rfl) (by simp) ?_
            refine AllReadyH.cons rfl (fun K hK => ?_) AllReadyH.nil
            go_simp
            refine hK.out _ _ (hS1 _) (fun _ => ?_)
            clear hK K
            refine wpAnyH_ready (rs := [6]) (by kernel_rfl) (by simp) ?_
            refine AllReadyH.cons rfl (fun K hK => ?_) AllReadyH.nil
            go_simp
            refine hK.out _ _ (hS2 _ _) (fun _ => ?_)
            clear hK K
            refine wpAnyH_done (by kernel_rfl) ?_ _
            gi_wp2
            exact HFIN.out
        · have hown := putOwn_no (some ⟨g2, 0, none⟩) L1.length L1 (k1 : Int) x.o U3 HP3.out.row.row (by omega) (by omega) (by omega) (fun h => hs h.2)
          have hownI := CallsIn.inRound l' ((callsIn_wide (n := 2)).2 hown)
          clear hown
          have hg1 := HP3.out.hs1
          have hg2 := HP3.out.hG
          have f11 := HP3.out.b11.frozen
          have f12 := HP3.out.b12.frozen
          have c6 := HP3.out.b6.cell
          have f6 := HP3.out.b6.frozen
          have c7 := HP3.out.b7.cell
          have f7 := HP3.out.b7.frozen
          have c8 := HP3.out.b8.cell
          have f8 := HP3.out.b8.frozen
          have c12' : ∀ u, (U3.setCell ⟨W3.heap.size + 1, 0, none⟩ u).cell? ⟨W3.heap.size + 2, 0, none⟩ = some (.int .i64 (k1 : Int)) := fun u => (World.cell?_setCell_other _ _ _ _ (fun e => by injection e; omega)).trans d12
          have c6' : ∀ u1 u2, ((U3.setCell ⟨W3.heap.size + 1, 0, none⟩ u1).setCell ⟨W3.heap.size + 2, 0, none⟩ u2).cell? ⟨w.heap.size + 1, 0, none⟩ = some (.slice none 0 0) := fun u1 u2 => (World.cell?_setCell_other _ _ _ _ (fun e => by injection e; omega)).trans ((World.cell?_setCell_other _ _ _ _ (fun e => by injection e; omega)).trans c6)
          have c7' : ∀ u1 u2 u3, (((U3.setCell ⟨W3.heap.size + 1, 0, none⟩ u1).setCell ⟨W3.heap.size + 2, 0, none⟩ u2).setCell ⟨w.heap.size + 1, 0, none⟩ u3).cell? ⟨w.heap.size + 2, 0, none⟩ = some (.int .i64 0) := fun u1 u2 u3 => (World.cell?_setCell_other _ _ _ _ (fun e => by injection e; omega)).trans ((World.cell?_setCell_other _ _ _ _ (fun e => by injection e; omega)).trans ((World.cell?_setCell_other _ _ _ _ (fun e => by injection e; omega)).trans c7))
          have c8' : ∀ u1 u2 u3 u4, ((((U3.setCell ⟨W3.heap.size + 1, 0, none⟩ u1).setCell ⟨W3.heap.size + 2, 0, none⟩ u2).setCell ⟨w.heap.size + 1, 0, none⟩ u3).setCell ⟨w.heap.size + 2, 0, none⟩ u4).cell? ⟨w.heap.size + 3, 0, none⟩ = some (.int .i64 0) := fun u1 u2 u3 u4 => (World.cell?_setCell_other _ _ _ _ (fun e => by injection e; omega)).trans ((World.cell?_setCell_other _ _ _ _ (fun e => by injection e; omega)).trans ((World.cell?_setCell_other _ _ _ _ (fun e => by injection e; omega)).trans ((World.cell?_setCell_other _ _ _ _ (fun e => by injection e; omega)).trans c8)))
          have HNO : Hid (By.Kept (LX w w1.heap.size W3.heap.size) V (((((U3.setCell ⟨W3.heap.size + 1, 0, none⟩ (.slice none 0 0)).setCell ⟨W3.heap.size + 2, 0, none⟩ (.int .i64 0)).setCell ⟨w.heap.size + 1, 0, none⟩ (.slice none 0 0)).setCell ⟨w.heap.size + 2, 0, none⟩ (.int .i64 0)).setCell ⟨w.heap.size + 3, 0, none⟩ (.int .i64 50)) ∧ (Boxed (((((U3.setCell ⟨W3.heap.size + 1, 0, none⟩ (.slice none 0 0)).setCell ⟨W3.heap.size + 2, 0, none⟩ (.int .i64 0)).setCell ⟨w.heap.size + 1, 0, none⟩ (.slice none 0 0)).setCell ⟨w.heap.size + 2, 0, none⟩ (.int .i64 0)).setCell ⟨w.heap.size + 3, 0, none⟩ (.int .i64 50)) (w.heap.size + 1) 38 (.slice none 0 0) ∧ Boxed (((((U3.setCell ⟨W3.heap.size + 1, 0, none⟩ (.slice none 0 0)).setCell ⟨W3.heap.size + 2, 0, none⟩ (.int .i64 0)).setCell ⟨w.heap.size + 1, 0, none⟩ (.slice none 0 0)).setCell ⟨w.heap.size + 2, 0, none⟩ (.int .i64 0)).setCell ⟨w.heap.size + 3, 0, none⟩ (.int .i64 50)) (w.heap.size + 2) 3 (.int .i64 0) ∧ Boxed (((((U3.setCell ⟨W3.heap.size + 1, 0, none⟩ (.slice none 0 0)).setCell ⟨W3.heap.size + 2, 0, none⟩ (.int .i64 0)).setCell ⟨w.heap.size + 1, 0, none⟩ (.slice none 0 0)).setCell ⟨w.heap.size + 2, 0, none⟩ (.int .i64 0)).setCell ⟨w.heap.size + 3, 0, none⟩ (.int .i64 50)) (w.heap.size + 3) 26 (.int .i64 50)) ∧ Below w.heap.size w (((((U3.setCell ⟨W3.heap.size + 1, 0, none⟩ (.slice none 0 0)).setCell ⟨W3.heap.size + 2, 0, none⟩ (.int .i64 0)).setCell ⟨w.heap.size + 1, 0, none⟩ (.slice none 0 0)).setCell ⟨w.heap.size + 2, 0, none⟩ (.int .i64 0)).setCell ⟨w.heap.size + 3, 0, none⟩ (.int .i64 50))) := by
            refine ⟨((((HK3.out.setCell (p := ⟨W3.heap.size + 1, 0, none⟩) (.inr (.inr (.inr (.inr (.inr (.inl rfl)))))) _).setCell (p := ⟨W3.heap.size + 2, 0, none⟩) (.inr (.inr (.inr (.inr (.inr (.inr rfl)))))) _).setCell (p := ⟨w.heap.size + 1, 0, none⟩) (.inl rfl) _).setCell (p := ⟨w.heap.size + 2, 0, none⟩) (.inr (.inl rfl)) _).setCell (p := ⟨w.heap.size + 3, 0, none⟩) (.inr (.inr (.inl rfl))) _, ⟨?_, ?_, ?_⟩, ?_⟩
            · exact boxed_setO (boxed_setO (Boxed.set _ (boxed_setO (boxed_setO HP3.out.b6 (by omega) _) (by omega) _)) (by omega) _) (by omega) _
            · exact boxed_setO (Boxed.set _ (boxed_setO (boxed_setO (boxed_setO HP3.out.b7 (by omega) _) (by omega) _) (by omega) _)) (by omega) _
            · exact Boxed.set _ (boxed_setO (boxed_setO (boxed_setO (boxed_setO HP3.out.b8 (by omega) _) (by omega) _) (by omega) _) (by omega) _)
            · exact ((((HP3.out.bel.setCell (p := ⟨W3.heap.size + 1, 0, none⟩) (by show _ ≤ _ + 1; omega) _).setCell (p := ⟨W3.heap.size + 2, 0, none⟩) (by show _ ≤ _ + 2; omega) _).setCell (p := ⟨w.heap.size + 1, 0, none⟩) (by show _ ≤ _ + 1; omega) _).setCell (p := ⟨w.heap.size + 2, 0, none⟩) (by show _ ≤ _ + 2; omega) _).setCell (p := ⟨w.heap.size + 3, 0, none⟩) (by show _ ≤ _ + 3; omega) _
          have HBADX : Hid (((q ++ [x]).map It.key).all smallK = false) := by
            show _ = _
            rw [List.map_append, List.all_append]
            simp [smallK, It.key, hs]
          gi_wp2_with fail
          refine ⟨trivial, ?_⟩
          refine hownI.mono ?_
          rintro e w' ⟨rfl, rfl⟩
          clear hownI HK3 HP3
          gi_wp2
          exact ⟨HNO.out.1, rfl, HNO.out.2.1, HNO.out.2.2, HBADX.out⟩
      · skip
        go_simp
        go_wp2_with (go_at_call 58; refine (HKIND.out Vd).mono ?_; rintro e V2 ⟨rfl, hb2⟩)
        have HY2 := Lib.hid (HYd.out.up hb2)
        have HK2 : Hid (By.Kept (LX w w1.heap.size W3.heap.size) V V2) := HK0.out.trans (By.Kept.below hb2 (Nat.le_refl _))
        have hS3 : V2.cell? ⟨Bx, 0, none⟩ = some (.int .i64 x.o) ∧ V2.cell? ⟨Bx, 1, none⟩ = some (.slice x.A x.n x.c) := ⟨(hb2.cell (World.block_lt_of_cell? Vd _ hS.1)).trans hS.1, (hb2.cell (World.block_lt_of_cell? Vd _ hS.2)).trans hS.2⟩
        clear hb2 d11 d12 HYd HK0 hS
        have d11 := HY2.out.b11.cell
        have d12 := HY2.out.b12.cell
        refine hK.out _ _ hS3 (fun hS => ?_)
        clear hK K hS3
        refine wpAnyH_ready (rs := [1]) (by kernel_rfl) (by simp) ?_
        refine AllReadyH.cons rfl (fun K hK => ?_) AllReadyH.nil
        go_simp
        refine hK.out _ _ hS (fun hS => ?_)
        clear hK K
        have HK2' := Lib.hid HK2.out
        refine wpAnyH_ready (rs := [4]) (by kernel_rfl) (by simp) ?_
        refine AllReadyH.cons rfl (fun K hK => ?_) AllReadyH.nil
        go_simp
        go_wp2_with (go_at_call 57; refine (HPUT.out V2 HY2.out.row.row).mono ?_; rintro e V3 ⟨rfl, hbk3, hlt3, hb3⟩)
        have HP3 := Lib.hid (HY2.out.put (k' := k1) hb3 hbk3 (Nat.le_refl _) hlt3)
        have hY3 := HY2.out.up hb3
        have c11 := hY3.b11.cell
        have f11 := hY3.b11.frozen
        have c12 := hY3.b12.cell
        have f12 := hY3.b12.frozen
        have hS3 : V3.cell? ⟨Bx, 0, none⟩ = some (.int .i64 x.o) ∧ V3.cell? ⟨Bx, 1, none⟩ = some (.slice x.A x.n x.c) := ⟨(hb3.cell (World.block_lt_of_cell? V2 _ hS.1)).trans hS.1, (hb3.cell (World.block_lt_of_cell? V2 _ hS.2)).trans hS.2⟩
        have HK3 : Hid (By.Kept (LX w w1.heap.size W3.heap.size) V ((V3.setCell ⟨W3.heap.size + 1, 0, none⟩ (.slice (some ⟨V2.heap.size, 0, none⟩) L1.length L1.length)).setCell ⟨W3.heap.size + 2, 0, none⟩ (.int .i64 (k1 : Int)))) := ((HK2.out.trans (By.Kept.below hb3 (Nat.le_refl _))).setCell (p := ⟨W3.heap.size + 1, 0, none⟩) (.inr (.inr (.inr (.inr (.inr (.inl rfl)))))) _).setCell (p := ⟨W3.heap.size + 2, 0, none⟩) (.inr (.inr (.inr (.inr (.inr (.inr rfl)))))) _
        have HSF : Hid (∀ (j : Nat) (u1 : Value) (z : Value), V3.cell? ⟨Bx, j, none⟩ = some z → (V3.setCell ⟨W3.heap.size + 1, 0, none⟩ u1).cell? ⟨Bx, j, none⟩ = some z) := fun j u1 z h => (World.cell?_setCell_other _ _ _ _ (fun e => by injection e; have := HBXG.out; omega)).trans h
        have HSF2 : Hid (∀ (j : Nat) (u1 u2 : Value) (z : Value), V3.cell? ⟨Bx, j, none⟩ = some z → ((V3.setCell ⟨W3.heap.size + 1, 0, none⟩ u1).setCell ⟨W3.heap.size + 2, 0, none⟩ u2).cell? ⟨Bx, j, none⟩ = some z) := fun j u1 u2 z h => (World.cell?_setCell_other _ _ _ _ (fun e => by injection e; have := HBXG.out; omega)).trans (HSF.out j u1 z h)
        have c12' : ∀ u, (V3.setCell ⟨W3.heap.size + 1, 0, none⟩ u).cell? ⟨W3.heap.size + 2, 0, none⟩ = some (.int .i64 (k : Int)) := fun u => (World.cell?_setCell_other _ _ _ _ (fun e => by injection e; omega)).trans c12
        clear d11 d12 hS hb3 hbk3 hlt3 hY3 HK2 HK2' HY2
        refine hK.out _ _ hS3 (fun hS => ?_)
        clear hK K hS3
        refine wpAnyH_take (i := 5) (v := ?_) rfl (by kernel_rfl) (by kernel_rfl) (by kernel_rfl) (fun _ _ _ h => h) (Yields.yieldsIf (Or.inl ⟨by kernel_rfl, ?_⟩)) hS ?_
        rotate_left
        · first | (intro w; go_simp; done) | (intro w; go_simp; with_reducible rfl)
        refine wpAnyH_take (i := 6) (v := ?_) rfl (by kernel_rfl) (by kernel_rfl) (by kernel_rfl) (fun _ _ _ h => h) (Yields.yieldsIf (Or.inl ⟨by kernel_rfl, ?_⟩)) hS ?_
        rotate_left
        · first | (intro w; go_simp; done) | (intro w; go_simp; with_reducible rfl)
        refine wpAnyH_take (i := 7) (v := ?_) rfl (by kernel_rfl) (by kernel_rfl) (by kernel_rfl) (fun _ _ _ h => h) (Yields.yieldsIf (Or.inl ⟨by kernel_rfl, ?_⟩)) hS ?_
        rotate_left
        · first | (intro w; go_simp; done) | (intro w; go_simp; with_reducible rfl)
        refine wpAnyH_take (i := 8) (v := ?_) rfl (by kernel_rfl) (by kernel_rfl) (by kernel_rfl) (fun _ _ _ h => h) (Yields.yieldsIf (Or.inl ⟨by kernel_rfl, ?_⟩)) hS ?_
        rotate_left
        · first | (intro w; go_simp; done) | (intro w; go_simp; with_reducible rfl)
        refine wpAnyH_ready (rs := [9]) (by kernel_rfl) (by simp) ?_
        refine AllReadyH.cons rfl (fun K hK => ?_) AllReadyH.nil
        go_simp
        refine hK.out _ _ ⟨HSF.out 0 _ _ hS.1, HSF.out 1 _ _ hS.2⟩ (fun _ => ?_)
        clear hK K
        refine wpAnyH_ready (rs := [10]) (by kernel_rfl) (by simp) ?_
        refine AllReadyH.cons rfl (fun K hK => ?_) AllReadyH.nil
        go_simp
        refine hK.out _ _ ⟨HSF2.out 0 _ _ _ hS.1, HSF2.out 1 _ _ _ hS.2⟩ (fun _ => ?_)
        clear hK K
        refine wpAnyH_done (by kernel_rfl) ?_ _
        have g0 := HSF2.out 0 (.slice (some ⟨V2.heap.size, 0, none⟩) L1.length L1.length) (.int .i64 (k1 : Int)) _ hS.1
        clear hS c11 f11 c12 f12 c12' HSF HSF2
        generalize ((V3.setCell ⟨W3.heap.size + 1, 0, none⟩ (.slice (some ⟨V2.heap.size, 0, none⟩) L1.length L1.length)).setCell ⟨W3.heap.size + 2, 0, none⟩ (.int .i64 (k1 : Int))) = U3 at HP3 HK3 g0 ⊢
        obtain ⟨g2, hg2⟩ : ∃ g, V2.heap.size = g := ⟨_, rfl⟩
        rw [hg2] at HP3 ⊢
        clear hg2
        have d11 := HP3.out.b11.cell
        have d12 := HP3.out.b12.cell
        by_cases hs : x.o < 4611686018427387904
        · have hown : Calls Tryd.prog 59 #[.slice (some ⟨g2, 0, none⟩) L1.length L1.length, .int .i64 (k1 : Int), .int .u64 x.o] U3 (GivesNew (M.putL L1 k1 (gam x.o.toNat)) (k1 + (gam x.o.toNat).length) U3) := by
            have := putOwn_new (some ⟨g2, 0, none⟩) L1.length L1 k1 x.o.toNat U3 HP3.out.row.row (by omega) HV1.out (by omega)
            rw [show ((x.o.toNat : Nat) : Int) = x.o by omega] at this
            exact this
          rw [HL2.out.1, HL2.out.2] at hown
          have hownI := CallsIn.inRound l' ((callsIn_wide (n := 2)).2 hown)
          clear hown
          obtain ⟨L2, hL2⟩ : ∃ L, M.putL R k (codeE x.key) = L := ⟨_, rfl⟩
          obtain ⟨k2, hk2⟩ : ∃ j, k + (codeE x.key).length = j := ⟨_, rfl⟩
          rw [hL2, hk2] at hownI
          have HN2 := Lib.hid HNX.out
          rw [hL2, hk2] at HN2
          have hcl : (codeE x.key).length ≤ 200 := by
            have := gam_len x.o.toNat (by omega)
            show ((if x.n = 0 then 0 else 1) :: gam x.o.toNat).length ≤ 200
            rw [List.length_cons]; omega
          have hk2b : k2 ≤ 300 := by omega
          obtain ⟨F2, hF2⟩ : ∃ j, k2 / 8 = j := ⟨_, rfl⟩
          obtain ⟨K2, hK2⟩ : ∃ j, k2 % 8 = j := ⟨_, rfl⟩
          rw [hF2, hK2] at HN2
          have hF2i : (k2 : Int) / 8 = (F2 : Int) := by omega
          have hK2i : (k2 : Int) % 8 = (K2 : Int) := by omega
          have hK2t : (k2 : Int).tmod 8 = (K2 : Int) := by rw [Int.tmod_eq_emod_of_nonneg (by omega)]; omega
          have hL2l : F2 ≤ L2.length := by
            have := M.putL_length R k (codeE x.key) HCUT.out.val.1
            rw [hL2] at this
            omega
          have hOl : O.length ≤ 140737489000000 := by
            have h1 := HWL.out.1
            omega
          have HFF2 := Lib.hid hF2
          clear hL2 hk2 hF2 hK2 hcl HNX
          have f11 := HP3.out.b11.frozen
          have f12 := HP3.out.b12.frozen
          gi_wp2_with fail
          refine ⟨trivial, ?_⟩
          refine hownI.mono ?_
          rintro e V5 ⟨rfl, hbk5, hlt5, hb5⟩
          have HP5 := Lib.hid (HP3.out.put (k' := k2) hb5 hbk5 (Nat.le_refl _) hlt5)
          have hY5 := HP3.out.up hb5
          have hg1 := HP3.out.hs1
          have hg3 := HP3.out.hG
          have c11 := hY5.b11.cell
          have f11 := hY5.b11.frozen
          have c12 := hY5.b12.cell
          have f12 := hY5.b12.frozen
          have c9 := hY5.b9.cell
          have f9 := hY5.b9.frozen
          have c12' : ∀ u, (V5.setCell ⟨W3.heap.size + 1, 0, none⟩ u).cell? ⟨W3.heap.size + 2, 0, none⟩ = some (.int .i64 (k1 : Int)) := fun u => (World.cell?_setCell_other _ _ _ _ (fun e => by injection e; omega)).trans c12
          have c9' : ∀ u1 u2, ((V5.setCell ⟨W3.heap.size + 1, 0, none⟩ u1).setCell ⟨W3.heap.size + 2, 0, none⟩ u2).cell? ⟨w1.heap.size, 0, none⟩ = some (.int .i64 f) := fun u1 u2 => (World.cell?_setCell_other _ _ _ _ (fun e => by injection e; omega)).trans ((World.cell?_setCell_other _ _ _ _ (fun e => by injection e; omega)).trans c9)
          have HP6 := Lib.hid (HP5.out.full (F2 : Int))
          have HK6 : Hid (By.Kept (LX w w1.heap.size W3.heap.size) V (((V5.setCell ⟨W3.heap.size + 1, 0, none⟩ (.slice (some ⟨U3.heap.size, 0, none⟩) L2.length L2.length)).setCell ⟨W3.heap.size + 2, 0, none⟩ (.int .i64 (k2 : Int))).setCell ⟨w1.heap.size, 0, none⟩ (.int .i64 (F2 : Int)))) := (((HK3.out.trans (By.Kept.below hb5 (Nat.le_refl _))).setCell (p := ⟨W3.heap.size + 1, 0, none⟩) (.inr (.inr (.inr (.inr (.inr (.inl rfl)))))) _).setCell (p := ⟨W3.heap.size + 2, 0, none⟩) (.inr (.inr (.inr (.inr (.inr (.inr rfl)))))) _).setCell (p := ⟨w1.heap.size, 0, none⟩) (.inr (.inr (.inr (.inl rfl)))) _
          clear hownI HK3 HP3 HP5 hY5 hb5 hbk5 hlt5 d11 d12 g0
          gi_wp2
          generalize (((V5.setCell ⟨W3.heap.size + 1, 0, none⟩ (.slice (some ⟨U3.heap.size, 0, none⟩) L2.length L2.length)).setCell ⟨W3.heap.size + 2, 0, none⟩ (.int .i64 (k2 : Int))).setCell ⟨w1.heap.size, 0, none⟩ (.int .i64 (F2 : Int))) = U6 at HP6 HK6 ⊢
          obtain ⟨g5, hg5⟩ : ∃ g, U3.heap.size = g := ⟨_, rfl⟩
          rw [hg5] at HP6 ⊢
          clear hg5 c11 f11 c12 f12 c9 f9 c12' c9'
          -- region 14
          have hbd : Below U6.heap.size U6 U6.drew := (Below.refl _ U6).drew
          have HPd := Lib.hid (HP6.out.up hbd)
          have HKd : Hid (By.Kept (LX w w1.heap.size W3.heap.size) V U6.drew) := HK6.out.trans (By.Kept.below hbd (Nat.le_refl _))
          clear hbd HP6 HK6
          have hS : U6.drew.cell? ⟨W3.heap.size + 1, 0, none⟩ = some (.slice (some ⟨g5, 0, none⟩) L2.length L2.length) ∧ U6.drew.cell? ⟨w1.heap.size, 0, none⟩ = some (.int .i64 (F2 : Int)) := ⟨HPd.out.b11.cell, HPd.out.b9.cell⟩
          have hhead2 := slice_head (some ⟨g5, 0, none⟩) L2.length L2.length F2 hL2l
          refine region_heldIn (fun W => W.cell? ⟨W3.heap.size + 1, 0, none⟩ = some (.slice (some ⟨g5, 0, none⟩) L2.length L2.length) ∧ W.cell? ⟨w1.heap.size, 0, none⟩ = some (.int .i64 (F2 : Int))) hmx (by kernel_rfl) (fun _ _ h => h) ?_
          generalize U6.drew = Ud at HPd HKd hS ⊢
          refine wpAnyH_take (i := 1) (v := ?_) rfl (by kernel_rfl) (by kernel_rfl) (by kernel_rfl) (fun _ _ _ h => h) (Or.inl ⟨by kernel_rfl, fun W hW => ?_⟩) hS ?_
          rotate_left
          · obtain ⟨f0, f1⟩ := hW
            first | (go_simp; done) | (go_simp; with_reducible rfl)
          refine wpAnyH_take (i := 2) (v := ?_) rfl (by kernel_rfl) (by kernel_rfl) (by kernel_rfl) (fun _ _ _ h => h) (Or.inl ⟨by kernel_rfl, fun W hW => ?_⟩) hS ?_
          rotate_left
          · obtain ⟨f0, f1⟩ := hW
            first | (go_simp; done) | (go_simp; with_reducible rfl)
          refine wpAnyH_take (i := 3) (v := ?_) rfl (by kernel_rfl) (by kernel_rfl) (by kernel_rfl) (fun _ _ _ h => h) (Yields.yieldsIf (Or.inl ⟨by kernel_rfl, ?_⟩)) hS ?_
          rotate_left
          · first | (intro w; go_simp; done) | (intro w; go_simp; with_reducible rfl)
          have d10 := HPd.out.b10.cell
          have hF2l : (L2.take F2).length = F2 := by rw [List.length_take]; omega
          obtain ⟨A7, c7, W7, hap7, ha7⟩ := HPd.out.own.append (some ⟨g5, 0, none⟩) L2.length (L2.take F2) Ud.heap.size (HPd.out.row.take F2).row 38 (by rw [hF2l]; omega) HPd.out.bel.size
          rw [hF2l] at hap7
          have HAP7 := Lib.hid hap7
          have HP7 := Lib.hid (HPd.out.app ha7)
          rw [hF2l] at HP7
          have HK7 : Hid (By.Kept (LX w w1.heap.size W3.heap.size) V (W7.setCell ⟨W3.heap.size, 0, none⟩ (.slice A7 (O.length + F2) c7))) := (HKd.out.trans (ha7.kept.mono (fun _ h => h.elim))).setCell (p := ⟨W3.heap.size, 0, none⟩) (.inr (.inr (.inr (.inr (.inl rfl))))) _
          have bx : ∀ {g : Nat} {t : TypeId} {v : Value}, Boxed Ud g t v → t ≠ 5 → Boxed W7 g t v := fun hb ht => (ha7.oth _ hb.lt (HPd.out.own.ne_box hb ht)).trans hb
          have hS7 : W7.cell? ⟨W3.heap.size + 1, 0, none⟩ = some (.slice (some ⟨g5, 0, none⟩) L2.length L2.length) ∧ W7.cell? ⟨w1.heap.size, 0, none⟩ = some (.int .i64 (F2 : Int)) := ⟨(bx HPd.out.b11 (by decide)).cell, (bx HPd.out.b9 (by decide)).cell⟩
          have e10 := (bx HPd.out.b10 (by decide)).cell
          have z10 := (bx HPd.out.b10 (by decide)).frozen
          have hgG := HPd.out.hG
          have hS8 : ∀ u, (W7.setCell ⟨W3.heap.size, 0, none⟩ u).cell? ⟨W3.heap.size + 1, 0, none⟩ = some (.slice (some ⟨g5, 0, none⟩) L2.length L2.length) ∧ (W7.setCell ⟨W3.heap.size, 0, none⟩ u).cell? ⟨w1.heap.size, 0, none⟩ = some (.int .i64 (F2 : Int)) := fun u => ⟨(World.cell?_setCell_other _ _ _ _ (fun e => by injection e; omega)).trans hS7.1, (World.cell?_setCell_other _ _ _ _ (fun e => by injection e; omega)).trans hS7.2⟩
          clear hap7 ha7 bx HPd HKd
          refine wpAnyH_ready (rs := [0]) (by kernel_rfl) (by simp) ?_
          refine AllReadyH.cons rfl (fun K hK => ?_) AllReadyH.nil
          go_simp
          refine hK.out _ _ hS (fun _ => ?_)
          clear hK K hS d10
          refine wpAnyH_ready (rs := [4]) (by kernel_rfl) (by simp) ?_
          refine AllReadyH.cons rfl (fun K hK => ?_) AllReadyH.nil
          refine oper_append_run _ _ _ _ rfl _ _ rfl rfl HAP7.out ?_
          clear HAP7
          go_simp
          refine hK.out _ _ hS7 (fun _ => ?_)
          clear hK K hS7
          refine wpAnyH_ready (rs := [5]) (by kernel_rfl) (by simp) ?_
          refine AllReadyH.cons rfl (fun K hK => ?_) AllReadyH.nil
          go_simp
          refine hK.out _ _ (hS8 _) (fun _ => ?_)
          clear hK K hS8 e10 z10
          refine wpAnyH_done (by kernel_rfl) ?_ _
          generalize W7.setCell ⟨W3.heap.size, 0, none⟩ (.slice A7 (O.length + F2) c7) = U8 at HP7 HK7 ⊢
          gi_wp2
          -- region 15
          have hbd : Below U8.heap.size U8 U8.drew := (Below.refl _ U8).drew
          have HPe := Lib.hid (HP7.out.up hbd)
          have HKe : Hid (By.Kept (LX w w1.heap.size W3.heap.size) V U8.drew) := HK7.out.trans (By.Kept.below hbd (Nat.le_refl _))
          clear hbd HP7 HK7
          have hS : U8.drew.cell? ⟨w1.heap.size, 0, none⟩ = some (.int .i64 (F2 : Int)) := HPe.out.b9.cell
          have htail2 := slice_tail (some ⟨g5, 0, none⟩) L2.length L2.length F2 hL2l
          refine region_heldIn (fun W => W.cell? ⟨w1.heap.size, 0, none⟩ = some (.int .i64 (F2 : Int))) hmx (by kernel_rfl) (fun _ _ h => h) ?_
          generalize U8.drew = Ue at HPe HKe hS ⊢
          have HP9 := Lib.hid (HPe.out.cut F2 K2)
          obtain ⟨TA, hTA⟩ : ∃ T, tailA (some ⟨g5, 0, none⟩) L2.length F2 = T := ⟨_, rfl⟩
          rw [hTA] at HP9 htail2
          clear hTA
          have HFIN : Hid (By.Kept (LX w w1.heap.size W3.heap.size) V ((Ue.setCell ⟨W3.heap.size + 1, 0, none⟩ (.slice TA (L2.length - F2) (L2.length - F2))).setCell ⟨W3.heap.size + 2, 0, none⟩ (.int .i64 (K2 : Int))) ∧ (x.n = 0 ∨ x.n = 2) ∧ LB w w1.heap.size W3.heap.size l n (((q ++ [x]).map It.key).flatMap codeE) ((Ue.setCell ⟨W3.heap.size + 1, 0, none⟩ (.slice TA (L2.length - F2) (L2.length - F2))).setCell ⟨W3.heap.size + 2, 0, none⟩ (.int .i64 (K2 : Int))) ∧ ((q ++ [x]).map It.key).all smallK = true) :=
            ⟨(HKe.out.setCell (p := ⟨W3.heap.size + 1, 0, none⟩) (.inr (.inr (.inr (.inr (.inr (.inl rfl)))))) _).setCell (p := ⟨W3.heap.size + 2, 0, none⟩) (.inr (.inr (.inr (.inr (.inr (.inr rfl)))))) _, HXN.out, ⟨_, _, _, _, _, _, _, _, HP9.out, by rw [List.map_append, List.flatMap_append]; simpa using HN2.out⟩, by rw [List.map_append, List.all_append, HSM.out]; simp [smallK, It.key, hs]⟩
          have c11 := HPe.out.b11.cell
          have f11 := HPe.out.b11.frozen
          have c12 := HPe.out.b12.cell
          have f12 := HPe.out.b12.frozen
          have hgG2 := HPe.out.hG
          have c12' : ∀ u, (Ue.setCell ⟨W3.heap.size + 1, 0, none⟩ u).cell? ⟨W3.heap.size + 2, 0, none⟩ = some (.int .i64 (k2 : Int)) := fun u => (World.cell?_setCell_other _ _ _ _ (fun e => by injection e; omega)).trans c12
          have hS1 : ∀ u, (Ue.setCell ⟨W3.heap.size + 1, 0, none⟩ u).cell? ⟨w1.heap.size, 0, none⟩ = some (.int .i64 (F2 : Int)) := fun u => (World.cell?_setCell_other _ _ _ _ (fun e => by injection e; omega)).trans hS
          have hS2 : ∀ u u2, ((Ue.setCell ⟨W3.heap.size + 1, 0, none⟩ u).setCell ⟨W3.heap.size + 2, 0, none⟩ u2).cell? ⟨w1.heap.size, 0, none⟩ = some (.int .i64 (F2 : Int)) := fun u u2 => (World.cell?_setCell_other _ _ _ _ (fun e => by injection e; omega)).trans (hS1 u)
          clear HP9 HPe HKe
          refine wpAnyH_take (i := 1) (v := ?_) rfl (by kernel_rfl) (by kernel_rfl) (by kernel_rfl) (fun _ _ _ h => h) (Or.inl ⟨by kernel_rfl, fun W hW => ?_⟩) hS ?_
          rotate_left
          · skip
            first | (go_simp; done) | (go_simp; with_reducible rfl)
          refine wpAnyH_ready (rs := [0, 3]) (by kernel_rfl) (by simp) ?_
          refine AllReadyH.cons rfl (fun K hK => ?_) (AllReadyH.cons rfl (fun K hK => ?_) AllReadyH.nil)
          · skip
            go_simp
            refine hK.out _ _ hS (fun _ => ?_)
            clear hK K
            refine wpAnyH_take (i := 2) (v := ?_) rfl (by kernel_rfl) (by kernel_rfl) (by kernel_rfl) (fun _ _ _ h => h) (Yields.yieldsIf (Or.inl ⟨by kernel_rfl, ?_⟩)) hS ?_
            rotate_left
            · first | (intro w; go_simp; done) | (intro w; go_simp; with_reducible rfl)
            refine wpAnyH_ready (rs := [3, 5]) (by kernel_rfl) (by simp) ?_
            refine AllReadyH.cons rfl (fun K hK => ?_) (AllReadyH.cons rfl (fun K hK => ?_) AllReadyH.nil)
            · skip
              go_simp
              refine hK.out _ _ hS (fun _ => ?_)
              clear hK K
              refine wpAnyH_take (i := 4) (v := ?_) rfl (by kernel_rfl) (by kernel_rfl) (by kernel_rfl) (fun _ _ _ h => h) (Yields.yieldsIf (Or.inl ⟨by kernel_rfl, ?_⟩)) hS ?_
              rotate_left
              · first | (intro w; go_simp; done) | (intro w; go_simp; with_reducible rfl)
              refine wpAnyH_ready (rs := [5]) (by kernel_rfl) (by simp) ?_
              refine AllReadyH.cons rfl (fun K hK => ?_) AllReadyH.nil
              go_simp
              refine hK.out _ _ (hS1 _) (fun _ => ?_)
              clear hK K
              refine wpAnyH_ready (rs := [6]) (by kernel_rfl) (by simp) ?_
              refine AllReadyH.cons rfl (fun K hK => ?_) AllReadyH.nil
              go_simp
              refine hK.out _ _ (hS2 _ _) (fun _ => ?_)
              clear hK K
              refine wpAnyH_done (by kernel_rfl) ?_ _
              gi_wp2
              exact HFIN.out
            · skip
              go_simp
              refine hK.out _ _ (hS1 _) (fun _ => ?_)
              clear hK K
              refine wpAnyH_ready (rs := [3]) (by kernel_rfl) (by simp) ?_
              refine AllReadyH.cons rfl (fun K hK => ?_) AllReadyH.nil
              go_simp
              refine hK.out _ _ (hS1 _) (fun _ => ?_)
              clear hK K
              refine wpAnyH_take (i := 4) (v := ?_) rfl (by kernel_rfl) (by kernel_rfl) (by kernel_rfl) (fun _ _ _ h => h) (Yields.yieldsIf (Or.inl ⟨by kernel_rfl, ?_⟩)) (hS1 _) ?_
              rotate_left
              · first | (intro w; go_simp; done) | (intro w; go_simp; with_reducible rfl)
              refine wpAnyH_ready (rs := [6]) (by kernel_rfl) (by simp) ?_
              refine AllReadyH.cons rfl (fun K hK => ?_) AllReadyH.nil
              go_simp
              refine hK.out _ _ (hS2 _ _) (fun _ => ?_)
              clear hK K
              refine wpAnyH_done (by kernel_rfl) ?_ _
              gi_wp2
              exact HFIN.out
          · skip
            go_simp
            refine hK.out _ _ hS (fun _ => ?_)
            clear hK K
            refine wpAnyH_take (i := 4) (v := ?_) rfl (by kernel_rfl) (by kernel_rfl) (by kernel_rfl) (fun _ _ _ h => h) (Yields.yieldsIf (Or.inl ⟨by kernel_rfl, ?_⟩)) hS ?_
            rotate_left
            · first | (intro w; go_simp; done) | (intro w; go_simp; with_reducible rfl)
            refine wpAnyH_ready (rs := [0]) (by kernel_rfl) (by simp) ?_
            refine AllReadyH.cons rfl (fun K hK => ?_) AllReadyH.nil
            go_simp
            refine hK.out _ _ hS (fun _ => ?_)
            clear hK K
            refine wpAnyH_take (i := 2) (v := ?_) rfl (by kernel_rfl) (by kernel_rfl) (by kernel_rfl) (fun _ _ _ h => h) (Yields.yieldsIf (Or.inl ⟨by kernel_rfl, ?_⟩)) hS ?_
            rotate_left
            · first | (intro w; go_simp; done) | (intro w; go_simp; with_reducible rfl)
            refine wpAnyH_ready (rs := [5]) (by kernel_rfl) (by simp) ?_
            refine AllReadyH.cons rfl (fun K hK => ?_) AllReadyH.nil
            go_simp
            refine hK.out _ _ (hS1 _) (fun _ => ?_)
            clear hK K
            refine wpAnyH_ready (rs := [6]) (by kernel_rfl) (by simp) ?_
            refine AllReadyH.cons rfl (fun K hK => ?_) AllReadyH.nil
            go_simp
            refine hK.out _ _ (hS2 _ _) (fun _ => ?_)
            clear hK K
            refine wpAnyH_done (by kernel_rfl) ?_ _
            gi_wp2
            exact HFIN.out
        · have hown := putOwn_no (some ⟨g2, 0, none⟩) L1.length L1 (k1 : Int) x.o U3 HP3.out.row.row (by omega) (by omega) (by omega) (fun h => hs h.2)
          have hownI := CallsIn.inRound l' ((callsIn_wide (n := 2)).2 hown)
          clear hown
          have hg1 := HP3.out.hs1
          have hg2 := HP3.out.hG
          have f11 := HP3.out.b11.frozen
          have f12 := HP3.out.b12.frozen
          have c6 := HP3.out.b6.cell
          have f6 := HP3.out.b6.frozen
          have c7 := HP3.out.b7.cell
          have f7 := HP3.out.b7.frozen
          have c8 := HP3.out.b8.cell
          have f8 := HP3.out.b8.frozen
          have c12' : ∀ u, (U3.setCell ⟨W3.heap.size + 1, 0, none⟩ u).cell? ⟨W3.heap.size + 2, 0, none⟩ = some (.int .i64 (k1 : Int)) := fun u => (World.cell?_setCell_other _ _ _ _ (fun e => by injection e; omega)).trans d12
          have c6' : ∀ u1 u2, ((U3.setCell ⟨W3.heap.size + 1, 0, none⟩ u1).setCell ⟨W3.heap.size + 2, 0, none⟩ u2).cell? ⟨w.heap.size + 1, 0, none⟩ = some (.slice none 0 0) := fun u1 u2 => (World.cell?_setCell_other _ _ _ _ (fun e => by injection e; omega)).trans ((World.cell?_setCell_other _ _ _ _ (fun e => by injection e; omega)).trans c6)
          have c7' : ∀ u1 u2 u3, (((U3.setCell ⟨W3.heap.size + 1, 0, none⟩ u1).setCell ⟨W3.heap.size + 2, 0, none⟩ u2).setCell ⟨w.heap.size + 1, 0, none⟩ u3).cell? ⟨w.heap.size + 2, 0, none⟩ = some (.int .i64 0) := fun u1 u2 u3 => (World.cell?_setCell_other _ _ _ _ (fun e => by injection e; omega)).trans ((World.cell?_setCell_other _ _ _ _ (fun e => by injection e; omega)).trans ((World.cell?_setCell_other _ _ _ _ (fun e => by injection e; omega)).trans c7))
          have c8' : ∀ u1 u2 u3 u4, ((((U3.setCell ⟨W3.heap.size + 1, 0, none⟩ u1).setCell ⟨W3.heap.size + 2, 0, none⟩ u2).setCell ⟨w.heap.size + 1, 0, none⟩ u3).setCell ⟨w.heap.size + 2, 0, none⟩ u4).cell? ⟨w.heap.size + 3, 0, none⟩ = some (.int .i64 0) := fun u1 u2 u3 u4 => (World.cell?_setCell_other _ _ _ _ (fun e => by injection e; omega)).trans ((World.cell?_setCell_other _ _ _ _ (fun e => by injection e; omega)).trans ((World.cell?_setCell_other _ _ _ _ (fun e => by injection e; omega)).trans ((World.cell?_setCell_other _ _ _ _ (fun e => by injection e; omega)).trans c8)))
          have HNO : Hid (By.Kept (LX w w1.heap.size W3.heap.size) V (((((U3.setCell ⟨W3.heap.size + 1, 0, none⟩ (.slice none 0 0)).setCell ⟨W3.heap.size + 2, 0, none⟩ (.int .i64 0)).setCell ⟨w.heap.size + 1, 0, none⟩ (.slice none 0 0)).setCell ⟨w.heap.size + 2, 0, none⟩ (.int .i64 0)).setCell ⟨w.heap.size + 3, 0, none⟩ (.int .i64 50)) ∧ (Boxed (((((U3.setCell ⟨W3.heap.size + 1, 0, none⟩ (.slice none 0 0)).setCell ⟨W3.heap.size + 2, 0, none⟩ (.int .i64 0)).setCell ⟨w.heap.size + 1, 0, none⟩ (.slice none 0 0)).setCell ⟨w.heap.size + 2, 0, none⟩ (.int .i64 0)).setCell ⟨w.heap.size + 3, 0, none⟩ (.int .i64 50)) (w.heap.size + 1) 38 (.slice none 0 0) ∧ Boxed (((((U3.setCell ⟨W3.heap.size + 1, 0, none⟩ (.slice none 0 0)).setCell ⟨W3.heap.size + 2, 0, none⟩ (.int .i64 0)).setCell ⟨w.heap.size + 1, 0, none⟩ (.slice none 0 0)).setCell ⟨w.heap.size + 2, 0, none⟩ (.int .i64 0)).setCell ⟨w.heap.size + 3, 0, none⟩ (.int .i64 50)) (w.heap.size + 2) 3 (.int .i64 0) ∧ Boxed (((((U3.setCell ⟨W3.heap.size + 1, 0, none⟩ (.slice none 0 0)).setCell ⟨W3.heap.size + 2, 0, none⟩ (.int .i64 0)).setCell ⟨w.heap.size + 1, 0, none⟩ (.slice none 0 0)).setCell ⟨w.heap.size + 2, 0, none⟩ (.int .i64 0)).setCell ⟨w.heap.size + 3, 0, none⟩ (.int .i64 50)) (w.heap.size + 3) 26 (.int .i64 50)) ∧ Below w.heap.size w (((((U3.setCell ⟨W3.heap.size + 1, 0, none⟩ (.slice none 0 0)).setCell ⟨W3.heap.size + 2, 0, none⟩ (.int .i64 0)).setCell ⟨w.heap.size + 1, 0, none⟩ (.slice none 0 0)).setCell ⟨w.heap.size + 2, 0, none⟩ (.int .i64 0)).setCell ⟨w.heap.size + 3, 0, none⟩ (.int .i64 50))) := by
            refine ⟨((((HK3.out.setCell (p := ⟨W3.heap.size + 1, 0, none⟩) (.inr (.inr (.inr (.inr (.inr (.inl rfl)))))) _).setCell (p := ⟨W3.heap.size + 2, 0, none⟩) (.inr (.inr (.inr (.inr (.inr (.inr rfl)))))) _).setCell (p := ⟨w.heap.size + 1, 0, none⟩) (.inl rfl) _).setCell (p := ⟨w.heap.size + 2, 0, none⟩) (.inr (.inl rfl)) _).setCell (p := ⟨w.heap.size + 3, 0, none⟩) (.inr (.inr (.inl rfl))) _, ⟨?_, ?_, ?_⟩, ?_⟩
            · exact boxed_setO (boxed_setO (Boxed.set _ (boxed_setO (boxed_setO HP3.out.b6 (by omega) _) (by omega) _)) (by omega) _) (by omega) _
            · exact boxed_setO (Boxed.set _ (boxed_setO (boxed_setO (boxed_setO HP3.out.b7 (by omega) _) (by omega) _) (by omega) _)) (by omega) _
            · exact Boxed.set _ (boxed_setO (boxed_setO (boxed_setO (boxed_setO HP3.out.b8 (by omega) _) (by omega) _) (by omega) _) (by omega) _)
            · exact ((((HP3.out.bel.setCell (p := ⟨W3.heap.size + 1, 0, none⟩) (by show _ ≤ _ + 1; omega) _).setCell (p := ⟨W3.heap.size + 2, 0, none⟩) (by show _ ≤ _ + 2; omega) _).setCell (p := ⟨w.heap.size + 1, 0, none⟩) (by show _ ≤ _ + 1; omega) _).setCell (p := ⟨w.heap.size + 2, 0, none⟩) (by show _ ≤ _ + 2; omega) _).setCell (p := ⟨w.heap.size + 3, 0, none⟩) (by show _ ≤ _ + 3; omega) _
          have HBADX : Hid (((q ++ [x]).map It.key).all smallK = false) := by
            show _ = _
            rw [List.map_append, List.all_append]
            simp [smallK, It.key, hs]
          gi_wp2_with fail
          refine ⟨trivial, ?_⟩
          refine hownI.mono ?_
          rintro e w' ⟨rfl, rfl⟩
          clear hownI HK3 HP3
          gi_wp2
          exact ⟨HNO.out.1, rfl, HNO.out.2.1, HNO.out.2.2, HBADX.out⟩
    · skip
      go_simp
      refine hK.out _ _ hS (fun hS => ?_)
      clear hK K
      refine wpAnyH_ready (rs := [0, 3]) (by kernel_rfl) (by simp) ?_
      refine AllReadyH.cons rfl (fun K hK => ?_) (AllReadyH.cons rfl (fun K hK => ?_) AllReadyH.nil)
      · skip
        go_simp
        refine hK.out _ _ hS (fun hS => ?_)
        clear hK K
        refine wpAnyH_ready (rs := [3]) (by kernel_rfl) (by simp) ?_
        refine AllReadyH.cons rfl (fun K hK => ?_) AllReadyH.nil
        go_simp
        go_wp2_with (go_at_call 58; refine (HKIND.out Vd).mono ?_; rintro e V2 ⟨rfl, hb2⟩)
        have HY2 := Lib.hid (HYd.out.up hb2)
        have HK2 : Hid (By.Kept (LX w w1.heap.size W3.heap.size) V V2) := HK0.out.trans (By.Kept.below hb2 (Nat.le_refl _))
        have hS3 : V2.cell? ⟨Bx, 0, none⟩ = some (.int .i64 x.o) ∧ V2.cell? ⟨Bx, 1, none⟩ = some (.slice x.A x.n x.c) := ⟨(hb2.cell (World.block_lt_of_cell? Vd _ hS.1)).trans hS.1, (hb2.cell (World.block_lt_of_cell? Vd _ hS.2)).trans hS.2⟩
        clear hb2 d11 d12 HYd HK0 hS
        have d11 := HY2.out.b11.cell
        have d12 := HY2.out.b12.cell
        refine hK.out _ _ hS3 (fun hS => ?_)
        clear hK K hS3
        have HK2' := Lib.hid HK2.out
        refine wpAnyH_ready (rs := [4]) (by kernel_rfl) (by simp) ?_
        refine AllReadyH.cons rfl (fun K hK => ?_) AllReadyH.nil
        go_simp
        go_wp2_with (go_at_call 57; refine (HPUT.out V2 HY2.out.row.row).mono ?_; rintro e V3 ⟨rfl, hbk3, hlt3, hb3⟩)
        have HP3 := Lib.hid (HY2.out.put (k' := k1) hb3 hbk3 (Nat.le_refl _) hlt3)
        have hY3 := HY2.out.up hb3
        have c11 := hY3.b11.cell
        have f11 := hY3.b11.frozen
        have c12 := hY3.b12.cell
        have f12 := hY3.b12.frozen
        have hS3 : V3.cell? ⟨Bx, 0, none⟩ = some (.int .i64 x.o) ∧ V3.cell? ⟨Bx, 1, none⟩ = some (.slice x.A x.n x.c) := ⟨(hb3.cell (World.block_lt_of_cell? V2 _ hS.1)).trans hS.1, (hb3.cell (World.block_lt_of_cell? V2 _ hS.2)).trans hS.2⟩
        have HK3 : Hid (By.Kept (LX w w1.heap.size W3.heap.size) V ((V3.setCell ⟨W3.heap.size + 1, 0, none⟩ (.slice (some ⟨V2.heap.size, 0, none⟩) L1.length L1.length)).setCell ⟨W3.heap.size + 2, 0, none⟩ (.int .i64 (k1 : Int)))) := ((HK2.out.trans (By.Kept.below hb3 (Nat.le_refl _))).setCell (p := ⟨W3.heap.size + 1, 0, none⟩) (.inr (.inr (.inr (.inr (.inr (.inl rfl)))))) _).setCell (p := ⟨W3.heap.size + 2, 0, none⟩) (.inr (.inr (.inr (.inr (.inr (.inr rfl)))))) _
        have HSF : Hid (∀ (j : Nat) (u1 : Value) (z : Value), V3.cell? ⟨Bx, j, none⟩ = some z → (V3.setCell ⟨W3.heap.size + 1, 0, none⟩ u1).cell? ⟨Bx, j, none⟩ = some z) := fun j u1 z h => (World.cell?_setCell_other _ _ _ _ (fun e => by injection e; have := HBXG.out; omega)).trans h
        have HSF2 : Hid (∀ (j : Nat) (u1 u2 : Value) (z : Value), V3.cell? ⟨Bx, j, none⟩ = some z → ((V3.setCell ⟨W3.heap.size + 1, 0, none⟩ u1).setCell ⟨W3.heap.size + 2, 0, none⟩ u2).cell? ⟨Bx, j, none⟩ = some z) := fun j u1 u2 z h => (World.cell?_setCell_other _ _ _ _ (fun e => by injection e; have := HBXG.out; omega)).trans (HSF.out j u1 z h)
        have c12' : ∀ u, (V3.setCell ⟨W3.heap.size + 1, 0, none⟩ u).cell? ⟨W3.heap.size + 2, 0, none⟩ = some (.int .i64 (k : Int)) := fun u => (World.cell?_setCell_other _ _ _ _ (fun e => by injection e; omega)).trans c12
        clear d11 d12 hS hb3 hbk3 hlt3 hY3 HK2 HK2' HY2
        refine hK.out _ _ hS3 (fun hS => ?_)
        clear hK K hS3
        refine wpAnyH_take (i := 5) (v := ?_) rfl (by kernel_rfl) (by kernel_rfl) (by kernel_rfl) (fun _ _ _ h => h) (Yields.yieldsIf (Or.inl ⟨by kernel_rfl, ?_⟩)) hS ?_
        rotate_left
        · first | (intro w; go_simp; done) | (intro w; go_simp; with_reducible rfl)
        refine wpAnyH_take (i := 6) (v := ?_) rfl (by kernel_rfl) (by kernel_rfl) (by kernel_rfl) (fun _ _ _ h => h) (Yields.yieldsIf (Or.inl ⟨by kernel_rfl, ?_⟩)) hS ?_
        rotate_left
        · first | (intro w; go_simp; done) | (intro w; go_simp; with_reducible rfl)
        refine wpAnyH_take (i := 7) (v := ?_) rfl (by kernel_rfl) (by kernel_rfl) (by kernel_rfl) (fun _ _ _ h => h) (Yields.yieldsIf (Or.inl ⟨by kernel_rfl, ?_⟩)) hS ?_
        rotate_left
        · first | (intro w; go_simp; done) | (intro w; go_simp; with_reducible rfl)
        refine wpAnyH_take (i := 8) (v := ?_) rfl (by kernel_rfl) (by kernel_rfl) (by kernel_rfl) (fun _ _ _ h => h) (Yields.yieldsIf (Or.inl ⟨by kernel_rfl, ?_⟩)) hS ?_
        rotate_left
        · first | (intro w; go_simp; done) | (intro w; go_simp; with_reducible rfl)
        refine wpAnyH_ready (rs := [9]) (by kernel_rfl) (by simp) ?_
        refine AllReadyH.cons rfl (fun K hK => ?_) AllReadyH.nil
        go_simp
        refine hK.out _ _ ⟨HSF.out 0 _ _ hS.1, HSF.out 1 _ _ hS.2⟩ (fun _ => ?_)
        clear hK K
        refine wpAnyH_ready (rs := [10]) (by kernel_rfl) (by simp) ?_
        refine AllReadyH.cons rfl (fun K hK => ?_) AllReadyH.nil
        go_simp
        refine hK.out _ _ ⟨HSF2.out 0 _ _ _ hS.1, HSF2.out 1 _ _ _ hS.2⟩ (fun _ => ?_)
        clear hK K
        refine wpAnyH_done (by kernel_rfl) ?_ _
        have g0 := HSF2.out 0 (.slice (some ⟨V2.heap.size, 0, none⟩) L1.length L1.length) (.int .i64 (k1 : Int)) _ hS.1
        clear hS c11 f11 c12 f12 c12' HSF HSF2
        generalize ((V3.setCell ⟨W3.heap.size + 1, 0, none⟩ (.slice (some ⟨V2.heap.size, 0, none⟩) L1.length L1.length)).setCell ⟨W3.heap.size + 2, 0, none⟩ (.int .i64 (k1 : Int))) = U3 at HP3 HK3 g0 ⊢
        obtain ⟨g2, hg2⟩ : ∃ g, V2.heap.size = g := ⟨_, rfl⟩
        rw [hg2] at HP3 ⊢
        clear hg2
        have d11 := HP3.out.b11.cell
        have d12 := HP3.out.b12.cell
        by_cases hs : x.o < 4611686018427387904
        · have hown : Calls Tryd.prog 59 #[.slice (some ⟨g2, 0, none⟩) L1.length L1.length, .int .i64 (k1 : Int), .int .u64 x.o] U3 (GivesNew (M.putL L1 k1 (gam x.o.toNat)) (k1 + (gam x.o.toNat).length) U3) := by
            have := putOwn_new (some ⟨g2, 0, none⟩) L1.length L1 k1 x.o.toNat U3 HP3.out.row.row (by omega) HV1.out (by omega)
            rw [show ((x.o.toNat : Nat) : Int) = x.o by omega] at this
            exact this
          rw [HL2.out.1, HL2.out.2] at hown
          have hownI := CallsIn.inRound l' ((callsIn_wide (n := 2)).2 hown)
          clear hown
          obtain ⟨L2, hL2⟩ : ∃ L, M.putL R k (codeE x.key) = L := ⟨_, rfl⟩
          obtain ⟨k2, hk2⟩ : ∃ j, k + (codeE x.key).length = j := ⟨_, rfl⟩
          rw [hL2, hk2] at hownI
          have HN2 := Lib.hid HNX.out
          rw [hL2, hk2] at HN2
          have hcl : (codeE x.key).length ≤ 200 := by
            have := gam_len x.o.toNat (by omega)
            show ((if x.n = 0 then 0 else 1) :: gam x.o.toNat).length ≤ 200
            rw [List.length_cons]; omega
          have hk2b : k2 ≤ 300 := by omega
          obtain ⟨F2, hF2⟩ : ∃ j, k2 / 8 = j := ⟨_, rfl⟩
          obtain ⟨K2, hK2⟩ : ∃ j, k2 % 8 = j := ⟨_, rfl⟩
          rw [hF2, hK2] at HN2
          have hF2i : (k2 : Int) / 8 = (F2 : Int) := by omega
          have hK2i : (k2 : Int) % 8 = (K2 : Int) := by omega
          have hK2t : (k2 : Int).tmod 8 = (K2 : Int) := by rw [Int.tmod_eq_emod_of_nonneg (by omega)]; omega
          have hL2l : F2 ≤ L2.length := by
            have := M.putL_length R k (codeE x.key) HCUT.out.val.1
            rw [hL2] at this
            omega
          have hOl : O.length ≤ 140737489000000 := by
            have h1 := HWL.out.1
            omega
          have HFF2 := Lib.hid hF2
          clear hL2 hk2 hF2 hK2 hcl HNX
          have f11 := HP3.out.b11.frozen
          have f12 := HP3.out.b12.frozen
          gi_wp2_with fail
          refine ⟨trivial, ?_⟩
          refine hownI.mono ?_
          rintro e V5 ⟨rfl, hbk5, hlt5, hb5⟩
          have HP5 := Lib.hid (HP3.out.put (k' := k2) hb5 hbk5 (Nat.le_refl _) hlt5)
          have hY5 := HP3.out.up hb5
          have hg1 := HP3.out.hs1
          have hg3 := HP3.out.hG
          have c11 := hY5.b11.cell
          have f11 := hY5.b11.frozen
          have c12 := hY5.b12.cell
          have f12 := hY5.b12.frozen
          have c9 := hY5.b9.cell
          have f9 := hY5.b9.frozen
          have c12' : ∀ u, (V5.setCell ⟨W3.heap.size + 1, 0, none⟩ u).cell? ⟨W3.heap.size + 2, 0, none⟩ = some (.int .i64 (k1 : Int)) := fun u => (World.cell?_setCell_other _ _ _ _ (fun e => by injection e; omega)).trans c12
          have c9' : ∀ u1 u2, ((V5.setCell ⟨W3.heap.size + 1, 0, none⟩ u1).setCell ⟨W3.heap.size + 2, 0, none⟩ u2).cell? ⟨w1.heap.size, 0, none⟩ = some (.int .i64 f) := fun u1 u2 => (World.cell?_setCell_other _ _ _ _ (fun e => by injection e; omega)).trans ((World.cell?_setCell_other _ _ _ _ (fun e => by injection e; omega)).trans c9)
          have HP6 := Lib.hid (HP5.out.full (F2 : Int))
          have HK6 : Hid (By.Kept (LX w w1.heap.size W3.heap.size) V (((V5.setCell ⟨W3.heap.size + 1, 0, none⟩ (.slice (some ⟨U3.heap.size, 0, none⟩) L2.length L2.length)).setCell ⟨W3.heap.size + 2, 0, none⟩ (.int .i64 (k2 : Int))).setCell ⟨w1.heap.size, 0, none⟩ (.int .i64 (F2 : Int)))) := (((HK3.out.trans (By.Kept.below hb5 (Nat.le_refl _))).setCell (p := ⟨W3.heap.size + 1, 0, none⟩) (.inr (.inr (.inr (.inr (.inr (.inl rfl)))))) _).setCell (p := ⟨W3.heap.size + 2, 0, none⟩) (.inr (.inr (.inr (.inr (.inr (.inr rfl)))))) _).setCell (p := ⟨w1.heap.size, 0, none⟩) (.inr (.inr (.inr (.inl rfl)))) _
          clear hownI HK3 HP3 HP5 hY5 hb5 hbk5 hlt5 d11 d12 g0
          gi_wp2
          generalize (((V5.setCell ⟨W3.heap.size + 1, 0, none⟩ (.slice (some ⟨U3.heap.size, 0, none⟩) L2.length L2.length)).setCell ⟨W3.heap.size + 2, 0, none⟩ (.int .i64 (k2 : Int))).setCell ⟨w1.heap.size, 0, none⟩ (.int .i64 (F2 : Int))) = U6 at HP6 HK6 ⊢
          obtain ⟨g5, hg5⟩ : ∃ g, U3.heap.size = g := ⟨_, rfl⟩
          rw [hg5] at HP6 ⊢
          clear hg5 c11 f11 c12 f12 c9 f9 c12' c9'
          -- region 14
          have hbd : Below U6.heap.size U6 U6.drew := (Below.refl _ U6).drew
          have HPd := Lib.hid (HP6.out.up hbd)
          have HKd : Hid (By.Kept (LX w w1.heap.size W3.heap.size) V U6.drew) := HK6.out.trans (By.Kept.below hbd (Nat.le_refl _))
          clear hbd HP6 HK6
          have hS : U6.drew.cell? ⟨W3.heap.size + 1, 0, none⟩ = some (.slice (some ⟨g5, 0, none⟩) L2.length L2.length) ∧ U6.drew.cell? ⟨w1.heap.size, 0, none⟩ = some (.int .i64 (F2 : Int)) := ⟨HPd.out.b11.cell, HPd.out.b9.cell⟩
          have hhead2 := slice_head (some ⟨g5, 0, none⟩) L2.length L2.length F2 hL2l
          refine region_heldIn (fun W => W.cell? ⟨W3.heap.size + 1, 0, none⟩ = some (.slice (some ⟨g5, 0, none⟩) L2.length L2.length) ∧ W.cell? ⟨w1.heap.size, 0, none⟩ = some (.int .i64 (F2 : Int))) hmx (by kernel_rfl) (fun _ _ h => h) ?_
          generalize U6.drew = Ud at HPd HKd hS ⊢
          refine wpAnyH_take (i := 1) (v := ?_) rfl (by kernel_rfl) (by kernel_rfl) (by kernel_rfl) (fun _ _ _ h => h) (Or.inl ⟨by kernel_rfl, fun W hW => ?_⟩) hS ?_
          rotate_left
          · obtain ⟨f0, f1⟩ := hW
            first | (go_simp; done) | (go_simp; with_reducible rfl)
          refine wpAnyH_take (i := 2) (v := ?_) rfl (by kernel_rfl) (by kernel_rfl) (by kernel_rfl) (fun _ _ _ h => h) (Or.inl ⟨by kernel_rfl, fun W hW => ?_⟩) hS ?_
          rotate_left
          · obtain ⟨f0, f1⟩ := hW
            first | (go_simp; done) | (go_simp; with_reducible rfl)
          refine wpAnyH_take (i := 3) (v := ?_) rfl (by kernel_rfl) (by kernel_rfl) (by kernel_rfl) (fun _ _ _ h => h) (Yields.yieldsIf (Or.inl ⟨by kernel_rfl, ?_⟩)) hS ?_
          rotate_left
          · first | (intro w; go_simp; done) | (intro w; go_simp; with_reducible rfl)
          have d10 := HPd.out.b10.cell
          have hF2l : (L2.take F2).length = F2 := by rw [List.length_take]; omega
          obtain ⟨A7, c7, W7, hap7, ha7⟩ := HPd.out.own.append (some ⟨g5, 0, none⟩) L2.length (L2.take F2) Ud.heap.size (HPd.out.row.take F2).row 38 (by rw [hF2l]; omega) HPd.out.bel.size
          rw [hF2l] at hap7
          have HAP7 := Lib.hid hap7
          have HP7 := Lib.hid (HPd.out.app ha7)
          rw [hF2l] at HP7
          have HK7 : Hid (By.Kept (LX w w1.heap.size W3.heap.size) V (W7.setCell ⟨W3.heap.size, 0, none⟩ (.slice A7 (O.length + F2) c7))) := (HKd.out.trans (ha7.kept.mono (fun _ h => h.elim))).setCell (p := ⟨W3.heap.size, 0, none⟩) (.inr (.inr (.inr (.inr (.inl rfl))))) _
          have bx : ∀ {g : Nat} {t : TypeId} {v : Value}, Boxed Ud g t v → t ≠ 5 → Boxed W7 g t v := fun hb ht => (ha7.oth _ hb.lt (HPd.out.own.ne_box hb ht)).trans hb
          have hS7 : W7.cell? ⟨W3.heap.size + 1, 0, none⟩ = some (.slice (some ⟨g5, 0, none⟩) L2.length L2.length) ∧ W7.cell? ⟨w1.heap.size, 0, none⟩ = some (.int .i64 (F2 : Int)) := ⟨(bx HPd.out.b11 (by decide)).cell, (bx HPd.out.b9 (by decide)).cell⟩
          have e10 := (bx HPd.out.b10 (by decide)).cell
          have z10 := (bx HPd.out.b10 (by decide)).frozen
          have hgG := HPd.out.hG
          have hS8 : ∀ u, (W7.setCell ⟨W3.heap.size, 0, none⟩ u).cell? ⟨W3.heap.size + 1, 0, none⟩ = some (.slice (some ⟨g5, 0, none⟩) L2.length L2.length) ∧ (W7.setCell ⟨W3.heap.size, 0, none⟩ u).cell? ⟨w1.heap.size, 0, none⟩ = some (.int .i64 (F2 : Int)) := fun u => ⟨(World.cell?_setCell_other _ _ _ _ (fun e => by injection e; omega)).trans hS7.1, (World.cell?_setCell_other _ _ _ _ (fun e => by injection e; omega)).trans hS7.2⟩
          clear hap7 ha7 bx HPd HKd
          refine wpAnyH_ready (rs := [0]) (by kernel_rfl) (by simp) ?_
          refine AllReadyH.cons rfl (fun K hK => ?_) AllReadyH.nil
          go_simp
          refine hK.out _ _ hS (fun _ => ?_)
          clear hK K hS d10
          refine wpAnyH_ready (rs := [4]) (by kernel_rfl) (by simp) ?_
          refine AllReadyH.cons rfl (fun K hK => ?_) AllReadyH.nil
          refine oper_append_run _ _ _ _ rfl _ _ rfl rfl HAP7.out ?_
          clear HAP7
          go_simp
          refine hK.out _ _ hS7 (fun _ => ?_)
          clear hK K hS7
          refine wpAnyH_ready (rs := [5]) (by kernel_rfl) (by simp) ?_
          refine AllReadyH.cons rfl (fun K hK => ?_) AllReadyH.nil
          go_simp
          refine hK.out _ _ (hS8 _) (fun _ => ?_)
          clear hK K hS8 e10 z10
          refine wpAnyH_done (by kernel_rfl) ?_ _
          generalize W7.setCell ⟨W3.heap.size, 0, none⟩ (.slice A7 (O.length + F2) c7) = U8 at HP7 HK7 ⊢
          gi_wp2
          -- region 15
          have hbd : Below U8.heap.size U8 U8.drew := (Below.refl _ U8).drew
          have HPe := Lib.hid (HP7.out.up hbd)
          have HKe : Hid (By.Kept (LX w w1.heap.size W3.heap.size) V U8.drew) := HK7.out.trans (By.Kept.below hbd (Nat.le_refl _))
          clear hbd HP7 HK7
          have hS : U8.drew.cell? ⟨w1.heap.size, 0, none⟩ = some (.int .i64 (F2 : Int)) := HPe.out.b9.cell
          have htail2 := slice_tail (some ⟨g5, 0, none⟩) L2.length L2.length F2 hL2l
          refine region_heldIn (fun W => W.cell? ⟨w1.heap.size, 0, none⟩ = some (.int .i64 (F2 : Int))) hmx (by kernel_rfl) (fun _ _ h => h) ?_
          generalize U8.drew = Ue at HPe HKe hS ⊢
          have HP9 := Lib.hid (HPe.out.cut F2 K2)
          obtain ⟨TA, hTA⟩ : ∃ T, tailA (some ⟨g5, 0, none⟩) L2.length F2 = T := ⟨_, rfl⟩
          rw [hTA] at HP9 htail2
          clear hTA
          have HFIN : Hid (By.Kept (LX w w1.heap.size W3.heap.size) V ((Ue.setCell ⟨W3.heap.size + 1, 0, none⟩ (.slice TA (L2.length - F2) (L2.length - F2))).setCell ⟨W3.heap.size + 2, 0, none⟩ (.int .i64 (K2 : Int))) ∧ (x.n = 0 ∨ x.n = 2) ∧ LB w w1.heap.size W3.heap.size l n (((q ++ [x]).map It.key).flatMap codeE) ((Ue.setCell ⟨W3.heap.size + 1, 0, none⟩ (.slice TA (L2.length - F2) (L2.length - F2))).setCell ⟨W3.heap.size + 2, 0, none⟩ (.int .i64 (K2 : Int))) ∧ ((q ++ [x]).map It.key).all smallK = true) :=
            ⟨(HKe.out.setCell (p := ⟨W3.heap.size + 1, 0, none⟩) (.inr (.inr (.inr (.inr (.inr (.inl rfl)))))) _).setCell (p := ⟨W3.heap.size + 2, 0, none⟩) (.inr (.inr (.inr (.inr (.inr (.inr rfl)))))) _, HXN.out, ⟨_, _, _, _, _, _, _, _, HP9.out, by rw [List.map_append, List.flatMap_append]; simpa using HN2.out⟩, by rw [List.map_append, List.all_append, HSM.out]; simp [smallK, It.key, hs]⟩
          have c11 := HPe.out.b11.cell
          have f11 := HPe.out.b11.frozen
          have c12 := HPe.out.b12.cell
          have f12 := HPe.out.b12.frozen
          have hgG2 := HPe.out.hG
          have c12' : ∀ u, (Ue.setCell ⟨W3.heap.size + 1, 0, none⟩ u).cell? ⟨W3.heap.size + 2, 0, none⟩ = some (.int .i64 (k2 : Int)) := fun u => (World.cell?_setCell_other _ _ _ _ (fun e => by injection e; omega)).trans c12
          have hS1 : ∀ u, (Ue.setCell ⟨W3.heap.size + 1, 0, none⟩ u).cell? ⟨w1.heap.size, 0, none⟩ = some (.int .i64 (F2 : Int)) := fun u => (World.cell?_setCell_other _ _ _ _ (fun e => by injection e; omega)).trans hS
          have hS2 : ∀ u u2, ((Ue.setCell ⟨W3.heap.size + 1, 0, none⟩ u).setCell ⟨W3.heap.size + 2, 0, none⟩ u2).cell? ⟨w1.heap.size, 0, none⟩ = some (.int .i64 (F2 : Int)) := fun u u2 => (World.cell?_setCell_other _ _ _ _ (fun e => by injection e; omega)).trans (hS1 u)
          clear HP9 HPe HKe
          refine wpAnyH_take (i := 1) (v := ?_) rfl (by kernel_rfl) (by kernel_rfl) (by kernel_rfl) (fun _ _ _ h => h) (Or.inl ⟨by kernel_rfl, fun W hW => ?_⟩) hS ?_
          rotate_left
          · skip
            first | (go_simp; done) | (go_simp; with_reducible rfl)
          refine wpAnyH_ready (rs := [0, 3]) (by kernel_rfl) (by simp) ?_
          refine AllReadyH.cons rfl (fun K hK => ?_) (AllReadyH.cons rfl (fun K hK => ?_) AllReadyH.nil)
          · skip
            go_simp
            refine hK.out _ _ hS (fun _ => ?_)
            clear hK K
            refine wpAnyH_take (i := 2) (v := ?_) rfl (by kernel_rfl) (by kernel_rfl) (by kernel_rfl) (fun _ _ _ h => h) (Yields.yieldsIf (Or.inl ⟨by kernel_rfl, ?_⟩)) hS ?_
            rotate_left
            · first | (intro w; go_simp; done) | (intro w; go_simp; with_reducible rfl)
            refine wpAnyH_ready (rs := [3, 5]) (by kernel_rfl) (by simp) ?_
            refine AllReadyH.cons rfl (fun K hK => ?_) (AllReadyH.cons rfl (fun K hK => ?_) AllReadyH.nil)
            · skip
              go_simp
              refine hK.out _ _ hS (fun _ => ?_)
              clear hK K
              refine wpAnyH_take (i := 4) (v := ?_) rfl (by kernel_rfl) (by kernel_rfl) (by kernel_rfl) (fun _ _ _ h => h) (Yields.yieldsIf (Or.inl ⟨by kernel_rfl, ?_⟩)) hS ?_
              rotate_left
              · first | (intro w; go_simp; done) | (intro w; go_simp; with_reducible rfl)
              refine wpAnyH_ready (rs := [5]) (by kernel_rfl) (by simp) ?_
              refine AllReadyH.cons rfl (fun K hK => ?_) AllReadyH.nil
              go_simp
              refine hK.out _ _ (hS1 _) (fun _ => ?_)
              clear hK K
              refine wpAnyH_ready (rs := [6]) (by kernel_rfl) (by simp) ?_
              refine AllReadyH.cons rfl (fun K hK => ?_) AllReadyH.nil
              go_simp
              refine hK.out _ _ (hS2 _ _) (fun _ => ?_)
              clear hK K
              refine wpAnyH_done (by kernel_rfl) ?_ _
              gi_wp2
              exact HFIN.out
            · skip
              go_simp
              refine hK.out _ _ (hS1 _) (fun _ => ?_)
              clear hK K
              refine wpAnyH_ready (rs := [3]) (by kernel_rfl) (by simp) ?_
              refine AllReadyH.cons rfl (fun K hK => ?_) AllReadyH.nil
              go_simp
              refine hK.out _ _ (hS1 _) (fun _ => ?_)
              clear hK K
              refine wpAnyH_take (i := 4) (v := ?_) rfl (by kernel_rfl) (by kernel_rfl) (by kernel_rfl) (fun _ _ _ h => h) (Yields.yieldsIf (Or.inl ⟨by kernel_rfl, ?_⟩)) (hS1 _) ?_
              rotate_left
              · first | (intro w; go_simp; done) | (intro w; go_simp; with_reducible rfl)
              refine wpAnyH_ready (rs := [6]) (by kernel_rfl) (by simp) ?_
              refine AllReadyH.cons rfl (fun K hK => ?_) AllReadyH.nil
              go_simp
              refine hK.out _ _ (hS2 _ _) (fun _ => ?_)
              clear hK K
              refine wpAnyH_done (by kernel_rfl) ?_ _
              gi_wp2
              exact HFIN.out
          · skip
            go_simp
            refine hK.out _ _ hS (fun _ => ?_)
            clear hK K
            refine wpAnyH_take (i := 4) (v := ?_) rfl (by kernel_rfl) (by kernel_rfl) (by kernel_rfl) (fun _ _ _ h => h) (Yields.yieldsIf (Or.inl ⟨by kernel_rfl, ?_⟩)) hS ?_
            rotate_left
            · first | (intro w; go_simp; done) | (intro w; go_simp; with_reducible rfl)
            refine wpAnyH_ready (rs := [0]) (by kernel_rfl) (by simp) ?_
            refine AllReadyH.cons rfl (fun K hK => ?_) AllReadyH.nil
            go_simp
            refine hK.out _ _ hS (fun _ => ?_)
            clear hK K
            refine wpAnyH_take (i := 2) (v := ?_) rfl (by kernel_rfl) (by kernel_rfl) (by kernel_rfl) (fun _ _ _ h => h) (Yields.yieldsIf (Or.inl ⟨by kernel_rfl, ?_⟩)) hS ?_
            rotate_left
            · first | (intro w; go_simp; done) | (intro w; go_simp; with_reducible rfl)
            refine wpAnyH_ready (rs := [5]) (by kernel_rfl) (by simp) ?_
            refine AllReadyH.cons rfl (fun K hK => ?_) AllReadyH.nil
            go_simp
            refine hK.out _ _ (hS1 _) (fun _ => ?_)
            clear hK K
            refine wpAnyH_ready (rs := [6]) (by kernel_rfl) (by simp) ?_
            refine AllReadyH.cons rfl (fun K hK => ?_) AllReadyH.nil
            go_simp
            refine hK.out _ _ (hS2 _ _) (fun _ => ?_)
            clear hK K
            refine wpAnyH_done (by kernel_rfl) ?_ _
            gi_wp2
            exact HFIN.out
        · have hown := putOwn_no (some ⟨g2, 0, none⟩) L1.length L1 (k1 : Int) x.o U3 HP3.out.row.row (by omega) (by omega) (by omega) (fun h => hs h.2)
          have hownI := CallsIn.inRound l' ((callsIn_wide (n := 2)).2 hown)
          clear hown
          have hg1 := HP3.out.hs1
          have hg2 := HP3.out.hG
          have f11 := HP3.out.b11.frozen
          have f12 := HP3.out.b12.frozen
          have c6 := HP3.out.b6.cell
          have f6 := HP3.out.b6.frozen
          have c7 := HP3.out.b7.cell
          have f7 := HP3.out.b7.frozen
          have c8 := HP3.out.b8.cell
          have f8 := HP3.out.b8.frozen
          have c12' : ∀ u, (U3.setCell ⟨W3.heap.size + 1, 0, none⟩ u).cell? ⟨W3.heap.size + 2, 0, none⟩ = some (.int .i64 (k1 : Int)) := fun u => (World.cell?_setCell_other _ _ _ _ (fun e => by injection e; omega)).trans d12
          have c6' : ∀ u1 u2, ((U3.setCell ⟨W3.heap.size + 1, 0, none⟩ u1).setCell ⟨W3.heap.size + 2, 0, none⟩ u2).cell? ⟨w.heap.size + 1, 0, none⟩ = some (.slice none 0 0) := fun u1 u2 => (World.cell?_setCell_other _ _ _ _ (fun e => by injection e; omega)).trans ((World.cell?_setCell_other _ _ _ _ (fun e => by injection e; omega)).trans c6)
          have c7' : ∀ u1 u2 u3, (((U3.setCell ⟨W3.heap.size + 1, 0, none⟩ u1).setCell ⟨W3.heap.size + 2, 0, none⟩ u2).setCell ⟨w.heap.size + 1, 0, none⟩ u3).cell? ⟨w.heap.size + 2, 0, none⟩ = some (.int .i64 0) := fun u1 u2 u3 => (World.cell?_setCell_other _ _ _ _ (fun e => by injection e; omega)).trans ((World.cell?_setCell_other _ _ _ _ (fun e => by injection e; omega)).trans ((World.cell?_setCell_other _ _ _ _ (fun e => by injection e; omega)).trans c7))
          have c8' : ∀ u1 u2 u3 u4, ((((U3.setCell ⟨W3.heap.size + 1, 0, none⟩ u1).setCell ⟨W3.heap.size + 2, 0, none⟩ u2).setCell ⟨w.heap.size + 1, 0, none⟩ u3).setCell ⟨w.heap.size + 2, 0, none⟩ u4).cell? ⟨w.heap.size + 3, 0, none⟩ = some (.int .i64 0) := fun u1 u2 u3 u4 => (World.cell?_setCell_other _ _ _ _ (fun e => by injection e; omega)).trans ((World.cell?_setCell_other _ _ _ _ (fun e => by injection e; omega)).trans ((World.cell?_setCell_other _ _ _ _ (fun e => by injection e; omega)).trans ((World.cell?_setCell_other _ _ _ _ (fun e => by injection e; omega)).trans c8)))
          have HNO : Hid (By.Kept (LX w w1.heap.size W3.heap.size) V (((((U3.setCell ⟨W3.heap.size + 1, 0, none⟩ (.slice none 0 0)).setCell ⟨W3.heap.size + 2, 0, none⟩ (.int .i64 0)).setCell ⟨w.heap.size + 1, 0, none⟩ (.slice none 0 0)).setCell ⟨w.heap.size + 2, 0, none⟩ (.int .i64 0)).setCell ⟨w.heap.size + 3, 0, none⟩ (.int .i64 50)) ∧ (Boxed (((((U3.setCell ⟨W3.heap.size + 1, 0, none⟩ (.slice none 0 0)).setCell ⟨W3.heap.size + 2, 0, none⟩ (.int .i64 0)).setCell ⟨w.heap.size + 1, 0, none⟩ (.slice none 0 0)).setCell ⟨w.heap.size + 2, 0, none⟩ (.int .i64 0)).setCell ⟨w.heap.size + 3, 0, none⟩ (.int .i64 50)) (w.heap.size + 1) 38 (.slice none 0 0) ∧ Boxed (((((U3.setCell ⟨W3.heap.size + 1, 0, none⟩ (.slice none 0 0)).setCell ⟨W3.heap.size + 2, 0, none⟩ (.int .i64 0)).setCell ⟨w.heap.size + 1, 0, none⟩ (.slice none 0 0)).setCell ⟨w.heap.size + 2, 0, none⟩ (.int .i64 0)).setCell ⟨w.heap.size + 3, 0, none⟩ (.int .i64 50)) (w.heap.size + 2) 3 (.int .i64 0) ∧ Boxed (((((U3.setCell ⟨W3.heap.size + 1, 0, none⟩ (.slice none 0 0)).setCell ⟨W3.heap.size + 2, 0, none⟩ (.int .i64 0)).setCell ⟨w.heap.size + 1, 0, none⟩ (.slice none 0 0)).setCell ⟨w.heap.size + 2, 0, none⟩ (.int .i64 0)).setCell ⟨w.heap.size + 3, 0, none⟩ (.int .i64 50)) (w.heap.size + 3) 26 (.int .i64 50)) ∧ Below w.heap.size w (((((U3.setCell ⟨W3.heap.size + 1, 0, none⟩ (.slice none 0 0)).setCell ⟨W3.heap.size + 2, 0, none⟩ (.int .i64 0)).setCell ⟨w.heap.size + 1, 0, none⟩ (.slice none 0 0)).setCell ⟨w.heap.size + 2, 0, none⟩ (.int .i64 0)).setCell ⟨w.heap.size + 3, 0, none⟩ (.int .i64 50))) := by
            refine ⟨((((HK3.out.setCell (p := ⟨W3.heap.size + 1, 0, none⟩) (.inr (.inr (.inr (.inr (.inr (.inl rfl)))))) _).setCell (p := ⟨W3.heap.size + 2, 0, none⟩) (.inr (.inr (.inr (.inr (.inr (.inr rfl)))))) _).setCell (p := ⟨w.heap.size + 1, 0, none⟩) (.inl rfl) _).setCell (p := ⟨w.heap.size + 2, 0, none⟩) (.inr (.inl rfl)) _).setCell (p := ⟨w.heap.size + 3, 0, none⟩) (.inr (.inr (.inl rfl))) _, ⟨?_, ?_, ?_⟩, ?_⟩
            · exact boxed_setO (boxed_setO (Boxed.set _ (boxed_setO (boxed_setO HP3.out.b6 (by omega) _) (by omega) _)) (by omega) _) (by omega) _
            · exact boxed_setO (Boxed.set _ (boxed_setO (boxed_setO (boxed_setO HP3.out.b7 (by omega) _) (by omega) _) (by omega) _)) (by omega) _
            · exact Boxed.set _ (boxed_setO (boxed_setO (boxed_setO (boxed_setO HP3.out.b8 (by omega) _) (by omega) _) (by omega) _) (by omega) _)
            · exact ((((HP3.out.bel.setCell (p := ⟨W3.heap.size + 1, 0, none⟩) (by show _ ≤ _ + 1; omega) _).setCell (p := ⟨W3.heap.size + 2, 0, none⟩) (by show _ ≤ _ + 2; omega) _).setCell (p := ⟨w.heap.size + 1, 0, none⟩) (by show _ ≤ _ + 1; omega) _).setCell (p := ⟨w.heap.size + 2, 0, none⟩) (by show _ ≤ _ + 2; omega) _).setCell (p := ⟨w.heap.size + 3, 0, none⟩) (by show _ ≤ _ + 3; omega) _
          have HBADX : Hid (((q ++ [x]).map It.key).all smallK = false) := by
            show _ = _
            rw [List.map_append, List.all_append]
            simp [smallK, It.key, hs]
          gi_wp2_with fail
          refine ⟨trivial, ?_⟩
          refine hownI.mono ?_
          rintro e w' ⟨rfl, rfl⟩
          clear hownI HK3 HP3
          gi_wp2
          exact ⟨HNO.out.1, rfl, HNO.out.2.1, HNO.out.2.2, HBADX.out⟩
      · skip
        go_simp
        go_wp2_with (go_at_call 58; refine (HKIND.out Vd).mono ?_; rintro e V2 ⟨rfl, hb2⟩)
        have HY2 := Lib.hid (HYd.out.up hb2)
        have HK2 : Hid (By.Kept (LX w w1.heap.size W3.heap.size) V V2) := HK0.out.trans (By.Kept.below hb2 (Nat.le_refl _))
        have hS3 : V2.cell? ⟨Bx, 0, none⟩ = some (.int .i64 x.o) ∧ V2.cell? ⟨Bx, 1, none⟩ = some (.slice x.A x.n x.c) := ⟨(hb2.cell (World.block_lt_of_cell? Vd _ hS.1)).trans hS.1, (hb2.cell (World.block_lt_of_cell? Vd _ hS.2)).trans hS.2⟩
        clear hb2 d11 d12 HYd HK0 hS
        have d11 := HY2.out.b11.cell
        have d12 := HY2.out.b12.cell
        refine hK.out _ _ hS3 (fun hS => ?_)
        clear hK K hS3
        refine wpAnyH_ready (rs := [0]) (by kernel_rfl) (by simp) ?_
        refine AllReadyH.cons rfl (fun K hK => ?_) AllReadyH.nil
        go_simp
        refine hK.out _ _ hS (fun hS => ?_)
        clear hK K
        have HK2' := Lib.hid HK2.out
        refine wpAnyH_ready (rs := [4]) (by kernel_rfl) (by simp) ?_
        refine AllReadyH.cons rfl (fun K hK => ?_) AllReadyH.nil
        go_simp
        go_wp2_with (go_at_call 57; refine (HPUT.out V2 HY2.out.row.row).mono ?_; rintro e V3 ⟨rfl, hbk3, hlt3, hb3⟩)
        have HP3 := Lib.hid (HY2.out.put (k' := k1) hb3 hbk3 (Nat.le_refl _) hlt3)
        have hY3 := HY2.out.up hb3
        have c11 := hY3.b11.cell
        have f11 := hY3.b11.frozen
        have c12 := hY3.b12.cell
        have f12 := hY3.b12.frozen
        have hS3 : V3.cell? ⟨Bx, 0, none⟩ = some (.int .i64 x.o) ∧ V3.cell? ⟨Bx, 1, none⟩ = some (.slice x.A x.n x.c) := ⟨(hb3.cell (World.block_lt_of_cell? V2 _ hS.1)).trans hS.1, (hb3.cell (World.block_lt_of_cell? V2 _ hS.2)).trans hS.2⟩
        have HK3 : Hid (By.Kept (LX w w1.heap.size W3.heap.size) V ((V3.setCell ⟨W3.heap.size + 1, 0, none⟩ (.slice (some ⟨V2.heap.size, 0, none⟩) L1.length L1.length)).setCell ⟨W3.heap.size + 2, 0, none⟩ (.int .i64 (k1 : Int)))) := ((HK2.out.trans (By.Kept.below hb3 (Nat.le_refl _))).setCell (p := ⟨W3.heap.size + 1, 0, none⟩) (.inr (.inr (.inr (.inr (.inr (.inl rfl)))))) _).setCell (p := ⟨W3.heap.size + 2, 0, none⟩) (.inr (.inr (.inr (.inr (.inr (.inr rfl)))))) _
        have HSF : Hid (∀ (j : Nat) (u1 : Value) (z : Value), V3.cell? ⟨Bx, j, none⟩ = some z → (V3.setCell ⟨W3.heap.size + 1, 0, none⟩ u1).cell? ⟨Bx, j, none⟩ = some z) := fun j u1 z h => (World.cell?_setCell_other _ _ _ _ (fun e => by injection e; have := HBXG.out; omega)).trans h
        have HSF2 : Hid (∀ (j : Nat) (u1 u2 : Value) (z : Value), V3.cell? ⟨Bx, j, none⟩ = some z → ((V3.setCell ⟨W3.heap.size + 1, 0, none⟩ u1).setCell ⟨W3.heap.size + 2, 0, none⟩ u2).cell? ⟨Bx, j, none⟩ = some z) := fun j u1 u2 z h => (World.cell?_setCell_other _ _ _ _ (fun e => by injection e; have := HBXG.out; omega)).trans (HSF.out j u1 z h)
        have c12' : ∀ u, (V3.setCell ⟨W3.heap.size + 1, 0, none⟩ u).cell? ⟨W3.heap.size + 2, 0, none⟩ = some (.int .i64 (k : Int)) := fun u => (World.cell?_setCell_other _ _ _ _ (fun e => by injection e; omega)).trans c12
        clear d11 d12 hS hb3 hbk3 hlt3 hY3 HK2 HK2' HY2
        refine hK.out _ _ hS3 (fun hS => ?_)
        clear hK K hS3
        refine wpAnyH_take (i := 5) (v := ?_) rfl (by kernel_rfl) (by kernel_rfl) (by kernel_rfl) (fun _ _ _ h => h) (Yields.yieldsIf (Or.inl ⟨by kernel_rfl, ?_⟩)) hS ?_
        rotate_left
        · first | (intro w; go_simp; done) | (intro w; go_simp; with_reducible rfl)
        refine wpAnyH_take (i := 6) (v := ?_) rfl (by kernel_rfl) (by kernel_rfl) (by kernel_rfl) (fun _ _ _ h => h) (Yields.yieldsIf (Or.inl ⟨by kernel_rfl, ?_⟩)) hS ?_
        rotate_left
        · first | (intro w; go_simp; done) | (intro w; go_simp; with_reducible rfl)
        refine wpAnyH_take (i := 7) (v := ?_) rfl (by kernel_rfl) (by kernel_rfl) (by kernel_rfl) (fun _ _ _ h => h) (Yields.yieldsIf (Or.inl ⟨by kernel_rfl, ?_⟩)) hS ?_
        rotate_left
        · first | (intro w; go_simp; done) | (intro w; go_simp; with_reducible rfl)
        refine wpAnyH_take (i := 8) (v := ?_) rfl (by kernel_rfl) (by kernel_rfl) (by kernel_rfl) (fun _ _ _ h => h) (Yields.yieldsIf (Or.inl ⟨by kernel_rfl, ?_⟩)) hS ?_
        rotate_left
        · first | (intro w; go_simp; done) | (intro w; go_simp; with_reducible rfl)
        refine wpAnyH_ready (rs := [9]) (by kernel_rfl) (by simp) ?_
        refine AllReadyH.cons rfl (fun K hK => ?_) AllReadyH.nil
        go_simp
        refine hK.out _ _ ⟨HSF.out 0 _ _ hS.1, HSF.out 1 _ _ hS.2⟩ (fun _ => ?_)
        clear hK K
        refine wpAnyH_ready (rs := [10]) (by kernel_rfl) (by simp) ?_
        refine AllReadyH.cons rfl (fun K hK => ?_) AllReadyH.nil
        go_simp
        refine hK.out _ _ ⟨HSF2.out 0 _ _ _ hS.1, HSF2.out 1 _ _ _ hS.2⟩ (fun _ => ?_)
        clear hK K
        refine wpAnyH_done (by kernel_rfl) ?_ _
        have g0 := HSF2.out 0 (.slice (some ⟨V2.heap.size, 0, none⟩) L1.length L1.length) (.int .i64 (k1 : Int)) _ hS.1
        clear hS c11 f11 c12 f12 c12' HSF HSF2
        generalize ((V3.setCell ⟨W3.heap.size + 1, 0, none⟩ (.slice (some ⟨V2.heap.size, 0, none⟩) L1.length L1.length)).setCell ⟨W3.heap.size + 2, 0, none⟩ (.int .i64 (k1 : Int))) = U3 at HP3 HK3 g0 ⊢
        obtain ⟨g2, hg2⟩ : ∃ g, V2.heap.size = g := ⟨_, rfl⟩
        rw [hg2] at HP3 ⊢
        clear hg2
        have d11 := HP3.out.b11.cell
        have d12 := HP3.out.b12.cell
        by_cases hs : x.o < 4611686018427387904
        · have hown : Calls Tryd.prog 59 #[.slice (some ⟨g2, 0, none⟩) L1.length L1.length, .int .i64 (k1 : Int), .int .u64 x.o] U3 (GivesNew (M.putL L1 k1 (gam x.o.toNat)) (k1 + (gam x.o.toNat).length) U3) := by
            have := putOwn_new (some ⟨g2, 0, none⟩) L1.length L1 k1 x.o.toNat U3 HP3.out.row.row (by omega) HV1.out (by omega)
            rw [show ((x.o.toNat : Nat) : Int) = x.o by omega] at this
            exact this
          rw [HL2.out.1, HL2.out.2] at hown
          have hownI := CallsIn.inRound l' ((callsIn_wide (n := 2)).2 hown)
          clear hown
          obtain ⟨L2, hL2⟩ : ∃ L, M.putL R k (codeE x.key) = L := ⟨_, rfl⟩
          obtain ⟨k2, hk2⟩ : ∃ j, k + (codeE x.key).length = j := ⟨_, rfl⟩
          rw [hL2, hk2] at hownI
          have HN2 := Lib.hid HNX.out
          rw [hL2, hk2] at HN2
          have hcl : (codeE x.key).length ≤ 200 := by
            have := gam_len x.o.toNat (by omega)
            show ((if x.n = 0 then 0 else 1) :: gam x.o.toNat).length ≤ 200
            rw [List.length_cons]; omega
          have hk2b : k2 ≤ 300 := by omega
          obtain ⟨F2, hF2⟩ : ∃ j, k2 / 8 = j := ⟨_, rfl⟩
          obtain ⟨K2, hK2⟩ : ∃ j, k2 % 8 = j := ⟨_, rfl⟩
          rw [hF2, hK2] at HN2
          have hF2i : (k2 : Int) / 8 = (F2 : Int) := by omega
          have hK2i : (k2 : Int) % 8 = (K2 : Int) := by omega
          have hK2t : (k2 : Int).tmod 8 = (K2 : Int) := by rw [Int.tmod_eq_emod_of_nonneg (by omega)]; omega
          have hL2l : F2 ≤ L2.length := by
            have := M.putL_length R k (codeE x.key) HCUT.out.val.1
            rw [hL2] at this
            omega
          have hOl : O.length ≤ 140737489000000 := by
            have h1 := HWL.out.1
            omega
          have HFF2 := Lib.hid hF2
          clear hL2 hk2 hF2 hK2 hcl HNX
          have f11 := HP3.out.b11.frozen
          have f12 := HP3.out.b12.frozen
          gi_wp2_with fail
          refine ⟨trivial, ?_⟩
          refine hownI.mono ?_
          rintro e V5 ⟨rfl, hbk5, hlt5, hb5⟩
          have HP5 := Lib.hid (HP3.out.put (k' := k2) hb5 hbk5 (Nat.le_refl _) hlt5)
          have hY5 := HP3.out.up hb5
          have hg1 := HP3.out.hs1
          have hg3 := HP3.out.hG
          have c11 := hY5.b11.cell
          have f11 := hY5.b11.frozen
          have c12 := hY5.b12.cell
          have f12 := hY5.b12.frozen
          have c9 := hY5.b9.cell
          have f9 := hY5.b9.frozen
          have c12' : ∀ u, (V5.setCell ⟨W3.heap.size + 1, 0, none⟩ u).cell? ⟨W3.heap.size + 2, 0, none⟩ = some (.int .i64 (k1 : Int)) := fun u => (World.cell?_setCell_other _ _ _ _ (fun e => by injection e; omega)).trans c12
          have c9' : ∀ u1 u2, ((V5.setCell ⟨W3.heap.size + 1, 0, none⟩ u1).setCell ⟨W3.heap.size + 2, 0, none⟩ u2).cell? ⟨w1.heap.size, 0, none⟩ = some (.int .i64 f) := fun u1 u2 => (World.cell?_setCell_other _ _ _ _ (fun e => by injection e; omega)).trans ((World.cell?_setCell_other _ _ _ _ (fun e => by injection e; omega)).trans c9)
          have HP6 := Lib.hid (HP5.out.full (F2 : Int))
          have HK6 : Hid (By.Kept (LX w w1.heap.size W3.heap.size) V (((V5.setCell ⟨W3.heap.size + 1, 0, none⟩ (.slice (some ⟨U3.heap.size, 0, none⟩) L2.length L2.length)).setCell ⟨W3.heap.size + 2, 0, none⟩ (.int .i64 (k2 : Int))).setCell ⟨w1.heap.size, 0, none⟩ (.int .i64 (F2 : Int)))) := (((HK3.out.trans (By.Kept.below hb5 (Nat.le_refl _))).setCell (p := ⟨W3.heap.size + 1, 0, none⟩) (.inr (.inr (.inr (.inr (.inr (.inl rfl)))))) _).setCell (p := ⟨W3.heap.size + 2, 0, none⟩) (.inr (.inr (.inr (.inr (.inr (.inr rfl)))))) _).setCell (p := ⟨w1.heap.size, 0, none⟩) (.inr (.inr (.inr (.inl rfl)))) _
          clear hownI HK3 HP3 HP5 hY5 hb5 hbk5 hlt5 d11 d12 g0
          gi_wp2
          generalize (((V5.setCell ⟨W3.heap.size + 1, 0, none⟩ (.slice (some ⟨U3.heap.size, 0, none⟩) L2.length L2.length)).setCell ⟨W3.heap.size + 2, 0, none⟩ (.int .i64 (k2 : Int))).setCell ⟨w1.heap.size, 0, none⟩ (.int .i64 (F2 : Int))) = U6 at HP6 HK6 ⊢
          obtain ⟨g5, hg5⟩ : ∃ g, U3.heap.size = g := ⟨_, rfl⟩
          rw [hg5] at HP6 ⊢
          clear hg5 c11 f11 c12 f12 c9 f9 c12' c9'
          -- region 14
          have hbd : Below U6.heap.size U6 U6.drew := (Below.refl _ U6).drew
          have HPd := Lib.hid (HP6.out.up hbd)
          have HKd : Hid (By.Kept (LX w w1.heap.size W3.heap.size) V U6.drew) := HK6.out.trans (By.Kept.below hbd (Nat.le_refl _))
          clear hbd HP6 HK6
          have hS : U6.drew.cell? ⟨W3.heap.size + 1, 0, none⟩ = some (.slice (some ⟨g5, 0, none⟩) L2.length L2.length) ∧ U6.drew.cell? ⟨w1.heap.size, 0, none⟩ = some (.int .i64 (F2 : Int)) := ⟨HPd.out.b11.cell, HPd.out.b9.cell⟩
          have hhead2 := slice_head (some ⟨g5, 0, none⟩) L2.length L2.length F2 hL2l
          refine region_heldIn (fun W => W.cell? ⟨W3.heap.size + 1, 0, none⟩ = some (.slice (some ⟨g5, 0, none⟩) L2.length L2.length) ∧ W.cell? ⟨w1.heap.size, 0, none⟩ = some (.int .i64 (F2 : Int))) hmx (by kernel_rfl) (fun _ _ h => h) ?_
          generalize U6.drew = Ud at HPd HKd hS ⊢
          refine wpAnyH_take (i := 1) (v := ?_) rfl (by kernel_rfl) (by kernel_rfl) (by kernel_rfl) (fun _ _ _ h => h) (Or.inl ⟨by kernel_rfl, fun W hW => ?_⟩) hS ?_
          rotate_left
          · obtain ⟨f0, f1⟩ := hW
            first | (go_simp; done) | (go_simp; with_reducible rfl)
          refine wpAnyH_take (i := 2) (v := ?_) rfl (by kernel_rfl) (by kernel_rfl) (by kernel_rfl) (fun _ _ _ h => h) (Or.inl ⟨by kernel_rfl, fun W hW => ?_⟩) hS ?_
          rotate_left
          · obtain ⟨f0, f1⟩ := hW
            first | (go_simp; done) | (go_simp; with_reducible rfl)
          refine wpAnyH_take (i := 3) (v := ?_) rfl (by kernel_rfl) (by kernel_rfl) (by kernel_rfl) (fun _ _ _ h => h) (Yields.yieldsIf (Or.inl ⟨by kernel_rfl, ?_⟩)) hS ?_
          rotate_left
          · first | (intro w; go_simp; done) | (intro w; go_simp; with_reducible rfl)
          have d10 := HPd.out.b10.cell
          have hF2l : (L2.take F2).length = F2 := by rw [List.length_take]; omega
          obtain ⟨A7, c7, W7, hap7, ha7⟩ := HPd.out.own.append (some ⟨g5, 0, none⟩) L2.length (L2.take F2) Ud.heap.size (HPd.out.row.take F2).row 38 (by rw [hF2l]; omega) HPd.out.bel.size
          rw [hF2l] at hap7
          have HAP7 := Lib.hid hap7
          have HP7 := Lib.hid (HPd.out.app ha7)
          rw [hF2l] at HP7
          have HK7 : Hid (By.Kept (LX w w1.heap.size W3.heap.size) V (W7.setCell ⟨W3.heap.size, 0, none⟩ (.slice A7 (O.length + F2) c7))) := (HKd.out.trans (ha7.kept.mono (fun _ h => h.elim))).setCell (p := ⟨W3.heap.size, 0, none⟩) (.inr (.inr (.inr (.inr (.inl rfl))))) _
          have bx : ∀ {g : Nat} {t : TypeId} {v : Value}, Boxed Ud g t v → t ≠ 5 → Boxed W7 g t v := fun hb ht => (ha7.oth _ hb.lt (HPd.out.own.ne_box hb ht)).trans hb
          have hS7 : W7.cell? ⟨W3.heap.size + 1, 0, none⟩ = some (.slice (some ⟨g5, 0, none⟩) L2.length L2.length) ∧ W7.cell? ⟨w1.heap.size, 0, none⟩ = some (.int .i64 (F2 : Int)) := ⟨(bx HPd.out.b11 (by decide)).cell, (bx HPd.out.b9 (by decide)).cell⟩
          have e10 := (bx HPd.out.b10 (by decide)).cell
          have z10 := (bx HPd.out.b10 (by decide)).frozen
          have hgG := HPd.out.hG
          have hS8 : ∀ u, (W7.setCell ⟨W3.heap.size, 0, none⟩ u).cell? ⟨W3.heap.size + 1, 0, none⟩ = some (.slice (some ⟨g5, 0, none⟩) L2.length L2.length) ∧ (W7.setCell ⟨W3.heap.size, 0, none⟩ u).cell? ⟨w1.heap.size, 0, none⟩ = some (.int .i64 (F2 : Int)) := fun u => ⟨(World.cell?_setCell_other _ _ _ _ (fun e => by injection e; omega)).trans hS7.1, (World.cell?_setCell_other _ _ _ _ (fun e => by injection e; omega)).trans hS7.2⟩
          clear hap7 ha7 bx HPd HKd
          refine wpAnyH_ready (rs := [0]) (by kernel_rfl) (by simp) ?_
          refine AllReadyH.cons rfl (fun K hK => ?_) AllReadyH.nil
          go_simp
          refine hK.out _ _ hS (fun _ => ?_)
          clear hK K hS d10
          refine wpAnyH_ready (rs := [4]) (by kernel_rfl) (by simp) ?_
          refine AllReadyH.cons rfl (fun K hK => ?_) AllReadyH.nil
          refine oper_append_run _ _ _ _ rfl _ _ rfl rfl HAP7.out ?_
          clear HAP7
          go_simp
          refine hK.out _ _ hS7 (fun _ => ?_)
          clear hK K hS7
          refine wpAnyH_ready (rs := [5]) (by kernel_rfl) (by simp) ?_
          refine AllReadyH.cons rfl (fun K hK => ?_) AllReadyH.nil
          go_simp
          refine hK.out _ _ (hS8 _) (fun _ => ?_)
          clear hK K hS8 e10 z10
          refine wpAnyH_done (by kernel_rfl) ?_ _
          generalize W7.setCell ⟨W3.heap.size, 0, none⟩ (.slice A7 (O.length + F2) c7) = U8 at HP7 HK7 ⊢
          gi_wp2
          -- region 15
          have hbd : Below U8.heap.size U8 U8.drew := (Below.refl _ U8).drew
          have HPe := Lib.hid (HP7.out.up hbd)
          have HKe : Hid (By.Kept (LX w w1.heap.size W3.heap.size) V U8.drew) := HK7.out.trans (By.Kept.below hbd (Nat.le_refl _))
          clear hbd HP7 HK7
          have hS : U8.drew.cell? ⟨w1.heap.size, 0, none⟩ = some (.int .i64 (F2 : Int)) := HPe.out.b9.cell
          have htail2 := slice_tail (some ⟨g5, 0, none⟩) L2.length L2.length F2 hL2l
          refine region_heldIn (fun W => W.cell? ⟨w1.heap.size, 0, none⟩ = some (.int .i64 (F2 : Int))) hmx (by kernel_rfl) (fun _ _ h => h) ?_
          generalize U8.drew = Ue at HPe HKe hS ⊢
          have HP9 := Lib.hid (HPe.out.cut F2 K2)
          obtain ⟨TA, hTA⟩ : ∃ T, tailA (some ⟨g5, 0, none⟩) L2.length F2 = T := ⟨_, rfl⟩
          rw [hTA] at HP9 htail2
          clear hTA
          have HFIN : Hid (By.Kept (LX w w1.heap.size W3.heap.size) V ((Ue.setCell ⟨W3.heap.size + 1, 0, none⟩ (.slice TA (L2.length - F2) (L2.length - F2))).setCell ⟨W3.heap.size + 2, 0, none⟩ (.int .i64 (K2 : Int))) ∧ (x.n = 0 ∨ x.n = 2) ∧ LB w w1.heap.size W3.heap.size l n (((q ++ [x]).map It.key).flatMap codeE) ((Ue.setCell ⟨W3.heap.size + 1, 0, none⟩ (.slice TA (L2.length - F2) (L2.length - F2))).setCell ⟨W3.heap.size + 2, 0, none⟩ (.int .i64 (K2 : Int))) ∧ ((q ++ [x]).map It.key).all smallK = true) :=
            ⟨(HKe.out.setCell (p := ⟨W3.heap.size + 1, 0, none⟩) (.inr (.inr (.inr (.inr (.inr (.inl rfl)))))) _).setCell (p := ⟨W3.heap.size + 2, 0, none⟩) (.inr (.inr (.inr (.inr (.inr (.inr rfl)))))) _, HXN.out, ⟨_, _, _, _, _, _, _, _, HP9.out, by rw [List.map_append, List.flatMap_append]; simpa using HN2.out⟩, by rw [List.map_append, List.all_append, HSM.out]; simp [smallK, It.key, hs]⟩
          have c11 := HPe.out.b11.cell
          have f11 := HPe.out.b11.frozen
          have c12 := HPe.out.b12.cell
          have f12 := HPe.out.b12.frozen
          have hgG2 := HPe.out.hG
          have c12' : ∀ u, (Ue.setCell ⟨W3.heap.size + 1, 0, none⟩ u).cell? ⟨W3.heap.size + 2, 0, none⟩ = some (.int .i64 (k2 : Int)) := fun u => (World.cell?_setCell_other _ _ _ _ (fun e => by injection e; omega)).trans c12
          have hS1 : ∀ u, (Ue.setCell ⟨W3.heap.size + 1, 0, none⟩ u).cell? ⟨w1.heap.size, 0, none⟩ = some (.int .i64 (F2 : Int)) := fun u => (World.cell?_setCell_other _ _ _ _ (fun e => by injection e; omega)).trans hS
          have hS2 : ∀ u u2, ((Ue.setCell ⟨W3.heap.size + 1, 0, none⟩ u).setCell ⟨W3.heap.size + 2, 0, none⟩ u2).cell? ⟨w1.heap.size, 0, none⟩ = some (.int .i64 (F2 : Int)) := fun u u2 => (World.cell?_setCell_other _ _ _ _ (fun e => by injection e; omega)).trans (hS1 u)
          clear HP9 HPe HKe
          refine wpAnyH_take (i := 1) (v := ?_) rfl (by kernel_rfl) (by kernel_rfl) (by kernel_rfl) (fun _ _ _ h => h) (Or.inl ⟨by kernel_rfl, fun W hW => ?_⟩) hS ?_
          rotate_left
          · skip
            first | (go_simp; done) | (go_simp; with_reducible rfl)
          refine wpAnyH_ready (rs := [0, 3]) (by kernel_rfl) (by simp) ?_
          refine AllReadyH.cons rfl (fun K hK => ?_) (AllReadyH.cons rfl (fun K hK => ?_) AllReadyH.nil)
          · skip
            go_simp
            refine hK.out _ _ hS (fun _ => ?_)
            clear hK K
            refine wpAnyH_take (i := 2) (v := ?_) rfl (by kernel_rfl) (by kernel_rfl) (by kernel_rfl) (fun _ _ _ h => h) (Yields.yieldsIf (Or.inl ⟨by kernel_rfl, ?_⟩)) hS ?_
            rotate_left
            · first | (intro w; go_simp; done) | (intro w; go_simp; with_reducible rfl)
            refine wpAnyH_ready (rs := [3, 5]) (by kernel_rfl) (by simp) ?_
            refine AllReadyH.cons rfl (fun K hK => ?_) (AllReadyH.cons rfl (fun K hK => ?_) AllReadyH.nil)
            · skip
              go_simp
              refine hK.out _ _ hS (fun _ => ?_)
              clear hK K
              refine wpAnyH_take (i := 4) (v := ?_) rfl (by kernel_rfl) (by kernel_rfl) (by kernel_rfl) (fun _ _ _ h => h) (Yields.yieldsIf (Or.inl ⟨by kernel_rfl, ?_⟩)) hS ?_
              rotate_left
              · first | (intro w; go_simp; done) | (intro w; go_simp; with_reducible rfl)
              refine wpAnyH_ready (rs := [5]) (by kernel_rfl) (by simp) ?_
              refine AllReadyH.cons rfl (fun K hK => ?_) AllReadyH.nil
              go_simp
              refine hK.out _ _ (hS1 _) (fun _ => ?_)
              clear hK K
              refine wpAnyH_ready (rs := [6]) (by kernel_rfl) (by simp) ?_
              refine AllReadyH.cons rfl (fun K hK => ?_) AllReadyH.nil
              go_simp
              refine hK.out _ _ (hS2 _ _) (fun _ => ?_)
              clear hK K
              refine wpAnyH_done (by kernel_rfl) ?_ _
              gi_wp2
              exact HFIN.out
            · skip
              go_simp
              refine hK.out _ _ (hS1 _) (fun _ => ?_)
              clear hK K
              refine wpAnyH_ready (rs := [3]) (by kernel_rfl) (by simp) ?_
              refine AllReadyH.cons rfl (fun K hK => ?_) AllReadyH.nil
              go_simp
              refine hK.out _ _ (hS1 _) (fun _ => ?_)
              clear hK K
              refine wpAnyH_take (i := 4) (v := ?_) rfl (by kernel_rfl) (by kernel_rfl) (by kernel_rfl) (fun _ _ _ h => h) (Yields.yieldsIf (Or.inl ⟨by kernel_rfl, ?_⟩)) (hS1 _) ?_
              rotate_left
              · first | (intro w; go_simp; done) | (intro w; go_simp; with_reducible rfl)
              refine wpAnyH_ready (rs := [6]) (by kernel_rfl) (by simp) ?_
              refine AllReadyH.cons rfl (fun K hK => ?_) AllReadyH.nil
              go_simp
              refine hK.out _ _ (hS2 _ _) (fun _ => ?_)
              clear hK K
              refine wpAnyH_done (by kernel_rfl) ?_ _
              gi_wp2
              exact HFIN.out
          · skip
            go_simp
            refine hK.out _ _ hS (fun _ => ?_)
            clear hK K
            refine wpAnyH_take (i := 4) (v := ?_) rfl (by kernel_rfl) (by kernel_rfl) (by kernel_rfl) (fun _ _ _ h => h) (Yields.yieldsIf (Or.inl ⟨by kernel_rfl, ?_⟩)) hS ?_
            rotate_left
            · first | (intro w; go_simp; done) | (intro w; go_simp; with_reducible rfl)
            refine wpAnyH_ready (rs := [0]) (by kernel_rfl) (by simp) ?_
            refine AllReadyH.cons rfl (fun K hK => ?_) AllReadyH.nil
            go_simp
            refine hK.out _ _ hS (fun _ => ?_)
            clear hK K
            refine wpAnyH_take (i := 2) (v := ?_) rfl (by kernel_rfl) (by kernel_rfl) (by kernel_rfl) (fun _ _ _ h => h) (Yields.yieldsIf (Or.inl ⟨by kernel_rfl, ?_⟩)) hS ?_
            rotate_left
            · first | (intro w; go_simp; done) | (intro w; go_simp; with_reducible rfl)
            refine wpAnyH_ready (rs := [5]) (by kernel_rfl) (by simp) ?_
            refine AllReadyH.cons rfl (fun K hK => ?_) AllReadyH.nil
            go_simp
            refine hK.out _ _ (hS1 _) (fun _ => ?_)
            clear hK K
            refine wpAnyH_ready (rs := [6]) (by kernel_rfl) (by simp) ?_
            refine AllReadyH.cons rfl (fun K hK => ?_) AllReadyH.nil
            go_simp
            refine hK.out _ _ (hS2 _ _) (fun _ => ?_)
            clear hK K
            refine wpAnyH_done (by kernel_rfl) ?_ _
            gi_wp2
            exact HFIN.out
        · have hown := putOwn_no (some ⟨g2, 0, none⟩) L1.length L1 (k1 : Int) x.o U3 HP3.out.row.row (by omega) (by omega) (by omega) (fun h => hs h.2)
          have hownI := CallsIn.inRound l' ((callsIn_wide (n := 2)).2 hown)
          clear hown
          have hg1 := HP3.out.hs1
          have hg2 := HP3.out.hG
          have f11 := HP3.out.b11.frozen
          have f12 := HP3.out.b12.frozen
          have c6 := HP3.out.b6.cell
          have f6 := HP3.out.b6.frozen
          have c7 := HP3.out.b7.cell
          have f7 := HP3.out.b7.frozen
          have c8 := HP3.out.b8.cell
          have f8 := HP3.out.b8.frozen
          have c12' : ∀ u, (U3.setCell ⟨W3.heap.size + 1, 0, none⟩ u).cell? ⟨W3.heap.size + 2, 0, none⟩ = some (.int .i64 (k1 : Int)) := fun u => (World.cell?_setCell_other _ _ _ _ (fun e => by injection e; omega)).trans d12
          have c6' : ∀ u1 u2, ((U3.setCell ⟨W3.heap.size + 1, 0, none⟩ u1).setCell ⟨W3.heap.size + 2, 0, none⟩ u2).cell? ⟨w.heap.size + 1, 0, none⟩ = some (.slice none 0 0) := fun u1 u2 => (World.cell?_setCell_other _ _ _ _ (fun e => by injection e; omega)).trans ((World.cell?_setCell_other _ _ _ _ (fun e => by injection e; omega)).trans c6)
          have c7' : ∀ u1 u2 u3, (((U3.setCell ⟨W3.heap.size + 1, 0, none⟩ u1).setCell ⟨W3.heap.size + 2, 0, none⟩ u2).setCell ⟨w.heap.size + 1, 0, none⟩ u3).cell? ⟨w.heap.size + 2, 0, none⟩ = some (.int .i64 0) := fun u1 u2 u3 => (World.cell?_setCell_other _ _ _ _ (fun e => by injection e; omega)).trans ((World.cell?_setCell_other _ _ _ _ (fun e => by injection e; omega)).trans ((World.cell?_setCell_other _ _ _ _ (fun e => by injection e; omega)).trans c7))
          have c8' : ∀ u1 u2 u3 u4, ((((U3.setCell ⟨W3.heap.size + 1, 0, none⟩ u1).setCell ⟨W3.heap.size + 2, 0, none⟩ u2).setCell ⟨w.heap.size + 1, 0, none⟩ u3).setCell ⟨w.heap.size + 2, 0, none⟩ u4).cell? ⟨w.heap.size + 3, 0, none⟩ = some (.int .i64 0) := fun u1 u2 u3 u4 => (World.cell?_setCell_other _ _ _ _ (fun e => by injection e; omega)).trans ((World.cell?_setCell_other _ _ _ _ (fun e => by injection e; omega)).trans ((World.cell?_setCell_other _ _ _ _ (fun e => by injection e; omega)).trans ((World.cell?_setCell_other _ _ _ _ (fun e => by injection e; omega)).trans c8)))
          have HNO : Hid (By.Kept (LX w w1.heap.size W3.heap.size) V (((((U3.setCell ⟨W3.heap.size + 1, 0, none⟩ (.slice none 0 0)).setCell ⟨W3.heap.size + 2, 0, none⟩ (.int .i64 0)).setCell ⟨w.heap.size + 1, 0, none⟩ (.slice none 0 0)).setCell ⟨w.heap.size + 2, 0, none⟩ (.int .i64 0)).setCell ⟨w.heap.size + 3, 0, none⟩ (.int .i64 50)) ∧ (Boxed (((((U3.setCell ⟨W3.heap.size + 1, 0, none⟩ (.slice none 0 0)).setCell ⟨W3.heap.size + 2, 0, none⟩ (.int .i64 0)).setCell ⟨w.heap.size + 1, 0, none⟩ (.slice none 0 0)).setCell ⟨w.heap.size + 2, 0, none⟩ (.int .i64 0)).setCell ⟨w.heap.size + 3, 0, none⟩ (.int .i64 50)) (w.heap.size + 1) 38 (.slice none 0 0) ∧ Boxed (((((U3.setCell ⟨W3.heap.size + 1, 0, none⟩ (.slice none 0 0)).setCell ⟨W3.heap.size + 2, 0, none⟩ (.int .i64 0)).setCell ⟨w.heap.size + 1, 0, none⟩ (.slice none 0 0)).setCell ⟨w.heap.size + 2, 0, none⟩ (.int .i64 0)).setCell ⟨w.heap.size + 3, 0, none⟩ (.int .i64 50)) (w.heap.size + 2) 3 (.int .i64 0) ∧ Boxed (((((U3.setCell ⟨W3.heap.size + 1, 0, none⟩ (.slice none 0 0)).setCell ⟨W3.heap.size + 2, 0, none⟩ (.int .i64 0)).setCell ⟨w.heap.size + 1, 0, none⟩ (.slice none 0 0)).setCell ⟨w.heap.size + 2, 0, none⟩ (.int .i64 0)).setCell ⟨w.heap.size + 3, 0, none⟩ (.int .i64 50)) (w.heap.size + 3) 26 (.int .i64 50)) ∧ Below w.heap.size w (((((U3.setCell ⟨W3.heap.size + 1, 0, none⟩ (.slice none 0 0)).setCell ⟨W3.heap.size + 2, 0, none⟩ (.int .i64 0)).setCell ⟨w.heap.size + 1, 0, none⟩ (.slice none 0 0)).setCell ⟨w.heap.size + 2, 0, none⟩ (.int .i64 0)).setCell ⟨w.heap.size + 3, 0, none⟩ (.int .i64 50))) := by
            refine ⟨((((HK3.out.setCell (p := ⟨W3.heap.size + 1, 0, none⟩) (.inr (.inr (.inr (.inr (.inr (.inl rfl)))))) _).setCell (p := ⟨W3.heap.size + 2, 0, none⟩) (.inr (.inr (.inr (.inr (.inr (.inr rfl)))))) _).setCell (p := ⟨w.heap.size + 1, 0, none⟩) (.inl rfl) _).setCell (p := ⟨w.heap.size + 2, 0, none⟩) (.inr (.inl rfl)) _).setCell (p := ⟨w.heap.size + 3, 0, none⟩) (.inr (.inr (.inl rfl))) _, ⟨?_, ?_, ?_⟩, ?_⟩
            · exact boxed_setO (boxed_setO (Boxed.set _ (boxed_setO (boxed_setO HP3.out.b6 (by omega) _) (by omega) _)) (by omega) _) (by omega) _
            · exact boxed_setO (Boxed.set _ (boxed_setO (boxed_setO (boxed_setO HP3.out.b7 (by omega) _) (by omega) _) (by omega) _)) (by omega) _
            · exact Boxed.set _ (boxed_setO (boxed_setO (boxed_setO (boxed_setO HP3.out.b8 (by omega) _) (by omega) _) (by omega) _) (by omega) _)
            · exact ((((HP3.out.bel.setCell (p := ⟨W3.heap.size + 1, 0, none⟩) (by show _ ≤ _ + 1; omega) _).setCell (p := ⟨W3.heap.size + 2, 0, none⟩) (by show _ ≤ _ + 2; omega) _).setCell (p := ⟨w.heap.size + 1, 0, none⟩) (by show _ ≤ _ + 1; omega) _).setCell (p := ⟨w.heap.size + 2, 0, none⟩) (by show _ ≤ _ + 2; omega) _).setCell (p := ⟨w.heap.size + 3, 0, none⟩) (by show _ ≤ _ + 3; omega) _
          have HBADX : Hid (((q ++ [x]).map It.key).all smallK = false) := by
            show _ = _
            rw [List.map_append, List.all_append]
            simp [smallK, It.key, hs]
          gi_wp2_with fail
          refine ⟨trivial, ?_⟩
          refine hownI.mono ?_
          rintro e w' ⟨rfl, rfl⟩
          clear hownI HK3 HP3
          gi_wp2
          exact ⟨HNO.out.1, rfl, HNO.out.2.1, HNO.out.2.2, HBADX.out⟩
    · skip
      go_simp
      go_wp2_with (go_at_call 58; refine (HKIND.out Vd).mono ?_; rintro e V2 ⟨rfl, hb2⟩)
      have HY2 := Lib.hid (HYd.out.up hb2)
      have HK2 : Hid (By.Kept (LX w w1.heap.size W3.heap.size) V V2) := HK0.out.trans (By.Kept.below hb2 (Nat.le_refl _))
      have hS3 : V2.cell? ⟨Bx, 0, none⟩ = some (.int .i64 x.o) ∧ V2.cell? ⟨Bx, 1, none⟩ = some (.slice x.A x.n x.c) := ⟨(hb2.cell (World.block_lt_of_cell? Vd _ hS.1)).trans hS.1, (hb2.cell (World.block_lt_of_cell? Vd _ hS.2)).trans hS.2⟩
      clear hb2 d11 d12 HYd HK0 hS
      have d11 := HY2.out.b11.cell
      have d12 := HY2.out.b12.cell
      refine hK.out _ _ hS3 (fun hS => ?_)
      clear hK K hS3
      refine wpAnyH_ready (rs := [0, 1]) (by kernel_rfl) (by simp) ?_
      refine AllReadyH.cons rfl (fun K hK => ?_) (AllReadyH.cons rfl (fun K hK => ?_) AllReadyH.nil)
      · skip
        go_simp
        refine hK.out _ _ hS (fun hS => ?_)
        clear hK K
        refine wpAnyH_ready (rs := [1]) (by kernel_rfl) (by simp) ?_
        refine AllReadyH.cons rfl (fun K hK => ?_) AllReadyH.nil
        go_simp
        refine hK.out _ _ hS (fun hS => ?_)
        clear hK K
        have HK2' := Lib.hid HK2.out
        refine wpAnyH_ready (rs := [4]) (by kernel_rfl) (by simp) ?_
        refine AllReadyH.cons rfl (fun K hK => ?_) AllReadyH.nil
        go_simp
        go_wp2_with (go_at_call 57; refine (HPUT.out V2 HY2.out.row.row).mono ?_; rintro e V3 ⟨rfl, hbk3, hlt3, hb3⟩)
        have HP3 := Lib.hid (HY2.out.put (k' := k1) hb3 hbk3 (Nat.le_refl _) hlt3)
        have hY3 := HY2.out.up hb3
        have c11 := hY3.b11.cell
        have f11 := hY3.b11.frozen
        have c12 := hY3.b12.cell
        have f12 := hY3.b12.frozen
        have hS3 : V3.cell? ⟨Bx, 0, none⟩ = some (.int .i64 x.o) ∧ V3.cell? ⟨Bx, 1, none⟩ = some (.slice x.A x.n x.c) := ⟨(hb3.cell (World.block_lt_of_cell? V2 _ hS.1)).trans hS.1, (hb3.cell (World.block_lt_of_cell? V2 _ hS.2)).trans hS.2⟩
        have HK3 : Hid (By.Kept (LX w w1.heap.size W3.heap.size) V ((V3.setCell ⟨W3.heap.size + 1, 0, none⟩ (.slice (some ⟨V2.heap.size, 0, none⟩) L1.length L1.length)).setCell ⟨W3.heap.size + 2, 0, none⟩ (.int .i64 (k1 : Int)))) := ((HK2.out.trans (By.Kept.below hb3 (Nat.le_refl _))).setCell (p := ⟨W3.heap.size + 1, 0, none⟩) (.inr (.inr (.inr (.inr (.inr (.inl rfl)))))) _).setCell (p := ⟨W3.heap.size + 2, 0, none⟩) (.inr (.inr (.inr (.inr (.inr (.inr rfl)))))) _
        have HSF : Hid (∀ (j : Nat) (u1 : Value) (z : Value), V3.cell? ⟨Bx, j, none⟩ = some z → (V3.setCell ⟨W3.heap.size + 1, 0, none⟩ u1).cell? ⟨Bx, j, none⟩ = some z) := fun j u1 z h => (World.cell?_setCell_other _ _ _ _ (fun e => by injection e; have := HBXG.out; omega)).trans h
        have HSF2 : Hid (∀ (j : Nat) (u1 u2 : Value) (z : Value), V3.cell? ⟨Bx, j, none⟩ = some z → ((V3.setCell ⟨W3.heap.size + 1, 0, none⟩ u1).setCell ⟨W3.heap.size + 2, 0, none⟩ u2).cell? ⟨Bx, j, none⟩ = some z) := fun j u1 u2 z h => (World.cell?_setCell_other _ _ _ _ (fun e => by injection e; have := HBXG.out; omega)).trans (HSF.out j u1 z h)
        have c12' : ∀ u, (V3.setCell ⟨W3.heap.size + 1, 0, none⟩ u).cell? ⟨W3.heap.size + 2, 0, none⟩ = some (.int .i64 (k : Int)) := fun u => (World.cell?_setCell_other _ _ _ _ (fun e => by injection e; omega)).trans c12
        clear d11 d12 hS hb3 hbk3 hlt3 hY3 HK2 HK2' HY2
        refine hK.out _ _ hS3 (fun hS => ?_)
        clear hK K hS3
        refine wpAnyH_take (i := 5) (v := ?_) rfl (by kernel_rfl) (by kernel_rfl) (by kernel_rfl) (fun _ _ _ h => h) (Yields.yieldsIf (Or.inl ⟨by kernel_rfl, ?_⟩)) hS ?_
        rotate_left
        · first | (intro w; go_simp; done) | (intro w; go_simp; with_reducible rfl)
        refine wpAnyH_take (i := 6) (v := ?_) rfl (by kernel_rfl) (by kernel_rfl) (by kernel_rfl) (fun _ _ _ h => h) (Yields.yieldsIf (Or.inl ⟨by kernel_rfl, ?_⟩)) hS ?_
        rotate_left
        · first | (intro w; go_simp; done) | (intro w; go_simp; with_reducible rfl)
        refine wpAnyH_take (i := 7) (v := ?_) rfl (by kernel_rfl) (by kernel_rfl) (by kernel_rfl) (fun _ _ _ h => h) (Yields.yieldsIf (Or.inl ⟨by kernel_rfl, ?_⟩)) hS ?_
        rotate_left
        · first | (intro w; go_simp; done) | (intro w; go_simp; with_reducible rfl)
        refine wpAnyH_take (i := 8) (v := ?_) rfl (by kernel_rfl) (by kernel_rfl) (by kernel_rfl) (fun _ _ _ h => h) (Yields.yieldsIf (Or.inl ⟨by kernel_rfl, ?_⟩)) hS ?_
        rotate_left
        · first | (intro w; go_simp; done) | (intro w; go_simp; with_reducible rfl)
        refine wpAnyH_ready (rs := [9]) (by kernel_rfl) (by simp) ?_
        refine AllReadyH.cons rfl (fun K hK => ?_) AllReadyH.nil
        go_simp
        refine hK.out _ _ ⟨HSF.out 0 _ _ hS.1, HSF.out 1 _ _ hS.2⟩ (fun _ => ?_)
        clear hK K
        refine wpAnyH_ready (rs := [10]) (by kernel_rfl) (by simp) ?_
        refine AllReadyH.cons rfl (fun K hK => ?_) AllReadyH.nil
        go_simp
        refine hK.out _ _ ⟨HSF2.out 0 _ _ _ hS.1, HSF2.out 1 _ _ _ hS.2⟩ (fun _ => ?_)
        clear hK K
        refine wpAnyH_done (by kernel_rfl) ?_ _
        have g0 := HSF2.out 0 (.slice (some ⟨V2.heap.size, 0, none⟩) L1.length L1.length) (.int .i64 (k1 : Int)) _ hS.1
        clear hS c11 f11 c12 f12 c12' HSF HSF2
        generalize ((V3.setCell ⟨W3.heap.size + 1, 0, none⟩ (.slice (some ⟨V2.heap.size, 0, none⟩) L1.length L1.length)).setCell ⟨W3.heap.size + 2, 0, none⟩ (.int .i64 (k1 : Int))) = U3 at HP3 HK3 g0 ⊢
        obtain ⟨g2, hg2⟩ : ∃ g, V2.heap.size = g := ⟨_, rfl⟩
        rw [hg2] at HP3 ⊢
        clear hg2
        have d11 := HP3.out.b11.cell
        have d12 := HP3.out.b12.cell
        by_cases hs : x.o < 4611686018427387904
        · have hown : Calls Tryd.prog 59 #[.slice (some ⟨g2, 0, none⟩) L1.length L1.length, .int .i64 (k1 : Int), .int .u64 x.o] U3 (GivesNew (M.putL L1 k1 (gam x.o.toNat)) (k1 + (gam x.o.toNat).length) U3) := by
            have := putOwn_new (some ⟨g2, 0, none⟩) L1.length L1 k1 x.o.toNat U3 HP3.out.row.row (by omega) HV1.out (by omega)
            rw [show ((x.o.toNat : Nat) : Int) = x.o by omega] at this
            exact this
          rw [HL2.out.1, HL2.out.2] at hown
          have hownI := CallsIn.inRound l' ((callsIn_wide (n := 2)).2 hown)
          clear hown
          obtain ⟨L2, hL2⟩ : ∃ L, M.putL R k (codeE x.key) = L := ⟨_, rfl⟩
          obtain ⟨k2, hk2⟩ : ∃ j, k + (codeE x.key).length = j := ⟨_, rfl⟩
          rw [hL2, hk2] at hownI
          have HN2 := Lib.hid HNX.out
          rw [hL2, hk2] at HN2
          have hcl : (codeE x.key).length ≤ 200 := by
            have := gam_len x.o.toNat (by omega)
            show ((if x.n = 0 then 0 else 1) :: gam x.o.toNat).length ≤ 200
            rw [List.length_cons]; omega
          have hk2b : k2 ≤ 300 := by omega
          obtain ⟨F2, hF2⟩ : ∃ j, k2 / 8 = j := ⟨_, rfl⟩
          obtain ⟨K2, hK2⟩ : ∃ j, k2 % 8 = j := ⟨_, rfl⟩
          rw [hF2, hK2] at HN2
          have hF2i : (k2 : Int) / 8 = (F2 : Int) := by omega
          have hK2i : (k2 : Int) % 8 = (K2 : Int) := by omega
          have hK2t : (k2 : Int).tmod 8 = (K2 : Int) := by rw [Int.tmod_eq_emod_of_nonneg (by omega)]; omega
          have hL2l : F2 ≤ L2.length := by
            have := M.putL_length R k (codeE x.key) HCUT.out.val.1
            rw [hL2] at this
            omega
          have hOl : O.length ≤ 140737489000000 := by
            have h1 := HWL.out.1
            omega
          have HFF2 := Lib.hid hF2
          clear hL2 hk2 hF2 hK2 hcl HNX
          have f11 := HP3.out.b11.frozen
          have f12 := HP3.out.b12.frozen
          gi_wp2_with fail
          refine ⟨trivial, ?_⟩
          refine hownI.mono ?_
          rintro e V5 ⟨rfl, hbk5, hlt5, hb5⟩
          have HP5 := Lib.hid (HP3.out.put (k' := k2) hb5 hbk5 (Nat.le_refl _) hlt5)
          have hY5 := HP3.out.up hb5
          have hg1 := HP3.out.hs1
          have hg3 := HP3.out.hG
          have c11 := hY5.b11.cell
          have f11 := hY5.b11.frozen
          have c12 := hY5.b12.cell
          have f12 := hY5.b12.frozen
          have c9 := hY5.b9.cell
          have f9 := hY5.b9.frozen
          have c12' : ∀ u, (V5.setCell ⟨W3.heap.size + 1, 0, none⟩ u).cell? ⟨W3.heap.size + 2, 0, none⟩ = some (.int .i64 (k1 : Int)) := fun u => (World.cell?_setCell_other _ _ _ _ (fun e => by injection e; omega)).trans c12
          have c9' : ∀ u1 u2, ((V5.setCell ⟨W3.heap.size + 1, 0, none⟩ u1).setCell ⟨W3.heap.size + 2, 0, none⟩ u2).cell? ⟨w1.heap.size, 0, none⟩ = some (.int .i64 f) := fun u1 u2 => (World.cell?_setCell_other _ _ _ _ (fun e => by injection e; omega)).trans ((World.cell?_setCell_other _ _ _ _ (fun e => by injection e; omega)).trans c9)
          have HP6 := Lib.hid (HP5.out.full (F2 : Int))
          have HK6 : Hid (By.Kept (LX w w1.heap.size W3.heap.size) V (((V5.setCell ⟨W3.heap.size + 1, 0, none⟩ (.slice (some ⟨U3.heap.size, 0, none⟩) L2.length L2.length)).setCell ⟨W3.heap.size + 2, 0, none⟩ (.int .i64 (k2 : Int))).setCell ⟨w1.heap.size, 0, none⟩ (.int .i64 (F2 : Int)))) := (((HK3.out.trans (By.Kept.below hb5 (Nat.le_refl _))).setCell (p := ⟨W3.heap.size + 1, 0, none⟩) (.inr (.inr (.inr (.inr (.inr (.inl rfl)))))) _).setCell (p := ⟨W3.heap.size + 2, 0, none⟩) (.inr (.inr (.inr (.inr (.inr (.inr rfl)))))) _).setCell (p := ⟨w1.heap.size, 0, none⟩) (.inr (.inr (.inr (.inl rfl)))) _
          clear hownI HK3 HP3 HP5 hY5 hb5 hbk5 hlt5 d11 d12 g0
          gi_wp2
          generalize (((V5.setCell ⟨W3.heap.size + 1, 0, none⟩ (.slice (some ⟨U3.heap.size, 0, none⟩) L2.length L2.length)).setCell ⟨W3.heap.size + 2, 0, none⟩ (.int .i64 (k2 : Int))).setCell ⟨w1.heap.size, 0, none⟩ (.int .i64 (F2 : Int))) = U6 at HP6 HK6 ⊢
          obtain ⟨g5, hg5⟩ : ∃ g, U3.heap.size = g := ⟨_, rfl⟩
          rw [hg5] at HP6 ⊢
          clear hg5 c11 f11 c12 f12 c9 f9 c12' c9'
          -- region 14
          have hbd : Below U6.heap.size U6 U6.drew := (Below.refl _ U6).drew
          have HPd := Lib.hid (HP6.out.up hbd)
          have HKd : Hid (By.Kept (LX w w1.heap.size W3.heap.size) V U6.drew) := HK6.out.trans (By.Kept.below hbd (Nat.le_refl _))
          clear hbd HP6 HK6
          have hS : U6.drew.cell? ⟨W3.heap.size + 1, 0, none⟩ = some (.slice (some ⟨g5, 0, none⟩) L2.length L2.length) ∧ U6.drew.cell? ⟨w1.heap.size, 0, none⟩ = some (.int .i64 (F2 : Int)) := ⟨HPd.out.b11.cell, HPd.out.b9.cell⟩
          have hhead2 := slice_head (some ⟨g5, 0, none⟩) L2.length L2.length F2 hL2l
          refine region_heldIn (fun W => W.cell? ⟨W3.heap.size + 1, 0, none⟩ = some (.slice (some ⟨g5, 0, none⟩) L2.length L2.length) ∧ W.cell? ⟨w1.heap.size, 0, none⟩ = some (.int .i64 (F2 : Int))) hmx (by kernel_rfl) (fun _ _ h => h) ?_
          generalize U6.drew = Ud at HPd HKd hS ⊢
          refine wpAnyH_take (i := 1) (v := ?_) rfl (by kernel_rfl) (by kernel_rfl) (by kernel_rfl) (fun _ _ _ h => h) (Or.inl ⟨by kernel_rfl, fun W hW => ?_⟩) hS ?_
          rotate_left
          · obtain ⟨f0, f1⟩ := hW
            first | (go_simp; done) | (go_simp; with_reducible rfl)
          refine wpAnyH_take (i := 2) (v := ?_) rfl (by kernel_rfl) (by kernel_rfl) (by kernel_rfl) (fun _ _ _ h => h) (Or.inl ⟨by kernel_rfl, fun W hW => ?_⟩) hS ?_
          rotate_left
          · obtain ⟨f0, f1⟩ := hW
            first | (go_simp; done) | (go_simp; with_reducible rfl)
          refine wpAnyH_take (i := 3) (v := ?_) rfl (by kernel_rfl) (by kernel_rfl) (by kernel_rfl) (fun _ _ _ h => h) (Yields.yieldsIf (Or.inl ⟨by kernel_rfl, ?_⟩)) hS ?_
          rotate_left
          · first | (intro w; go_simp; done) | (intro w; go_simp; with_reducible rfl)
          have d10 := HPd.out.b10.cell
          have hF2l : (L2.take F2).length = F2 := by rw [List.length_take]; omega
          obtain ⟨A7, c7, W7, hap7, ha7⟩ := HPd.out.own.append (some ⟨g5, 0, none⟩) L2.length (L2.take F2) Ud.heap.size (HPd.out.row.take F2).row 38 (by rw [hF2l]; omega) HPd.out.bel.size
          rw [hF2l] at hap7
          have HAP7 := Lib.hid hap7
          have HP7 := Lib.hid (HPd.out.app ha7)
          rw [hF2l] at HP7
          have HK7 : Hid (By.Kept (LX w w1.heap.size W3.heap.size) V (W7.setCell ⟨W3.heap.size, 0, none⟩ (.slice A7 (O.length + F2) c7))) := (HKd.out.trans (ha7.kept.mono (fun _ h => h.elim))).setCell (p := ⟨W3.heap.size, 0, none⟩) (.inr (.inr (.inr (.inr (.inl rfl))))) _
          have bx : ∀ {g : Nat} {t : TypeId} {v : Value}, Boxed Ud g t v → t ≠ 5 → Boxed W7 g t v := fun hb ht => (ha7.oth _ hb.lt (HPd.out.own.ne_box hb ht)).trans hb
          have hS7 : W7.cell? ⟨W3.heap.size + 1, 0, none⟩ = some (.slice (some ⟨g5, 0, none⟩) L2.length L2.length) ∧ W7.cell? ⟨w1.heap.size, 0, none⟩ = some (.int .i64 (F2 : Int)) := ⟨(bx HPd.out.b11 (by decide)).cell, (bx HPd.out.b9 (by decide)).cell⟩
          have e10 := (bx HPd.out.b10 (by decide)).cell
          have z10 := (bx HPd.out.b10 (by decide)).frozen
          have hgG := HPd.out.hG
          have hS8 : ∀ u, (W7.setCell ⟨W3.heap.size, 0, none⟩ u).cell? ⟨W3.heap.size + 1, 0, none⟩ = some (.slice (some ⟨g5, 0, none⟩) L2.length L2.length) ∧ (W7.setCell ⟨W3.heap.size, 0, none⟩ u).cell? ⟨w1.heap.size, 0, none⟩ = some (.int .i64 (F2 : Int)) := fun u => ⟨(World.cell?_setCell_other _ _ _ _ (fun e => by injection e; omega)).trans hS7.1, (World.cell?_setCell_other _ _ _ _ (fun e => by injection e; omega)).trans hS7.2⟩
          clear hap7 ha7 bx HPd HKd
          refine wpAnyH_ready (rs := [0]) (by kernel_rfl) (by simp) ?_
          refine AllReadyH.cons rfl (fun K hK => ?_) AllReadyH.nil
          go_simp
          refine hK.out _ _ hS (fun _ => ?_)
          clear hK K hS d10
          refine wpAnyH_ready (rs := [4]) (by kernel_rfl) (by simp) ?_
          refine AllReadyH.cons rfl (fun K hK => ?_) AllReadyH.nil
          refine oper_append_run _ _ _ _ rfl _ _ rfl rfl HAP7.out ?_
          clear HAP7
          go_simp
          refine hK.out _ _ hS7 (fun _ => ?_)
          clear hK K hS7
          refine wpAnyH_ready (rs := [5]) (by kernel_rfl) (by simp) ?_
          refine AllReadyH.cons rfl (fun K hK => ?_) AllReadyH.nil
          go_simp
          refine hK.out _ _ (hS8 _) (fun _ => ?_)
          clear hK K hS8 e10 z10
          refine wpAnyH_done (by kernel_rfl) ?_ _
          generalize W7.setCell ⟨W3.heap.size, 0, none⟩ (.slice A7 (O.length + F2) c7) = U8 at HP7 HK7 ⊢
          gi_wp2
          -- region 15
          have hbd : Below U8.heap.size U8 U8.drew := (Below.refl _ U8).drew
          have HPe := Lib.hid (HP7.out.up hbd)
          have HKe : Hid (By.Kept (LX w w1.heap.size W3.heap.size) V U8.drew) := HK7.out.trans (By.Kept.below hbd (Nat.le_refl _))
          clear hbd HP7 HK7
          have hS : U8.drew.cell? ⟨w1.heap.size, 0, none⟩ = some (.int .i64 (F2 : Int)) := HPe.out.b9.cell
          have htail2 := slice_tail (some ⟨g5, 0, none⟩) L2.length L2.length F2 hL2l
          refine region_heldIn (fun W => W.cell? ⟨w1.heap.size, 0, none⟩ = some (.int .i64 (F2 : Int))) hmx (by kernel_rfl) (fun _ _ h => h) ?_
          generalize U8.drew = Ue at HPe HKe hS ⊢
          have HP9 := Lib.hid (HPe.out.cut F2 K2)
          obtain ⟨TA, hTA⟩ : ∃ T, tailA (some ⟨g5, 0, none⟩) L2.length F2 = T := ⟨_, rfl⟩
          rw [hTA] at HP9 htail2
          clear hTA
          have HFIN : Hid (By.Kept (LX w w1.heap.size W3.heap.size) V ((Ue.setCell ⟨W3.heap.size + 1, 0, none⟩ (.slice TA (L2.length - F2) (L2.length - F2))).setCell ⟨W3.heap.size + 2, 0, none⟩ (.int .i64 (K2 : Int))) ∧ (x.n = 0 ∨ x.n = 2) ∧ LB w w1.heap.size W3.heap.size l n (((q ++ [x]).map It.key).flatMap codeE) ((Ue.setCell ⟨W3.heap.size + 1, 0, none⟩ (.slice TA (L2.length - F2) (L2.length - F2))).setCell ⟨W3.heap.size + 2, 0, none⟩ (.int .i64 (K2 : Int))) ∧ ((q ++ [x]).map It.key).all smallK = true) :=
            ⟨(HKe.out.setCell (p := ⟨W3.heap.size + 1, 0, none⟩) (.inr (.inr (.inr (.inr (.inr (.inl rfl)))))) _).setCell (p := ⟨W3.heap.size + 2, 0, none⟩) (.inr (.inr (.inr (.inr (.inr (.inr rfl)))))) _, HXN.out, ⟨_, _, _, _, _, _, _, _, HP9.out, by rw [List.map_append, List.flatMap_append]; simpa using HN2.out⟩, by rw [List.map_append, List.all_append, HSM.out]; simp [smallK, It.key, hs]⟩
          have c11 := HPe.out.b11.cell
          have f11 := HPe.out.b11.frozen
          have c12 := HPe.out.b12.cell
          have f12 := HPe.out.b12.frozen
          have hgG2 := HPe.out.hG
          have c12' : ∀ u, (Ue.setCell ⟨W3.heap.size + 1, 0, none⟩ u).cell? ⟨W3.heap.size + 2, 0, none⟩ = some (.int .i64 (k2 : Int)) := fun u => (World.cell?_setCell_other _ _ _ _ (fun e => by injection e; omega)).trans c12
          have hS1 : ∀ u, (Ue.setCell ⟨W3.heap.size + 1, 0, none⟩ u).cell? ⟨w1.heap.size, 0, none⟩ = some (.int .i64 (F2 : Int)) := fun u => (World.cell?_setCell_other _ _ _ _ (fun e => by injection e; omega)).trans hS
          have hS2 : ∀ u u2, ((Ue.setCell ⟨W3.heap.size + 1, 0, none⟩ u).setCell ⟨W3.heap.size + 2, 0, none⟩ u2).cell? ⟨w1.heap.size, 0, none⟩ = some (.int .i64 (F2 : Int)) := fun u u2 => (World.cell?_setCell_other _ _ _ _ (fun e => by injection e; omega)).trans (hS1 u)
          clear HP9 HPe HKe
          refine wpAnyH_take (i := 1) (v := ?_) rfl (by kernel_rfl) (by kernel_rfl) (by kernel_rfl) (fun _ _ _ h => h) (Or.inl ⟨by kernel_rfl, fun W hW => ?_⟩) hS ?_
          rotate_left
          · skip
            first | (go_simp; done) | (go_simp; with_reducible rfl)
          refine wpAnyH_ready (rs := [0, 3]) (by kernel_rfl) (by simp) ?_
          refine AllReadyH.cons rfl (fun K hK => ?_) (AllReadyH.cons rfl (fun K hK => ?_) AllReadyH.nil)
          · skip
            go_simp
            refine hK.out _ _ hS (fun _ => ?_)
            clear hK K
            refine wpAnyH_take (i := 2) (v := ?_) rfl (by kernel_rfl) (by kernel_rfl) (by kernel_rfl) (fun _ _ _ h => h) (Yields.yieldsIf (Or.inl ⟨by kernel_rfl, ?_⟩)) hS ?_
            rotate_left
            · first | (intro w; go_simp; done) | (intro w; go_simp; with_reducible rfl)
            refine wpAnyH_ready (rs := [3, 5]) (by kernel_rfl) (by simp) ?_
            refine AllReadyH.cons rfl (fun K hK => ?_) (AllReadyH.cons rfl (fun K hK => ?_) AllReadyH.nil)
            · skip
              go_simp
              refine hK.out _ _ hS (fun _ => ?_)
              clear hK K
              refine wpAnyH_take (i := 4) (v := ?_) rfl (by kernel_rfl) (by kernel_rfl) (by kernel_rfl) (fun _ _ _ h => h) (Yields.yieldsIf (Or.inl ⟨by kernel_rfl, ?_⟩)) hS ?_
              rotate_left
              · first | (intro w; go_simp; done) | (intro w; go_simp; with_reducible rfl)
              refine wpAnyH_ready (rs := [5]) (by kernel_rfl) (by simp) ?_
              refine AllReadyH.cons rfl (fun K hK => ?_) AllReadyH.nil
              go_simp
              refine hK.out _ _ (hS1 _) (fun _ => ?_)
              clear hK K
              refine wpAnyH_ready (rs := [6]) (by kernel_rfl) (by simp) ?_
              refine AllReadyH.cons rfl (fun K hK => ?_) AllReadyH.nil
              go_simp
              refine hK.out _ _ (hS2 _ _) (fun _ => ?_)
              clear hK K
              refine wpAnyH_done (by kernel_rfl) ?_ _
              gi_wp2
              exact HFIN.out
            · skip
              go_simp
              refine hK.out _ _ (hS1 _) (fun _ => ?_)
              clear hK K
              refine wpAnyH_ready (rs := [3]) (by kernel_rfl) (by simp) ?_
              refine AllReadyH.cons rfl (fun K hK => ?_) AllReadyH.nil
              go_simp
              refine hK.out _ _ (hS1 _) (fun _ => ?_)
              clear hK K
              refine wpAnyH_take (i := 4) (v := ?_) rfl (by kernel_rfl) (by kernel_rfl) (by kernel_rfl) (fun _ _ _ h => h) (Yields.yieldsIf (Or.inl ⟨by kernel_rfl, ?_⟩)) (hS1 _) ?_
              rotate_left
              · first | (intro w; go_simp; done) | (intro w; go_simp; with_reducible rfl)
              refine wpAnyH_ready (rs := [6]) (by kernel_rfl) (by simp) ?_
              refine AllReadyH.cons rfl (fun K hK => ?_) AllReadyH.nil
              go_simp
              refine hK.out _ _ (hS2 _ _) (fun _ => ?_)
              clear hK K
              refine wpAnyH_done (by kernel_rfl) ?_ _
              gi_wp2
              exact HFIN.out
          · skip
            go_simp
            refine hK.out _ _ hS (fun _ => ?_)
            clear hK K
            refine wpAnyH_take (i := 4) (v := ?_) rfl (by kernel_rfl) (by kernel_rfl) (by kernel_rfl) (fun _ _ _ h => h) (Yields.yieldsIf (Or.inl ⟨by kernel_rfl, ?_⟩)) hS ?_
            rotate_left
            · first | (intro w; go_simp; done) | (intro w; go_simp; with_reducible rfl)
            refine wpAnyH_ready (rs := [0]) (by kernel_rfl) (by simp) ?_
            refine AllReadyH.cons rfl (fun K hK => ?_) AllReadyH.nil
            go_simp
            refine hK.out _ _ hS (fun _ => ?_)
            clear hK K
            refine wpAnyH_take (i := 2) (v := ?_) rfl (by kernel_rfl) (by kernel_rfl) (by kernel_rfl) (fun _ _ _ h => h) (Yields.yieldsIf (Or.inl ⟨by kernel_rfl, ?_⟩)) hS ?_
            rotate_left
            · first | (intro w; go_simp; done) | (intro w; go_simp; with_reducible rfl)
            refine wpAnyH_ready (rs := [5]) (by kernel_rfl) (by simp) ?_
            refine AllReadyH.cons rfl (fun K hK => ?_) AllReadyH.nil
            go_simp
            refine hK.out _ _ (hS1 _) (fun _ => ?_)
            clear hK K
            refine wpAnyH_ready (rs := [6]) (by kernel_rfl) (by simp) ?_
            refine AllReadyH.cons rfl (fun K hK => ?_) AllReadyH.nil
            go_simp
            refine hK.out _ _ (hS2 _ _) (fun _ => ?_)
            clear hK K
            refine wpAnyH_done (by kernel_rfl) ?_ _
            gi_wp2
            exact HFIN.out
        · have hown := putOwn_no (some ⟨g2, 0, none⟩) L1.length L1 (k1 : Int) x.o U3 HP3.out.row.row (by omega) (by omega) (by omega) (fun h => hs h.2)
          have hownI := CallsIn.inRound l' ((callsIn_wide (n := 2)).2 hown)
          clear hown
          have hg1 := HP3.out.hs1
          have hg2 := HP3.out.hG
          have f11 := HP3.out.b11.frozen
          have f12 := HP3.out.b12.frozen
          have c6 := HP3.out.b6.cell
          have f6 := HP3.out.b6.frozen
          have c7 := HP3.out.b7.cell
          have f7 := HP3.out.b7.frozen
          have c8 := HP3.out.b8.cell
          have f8 := HP3.out.b8.frozen
          have c12' : ∀ u, (U3.setCell ⟨W3.heap.size + 1, 0, none⟩ u).cell? ⟨W3.heap.size + 2, 0, none⟩ = some (.int .i64 (k1 : Int)) := fun u => (World.cell?_setCell_other _ _ _ _ (fun e => by injection e; omega)).trans d12
          have c6' : ∀ u1 u2, ((U3.setCell ⟨W3.heap.size + 1, 0, none⟩ u1).setCell ⟨W3.heap.size + 2, 0, none⟩ u2).cell? ⟨w.heap.size + 1, 0, none⟩ = some (.slice none 0 0) := fun u1 u2 => (World.cell?_setCell_other _ _ _ _ (fun e => by injection e; omega)).trans ((World.cell?_setCell_other _ _ _ _ (fun e => by injection e; omega)).trans c6)
          have c7' : ∀ u1 u2 u3, (((U3.setCell ⟨W3.heap.size + 1, 0, none⟩ u1).setCell ⟨W3.heap.size + 2, 0, none⟩ u2).setCell ⟨w.heap.size + 1, 0, none⟩ u3).cell? ⟨w.heap.size + 2, 0, none⟩ = some (.int .i64 0) := fun u1 u2 u3 => (World.cell?_setCell_other _ _ _ _ (fun e => by injection e; omega)).trans ((World.cell?_setCell_other _ _ _ _ (fun e => by injection e; omega)).trans ((World.cell?_setCell_other _ _ _ _ (fun e => by injection e; omega)).trans c7))
          have c8' : ∀ u1 u2 u3 u4, ((((U3.setCell ⟨W3.heap.size + 1, 0, none⟩ u1).setCell ⟨W3.heap.size + 2, 0, none⟩ u2).setCell ⟨w.heap.size + 1, 0, none⟩ u3).setCell ⟨w.heap.size + 2, 0, none⟩ u4).cell? ⟨w.heap.size + 3, 0, none⟩ = some (.int .i64 0) := fun u1 u2 u3 u4 => (World.cell?_setCell_other _ _ _ _ (fun e => by injection e; omega)).trans ((World.cell?_setCell_other _ _ _ _ (fun e => by injection e; omega)).trans ((World.cell?_setCell_other _ _ _ _ (fun e => by injection e; omega)).trans ((World.cell?_setCell_other _ _ _ _ (fun e => by injection e; omega)).trans c8)))
          have HNO : Hid (By.Kept (LX w w1.heap.size W3.heap.size) V (((((U3.setCell ⟨W3.heap.size + 1, 0, none⟩ (.slice none 0 0)).setCell ⟨W3.heap.size + 2, 0, none⟩ (.int .i64 0)).setCell ⟨w.heap.size + 1, 0, none⟩ (.slice none 0 0)).setCell ⟨w.heap.size + 2, 0, none⟩ (.int .i64 0)).setCell ⟨w.heap.size + 3, 0, none⟩ (.int .i64 50)) ∧ (Boxed (((((U3.setCell ⟨W3.heap.size + 1, 0, none⟩ (.slice none 0 0)).setCell ⟨W3.heap.size + 2, 0, none⟩ (.int .i64 0)).setCell ⟨w.heap.size + 1, 0, none⟩ (.slice none 0 0)).setCell ⟨w.heap.size + 2, 0, none⟩ (.int .i64 0)).setCell ⟨w.heap.size + 3, 0, none⟩ (.int .i64 50)) (w.heap.size + 1) 38 (.slice none 0 0) ∧ Boxed (((((U3.setCell ⟨W3.heap.size + 1, 0, none⟩ (.slice none 0 0)).setCell ⟨W3.heap.size + 2, 0, none⟩ (.int .i64 0)).setCell ⟨w.heap.size + 1, 0, none⟩ (.slice none 0 0)).setCell ⟨w.heap.size + 2, 0, none⟩ (.int .i64 0)).setCell ⟨w.heap.size + 3, 0, none⟩ (.int .i64 50)) (w.heap.size + 2) 3 (.int .i64 0) ∧ Boxed (((((U3.setCell ⟨W3.heap.size + 1, 0, none⟩ (.slice none 0 0)).setCell ⟨W3.heap.size + 2, 0, none⟩ (.int .i64 0)).setCell ⟨w.heap.size + 1, 0, none⟩ (.slice none 0 0)).setCell ⟨w.heap.size + 2, 0, none⟩ (.int .i64 0)).setCell ⟨w.heap.size + 3, 0, none⟩ (.int .i64 50)) (w.heap.size + 3) 26 (.int .i64 50)) ∧ Below w.heap.size w (((((U3.setCell ⟨W3.heap.size + 1, 0, none⟩ (.slice none 0 0)).setCell ⟨W3.heap.size + 2, 0, none⟩ (.int .i64 0)).setCell ⟨w.heap.size + 1, 0, none⟩ (.slice none 0 0)).setCell ⟨w.heap.size + 2, 0, none⟩ (.int .i64 0)).setCell ⟨w.heap.size + 3, 0, none⟩ (.int .i64 50))) := by
            refine ⟨((((HK3.out.setCell (p := ⟨W3.heap.size + 1, 0, none⟩) (.inr (.inr (.inr (.inr (.inr (.inl rfl)))))) _).setCell (p := ⟨W3.heap.size + 2, 0, none⟩) (.inr (.inr (.inr (.inr (.inr (.inr rfl)))))) _).setCell (p := ⟨w.heap.size + 1, 0, none⟩) (.inl rfl) _).setCell (p := ⟨w.heap.size + 2, 0, none⟩) (.inr (.inl rfl)) _).setCell (p := ⟨w.heap.size + 3, 0, none⟩) (.inr (.inr (.inl rfl))) _, ⟨?_, ?_, ?_⟩, ?_⟩
            · exact boxed_setO (boxed_setO (Boxed.set _ (boxed_setO (boxed_setO HP3.out.b6 (by omega) _) (by omega) _)) (by omega) _) (by omega) _
            · exact boxed_setO (Boxed.set _ (boxed_setO (boxed_setO (boxed_setO HP3.out.b7 (by omega) _) (by omega) _) (by omega) _)) (by omega) _
            · exact Boxed.set _ (boxed_setO (boxed_setO (boxed_setO (boxed_setO HP3.out.b8 (by omega) _) (by omega) _) (by omega) _) (by omega) _)
            · exact ((((HP3.out.bel.setCell (p := ⟨W3.heap.size + 1, 0, none⟩) (by show _ ≤ _ + 1; omega) _).setCell (p := ⟨W3.heap.size + 2, 0, none⟩) (by show _ ≤ _ + 2; omega) _).setCell (p := ⟨w.heap.size + 1, 0, none⟩) (by show _ ≤ _ + 1; omega) _).setCell (p := ⟨w.heap.size + 2, 0, none⟩) (by show _ ≤ _ + 2; omega) _).setCell (p := ⟨w.heap.size + 3, 0, none⟩) (by show _ ≤ _ + 3; omega) _
          have HBADX : Hid (((q ++ [x]).map It.key).all smallK = false) := by
            show _ = _
            rw [List.map_append, List.all_append]
            simp [smallK, It.key, hs]
          gi_wp2_with fail
          refine ⟨trivial, ?_⟩
          refine hownI.mono ?_
          rintro e w' ⟨rfl, rfl⟩
          clear hownI HK3 HP3
          gi_wp2
          exact ⟨HNO.out.1, rfl, HNO.out.2.1, HNO.out.2.2, HBADX.out⟩
      · skip
        go_simp
        refine hK.out _ _ hS (fun hS => ?_)
        clear hK K
        refine wpAnyH_ready (rs := [0]) (by kernel_rfl) (by simp) ?_
        refine AllReadyH.cons rfl (fun K hK => ?_) AllReadyH.nil
        go_simp
        refine hK.out _ _ hS (fun hS => ?_)
        clear hK K
        have HK2' := Lib.hid HK2.out
        refine wpAnyH_ready (rs := [4]) (by kernel_rfl) (by simp) ?_
        refine AllReadyH.cons rfl (fun K hK => ?_) AllReadyH.nil
        go_simp
        go_wp2_with (go_at_call 57; refine (HPUT.out V2 HY2.out.row.row).mono ?_; rintro e V3 ⟨rfl, hbk3, hlt3, hb3⟩)
        have HP3 := Lib.hid (HY2.out.put (k' := k1) hb3 hbk3 (Nat.le_refl _) hlt3)
        have hY3 := HY2.out.up hb3
        have c11 := hY3.b11.cell
        have f11 := hY3.b11.frozen
        have c12 := hY3.b12.cell
        have f12 := hY3.b12.frozen
        have hS3 : V3.cell? ⟨Bx, 0, none⟩ = some (.int .i64 x.o) ∧ V3.cell? ⟨Bx, 1, none⟩ = some (.slice x.A x.n x.c) := ⟨(hb3.cell (World.block_lt_of_cell? V2 _ hS.1)).trans hS.1, (hb3.cell (World.block_lt_of_cell? V2 _ hS.2)).trans hS.2⟩
        have HK3 : Hid (By.Kept (LX w w1.heap.size W3.heap.size) V ((V3.setCell ⟨W3.heap.size + 1, 0, none⟩ (.slice (some ⟨V2.heap.size, 0, none⟩) L1.length L1.length)).setCell ⟨W3.heap.size + 2, 0, none⟩ (.int .i64 (k1 : Int)))) := ((HK2.out.trans (By.Kept.below hb3 (Nat.le_refl _))).setCell (p := ⟨W3.heap.size + 1, 0, none⟩) (.inr (.inr (.inr (.inr (.inr (.inl rfl)))))) _).setCell (p := ⟨W3.heap.size + 2, 0, none⟩) (.inr (.inr (.inr (.inr (.inr (.inr rfl)))))) _
        have HSF : Hid (∀ (j : Nat) (u1 : Value) (z : Value), V3.cell? ⟨Bx, j, none⟩ = some z → (V3.setCell ⟨W3.heap.size + 1, 0, none⟩ u1).cell? ⟨Bx, j, none⟩ = some z) := fun j u1 z h => (World.cell?_setCell_other _ _ _ _ (fun e => by injection e; have := HBXG.out; omega)).trans h
        have HSF2 : Hid (∀ (j : Nat) (u1 u2 : Value) (z : Value), V3.cell? ⟨Bx, j, none⟩ = some z → ((V3.setCell ⟨W3.heap.size + 1, 0, none⟩ u1).setCell ⟨W3.heap.size + 2, 0, none⟩ u2).cell? ⟨Bx, j, none⟩ = some z) := fun j u1 u2 z h => (World.cell?_setCell_other _ _ _ _ (fun e => by injection e; have := HBXG.out; omega)).trans (HSF.out j u1 z h)
        have c12' : ∀ u, (V3.setCell ⟨W3.heap.size + 1, 0, none⟩ u).cell? ⟨W3.heap.size + 2, 0, none⟩ = some (.int .i64 (k : Int)) := fun u => (World.cell?_setCell_other _ _ _ _ (fun e => by injection e; omega)).trans c12
        clear d11 d12 hS hb3 hbk3 hlt3 hY3 HK2 HK2' HY2
        refine hK.out _ _ hS3 (fun hS => ?_)
        clear hK K hS3
        refine wpAnyH_take (i := 5) (v := ?_) rfl (by kernel_rfl) (by kernel_rfl) (by kernel_rfl) (fun _ _ _ h => h) (Yields.yieldsIf (Or.inl ⟨by kernel_rfl, ?_⟩)) hS ?_
        rotate_left
        · first | (intro w; go_simp; done) | (intro w; go_simp; with_reducible rfl)
        refine wpAnyH_take (i := 6) (v := ?_) rfl (by kernel_rfl) (by kernel_rfl) (by kernel_rfl) (fun _ _ _ h => h) (Yields.yieldsIf (Or.inl ⟨by kernel_rfl, ?_⟩)) hS ?_
        rotate_left
        · first | (intro w; go_simp; done) | (intro w; go_simp; with_reducible rfl)
        refine wpAnyH_take (i := 7) (v := ?_) rfl (by kernel_rfl) (by kernel_rfl) (by kernel_rfl) (fun _ _ _ h => h) (Yields.yieldsIf (Or.inl ⟨by kernel_rfl, ?_⟩)) hS ?_
        rotate_left
        · first | (intro w; go_simp; done) | (intro w; go_simp; with_reducible rfl)
        refine wpAnyH_take (i := 8) (v := ?_) rfl (by kernel_rfl) (by kernel_rfl) (by kernel_rfl) (fun _ _ _ h => h) (Yields.yieldsIf (Or.inl ⟨by kernel_rfl, ?_⟩)) hS ?_
        rotate_left
        · first | (intro w; go_simp; done) | (intro w; go_simp; with_reducible rfl)
        refine wpAnyH_ready (rs := [9]) (by kernel_rfl) (by simp) ?_
        refine AllReadyH.cons rfl (fun K hK => ?_) AllReadyH.nil
        go_simp
        refine hK.out _ _ ⟨HSF.out 0 _ _ hS.1, HSF.out 1 _ _ hS.2⟩ (fun _ => ?_)
        clear hK K
        refine wpAnyH_ready (rs := [10]) (by kernel_rfl) (by simp) ?_
        refine AllReadyH.cons rfl (fun K hK => ?_) AllReadyH.nil
        go_simp
        refine hK.out _ _ ⟨HSF2.out 0 _ _ _ hS.1, HSF2.out 1 _ _ _ hS.2⟩ (fun _ => ?_)
        clear hK K
        refine wpAnyH_done (by kernel_rfl) ?_ _
        have g0 := HSF2.out 0 (.slice (some ⟨V2.heap.size, 0, none⟩) L1.length L1.length) (.int .i64 (k1 : Int)) _ hS.1
        clear hS c11 f11 c12 f12 c12' HSF HSF2
        generalize ((V3.setCell ⟨W3.heap.size + 1, 0, none⟩ (.slice (some ⟨V2.heap.size, 0, none⟩) L1.length L1.length)).setCell ⟨W3.heap.size + 2, 0, none⟩ (.int .i64 (k1 : Int))) = U3 at HP3 HK3 g0 ⊢
        obtain ⟨g2, hg2⟩ : ∃ g, V2.heap.size = g := ⟨_, rfl⟩
        rw [hg2] at HP3 ⊢
        clear hg2
        have d11 := HP3.out.b11.cell
        have d12 := HP3.out.b12.cell
        by_cases hs : x.o < 4611686018427387904
        · have hown : Calls Tryd.prog 59 #[.slice (some ⟨g2, 0, none⟩) L1.length L1.length, .int .i64 (k1 : Int), .int .u64 x.o] U3 (GivesNew (M.putL L1 k1 (gam x.o.toNat)) (k1 + (gam x.o.toNat).length) U3) := by
            have := putOwn_new (some ⟨g2, 0, none⟩) L1.length L1 k1 x.o.toNat U3 HP3.out.row.row (by omega) HV1.out (by omega)
            rw [show ((x.o.toNat : Nat) : Int) = x.o by omega] at this
            exact this
          rw [HL2.out.1, HL2.out.2] at hown
          have hownI := CallsIn.inRound l' ((callsIn_wide (n := 2)).2 hown)
          clear hown
          obtain ⟨L2, hL2⟩ : ∃ L, M.putL R k (codeE x.key) = L := ⟨_, rfl⟩
          obtain ⟨k2, hk2⟩ : ∃ j, k + (codeE x.key).length = j := ⟨_, rfl⟩
          rw [hL2, hk2] at hownI
          have HN2 := Lib.hid HNX.out
          rw [hL2, hk2] at HN2
          have hcl : (codeE x.key).length ≤ 200 := by
            have := gam_len x.o.toNat (by omega)
            show ((if x.n = 0 then 0 else 1) :: gam x.o.toNat).length ≤ 200
            rw [List.length_cons]; omega
          have hk2b : k2 ≤ 300 := by omega
          obtain ⟨F2, hF2⟩ : ∃ j, k2 / 8 = j := ⟨_, rfl⟩
          obtain ⟨K2, hK2⟩ : ∃ j, k2 % 8 = j := ⟨_, rfl⟩
          rw [hF2, hK2] at HN2
          have hF2i : (k2 : Int) / 8 = (F2 : Int) := by omega
          have hK2i : (k2 : Int) % 8 = (K2 : Int) := by omega
          have hK2t : (k2 : Int).tmod 8 = (K2 : Int) := by rw [Int.tmod_eq_emod_of_nonneg (by omega)]; omega
          have hL2l : F2 ≤ L2.length := by
            have := M.putL_length R k (codeE x.key) HCUT.out.val.1
            rw [hL2] at this
            omega
          have hOl : O.length ≤ 140737489000000 := by
            have h1 := HWL.out.1
            omega
          have HFF2 := Lib.hid hF2
          clear hL2 hk2 hF2 hK2 hcl HNX
          have f11 := HP3.out.b11.frozen
          have f12 := HP3.out.b12.frozen
          gi_wp2_with fail
          refine ⟨trivial, ?_⟩
          refine hownI.mono ?_
          rintro e V5 ⟨rfl, hbk5, hlt5, hb5⟩
          have HP5 := Lib.hid (HP3.out.put (k' := k2) hb5 hbk5 (Nat.le_refl _) hlt5)
          have hY5 := HP3.out.up hb5
          have hg1 := HP3.out.hs1
          have hg3 := HP3.out.hG
          have c11 := hY5.b11.cell
          have f11 := hY5.b11.frozen
          have c12 := hY5.b12.cell
          have f12 := hY5.b12.frozen
          have c9 := hY5.b9.cell
          have f9 := hY5.b9.frozen
          have c12' : ∀ u, (V5.setCell ⟨W3.heap.size + 1, 0, none⟩ u).cell? ⟨W3.heap.size + 2, 0, none⟩ = some (.int .i64 (k1 : Int)) := fun u => (World.cell?_setCell_other _ _ _ _ (fun e => by injection e; omega)).trans c12
          have c9' : ∀ u1 u2, ((V5.setCell ⟨W3.heap.size + 1, 0, none⟩ u1).setCell ⟨W3.heap.size + 2, 0, none⟩ u2).cell? ⟨w1.heap.size, 0, none⟩ = some (.int .i64 f) := fun u1 u2 => (World.cell?_setCell_other _ _ _ _ (fun e => by injection e; omega)).trans ((World.cell?_setCell_other _ _ _ _ (fun e => by injection e; omega)).trans c9)
          have HP6 := Lib.hid (HP5.out.full (F2 : Int))
          have HK6 : Hid (By.Kept (LX w w1.heap.size W3.heap.size) V (((V5.setCell ⟨W3.heap.size + 1, 0, none⟩ (.slice (some ⟨U3.heap.size, 0, none⟩) L2.length L2.length)).setCell ⟨W3.heap.size + 2, 0, none⟩ (.int .i64 (k2 : Int))).setCell ⟨w1.heap.size, 0, none⟩ (.int .i64 (F2 : Int)))) := (((HK3.out.trans (By.Kept.below hb5 (Nat.le_refl _))).setCell (p := ⟨W3.heap.size + 1, 0, none⟩) (.inr (.inr (.inr (.inr (.inr (.inl rfl)))))) _).setCell (p := ⟨W3.heap.size + 2, 0, none⟩) (.inr (.inr (.inr (.inr (.inr (.inr rfl)))))) _).setCell (p := ⟨w1.heap.size, 0, none⟩) (.inr (.inr (.inr (.inl rfl)))) _
          clear hownI HK3 HP3 HP5 hY5 hb5 hbk5 hlt5 d11 d12 g0
          gi_wp2
          generalize (((V5.setCell ⟨W3.heap.size + 1, 0, none⟩ (.slice (some ⟨U3.heap.size, 0, none⟩) L2.length L2.length)).setCell ⟨W3.heap.size + 2, 0, none⟩ (.int .i64 (k2 : Int))).setCell ⟨w1.heap.size, 0, none⟩ (.int .i64 (F2 : Int))) = U6 at HP6 HK6 ⊢
          obtain ⟨g5, hg5⟩ : ∃ g, U3.heap.size = g := ⟨_, rfl⟩
          rw [hg5] at HP6 ⊢
          clear hg5 c11 f11 c12 f12 c9 f9 c12' c9'
          -- region 14
          have hbd : Below U6.heap.size U6 U6.drew := (Below.refl _ U6).drew
          have HPd := Lib.hid (HP6.out.up hbd)
          have HKd : Hid (By.Kept (LX w w1.heap.size W3.heap.size) V U6.drew) := HK6.out.trans (By.Kept.below hbd (Nat.le_refl _))
          clear hbd HP6 HK6
          have hS : U6.drew.cell? ⟨W3.heap.size + 1, 0, none⟩ = some (.slice (some ⟨g5, 0, none⟩) L2.length L2.length) ∧ U6.drew.cell? ⟨w1.heap.size, 0, none⟩ = some (.int .i64 (F2 : Int)) := ⟨HPd.out.b11.cell, HPd.out.b9.cell⟩
          have hhead2 := slice_head (some ⟨g5, 0, none⟩) L2.length L2.length F2 hL2l
          refine region_heldIn (fun W => W.cell? ⟨W3.heap.size + 1, 0, none⟩ = some (.slice (some ⟨g5, 0, none⟩) L2.length L2.length) ∧ W.cell? ⟨w1.heap.size, 0, none⟩ = some (.int .i64 (F2 : Int))) hmx (by kernel_rfl) (fun _ _ h => h) ?_
          generalize U6.drew = Ud at HPd HKd hS ⊢
          refine wpAnyH_take (i := 1) (v := ?_) rfl (by kernel_rfl) (by kernel_rfl) (by kernel_rfl) (fun _ _ _ h => h) (Or.inl ⟨by kernel_rfl, fun W hW => ?_⟩) hS ?_
          rotate_left
          · obtain ⟨f0, f1⟩ := hW
            first | (go_simp; done) | (go_simp; with_reducible rfl)
          refine wpAnyH_take (i := 2) (v := ?_) rfl (by kernel_rfl) (by kernel_rfl) (by kernel_rfl) (fun _ _ _ h => h) (Or.inl ⟨by kernel_rfl, fun W hW => ?_⟩) hS ?_
          rotate_left
          · obtain ⟨f0, f1⟩ := hW
            first | (go_simp; done) | (go_simp; with_reducible rfl)
          refine wpAnyH_take (i := 3) (v := ?_) rfl (by kernel_rfl) (by kernel_rfl) (by kernel_rfl) (fun _ _ _ h => h) (Yields.yieldsIf (Or.inl ⟨by kernel_rfl, ?_⟩)) hS ?_
          rotate_left
          · first | (intro w; go_simp; done) | (intro w; go_simp; with_reducible rfl)
          have d10 := HPd.out.b10.cell
          have hF2l : (L2.take F2).length = F2 := by rw [List.length_take]; omega
          obtain ⟨A7, c7, W7, hap7, ha7⟩ := HPd.out.own.append (some ⟨g5, 0, none⟩) L2.length (L2.take F2) Ud.heap.size (HPd.out.row.take F2).row 38 (by rw [hF2l]; omega) HPd.out.bel.size
          rw [hF2l] at hap7
          have HAP7 := Lib.hid hap7
          have HP7 := Lib.hid (HPd.out.app ha7)
          rw [hF2l] at HP7
          have HK7 : Hid (By.Kept (LX w w1.heap.size W3.heap.size) V (W7.setCell ⟨W3.heap.size, 0, none⟩ (.slice A7 (O.length + F2) c7))) := (HKd.out.trans (ha7.kept.mono (fun _ h => h.elim))).setCell (p := ⟨W3.heap.size, 0, none⟩) (.inr (.inr (.inr (.inr (.inl rfl))))) _
          have bx : ∀ {g : Nat} {t : TypeId} {v : Value}, Boxed Ud g t v → t ≠ 5 → Boxed W7 g t v := fun hb ht => (ha7.oth _ hb.lt (HPd.out.own.ne_box hb ht)).trans hb
          have hS7 : W7.cell? ⟨W3.heap.size + 1, 0, none⟩ = some (.slice (some ⟨g5, 0, none⟩) L2.length L2.length) ∧ W7.cell? ⟨w1.heap.size, 0, none⟩ = some (.int .i64 (F2 : Int)) := ⟨(bx HPd.out.b11 (by decide)).cell, (bx HPd.out.b9 (by decide)).cell⟩
          have e10 := (bx HPd.out.b10 (by decide)).cell
          have z10 := (bx HPd.out.b10 (by decide)).frozen
          have hgG := HPd.out.hG
          have hS8 : ∀ u, (W7.setCell ⟨W3.heap.size, 0, none⟩ u).cell? ⟨W3.heap.size + 1, 0, none⟩ = some (.slice (some ⟨g5, 0, none⟩) L2.length L2.length) ∧ (W7.setCell ⟨W3.heap.size, 0, none⟩ u).cell? ⟨w1.heap.size, 0, none⟩ = some (.int .i64 (F2 : Int)) := fun u => ⟨(World.cell?_setCell_other _ _ _ _ (fun e => by injection e; omega)).trans hS7.1, (World.cell?_setCell_other _ _ _ _ (fun e => by injection e; omega)).trans hS7.2⟩
          clear hap7 ha7 bx HPd HKd
          refine wpAnyH_ready (rs := [0]) (by kernel_rfl) (by simp) ?_
          refine AllReadyH.cons rfl (fun K hK => ?_) AllReadyH.nil
          go_simp
          refine hK.out _ _ hS (fun _ => ?_)
          clear hK K hS d10
          refine wpAnyH_ready (rs := [4]) (by kernel_rfl) (by simp) ?_
          refine AllReadyH.cons rfl (fun K hK => ?_) AllReadyH.nil
          refine oper_append_run _ _ _ _ rfl _ _ rfl rfl HAP7.out ?_
          clear HAP7
          go_simp
          refine hK.out _ _ hS7 (fun _ => ?_)
          clear hK K hS7
          refine wpAnyH_ready (rs := [5]) (by kernel_rfl) (by simp) ?_
          refine AllReadyH.cons rfl (fun K hK => ?_) AllReadyH.nil
          go_simp
          refine hK.out _ _ (hS8 _) (fun _ => ?_)
          clear hK K hS8 e10 z10
          refine wpAnyH_done (by kernel_rfl) ?_ _
          generalize W7.setCell ⟨W3.heap.size, 0, none⟩ (.slice A7 (O.length + F2) c7) = U8 at HP7 HK7 ⊢
          gi_wp2
          -- region 15
          have hbd : Below U8.heap.size U8 U8.drew := (Below.refl _ U8).drew
          have HPe := Lib.hid (HP7.out.up hbd)
          have HKe : Hid (By.Kept (LX w w1.heap.size W3.heap.size) V U8.drew) := HK7.out.trans (By.Kept.below hbd (Nat.le_refl _))
          clear hbd HP7 HK7
          have hS : U8.drew.cell? ⟨w1.heap.size, 0, none⟩ = some (.int .i64 (F2 : Int)) := HPe.out.b9.cell
          have htail2 := slice_tail (some ⟨g5, 0, none⟩) L2.length L2.length F2 hL2l
          refine region_heldIn (fun W => W.cell? ⟨w1.heap.size, 0, none⟩ = some (.int .i64 (F2 : Int))) hmx (by kernel_rfl) (fun _ _ h => h) ?_
          generalize U8.drew = Ue at HPe HKe hS ⊢
          have HP9 := Lib.hid (HPe.out.cut F2 K2)
          obtain ⟨TA, hTA⟩ : ∃ T, tailA (some ⟨g5, 0, none⟩) L2.length F2 = T := ⟨_, rfl⟩
          rw [hTA] at HP9 htail2
          clear hTA
          have HFIN : Hid (By.Kept (LX w w1.heap.size W3.heap.size) V ((Ue.setCell ⟨W3.heap.size + 1, 0, none⟩ (.slice TA (L2.length - F2) (L2.length - F2))).setCell ⟨W3.heap.size + 2, 0, none⟩ (.int .i64 (K2 : Int))) ∧ (x.n = 0 ∨ x.n = 2) ∧ LB w w1.heap.size W3.heap.size l n (((q ++ [x]).map It.key).flatMap codeE) ((Ue.setCell ⟨W3.heap.size + 1, 0, none⟩ (.slice TA (L2.length - F2) (L2.length - F2))).setCell ⟨W3.heap.size + 2, 0, none⟩ (.int .i64 (K2 : Int))) ∧ ((q ++ [x]).map It.key).all smallK = true) :=
            ⟨(HKe.out.setCell (p := ⟨W3.heap.size + 1, 0, none⟩) (.inr (.inr (.inr (.inr (.inr (.inl rfl)))))) _).setCell (p := ⟨W3.heap.size + 2, 0, none⟩) (.inr (.inr (.inr (.inr (.inr (.inr rfl)))))) _, HXN.out, ⟨_, _, _, _, _, _, _, _, HP9.out, by rw [List.map_append, List.flatMap_append]; simpa using HN2.out⟩, by rw [List.map_append, List.all_append, HSM.out]; simp [smallK, It.key, hs]⟩
          have c11 := HPe.out.b11.cell
          have f11 := HPe.out.b11.frozen
          have c12 := HPe.out.b12.cell
          have f12 := HPe.out.b12.frozen
          have hgG2 := HPe.out.hG
          have c12' : ∀ u, (Ue.setCell ⟨W3.heap.size + 1, 0, none⟩ u).cell? ⟨W3.heap.size + 2, 0, none⟩ = some (.int .i64 (k2 : Int)) := fun u => (World.cell?_setCell_other _ _ _ _ (fun e => by injection e; omega)).trans c12
          have hS1 : ∀ u, (Ue.setCell ⟨W3.heap.size + 1, 0, none⟩ u).cell? ⟨w1.heap.size, 0, none⟩ = some (.int .i64 (F2 : Int)) := fun u => (World.cell?_setCell_other _ _ _ _ (fun e => by injection e; omega)).trans hS
          have hS2 : ∀ u u2, ((Ue.setCell ⟨W3.heap.size + 1, 0, none⟩ u).setCell ⟨W3.heap.size + 2, 0, none⟩ u2).cell? ⟨w1.heap.size, 0, none⟩ = some (.int .i64 (F2 : Int)) := fun u u2 => (World.cell?_setCell_other _ _ _ _ (fun e => by injection e; omega)).trans (hS1 u)
          clear HP9 HPe HKe
          refine wpAnyH_take (i := 1) (v := ?_) rfl (by kernel_rfl) (by kernel_rfl) (by kernel_rfl) (fun _ _ _ h => h) (Or.inl ⟨by kernel_rfl, fun W hW => ?_⟩) hS ?_
          rotate_left
          · skip
            first | (go_simp; done) | (go_simp; with_reducible rfl)
          refine wpAnyH_ready (rs := [0, 3]) (by kernel_rfl) (by simp) ?_
          refine AllReadyH.cons rfl (fun K hK => ?_) (AllReadyH.cons rfl (fun K hK => ?_) AllReadyH.nil)
          · skip
            go_simp
            refine hK.out _ _ hS (fun _ => ?_)
            clear hK K
            refine wpAnyH_take (i := 2) (v := ?_) rfl (by kernel_rfl) (by kernel_rfl) (by kernel_rfl) (fun _ _ _ h => h) (Yields.yieldsIf (Or.inl ⟨by kernel_rfl, ?_⟩)) hS ?_
            rotate_left
            · first | (intro w; go_simp; done) | (intro w; go_simp; with_reducible rfl)
            refine wpAnyH_ready (rs := [3, 5]) (by kernel_rfl) (by simp) ?_
            refine AllReadyH.cons rfl (fun K hK => ?_) (AllReadyH.cons rfl (fun K hK => ?_) AllReadyH.nil)
            · skip
              go_simp
              refine hK.out _ _ hS (fun _ => ?_)
              clear hK K
              refine wpAnyH_take (i := 4) (v := ?_) rfl (by kernel_rfl) (by kernel_rfl) (by kernel_rfl) (fun _ _ _ h => h) (Yields.yieldsIf (Or.inl ⟨by kernel_rfl, ?_⟩)) hS ?_
              rotate_left
              · first | (intro w; go_simp; done) | (intro w; go_simp; with_reducible rfl)
              refine wpAnyH_ready (rs := [5]) (by kernel_rfl) (by simp) ?_
              refine AllReadyH.cons rfl (fun K hK => ?_) AllReadyH.nil
              go_simp
              refine hK.out _ _ (hS1 _) (fun _ => ?_)
              clear hK K
              refine wpAnyH_ready (rs := [6]) (by kernel_rfl) (by simp) ?_
              refine AllReadyH.cons rfl (fun K hK => ?_) AllReadyH.nil
              go_simp
              refine hK.out _ _ (hS2 _ _) (fun _ => ?_)
              clear hK K
              refine wpAnyH_done (by kernel_rfl) ?_ _
              gi_wp2
              exact HFIN.out
            · skip
              go_simp
              refine hK.out _ _ (hS1 _) (fun _ => ?_)
              clear hK K
              refine wpAnyH_ready (rs := [3]) (by kernel_rfl) (by simp) ?_
              refine AllReadyH.cons rfl (fun K hK => ?_) AllReadyH.nil
              go_simp
              refine hK.out _ _ (hS1 _) (fun _ => ?_)
              clear hK K
              refine wpAnyH_take (i := 4) (v := ?_) rfl (by kernel_rfl) (by kernel_rfl) (by kernel_rfl) (fun _ _ _ h => h) (Yields.yieldsIf (Or.inl ⟨by kernel_rfl, ?_⟩)) (hS1 _) ?_
              rotate_left
              · first | (intro w; go_simp; done) | (intro w; go_simp; with_reducible rfl)
              refine wpAnyH_ready (rs := [6]) (by kernel_rfl) (by simp) ?_
              refine AllReadyH.cons rfl (fun K hK => ?_) AllReadyH.nil
              go_simp
              refine hK.out _ _ (hS2 _ _) (fun _ => ?_)
              clear hK K
              refine wpAnyH_done (by kernel_rfl) ?_ _
              gi_wp2
              exact HFIN.out
          · skip
            go_simp
            refine hK.out _ _ hS (fun _ => ?_)
            clear hK K
            refine wpAnyH_take (i := 4) (v := ?_) rfl (by kernel_rfl) (by kernel_rfl) (by kernel_rfl) (fun _ _ _ h => h) (Yields.yieldsIf (Or.inl ⟨by kernel_rfl, ?_⟩)) hS ?_
            rotate_left
            · first | (intro w; go_simp; done) | (intro w; go_simp; with_reducible rfl)
            refine wpAnyH_ready (rs := [0]) (by kernel_rfl) (by simp) ?_
            refine AllReadyH.cons rfl (fun K hK => ?_) AllReadyH.nil
            go_simp
            refine hK.out _ _ hS (fun _ => ?_)
            clear hK K
            refine wpAnyH_take (i := 2) (v := ?_) rfl (by kernel_rfl) (by kernel_rfl) (by kernel_rfl) (fun _ _ _ h => h) (Yields.yieldsIf (Or.inl ⟨by kernel_rfl, ?_⟩)) hS ?_
            rotate_left
            · first | (intro w; go_simp; done) | (intro w; go_simp; with_reducible rfl)
            refine wpAnyH_ready (rs := [5]) (by kernel_rfl) (by simp) ?_
            refine AllReadyH.cons rfl (fun K hK => ?_) AllReadyH.nil
            go_simp
            refine hK.out _ _ (hS1 _) (fun _ => ?_)
            clear hK K
            refine wpAnyH_ready (rs := [6]) (by kernel_rfl) (by simp) ?_
            refine AllReadyH.cons rfl (fun K hK => ?_) AllReadyH.nil
            go_simp
            refine hK.out _ _ (hS2 _ _) (fun _ => ?_)
            clear hK K
            refine wpAnyH_done (by kernel_rfl) ?_ _
            gi_wp2
            exact HFIN.out
        · have hown := putOwn_no (some ⟨g2, 0, none⟩) L1.length L1 (k1 : Int) x.o U3 HP3.out.row.row (by omega) (by omega) (by omega) (fun h => hs h.2)
          have hownI := CallsIn.inRound l' ((callsIn_wide (n := 2)).2 hown)
          clear hown
          have hg1 := HP3.out.hs1
          have hg2 := HP3.out.hG
          have f11 := HP3.out.b11.frozen
          have f12 := HP3.out.b12.frozen
          have c6 := HP3.out.b6.cell
          have f6 := HP3.out.b6.frozen
          have c7 := HP3.out.b7.cell
          have f7 := HP3.out.b7.frozen
          have c8 := HP3.out.b8.cell
          have f8 := HP3.out.b8.frozen
          have c12' : ∀ u, (U3.setCell ⟨W3.heap.size + 1, 0, none⟩ u).cell? ⟨W3.heap.size + 2, 0, none⟩ = some (.int .i64 (k1 : Int)) := fun u => (World.cell?_setCell_other _ _ _ _ (fun e => by injection e; omega)).trans d12
          have c6' : ∀ u1 u2, ((U3.setCell ⟨W3.heap.size + 1, 0, none⟩ u1).setCell ⟨W3.heap.size + 2, 0, none⟩ u2).cell? ⟨w.heap.size + 1, 0, none⟩ = some (.slice none 0 0) := fun u1 u2 => (World.cell?_setCell_other _ _ _ _ (fun e => by injection e; omega)).trans ((World.cell?_setCell_other _ _ _ _ (fun e => by injection e; omega)).trans c6)
          have c7' : ∀ u1 u2 u3, (((U3.setCell ⟨W3.heap.size + 1, 0, none⟩ u1).setCell ⟨W3.heap.size + 2, 0, none⟩ u2).setCell ⟨w.heap.size + 1, 0, none⟩ u3).cell? ⟨w.heap.size + 2, 0, none⟩ = some (.int .i64 0) := fun u1 u2 u3 => (World.cell?_setCell_other _ _ _ _ (fun e => by injection e; omega)).trans ((World.cell?_setCell_other _ _ _ _ (fun e => by injection e; omega)).trans ((World.cell?_setCell_other _ _ _ _ (fun e => by injection e; omega)).trans c7))
          have c8' : ∀ u1 u2 u3 u4, ((((U3.setCell ⟨W3.heap.size + 1, 0, none⟩ u1).setCell ⟨W3.heap.size + 2, 0, none⟩ u2).setCell ⟨w.heap.size + 1, 0, none⟩ u3).setCell ⟨w.heap.size + 2, 0, none⟩ u4).cell? ⟨w.heap.size + 3, 0, none⟩ = some (.int .i64 0) := fun u1 u2 u3 u4 => (World.cell?_setCell_other _ _ _ _ (fun e => by injection e; omega)).trans ((World.cell?_setCell_other _ _ _ _ (fun e => by injection e; omega)).trans ((World.cell?_setCell_other _ _ _ _ (fun e => by injection e; omega)).trans ((World.cell?_setCell_other _ _ _ _ (fun e => by injection e; omega)).trans c8)))
          have HNO : Hid (By.Kept (LX w w1.heap.size W3.heap.size) V (((((U3.setCell ⟨W3.heap.size + 1, 0, none⟩ (.slice none 0 0)).setCell ⟨W3.heap.size + 2, 0, none⟩ (.int .i64 0)).setCell ⟨w.heap.size + 1, 0, none⟩ (.slice none 0 0)).setCell ⟨w.heap.size + 2, 0, none⟩ (.int .i64 0)).setCell ⟨w.heap.size + 3, 0, none⟩ (.int .i64 50)) ∧ (Boxed (((((U3.setCell ⟨W3.heap.size + 1, 0, none⟩ (.slice none 0 0)).setCell ⟨W3.heap.size + 2, 0, none⟩ (.int .i64 0)).setCell ⟨w.heap.size + 1, 0, none⟩ (.slice none 0 0)).setCell ⟨w.heap.size + 2, 0, none⟩ (.int .i64 0)).setCell ⟨w.heap.size + 3, 0, none⟩ (.int .i64 50)) (w.heap.size + 1) 38 (.slice none 0 0) ∧ Boxed (((((U3.setCell ⟨W3.heap.size + 1, 0, none⟩ (.slice none 0 0)).setCell ⟨W3.heap.size + 2, 0, none⟩ (.int .i64 0)).setCell ⟨w.heap.size + 1, 0, none⟩ (.slice none 0 0)).setCell ⟨w.heap.size + 2, 0, none⟩ (.int .i64 0)).setCell ⟨w.heap.size + 3, 0, none⟩ (.int .i64 50)) (w.heap.size + 2) 3 (.int .i64 0) ∧ Boxed (((((U3.setCell ⟨W3.heap.size + 1, 0, none⟩ (.slice none 0 0)).setCell ⟨W3.heap.size + 2, 0, none⟩ (.int .i64 0)).setCell ⟨w.heap.size + 1, 0, none⟩ (.slice none 0 0)).setCell ⟨w.heap.size + 2, 0, none⟩ (.int .i64 0)).setCell ⟨w.heap.size + 3, 0, none⟩ (.int .i64 50)) (w.heap.size + 3) 26 (.int .i64 50)) ∧ Below w.heap.size w (((((U3.setCell ⟨W3.heap.size + 1, 0, none⟩ (.slice none 0 0)).setCell ⟨W3.heap.size + 2, 0, none⟩ (.int .i64 0)).setCell ⟨w.heap.size + 1, 0, none⟩ (.slice none 0 0)).setCell ⟨w.heap.size + 2, 0, none⟩ (.int .i64 0)).setCell ⟨w.heap.size + 3, 0, none⟩ (.int .i64 50))) := by
            refine ⟨((((HK3.out.setCell (p := ⟨W3.heap.size + 1, 0, none⟩) (.inr (.inr (.inr (.inr (.inr (.inl rfl)))))) _).setCell (p := ⟨W3.heap.size + 2, 0, none⟩) (.inr (.inr (.inr (.inr (.inr (.inr rfl)))))) _).setCell (p := ⟨w.heap.size + 1, 0, none⟩) (.inl rfl) _).setCell (p := ⟨w.heap.size + 2, 0, none⟩) (.inr (.inl rfl)) _).setCell (p := ⟨w.heap.size + 3, 0, none⟩) (.inr (.inr (.inl rfl))) _, ⟨?_, ?_, ?_⟩, ?_⟩
            · exact boxed_setO (boxed_setO (Boxed.set _ (boxed_setO (boxed_setO HP3.out.b6 (by omega) _) (by omega) _)) (by omega) _) (by omega) _
            · exact boxed_setO (Boxed.set _ (boxed_setO (boxed_setO (boxed_setO HP3.out.b7 (by omega) _) (by omega) _) (by omega) _)) (by omega) _
            · exact Boxed.set _ (boxed_setO (boxed_setO (boxed_setO (boxed_setO HP3.out.b8 (by omega) _) (by omega) _) (by omega) _) (by omega) _)
            · exact ((((HP3.out.bel.setCell (p := ⟨W3.heap.size + 1, 0, none⟩) (by show _ ≤ _ + 1; omega) _).setCell (p := ⟨W3.heap.size + 2, 0, none⟩) (by show _ ≤ _ + 2; omega) _).setCell (p := ⟨w.heap.size + 1, 0, none⟩) (by show _ ≤ _ + 1; omega) _).setCell (p := ⟨w.heap.size + 2, 0, none⟩) (by show _ ≤ _ + 2; omega) _).setCell (p := ⟨w.heap.size + 3, 0, none⟩) (by show _ ≤ _ + 3; omega) _
          have HBADX : Hid (((q ++ [x]).map It.key).all smallK = false) := by
            show _ = _
            rw [List.map_append, List.all_append]
            simp [smallK, It.key, hs]
          gi_wp2_with fail
          refine ⟨trivial, ?_⟩
          refine hownI.mono ?_
          rintro e w' ⟨rfl, rfl⟩
          clear hownI HK3 HP3
          gi_wp2
          exact ⟨HNO.out.1, rfl, HNO.out.2.1, HNO.out.2.2, HBADX.out⟩

  case done =>
    rintro D xs V hD hxs ⟨⟨O, R, k, A1, c1, A2, c2, f, hY, hcut⟩, hsm⟩ hdf
    have hst : smallT t.norm = true := by rw [← (walkT_code 0 0 HTR.out).2, ← hxs]; exact hsm
    rw [hxs, (walkT_code 0 0 HTR.out).1] at hcut
    have HE : Hid (layO l (n : Int) (some t) = (M.putL l n (bitsE t.norm), n + (bitsE t.norm).length, 0)) := by
      show _ = _
      unfold layO
      rw [if_pos (M.rightB_nat HVA.out)]
      simp only [Int.toNat_natCast]
      rw [if_pos hst]
    have hbl := bitsE_len t.norm 4611686018427387904 HOKN.out.2.1 (by omega)
    have hnn := HOKN.out.2.2
    have hRl := hcut.len
    have hpos := hcut.pos
    have hk8 := hcut.lt
    rw [← hcut.all, ← hcut.pos] at HE
    have HLT : Hid (∀ y ∈ O ++ R, y < 256) := by
      show ∀ y ∈ O ++ R, y < 256
      rw [hcut.all]
      exact M.putL_lt l n _ HR.out.1 (bitsE_lt _)
    obtain ⟨E, hE⟩ : ∃ E, 8 * O.length + k = E := ⟨_, rfl⟩
    have hEi : (O.length : Int) * 8 + (k : Int) = (E : Int) := by omega
    rw [hE] at HE
    obtain ⟨A7, c7, W7, hap7, ha7⟩ := hY.own.append A2 c2 R V.heap.size hY.row.row 38 (by omega) hY.bel.size
    have HAP7 := Lib.hid hap7
    have bx : ∀ {g : Nat} {t : TypeId} {v : Value}, Boxed V g t v → t ≠ 5 → Boxed W7 g t v := fun hb ht => (ha7.oth _ hb.lt (hY.own.ne_box hb ht)).trans hb
    have e6 := bx hY.b6 (by decide)
    have e7 := bx hY.b7 (by decide)
    have e8 := bx hY.b8 (by decide)
    have hdf7 : W7.heap[D]? = some (.deferred (some [])) := ha7.kept.obj hdf (fun h => h) (fun h => by obtain ⟨_, e, _⟩ := h; cases e)
    have hg1 := hY.hs1
    have hDw : w.heap.size ≤ D := by have := hb6w.size; omega
    have x6 := Boxed.set (.slice A7 (O.length + R.length) c7) e6
    have x7 := Boxed.set (.int .i64 (E : Int)) (boxed_setO e7 (g' := w.heap.size + 1) (by omega) (.slice A7 (O.length + R.length) c7))
    have y6 := boxed_setO (boxed_setO x6 (g' := w.heap.size + 2) (by omega) (.int .i64 (E : Int))) (g' := w.heap.size + 3) (by omega) (.int .i64 0)
    have y7 := boxed_setO x7 (g' := w.heap.size + 3) (by omega) (.int .i64 0)
    have z8 := boxed_setO (boxed_setO e8 (g' := w.heap.size + 1) (by omega) (.slice A7 (O.length + R.length) c7)) (g' := w.heap.size + 2) (by omega) (.int .i64 (E : Int))
    have y8 := Boxed.set (.int .i64 0) z8
    have hown := ((ha7.own.setB e6 (by decide) (.slice A7 (O.length + R.length) c7)).setB (boxed_setO e7 (g' := w.heap.size + 1) (by omega) (.slice A7 (O.length + R.length) c7)) (by decide) (.int .i64 (E : Int))).setB z8 (by decide) (.int .i64 0)
    have hDb : ∀ g, D ≠ g → ∀ (W : World) u, W.heap[D]? = some (.deferred (some [])) → (W.setCell ⟨g, 0, none⟩ u).heap[D]? = some (.deferred (some [])) := fun g hg W u h => (Below.heap_setCell W ⟨g, 0, none⟩ u D hg).trans h
    have dn6 : D ≠ w.heap.size + 1 := fun e => by subst e; have h1 : W7.heap[w.heap.size + 1]? = _ := e6; rw [hdf7] at h1; cases h1
    have dn7 : D ≠ w.heap.size + 2 := fun e => by subst e; have h1 : W7.heap[w.heap.size + 2]? = _ := e7; rw [hdf7] at h1; cases h1
    have dn8 : D ≠ w.heap.size + 3 := fun e => by subst e; have h1 : W7.heap[w.heap.size + 3]? = _ := e8; rw [hdf7] at h1; cases h1
    have hdff := hDb _ dn8 _ (.int .i64 0) (hDb _ dn7 _ (.int .i64 (E : Int)) (hDb _ dn6 _ (.slice A7 (O.length + R.length) c7) hdf7))
    have hbf : Below w.heap.size w (((W7.setCell ⟨w.heap.size + 1, 0, none⟩ (.slice A7 (O.length + R.length) c7)).setCell ⟨w.heap.size + 2, 0, none⟩ (.int .i64 (E : Int))).setCell ⟨w.heap.size + 3, 0, none⟩ (.int .i64 0)) := (((hY.bel.trans ha7.bel).setCell (p := ⟨w.heap.size + 1, 0, none⟩) (by show _ ≤ _ + 1; omega) _).setCell (p := ⟨w.heap.size + 2, 0, none⟩) (by show _ ≤ _ + 2; omega) _).setCell (p := ⟨w.heap.size + 3, 0, none⟩) (by show _ ≤ _ + 3; omega) _
    have t6 := boxed_putD y6 hdff (.deferred none)
    have t7 := boxed_putD y7 hdff (.deferred none)
    have t8 := boxed_putD y8 hdff (.deferred none)
    have HROW := Lib.hid ((hown.putD hdff (.deferred none)).row HLT.out)
    have HB : Hid (∀ o', Below w.heap.size w ((((W7.setCell ⟨w.heap.size + 1, 0, none⟩ (.slice A7 (O.length + R.length) c7)).setCell ⟨w.heap.size + 2, 0, none⟩ (.int .i64 (E : Int))).setCell ⟨w.heap.size + 3, 0, none⟩ (.int .i64 0)).putObj D o')) := fun o' => hbf.trans (belowK_b (w := w) (Nat.le_refl _) _ D _ _ (by omega) hdff rfl rfl)
    have c6 := e6.cell
    have f6 := e6.frozen
    have c7' : ∀ u, (W7.setCell ⟨w.heap.size + 1, 0, none⟩ u).cell? ⟨w.heap.size + 2, 0, none⟩ = some (.int .i64 0) := fun u => (World.cell?_setCell_other _ _ _ _ (fun e => by injection e; omega)).trans e7.cell
    have f7 := e7.frozen
    have c8' : ∀ u u2, ((W7.setCell ⟨w.heap.size + 1, 0, none⟩ u).setCell ⟨w.heap.size + 2, 0, none⟩ u2).cell? ⟨w.heap.size + 3, 0, none⟩ = some (.int .i64 0) := fun u u2 => (World.cell?_setCell_other _ _ _ _ (fun e => by injection e; omega)).trans ((World.cell?_setCell_other _ _ _ _ (fun e => by injection e; omega)).trans e8.cell)
    have f8 := e8.frozen
    have d10 := hY.b10.cell
    have d11 := hY.b11.cell
    have d12 := hY.b12.cell
    have HDFF := Lib.hid hdff
    have HT6 := Lib.hid t6
    have HT7 := Lib.hid t7
    have HT8 := Lib.hid t8
    clear hseq hsm hap7 ha7 bx hcut hY hown y6 y7 y8 x6 x7 z8 e6 e7 e8 hdff hbf t6 t7 t8 hDb hdf hdf7 hE
    gi_wp2_with (gi_at_builtin; refine wpListIn_append_run rfl _ _ _ _ rfl _ _ rfl rfl HAP7.out ?_; clear HAP7)
    refine ⟨by simp, .inl ⟨_, _, rfl, run_takeDeferred HDFF.out, ?_⟩⟩
    have HBZ := Lib.hid (HB.out (.deferred none))
    have t6 := HT6.out.cell
    have t7 := HT7.out.cell
    have t8 := HT8.out.cell
    generalize (((W7.setCell ⟨w.heap.size + 1, 0, none⟩ (.slice A7 (O.length + R.length) c7)).setCell ⟨w.heap.size + 2, 0, none⟩ (.int .i64 (E : Int))).setCell ⟨w.heap.size + 3, 0, none⟩ (.int .i64 0)).putObj D (.deferred none) = Wz at t6 t7 t8 HROW HBZ ⊢
    refine ⟨.tuple #[.slice A7 (O.length + R.length) c7, .int .i64 (E : Int), .int .i64 0], ?_, ?_⟩
    · simp [results, Tryd.f29, go_sem, t6, t7, t8]
    · rw [HE.out]
      exact ⟨A7, c7, by rw [List.length_append], HROW.out, HBZ.out⟩

  case stop =>
    rintro D cd q V hD hq ⟨rfl, ⟨h6, h7, h8⟩, hbel, hsm⟩ hdf
    have HE : Hid (layO l (n : Int) (some t) = ([], 0, 50)) := by
      have hsf : smallT t.norm = false := by
        rw [← (walkT_code 0 0 HTR.out).2]
        obtain ⟨r, hr⟩ := hq
        rw [← hr, List.all_append, hsm, Bool.false_and]
      show _ = _
      unfold layO
      rw [if_pos (M.rightB_nat HVA.out)]
      simp only
      rw [if_neg (by rw [hsf]; simp)]
    have hDw : w.heap.size ≤ D := by have := hb6w.size; omega
    have HB : Hid (∀ o', Below w.heap.size w (V.putObj D o')) := fun o' => hbel.trans (belowK_b (w := w) (Nat.le_refl _) V D _ _ (by omega) hdf rfl rfl)
    have t6 := (boxed_putD h6 hdf (.deferred none)).cell
    have t7 := (boxed_putD h7 hdf (.deferred none)).cell
    have t8 := (boxed_putD h8 hdf (.deferred none)).cell
    clear hseq hsm hq
    gi_wp2
    refine ⟨by simp, .inl ⟨_, _, rfl, run_takeDeferred hdf, ?_⟩⟩
    refine ⟨.tuple #[.slice none 0 0, .int .i64 0, .int .i64 50], ?_, ?_⟩
    · simp [results, Tryd.f29, go_sem, t6, t7, t8]
    · rw [HE.out]
      exact ⟨none, 0, rfl, Row.none_ _ _ _, HB.out _⟩

end Go.Proofs.YtflghlmikpfnpaaDoor.E

namespace Go.Proofs.YtflghlmikpfnpaaDoor.E
open Go.RowKit

set_option maxRecDepth 100000 in
set_option maxHeartbeats 1600000 in
theorem lay_tree (A : Option Addr) (c : Nat) (l : List Nat) (n : Int) (T : Option Tr) (v : Value) (w : World) (hr : Row w w.heap.size A l) (hlc : l.length ≤ c) (hl : l.length ≤ 140737488351232) (h0 : -9223372036854775808 ≤ n) (h1 : n < 9223372036854775808) (hv : Arg w T v) :
    Calls Tryd.prog 29 #[.slice A l.length c, .int .i64 n, v] w (AnsB (layO l n T) w) := by
  obtain ⟨o, B, m, d, rfl⟩ := hv.form
  have hbW : Below w.heap.size w ((((w.alloc (.cells #[.int .i64 o, .slice B m d] 24)).alloc (.cells #[.slice none 0 0] 38)).alloc (.cells #[.int .i64 0] 3)).alloc (.cells #[.int .i64 0] 26)) := four_boxes w _ _ _ _
  have hcr := Go.Proofs.YtflghlmikpfnpaaDoor.right_any A c l n ((((w.alloc (.cells #[.int .i64 o, .slice B m d] 24)).alloc (.cells #[.slice none 0 0] 38)).alloc (.cells #[.int .i64 0] 3)).alloc (.cells #[.int .i64 0] 26)) _ (row_up hr hbW) (by omega) h0 h1
  by_cases hR : M.rightB l n = true
  · cases T with
    | none =>
      have HE : Hid (layO l n none = ([], 0, 2)) := by show _ = _; unfold layO; rw [if_pos hR]
      rw [hR] at hcr
      have hct := right_arg (hv.up hbW)
      simp only [Option.isSome_none] at hct
      unfold tv at hct ⊢
      obtain ⟨W0, hW0⟩ : ∃ W0, (((w.alloc (.cells #[.int .i64 o, .slice B m d] 24)).alloc (.cells #[.slice none 0 0] 38)).alloc (.cells #[.int .i64 0] 3)).alloc (.cells #[.int .i64 0] 26) = W0 := ⟨_, rfl⟩
      have hs0 : W0.heap.size = w.heap.size + 4 := by rw [← hW0]; simp
      have k6 : Boxed W0 (w.heap.size + 1) 38 (.slice none 0 0) := by
        have h := ((Boxed.new (w.alloc (.cells #[.int .i64 o, .slice B m d] 24)) 38 (.slice none 0 0)).alloc (.cells #[.int .i64 0] 3)).alloc (.cells #[.int .i64 0] 26)
        rw [hW0] at h
        simp only [World.size_alloc] at h
        exact h
      have k7 : Boxed W0 (w.heap.size + 1 + 1) 3 (.int .i64 0) := by
        have h := (Boxed.new ((w.alloc (.cells #[.int .i64 o, .slice B m d] 24)).alloc (.cells #[.slice none 0 0] 38)) 3 (.int .i64 0)).alloc (.cells #[.int .i64 0] 26)
        rw [hW0] at h
        simp only [World.size_alloc] at h
        exact h
      have k8 : Boxed W0 (w.heap.size + 1 + 1 + 1) 26 (.int .i64 0) := by
        have h := Boxed.new (((w.alloc (.cells #[.int .i64 o, .slice B m d] 24)).alloc (.cells #[.slice none 0 0] 38)).alloc (.cells #[.int .i64 0] 3)) 26 (.int .i64 0)
        rw [hW0] at h
        simp only [World.size_alloc] at h
        exact h
      have t0 : W0.cell? ⟨w.heap.size, 0, none⟩ = some (.int .i64 o) := by rw [← hW0]; simp [go_sem]
      have t1 : W0.cell? ⟨w.heap.size, 1, none⟩ = some (.slice B m d) := by rw [← hW0]; simp [go_sem]
      rw [hW0] at hcr hct hbW
      have HBW := Lib.hid hbW
      clear hv hr hbW hR
      go_enter Tryd.func29, Tryd.ntmps29
      go_wp2_with fail
      refine hcr.mono ?_
      rintro e w' ⟨rfl, rfl⟩
      clear hcr
      go_wp2_with fail
      refine hct.mono ?_
      rintro e w1 ⟨rfl, hb1⟩
      have e6 := boxed_below k6 hb1 k6.lt
      have e7 := boxed_below k7 hb1 k7.lt
      have e8 := boxed_below k8 hb1 k8.lt
      have c6 := e6.cell
      have f6 := e6.frozen
      have c7 := e7.cell
      have f7 := e7.frozen
      have c8 := e8.cell
      have f8 := e8.frozen
      have x6 := boxed_setO (boxed_setO (Boxed.set (.slice none 0 0) e6) (g' := w.heap.size + 1 + 1) (by omega) (.int .i64 0)) (g' := w.heap.size + 1 + 1 + 1) (by omega) (.int .i64 2)
      have x7 := boxed_setO (Boxed.set (.int .i64 0) (boxed_setO e7 (g' := w.heap.size + 1) (by omega) (.slice none 0 0))) (g' := w.heap.size + 1 + 1 + 1) (by omega) (.int .i64 2)
      have x8 := Boxed.set (.int .i64 2) (boxed_setO (boxed_setO e8 (g' := w.heap.size + 1) (by omega) (.slice none 0 0)) (g' := w.heap.size + 1 + 1) (by omega) (.int .i64 0))
      have HX6 := Lib.hid x6.cell
      have HX7 := Lib.hid x7.cell
      have HX8 := Lib.hid x8.cell
      have c7' : ∀ u, (w1.setCell ⟨w.heap.size + 1, 0, none⟩ u).cell? ⟨w.heap.size + 1 + 1, 0, none⟩ = some (.int .i64 0) := fun u => (World.cell?_setCell_other _ _ _ _ (fun e => by injection e; omega)).trans c7
      have c8' : ∀ u u2, ((w1.setCell ⟨w.heap.size + 1, 0, none⟩ u).setCell ⟨w.heap.size + 1 + 1, 0, none⟩ u2).cell? ⟨w.heap.size + 1 + 1 + 1, 0, none⟩ = some (.int .i64 0) := fun u u2 => (World.cell?_setCell_other _ _ _ _ (fun e => by injection e; omega)).trans ((World.cell?_setCell_other _ _ _ _ (fun e => by injection e; omega)).trans c8)
      have HB : Hid (Below w.heap.size w (((w1.setCell ⟨w.heap.size + 1, 0, none⟩ (.slice none 0 0)).setCell ⟨w.heap.size + 1 + 1, 0, none⟩ (.int .i64 0)).setCell ⟨w.heap.size + 1 + 1 + 1, 0, none⟩ (.int .i64 2))) := (((HBW.out.trans (hb1.mono HBW.out.size)).setCell (p := ⟨w.heap.size + 1, 0, none⟩) (by show _ ≤ _ + 1; omega) _).setCell (p := ⟨w.heap.size + 1 + 1, 0, none⟩) (by show _ ≤ _ + 1; omega) _).setCell (p := ⟨w.heap.size + 1 + 1 + 1, 0, none⟩) (by show _ ≤ _ + 1; omega) _
      clear hct hb1 HBW x6 x7 x8 e6 e7 e8 k6 k7 k8 t0 t1
      go_wp2
      have t6 := HX6.out
      have t7 := HX7.out
      have t8 := HX8.out
      generalize ((w1.setCell ⟨w.heap.size + 1, 0, none⟩ (.slice none 0 0)).setCell ⟨w.heap.size + 1 + 1, 0, none⟩ (.int .i64 0)).setCell ⟨w.heap.size + 1 + 1 + 1, 0, none⟩ (.int .i64 2) = Wz at t6 t7 t8 HB ⊢
      refine bodyPost_ret (v := .tuple #[.slice none 0 0, .int .i64 0, .int .i64 2]) (by simp [results, Tryd.f29, go_sem, t6, t7, t8]) rfl ?_
      rw [HE.out]
      exact ⟨none, 0, rfl, Row.none_ _ _ _, HB.out⟩
    | some t =>
      obtain ⟨hn0, hV⟩ := M.rightB_true hR
      obtain ⟨N, rfl⟩ : ∃ N : Nat, n = (N : Int) := ⟨n.toNat, by omega⟩
      exact lay_main A c l N t _ w hr hlc hl (by simpa using hV) hv
  · have hRf : M.rightB l n = false := by simpa using hR
    have HE : Hid (layO l n T = ([], 0, 2)) := if_neg hR
    rw [hRf] at hcr
    unfold tv
    have HBW := Lib.hid hbW
    clear hv hr hbW hR hRf
    go_enter Tryd.func29, Tryd.ntmps29
    go_wp2_with fail
    refine hcr.mono ?_
    rintro e w' ⟨rfl, rfl⟩
    clear hcr
    go_wp2
    refine bodyPost_ret (v := .tuple #[.slice none 0 0, .int .i64 0, .int .i64 2]) (by simp [results, Tryd.f29, go_sem]) rfl ?_
    rw [HE.out]
    refine ⟨none, 0, rfl, Row.none_ _ _ _, ?_⟩
    exact four_boxes w _ _ _ _
end Go.Proofs.YtflghlmikpfnpaaDoor.E
