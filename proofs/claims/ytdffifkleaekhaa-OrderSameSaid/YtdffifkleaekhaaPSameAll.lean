/-
  A slice of operations of the call's own.
  Behind, Ops.
  The reference's SameOps.
  A pool while a law runs.
  put: a pool with operations, or the first that is refused.
  order.Same; makers; two operations appended.
  OrderSame: turned round and each twice, the same comes out.
  The law OrderSame answers true for every input, and leaves what it was given as it was. Conditions: none beside the form's own.
-/
import Derived.Test.YtdffifkleaekhaaPGate
import Derived.Deep.LoopGhost
namespace Go.Proofs.Ytdffifkleaekhaa.O
open Go.RowKit Go.Proofs.Ytdffifkleaekhaa.V
set_option linter.unusedVariables false
set_option linter.unusedSimpArgs false

def cellsO (l : List Ov) : List Value := l.flatMap fun x => x.cells.toList
theorem cellsO_cons (x : Ov) (t : List Ov) : cellsO (x :: t) = x.cells.toList ++ cellsO t := rfl
theorem cellsO_append (l m : List Ov) : cellsO (l ++ m) = cellsO l ++ cellsO m := by simp [cellsO]
theorem cellsO_length : ∀ l : List Ov, (cellsO l).length = l.length * 8
  | [] => rfl
  | x :: t => by rw [cellsO_cons, List.length_append, cellsO_length t, List.length_cons]; show 8 + _ = _; omega
theorem cellsO_get : ∀ (l : List Ov) (j : Nat) (x : Ov), l[j]? = some x → ∀ i, i < 8 → (cellsO l)[j * 8 + i]? = x.cells[i]?
  | [], j, x, h, _, _ => by simp at h
  | y :: t, 0, x, h, i, hi => by
    simp at h; subst h
    rw [cellsO_cons, Nat.zero_mul, Nat.zero_add, List.getElem?_append_left (by show i < 8; exact hi)]
    simp
  | y :: t, j + 1, x, h, i, hi => by
    have ih := cellsO_get t j x (by simpa using h) i hi
    rw [cellsO_cons, List.getElem?_append_right (by show 8 ≤ _; omega), show (j + 1) * 8 + i - y.cells.toList.length = j * 8 + i by show (j + 1) * 8 + i - 8 = _; omega]
    exact ih
theorem oneCell_cellsO (l : List Ov) : ∀ v ∈ cellsO l, v.oneCell' = true := by
  intro v hv
  obtain ⟨x, _, h⟩ := List.mem_flatMap.1 hv
  simp only [Ov.cells, List.mem_cons, List.not_mem_nil, or_false] at h
  rcases h with rfl | rfl | rfl | rfl | rfl | rfl | rfl | rfl <;> rfl
def GrO (w : World) (base : Nat) (A : Option Addr) (c : Nat) (l : List Ov) : Prop := w.ownsRow base 26 8 (.slice A l.length c) l.length (cellsO l)
theorem GrO.nil (w : World) (base : Nat) : GrO w base none 0 [] := ⟨by simp [cellsO], .inl ⟨rfl, rfl⟩⟩
theorem GrO.cases {w : World} {base : Nat} {A : Option Addr} {c : Nat} {l : List Ov} (h : GrO w base A c l) : (A = none ∧ l = [] ∧ c = 0) ∨ ∃ g cur, A = some ⟨g, 0, none⟩ ∧ base ≤ g ∧ w.heap[g]? = some (.cells cur 26 (0, 0)) ∧ l.length ≤ c ∧ c ≤ maxLen ∧ cur.size = c * 8 ∧ cur.toList.take (l.length * 8) = cellsO l := by
  rcases h.2 with ⟨e, h0⟩ | ⟨g, cap, cur, e, hb, hc, h1, h2, h3, h4⟩
  · injection e with e1 e2 e3
    exact .inl ⟨e1, List.eq_nil_of_length_eq_zero e2, e3⟩
  · injection e with e1 e2 e3
    subst e1; subst e3
    exact .inr ⟨g, cur, rfl, hb, hc, h1, h2, h3, h4⟩
theorem GrO.row {w : World} {base c : Nat} {A : Option Addr} {l : List Ov} (h : GrO w base A c l) : RowO w w.heap.size A l := by
  rcases h.cases with ⟨rfl, rfl, rfl⟩ | ⟨g, cur, rfl, hb, hc, h1, h2, h3, h4⟩
  · exact fun h => absurd h (by simp)
  · refine fun _ => ⟨g, 0, rfl, (Array.getElem?_eq_some_iff.1 hc).1, fun j x hx => ?_⟩
    have hj := (List.getElem?_eq_some_iff.1 hx).1
    have hcell : ∀ i, i < 8 → w.cell? ⟨g, 0 + j * 8 + i, none⟩ = x.cells[i]? := fun i hi => by
      rw [cell_of_row w g _ cur 26 (0, 0) hc, ← cellsO_get l j x hx i hi, ← h4, List.getElem?_take, if_pos (by omega), Nat.zero_add]
      simp
    exact ⟨hcell 0 (by omega), hcell 1 (by omega), hcell 2 (by omega), hcell 3 (by omega), hcell 4 (by omega), hcell 5 (by omega), hcell 6 (by omega), hcell 7 (by omega)⟩
theorem GrO.cap {w : World} {base c : Nat} {A : Option Addr} {l : List Ov} (h : GrO w base A c l) : l.length ≤ c ∧ c ≤ maxLen := by
  rcases h.cases with ⟨rfl, rfl, rfl⟩ | ⟨g, cur, rfl, hb, hc, h1, h2, h3, h4⟩
  · exact ⟨by simp, by unfold maxLen; omega⟩
  · exact ⟨h1, h2⟩
theorem GrO.lt {w : World} {base c : Nat} {A : Option Addr} {l : List Ov} (h : GrO w base A c l) : ∀ k, blk A = some k → base ≤ k ∧ k < w.heap.size := by
  have := World.ownsRow.lt h
  rw [blk_own] at this
  exact this
theorem GrO.below {w w' : World} {base c B : Nat} {A : Option Addr} {l : List Ov} (h : GrO w base A c l) (hb : Below B w w') (hB : w.heap.size ≤ B) : GrO w' base A c l := by
  refine ⟨h.1, ?_⟩
  rcases h.2 with ⟨e, h0⟩ | ⟨g, cap, cur, e, hb', hc, h1⟩
  · exact .inl ⟨e, h0⟩
  · have := (Array.getElem?_eq_some_iff.1 hc).1
    exact .inr ⟨g, cap, cur, e, hb', (hb.block g (by omega)).trans hc, h1⟩
theorem info26 : (Try.prog.info? 26).map (fun i => (i.zero, i.size, i.bytes)) = some (some opZero, 8, 120) := by kernel_rfl
/-- append(out, o). Where the new slice lies: where it lay, or in a new block. -/
theorem GrO.one {w : World} {base c : Nat} {A : Option Addr} {l : List Ov} (h : GrO w base A c l) (r : Ov) (ty : TypeId) (hb : l.length ≤ 1000000) (hbase : base ≤ w.heap.size) :
    ∃ A' c' w', (Builtin.append_ #[36, 36] ty #[.slice A l.length c, .slice (some ⟨w.heap.size, 0, none⟩) 1 1]).run Try.prog (w.alloc (.cells r.cells 26)) = .ok (.slice A' (l.length + 1) c') w' ∧ GrO w' base A' c' (l ++ [r]) ∧ Below base w w' ∧ (∀ k, k < w.heap.size → blk A ≠ some k → w'.heap[k]? = w.heap[k]?) ∧ w.heap.size ≤ w'.heap.size ∧ (blk A' = blk A ∨ ∃ k, blk A' = some k ∧ w.heap.size ≤ k) := by
  obtain ⟨i0, hi, hz0, hz1, hz2⟩ := info_parts info26
  have hB0 : Below base w (w.alloc (.cells r.cells 26)) := (Below.refl _ w).alloc hbase _
  have hBt : Below w.heap.size w (w.alloc (.cells r.cells 26)) := (Below.refl _ w).alloc (Nat.le_refl _) _
  have hcell : ∀ j u, (cellsO [r])[j]? = some u → (w.alloc (.cells r.cells 26)).cell? ((⟨w.heap.size, 0, none⟩ : Addr).add j) = some u := by
    intro j u hu
    have e : (⟨w.heap.size, 0, none⟩ : Addr).add j = ⟨w.heap.size, j, none⟩ := by
      unfold Addr.add; split
      · rename_i h; subst h; rfl
      · simp
    rw [e, cell_of_row _ _ j _ 26 (0, 0) (heap_alloc_new w _)]
    simpa [cellsO] using hu
  obtain ⟨v', w', hrun, ho, hg, hn, hat⟩ := run_append_own_at (P := Try.prog) (w.alloc (.cells r.cells 26)) base 36 ty 26 i0 opZero 8 120 Try.underlying36 hi hz0 hz1 hz2 rfl (by decide) _ _ _ (h.below hBt (Nat.le_refl _)) _ 1 1 (cellsO [r]) (by rw [cellsO_length]; rfl) hcell (oneCell_cellsO [r]) (by unfold maxLen; omega) (by omega) (by simp; omega)
  have hB : Below base w w' := hB0.grown hg (by simp; omega) (fun k e => by rw [blk_own] at e; exact (h.lt k e).1)
  have e2 : cellsO (l ++ [r]) = cellsO l ++ cellsO [r] := cellsO_append _ _
  have e3 : (l ++ [r]).length = l.length + 1 := by simp
  rw [blk_own] at hg hat
  rcases ho.2 with ⟨e, h0⟩ | ⟨g', cap', cur, e, _⟩
  · omega
  · rw [e] at hrun ho hat
    refine ⟨_, _, w', hrun, by unfold GrO; rw [e2, e3]; exact ho, hB, fun k hk hne => ?_, ?_, ?_⟩
    · exact (hg.block k (by simp; omega) (fun e => hne e.symm)).trans (hBt.block k hk)
    · have := hg.size; simp only [World.size_alloc] at this; omega
    · rw [blk_own] at hat
      rcases hat with hat | hat
      · exact .inl hat
      · exact .inr ⟨_, hat, by simp⟩
/-- Operations that the call has made: where each of them lies, apart from their row. -/
def OutO (B : Nat) (A : Option Addr) (w : World) (l : List Ov) : Prop := ∀ x ∈ l, x.ok w w.heap.size ∧ (Lies x.A B w.heap.size ∧ Apart (fun k => blk A = some k) x.A) ∧ (Lies x.A2 B w.heap.size ∧ Apart (fun k => blk A = some k) x.A2)
theorem OutO.up {B : Nat} {A : Option Addr} {w w' : World} {l : List Ov} (h : OutO B A w l) (hb : Below w.heap.size w w') : OutO B A w' l := fun x hx => by
  obtain ⟨h1, h2, h3⟩ := h x hx
  exact ⟨h1.up hb, ⟨h2.1.mono (Nat.le_refl _) hb.size, h2.2⟩, ⟨h3.1.mono (Nat.le_refl _) hb.size, h3.2⟩⟩
/-- One more. -/
theorem OutO.one {B : Nat} {A A' : Option Addr} {w w' : World} {l : List Ov} {y : Ov} (h : OutO B A w l) (hy : y.ok w w.heap.size) (l1 : Lies y.A B w.heap.size) (l2 : Lies y.A2 B w.heap.size) (a1 : Apart (fun k => blk A = some k) y.A) (a2 : Apart (fun k => blk A = some k) y.A2)
    (hb : But (fun k => blk A = some k) w w') (hA : blk A' = blk A ∨ ∃ k, blk A' = some k ∧ w.heap.size ≤ k) : OutO B A' w' (l ++ [y]) := fun x hx => by
  have key : ∀ {C : Option Addr}, Lies C B w.heap.size → Apart (fun k => blk A = some k) C → Apart (fun k => blk A' = some k) C := fun {C} hl ha k hk he => by
    rcases hA with hA | ⟨j, hA, hj⟩
    · rw [hA] at he; exact ha k hk he
    · rw [hA] at he; injection he with he; have := (hl k hk).2; omega
  have all : ∀ z : Ov, (z.ok w w.heap.size ∧ (Lies z.A B w.heap.size ∧ Apart (fun k => blk A = some k) z.A) ∧ (Lies z.A2 B w.heap.size ∧ Apart (fun k => blk A = some k) z.A2)) → (z.ok w' w'.heap.size ∧ (Lies z.A B w'.heap.size ∧ Apart (fun k => blk A' = some k) z.A) ∧ (Lies z.A2 B w'.heap.size ∧ Apart (fun k => blk A' = some k) z.A2)) := fun z ⟨g1, g2, g3⟩ =>
    ⟨hb.ov g1 g2.2 g3.2, ⟨g2.1.mono (Nat.le_refl _) hb.size, key g2.1 g2.2⟩, ⟨g3.1.mono (Nat.le_refl _) hb.size, key g3.1 g3.2⟩⟩
  rcases List.mem_append.1 hx with hx | hx
  · exact all x (h x hx)
  · simp at hx; subst hx
    exact all _ ⟨hy, ⟨l1, a1⟩, ⟨l2, a2⟩⟩
/-- What Behind hands out. -/
def OpsR (B : Nat) (e : Ending) (w' : World) (r : List Op × Int) : Prop :=
  ∃ A c l, e = .returned (.tuple #[.slice A l.length c, .int .i64 r.2]) ∧ l.map (fun x => x.o) = r.1 ∧ GrO w' B A c l ∧ OutO B A w' l
def behO (L : List Op) (v : List D) : List Op × Int := if rightB v = true then (L.filter fun o => decide (at' v o.dot.1 < o.dot.2), 0) else ([], 2)
end Go.Proofs.Ytdffifkleaekhaa.O

namespace Go.Proofs.Ytdffifkleaekhaa.O
open Go.RowKit Go.Proofs.Ytdffifkleaekhaa.V
set_option linter.unusedVariables false
set_option linter.unusedSimpArgs false


set_option maxRecDepth 100000 in
set_option maxHeartbeats 6400000 in
theorem behind_any {p : Pv} {w : World} {b : Nat} {q : Pool} (h : p.At w b) (hr : Rel p q) (hi : Inv q) (hn : q.L.length ≤ 100000) {A : Option Addr} {c : Nat} {v : List D} (hx : Vc.ok ⟨A, c, v⟩ w w.heap.size) :
    Calls Try.prog 29 #[.pointer (some ⟨b, 0, none⟩), .slice A v.length c] w fun e w' => OpsR w.heap.size e w' (behO q.L v) ∧ Below w.heap.size w w' := by
  have hcall := right_any c hx.1 hx.2.2.2
  have HA := Lib.hid (And.intro h (And.intro hr (And.intro hi hn)))
  have HX := Lib.hid hx
  obtain ⟨M, hM⟩ : ∃ L, v.length = L := ⟨_, rfl⟩
  simp only at hcall
  rw [hM] at hcall ⊢
  have HM := Lib.hid hM
  obtain ⟨RV, hRV⟩ : ∃ R, rightB v = R := ⟨_, rfl⟩
  rw [hRV] at hcall
  have HRV := Lib.hid hRV
  have hBO : Hid (behO q.L v = if RV = true then (q.L.filter fun o => decide (at' v o.dot.1 < o.dot.2), 0) else ([], 2)) := by show _ = _; rw [← hRV]; rfl
  obtain ⟨BO, hBO2⟩ : ∃ B, behO q.L v = B := ⟨_, rfl⟩
  rw [hBO2] at hBO ⊢
  obtain ⟨n, hnn⟩ : ∃ n, p.ds.length = n := ⟨_, rfl⟩
  have HN := Lib.hid hnn
  obtain ⟨Ad, hAd⟩ : ∃ A, p.Ad = A := ⟨_, rfl⟩
  obtain ⟨cd, hcd⟩ : ∃ A, p.cd = A := ⟨_, rfl⟩
  have HAD := Lib.hid (And.intro hAd hcd)
  obtain ⟨m0, hm0⟩ : ∃ m, p.M = m := ⟨_, rfl⟩
  have HMM := Lib.hid hm0
  have HPC : Hid (∀ W, Below w.heap.size w W → W.cell? ⟨b, 1, none⟩ = some (.slice Ad n cd) ∧ W.cell? ⟨b, 0, none⟩ = some (.map m0)) := fun W hW => by
    have h0 := (h.up hW).box.at
    refine ⟨?_, ?_⟩
    · have := h0.c1; rw [hnn, hAd, hcd] at this; exact this
    · have := h0.c0; rw [hm0] at this; exact this
  clear hM hRV hBO2 hnn hAd hcd hm0 h hr hi hn hx
  go_enter Try.func29, Try.ntmps29
  go_wp2_with fail
  refine hcall.mono ?_
  rintro e wa ⟨rfl, hba⟩
  clear hcall
  cases RV with
  | false =>
    have hR : Hid (BO = ([], 2)) := hBO.out
    have HB := Lib.hid hba
    clear hba
    go_wp2
    go_ret2
    rw [hR.out]
    exact ⟨⟨none, 0, [], rfl, rfl, GrO.nil _ _, fun x hx => by cases hx⟩, HB.out⟩
  | true =>
    have hR : Hid (BO = (q.L.filter fun o => decide (at' v o.dot.1 < o.dot.2), 0)) := hBO.out
    obtain ⟨k1, _⟩ := HPC.out _ hba
    have HB := Lib.hid hba
    have hn6 : n ≤ 100000 := by rw [← HN.out, HA.out.2.1.ds]; simpa using HA.out.2.2.2
    clear hba hBO
    go_wp2
    go_loopg [6, 21] n (fun k o i wr => ∃ (j : Nat) (A4 : Option Addr) (c4 ln : Nat) (l : List Ov), j ≤ n ∧ k = n - j ∧ i = .int .i64 j ∧ o = .slice A4 ln c4 ∧ Hid (l.length = ln ∧ l.map (fun x => x.o) = (q.L.take j).filter fun o => decide (at' v o.dot.1 < o.dot.2)) ∧ Hid (GrO wr w.heap.size A4 c4 l ∧ OutO w.heap.size A4 wr l) ∧ Below w.heap.size w wr)
    case atStart => exact ⟨0, none, 0, 0, [], by omega, by omega, rfl, rfl, ⟨rfl, rfl⟩, ⟨GrO.nil _ _, fun x hx => by cases hx⟩, HB.out⟩
    case round =>
      obtain ⟨j, A4, c4, ln, l, hj, hgk, rfl, rfl, hl, hg, hbw⟩ := hrel
      have HGK := Lib.hid hgk; clear hgk k1
      by_cases hlt : j < n
      · have hlt' : j < p.ds.length := by rw [HN.out]; exact hlt
        obtain ⟨o, ho⟩ : ∃ o, q.L[j]? = some o := by
          rw [HA.out.2.1.ds] at hlt'
          exact ⟨_, List.getElem?_eq_getElem (by simpa using hlt')⟩
        have hod : p.ds[j]'hlt' = o.dot := by
          have h0 : p.ds[j]? = some o.dot := by rw [HA.out.2.1.ds, List.getElem?_map, ho]; rfl
          rw [List.getElem?_eq_getElem hlt'] at h0
          injection h0
        have hmem : o ∈ q.L ++ q.W := List.mem_append.2 (.inl (List.mem_of_getElem? ho))
        obtain ⟨x, hx, hxo⟩ := HA.out.2.1.has HA.out.2.2.1 hmem
        have hdb : dotB o.dot = true := (rightO_iff (HA.out.2.2.1.ro o hmem)).dot
        have hfew := hr_few (HA.out.2.2.1.ro o hmem)
        have hAr := HA.out.1.up hbw
        obtain ⟨g, off, hga, hgl, g0, g1⟩ := hAr.gd.row.at j hlt'
        rw [hod] at g0 g1
        rw [HAD.out.1] at hga
        subst hga
        obtain ⟨⟨s, m⟩, hd⟩ : ∃ d, o.dot = d := ⟨_, rfl⟩
        rw [hd] at g0 g1 hdb
        simp only at g0 g1
        have hsz := hbw.size
        have HO := Lib.hid (And.intro ho (And.intro hd (And.intro hx (And.intro hxo (And.intro hfew hdb)))))
        obtain ⟨V, hV⟩ : ∃ V, at' v s = V := ⟨_, rfl⟩
        have HV := Lib.hid hV
        have hstep : Hid ((q.L.take (j + 1)).filter (fun o => decide (at' v o.dot.1 < o.dot.2)) = (q.L.take j).filter (fun o => decide (at' v o.dot.1 < o.dot.2)) ++ (if V < m then [o] else [])) := by
          show _ = _
          rw [List.take_add_one, List.filter_append, ho]
          simp only [Option.toList_some, List.filter_cons, List.filter_nil, hd, hV]
          by_cases e : V < m <;> simp [e]
        obtain ⟨We, hWe⟩ : ∃ We, wr.alloc (.cells #[.string s, .int .i64 m] 23) = We := ⟨_, rfl⟩
        have HWe := Lib.hid hWe
        have hTw : Two We wr.heap.size (.string s) (.int .i64 m) := by rw [← hWe]; exact Two.new wr _ _
        have HBr : Hid (Below wr.heap.size wr We) := by show Below _ _ _; rw [← hWe]; exact (Below.refl _ wr).alloc (Nat.le_refl _) _
        have HBE : Hid (Below w.heap.size w We) := hbw.trans (HBr.out.mono hsz)
        have HS0 : Hid (Below We.heap.size We We.drew) := (Below.refl _ We).drew
        have HT : Hid (∀ W, Below We.heap.size We W → W.cell? ⟨wr.heap.size, 0, none⟩ = some (.string s) ∧ W.cell? ⟨wr.heap.size, 1, none⟩ = some (.int .i64 m)) := fun W hW => ⟨(hTw.below hW hTw.lt).c0, (hTw.below hW hTw.lt).c1⟩
        have HAT : Hid (∀ W, Below We.heap.size We W → Calls Try.prog 71 #[.slice A M c, .string s] W fun e w' => e = .returned (.int .i64 V) ∧ Below W.heap.size W w') := fun W hW => by
          have h0 := HX.out.up (HBE.out.trans (hW.mono HBE.out.size))
          have h1 := at_any c s h0.1 h0.2.2.2
          simp only at h1
          rw [hV, HM.out] at h1
          exact h1
        have HG := Lib.hid (And.intro hl.out (And.intro hg.out hbw))
        have hlnn : ln ≤ 100000 := by
          have h0 := congrArg List.length hl.out.2
          rw [List.length_map, hl.out.1] at h0
          have h1 := List.length_filter_le (fun o => decide (at' v o.dot.1 < o.dot.2)) (q.L.take j)
          rw [List.length_take] at h1
          omega
        clear hWe hTw hl hg hV ho hd hx hxo hfew hdb hod hmem hAr
        go_upto_region 9 with fail
        have hwx := HWe.out
        try rw [hwx]
        clear hwx g0 g1 hbw
        refine wp_region_held_drew (S := fun Wv => Below We.heap.size We Wv) (by kernel_rfl) HS0.out (fun hS => ?_)
        generalize We.drew = Wd at *
        refine wpAnyH_take (i := 0) (v := ?_) rfl (by kernel_rfl) (by kernel_rfl) (by kernel_rfl) (fun _ _ _ h => h) (Yields.yieldsIf (Or.inl ⟨by kernel_rfl, ?_⟩)) hS ?_
        rotate_left
        · first | (intro w; go_simp; done) | (intro w; go_simp; with_reducible rfl)
        refine wpAnyH_take (i := 1) (v := ?_) rfl (by kernel_rfl) (by kernel_rfl) (by kernel_rfl) (fun _ _ _ h => h) (Or.inl ⟨by kernel_rfl, fun W hW => ?_⟩) hS ?_
        rotate_left
        · obtain ⟨c0, c1⟩ := HT.out W hW
          first | (go_simp; done) | (go_simp; with_reducible rfl)
        refine wpAnyH_take (i := 2) (v := ?_) rfl (by kernel_rfl) (by kernel_rfl) (by kernel_rfl) (fun _ _ _ h => h) (Yields.yieldsIf (Or.inl ⟨by kernel_rfl, ?_⟩)) hS ?_
        rotate_left
        · first | (intro w; go_simp; done) | (intro w; go_simp; with_reducible rfl)
        refine wpAnyH_take (i := 3) (v := ?_) rfl (by kernel_rfl) (by kernel_rfl) (by kernel_rfl) (fun _ _ _ h => h) (Yields.yieldsIf (Or.inl ⟨by kernel_rfl, ?_⟩)) hS ?_
        rotate_left
        · first | (intro w; go_simp; done) | (intro w; go_simp; with_reducible rfl)
        refine wpAnyH_take (i := 4) (v := ?_) rfl (by kernel_rfl) (by kernel_rfl) (by kernel_rfl) (fun _ _ _ h => h) (Or.inl ⟨by kernel_rfl, fun W hW => ?_⟩) hS ?_
        rotate_left
        · obtain ⟨c0, c1⟩ := HT.out W hW
          first | (go_simp; done) | (go_simp; with_reducible rfl)
        try go_simp
        refine wpAnyH_ready (rs := [5]) (by kernel_rfl) (by simp) ?_
        refine AllReadyH.cons rfl (fun K hK => ?_) AllReadyH.nil
        go_simp
        go_wp2_with fail
        refine (HAT.out _ HS0.out).mono ?_
        rintro e wx ⟨rfl, hba⟩
        have HSx := Lib.hid (HS0.out.trans (hba.mono HS0.out.size))
        clear hba
        have hS3 : Below We.heap.size We wx := HSx.out
        refine hK.out _ _ hS3 (fun hS => ?_)
        clear hK K hS3
        refine wpAnyH_take (i := 6) (v := ?_) rfl (by kernel_rfl) (by kernel_rfl) (by kernel_rfl) (fun _ _ _ h => h) (Yields.yieldsIf (Or.inl ⟨by kernel_rfl, ?_⟩)) hS ?_
        rotate_left
        · first | (intro w; go_simp; done) | (intro w; go_simp; with_reducible rfl)
        try go_simp
        refine wpAnyH_done (by kernel_rfl) ?_ _
        by_cases hvm : V < m
        · have hgt : V < m := hvm
          go_upto_region 10 with fail
          have HSy : Hid (Below We.heap.size We wx.drew) := HSx.out.drew
          have HBy : Hid (Below wr.heap.size wr wx.drew) := HBr.out.trans (HSy.out.mono HBr.out.size)
          have HPy : Hid (Below w.heap.size w wx.drew) := HBE.out.trans (HSy.out.mono HBE.out.size)
          obtain ⟨mm, hmm⟩ : ∃ mm, m0 = some mm := by
            have h0 := HA.out.1.mp
            unfold Pv.map at h0
            rw [HMM.out] at h0
            cases m0 with
            | none =>
              have h1 : p.O = [] := h0
              have h2 := HO.out.2.2.1
              rw [h1] at h2; cases h2
            | some mm => exact ⟨mm, rfl⟩
          subst hmm
          have HLK : Hid (∀ W, Below wx.drew.heap.size wx.drew W → W.cell? ⟨b, 0, none⟩ = some (.map (some mm)) ∧ (Instr.lookup 86 (.map (some mm)) (.agg #[.string s, .int .i64 m]) false).run Try.prog W = .ok x.v W ∧ W.cell? ⟨wr.heap.size, 0, none⟩ = some (.string s) ∧ W.cell? ⟨wr.heap.size, 1, none⟩ = some (.int .i64 m)) := fun W hW => by
            have hW2 := HPy.out.trans (hW.mono HPy.out.size)
            have hm := (HA.out.1.up hW2).mp
            unfold Pv.map at hm
            rw [HMM.out] at hm
            have hq := dotB_iff.1 HO.out.2.2.2.2.2
            simp only at hq
            have h1 := hm.2.look false (s := s) (k := m) (by have := (nameB_pos hq.1).2; unfold maxLen; omega) (wf64 hq.2)
            have h2 := HO.out.2.2.1
            rw [HO.out.2.1] at h2
            rw [h2] at h1
            obtain ⟨t0, t1⟩ := HT.out W (HSy.out.trans (hW.mono HSy.out.size))
            exact ⟨(HPC.out W hW2).2, h1, t0, t1⟩
          have hxk : Ov.ok x wx.drew wx.drew.heap.size := ((HA.out.1.up HPy.out).ops x (List.mem_of_find?_eq_some HO.out.2.2.1)).1
          obtain ⟨vx, hvx⟩ : ∃ vv, x.v = vv := ⟨_, rfl⟩
          have hown := own_r x hxk (by rw [HO.out.2.2.2.1]; exact HO.out.2.2.2.2.1.1) (by rw [HO.out.2.2.2.1]; exact HO.out.2.2.2.2.1.2)
          rw [hvx] at HLK hown
          have HOWN := Lib.hid hown
          have hS2 : Below wx.drew.heap.size wx.drew wx.drew := Below.refl _ _
          clear hvx hown hxk hS
          have HBY2 := Lib.hid (And.intro HBy.out HPy.out)
          refine wp_region_held_drew (S := fun Wv => But (fun k => blk A4 = some k) wx.drew Wv) (by kernel_rfl) (But.of hS2) (fun hS => ?_)
          clear hS2
          generalize wx.drew = Wf at *
          have HA4 : Hid (∀ k, blk A4 = some k → w.heap.size ≤ k ∧ k < wr.heap.size ∧ k ≠ b) := fun k hk => by
            have h0 := HG.out.2.1.1.lt k hk
            exact ⟨h0.1, h0.2, by have := (HA.out.1.own_lt b (.inl rfl)).2; omega⟩
          have HF : Hid (∀ W, But (fun k => blk A4 = some k) Wf W → W.cell? ⟨b, 0, none⟩ = some (.map (some mm)) ∧ W.cell? ⟨wr.heap.size, 0, none⟩ = some (.string s) ∧ W.cell? ⟨wr.heap.size, 1, none⟩ = some (.int .i64 m)) := fun W hW => by
            obtain ⟨e0, _, e2, e3⟩ := HLK.out Wf (Below.refl _ _)
            exact ⟨hW.cell (p := ⟨b, 0, none⟩) (fun e => (HA4.out _ e).2.2 rfl) e0, hW.cell (p := ⟨wr.heap.size, 0, none⟩) (fun e => by have := (HA4.out _ e).2.1; simp only at this; omega) e2, hW.cell (p := ⟨wr.heap.size, 1, none⟩) (fun e => by have := (HA4.out _ e).2.1; simp only at this; omega) e3⟩
          refine wpAnyH_take (i := 0) (v := ?_) rfl (by kernel_rfl) (by kernel_rfl) (by kernel_rfl) (fun _ _ _ h => h) (Yields.yieldsIf (Or.inl ⟨by kernel_rfl, ?_⟩)) hS ?_
          rotate_left
          · first | (intro w; go_simp; done) | (intro w; go_simp; with_reducible rfl)
          refine wpAnyH_take (i := 1) (v := ?_) rfl (by kernel_rfl) (by kernel_rfl) (by kernel_rfl) (fun _ _ _ h => h) (Yields.yieldsIf (Or.inl ⟨by kernel_rfl, ?_⟩)) hS ?_
          rotate_left
          · first | (intro w; go_simp; done) | (intro w; go_simp; with_reducible rfl)
          refine wpAnyH_take (i := 2) (v := ?_) rfl (by kernel_rfl) (by kernel_rfl) (by kernel_rfl) (fun _ _ _ h => h) (Yields.yieldsIf (Or.inl ⟨by kernel_rfl, ?_⟩)) hS ?_
          rotate_left
          · first | (intro w; go_simp; done) | (intro w; go_simp; with_reducible rfl)
          refine wpAnyH_take (i := 3) (v := ?_) rfl (by kernel_rfl) (by kernel_rfl) (by kernel_rfl) (fun _ _ _ h => h) (Yields.yieldsIf (Or.inl ⟨by kernel_rfl, ?_⟩)) hS ?_
          rotate_left
          · first | (intro w; go_simp; done) | (intro w; go_simp; with_reducible rfl)
          refine wpAnyH_take (i := 4) (v := ?_) rfl (by kernel_rfl) (by kernel_rfl) (by kernel_rfl) (fun _ _ _ h => h) (Or.inl ⟨by kernel_rfl, fun W hW => ?_⟩) hS ?_
          rotate_left
          · obtain ⟨d0, c0, c1⟩ := HF.out W hW
            first | (go_simp; done) | (go_simp; with_reducible rfl)
          refine wpAnyH_take (i := 5) (v := ?_) rfl (by kernel_rfl) (by kernel_rfl) (by kernel_rfl) (fun _ _ _ h => h) (Or.inl ⟨by kernel_rfl, fun W hW => ?_⟩) hS ?_
          rotate_left
          · obtain ⟨d0, c0, c1⟩ := HF.out W hW
            first | (go_simp; done) | (go_simp; with_reducible rfl)
          try go_simp
          refine wpAnyH_ready (rs := [6]) (by kernel_rfl) (by simp) ?_
          refine AllReadyH.cons rfl (fun K hK => ?_) AllReadyH.nil
          have lk := (HLK.out Wf (Below.refl _ _)).2.1
          go_simp
          have hS3 : But (fun k => blk A4 = some k) Wf Wf := But.refl _ _
          clear lk
          refine hK.out _ _ hS3 (fun hS => ?_)
          clear hK K hS3
          try go_simp
          refine wpAnyH_ready (rs := [7]) (by kernel_rfl) (by simp) ?_
          refine AllReadyH.cons rfl (fun K hK => ?_) AllReadyH.nil
          go_simp
          go_wp2_with fail
          refine HOWN.out.mono ?_
          rintro e wg ⟨⟨y, hyo, rfl, hyk, y1, y2⟩, hbg⟩
          have hGg := HG.out.2.1.1.below (HBY2.out.1.trans (hbg.mono HBY2.out.1.size)) (Nat.le_refl _)
          obtain ⟨A5, c5, wh, hrun, ho1, ho2, ho3, ho4, ho5⟩ := hGg.one y 36 (by rw [HG.out.1.1]; omega) (by have := HBY2.out.2.size; have := hbg.size; omega)
          rw [HG.out.1.1] at hrun
          obtain ⟨vy, hvy⟩ : ∃ vv, y.v = vv := ⟨_, rfl⟩
          obtain ⟨⟨⟨ys, yn⟩, ydp, yct, ykd, yit, yq, ysn⟩, yA, yc, yA2, yc2⟩ := y
          obtain ⟨b1, hb1⟩ : ∃ L, ydp.length = L := ⟨_, rfl⟩
          obtain ⟨b2, hb2⟩ : ∃ L, ysn.length = L := ⟨_, rfl⟩
          simp only [Ov.v, Ov.cells] at hrun hvy ⊢
          rw [hb1, hb2] at hrun hvy ⊢
          have HRUN := Lib.hid hrun
          have hbut : But (fun k => blk A4 = some k) wg wh := ⟨ho2.os, ho2.tape, ho2.output, ho4, fun k hk hx => ho3 k hk hx⟩
          have hww := HBY2.out.2.size
          have hOO : OutO w.heap.size A5 wh (l ++ ([⟨⟨(ys, yn), ydp, yct, ykd, yit, yq, ysn⟩, yA, yc, yA2, yc2⟩] : List Ov)) := OutO.one ((HG.out.2.1.2.up HBY2.out.1).up hbg) hyk (y1.mono hww (Nat.le_refl _)) (y2.mono hww (Nat.le_refl _)) (fun k hk he => by have := (y1 k hk).1; have := (HA4.out k he).2.1; have := HBY2.out.1.size; omega) (fun k hk he => by have := (y2 k hk).1; have := (HA4.out k he).2.1; have := HBY2.out.1.size; omega) hbut ho5
          have HFIN : Hid (GrO wh w.heap.size A5 c5 (l ++ ([⟨⟨(ys, yn), ydp, yct, ykd, yit, yq, ysn⟩, yA, yc, yA2, yc2⟩] : List Ov)) ∧ OutO w.heap.size A5 wh (l ++ ([⟨⟨(ys, yn), ydp, yct, ykd, yit, yq, ysn⟩, yA, yc, yA2, yc2⟩] : List Ov)) ∧ Below w.heap.size w wh ∧ (l ++ ([⟨⟨(ys, yn), ydp, yct, ykd, yit, yq, ysn⟩, yA, yc, yA2, yc2⟩] : List Ov)).length = ln + 1 ∧ (l ++ ([⟨⟨(ys, yn), ydp, yct, ykd, yit, yq, ysn⟩, yA, yc, yA2, yc2⟩] : List Ov)).map (fun x => x.o) = (q.L.take (j + 1)).filter fun o => decide (at' v o.dot.1 < o.dot.2)) :=
            ⟨ho1, hOO, HBY2.out.2.trans ((hbg.mono hww).trans ho2), by rw [List.length_append, HG.out.1.1]; rfl, by rw [hstep.out, if_pos (show V < m by omega), List.map_append, HG.out.1.2]; simp only [List.map_cons, List.map_nil]; rw [show (⟨(ys, yn), ydp, yct, ykd, yit, yq, ysn⟩ : Op) = o from hyo.trans HO.out.2.2.2.1]⟩
          have HBH : Hid (But (fun k => blk A4 = some k) Wf wh ∧ But (fun k => blk A4 = some k) Wf (wg.alloc (.cells #[.string ys, .int .i64 yn, .slice yA b1 yc, .string yct, .int .i64 ykd, .string yit, .int .i64 yq, .slice yA2 b2 yc2] 26))) := ⟨(But.of hbg).trans hbut, (But.of hbg).alloc _⟩
          have hS3 : But (fun k => blk A4 = some k) Wf wg := But.of hbg
          clear hyo hyk y1 y2 hGg hrun ho1 ho2 ho3 ho4 ho5 hvy hbut hOO hb1 hb2 hbg hww
          refine hK.out _ _ hS3 (fun hS => ?_)
          clear hK K hS3
          try go_simp
          refine wpAnyH_ready (rs := [8]) (by kernel_rfl) (by simp) ?_
          refine AllReadyH.cons rfl (fun K hK => ?_) AllReadyH.nil
          go_simp
          go_wp2_with fail
          have hS3 : But (fun k => blk A4 = some k) Wf (wg.alloc (.cells #[.string ys, .int .i64 yn, .slice yA b1 yc, .string yct, .int .i64 ykd, .string yit, .int .i64 yq, .slice yA2 b2 yc2] 26)) := HBH.out.2
          refine hK.out _ _ hS3 (fun hS => ?_)
          clear hK K hS3
          try go_simp
          refine wpAnyH_ready (rs := [9]) (by kernel_rfl) (by simp) ?_
          refine AllReadyH.cons rfl (fun K hK => ?_) AllReadyH.nil
          refine Go.Lib.wp_append_run _ _ _ _ _ rfl _ _ rfl rfl _ _ HRUN.out ?_
          have hS3 : But (fun k => blk A4 = some k) Wf wh := HBH.out.1
          refine hK.out _ _ hS3 (fun hS => ?_)
          clear hK K hS3
          refine wpAnyH_take (i := 10) (v := ?_) rfl (by kernel_rfl) (by kernel_rfl) (by kernel_rfl) (fun _ _ _ h => h) (Yields.yieldsIf (Or.inl ⟨by kernel_rfl, ?_⟩)) hS ?_
          rotate_left
          · first | (intro w; go_simp; done) | (intro w; go_simp; with_reducible rfl)
          try go_simp
          refine wpAnyH_done (by kernel_rfl) ?_ _
          go_wp2
          go_roundg (n - (j + 1))
          case rel => exact ⟨j + 1, A5, c5, ln + 1, _, by omega, rfl, by go_num, rfl, ⟨HFIN.out.2.2.2.1, HFIN.out.2.2.2.2⟩, ⟨HFIN.out.1, HFIN.out.2.1⟩, HFIN.out.2.2.1⟩
          case measure => have := HGK.out; omega
        · have hng : ¬ V < m := hvm
          have HSn := Lib.hid ((HBr.out.trans (HSx.out.mono HBr.out.size)))
          have HPn := Lib.hid ((HBE.out.trans (HSx.out.mono HBE.out.size)))
          go_wp2
          go_roundg (n - (j + 1))
          case rel => exact ⟨j + 1, A4, c4, ln, l, by omega, rfl, by go_num, rfl, ⟨HG.out.1.1, by rw [hstep.out, if_neg (show ¬ V < m by omega), List.append_nil]; exact HG.out.1.2⟩, ⟨HG.out.2.1.1.below HSn.out (Nat.le_refl _), HG.out.2.1.2.up HSn.out⟩, HPn.out⟩
          case measure => have := HGK.out; omega
      · have hin : j = n := by omega
        subst hin
        have hfl : Hid (BO = (l.map (fun x => x.o), 0)) := by
          show _ = _
          rw [hR.out, hl.out.2, List.take_of_length_le (by
            have h0 := HN.out
            rw [HA.out.2.1.ds] at h0
            simp at h0
            omega)]
        have HLn := Lib.hid hl.out.1
        go_wp2
        go_ret2
        rw [hfl.out]
        exact ⟨⟨A4, c4, l, (by rw [HLn.out]; rfl), rfl, hg.out.1, hg.out.2⟩, hbw⟩

set_option maxRecDepth 100000 in
theorem ops_any {p : Pv} {w : World} {b : Nat} {q : Pool} (h : p.At w b) (hr : Rel p q) (hi : Inv q) (hn : q.L.length ≤ 100000) :
    Calls Try.prog 28 #[.pointer (some ⟨b, 0, none⟩)] w fun e w' => (∃ A c l, e = .returned (.slice A l.length c) ∧ l.map (fun x => x.o) = q.L ∧ GrO w' w.heap.size A c l ∧ OutO w.heap.size A w' l) ∧ Below w.heap.size w w' := by
  have hcall := behind_any h hr hi hn (nil_ok w w.heap.size)
  have hB : behO q.L [] = (q.L, 0) := by
    unfold behO
    rw [if_pos (by decide)]
    congr 1
    refine List.filter_eq_self.2 fun o ho => ?_
    have h1 := (dotB_iff.1 (rightO_iff (hi.ro o (List.mem_append.2 (.inl ho)))).dot).2.1
    show decide (at' [] o.dot.1 < o.dot.2) = true
    rw [show at' [] o.dot.1 = 0 from rfl, decide_eq_true_eq]
    omega
  rw [hB] at hcall
  simp only [List.length_nil] at hcall
  clear hB h hr hi hn
  go_enter Try.func28, Try.ntmps28
  go_wp2_with fail
  refine hcall.mono ?_
  rintro e w2 ⟨⟨A, c, l, rfl, h1, h2, h3⟩, h4⟩
  have HH := Lib.hid (And.intro h1 (And.intro h2 (And.intro h3 h4)))
  clear hcall h1 h2 h3 h4
  obtain ⟨L, hL⟩ : ∃ L, l.length = L := ⟨_, rfl⟩
  have HL := Lib.hid hL
  simp only
  rw [hL]
  clear hL
  go_wp2
  go_ret
  exact ⟨⟨A, c, l, (by rw [HL.out]; rfl), HH.out.1, HH.out.2.1, HH.out.2.2.1⟩, HH.out.2.2.2⟩

end Go.Proofs.Ytdffifkleaekhaa.O

namespace Go.Proofs.Ytdffifkleaekhaa.O
open Go.RowKit Go.Proofs.Ytdffifkleaekhaa.V
set_option linter.unusedVariables false
set_option linter.unusedSimpArgs false


theorem RowO.at {w : World} {B : Nat} {A : Option Addr} {l : List Ov} (h : RowO w B A l) (j : Nat) (hj : j < l.length) : ∃ b off, A = some ⟨b, off, none⟩ ∧ b < B ∧ OpAt w b (off + j * 8) (l[j]'hj) := by
  obtain ⟨b, off, e, hb, hc⟩ := h (by omega)
  exact ⟨b, off, e, hb, hc j _ (List.getElem?_eq_getElem hj)⟩
theorem OpAt.below {w w' : World} {b o B : Nat} {x : Ov} (h : OpAt w b o x) (hb : Below B w w') (hB : b < B) : OpAt w' b o x := h.keep fun i v hv => (hb.cell (p := ⟨b, i, none⟩) hB).trans hv
theorem map_drop {a : List Ov} {j : Nat} {x : Ov} (hj : j < a.length) (hd : a[j]'hj = x) : (a.drop j).map (fun x => x.o) = x.o :: (a.drop (j + 1)).map (fun x => x.o) := by
  rw [List.drop_eq_getElem_cons hj, hd]; rfl
set_option maxRecDepth 100000 in
set_option maxHeartbeats 6400000 in
theorem sameOps_any {A A2 : Option Addr} {a b : List Ov} (c c2 : Nat) {w : World} (hra : RowO w w.heap.size A a) (hka : ∀ x ∈ a, x.ok w w.heap.size) (hla : a.length ≤ 10000000000000) (hrb : RowO w w.heap.size A2 b) (hkb : ∀ x ∈ b, x.ok w w.heap.size) (hlb : b.length ≤ 10000000000000) :
    Calls Try.prog 27 #[.slice A a.length c, .slice A2 b.length c2] w fun e w' => e = .returned (.bool (decide (a.map (fun x => x.o) = b.map (fun x => x.o)))) ∧ Below w.heap.size w w' := by
  by_cases hln : a.length = b.length
  · obtain ⟨L, hL⟩ : ∃ L, a.length = L := ⟨_, rfl⟩
    have hLb : b.length = L := by omega
    rw [hL, hLb]
    obtain ⟨V, hV⟩ : ∃ V, decide (a.map (fun x => x.o) = b.map (fun x => x.o)) = V := ⟨_, rfl⟩
    rw [hV]
    have hL64 : L ≤ 10000000000000 := by omega
    have HV := Lib.hid hV
    have HA := Lib.hid (And.intro hra hka)
    have HB := Lib.hid (And.intro hrb hkb)
    have HL := Lib.hid (And.intro hL hLb)
    clear hV hra hrb hka hkb hla hlb hln hL hLb
    go_enter Try.func27, Try.ntmps27
    go_wp2
    go_loopg [5] L (fun k i wr => ∃ (j : Nat), j ≤ L ∧ k = L - j ∧ i = .int .i64 j ∧ Hid (decide ((a.drop j).map (fun x => x.o) = (b.drop j).map (fun x => x.o)) = V) ∧ Below w.heap.size w wr)
    case atStart => exact ⟨0, by omega, by omega, rfl, HV.out, Below.refl _ _⟩
    case round =>
      obtain ⟨j, hj, hgk, rfl, hat, hbw⟩ := hrel
      have HBW := Lib.hid hbw
      have HGK := Lib.hid hgk; clear hgk
      by_cases hlt : j < L
      · have hlt1 : j < a.length := by rw [HL.out.1]; exact hlt
        have hlt2 : j < b.length := by rw [HL.out.2]; exact hlt
        obtain ⟨b1, o1_, rfl, hbs1, h1⟩ := HA.out.1.at j hlt1
        obtain ⟨b2, o2_, rfl, hbs2, h2⟩ := HB.out.1.at j hlt2
        obtain ⟨x, hx⟩ : ∃ d, a[j]'hlt1 = d := ⟨_, rfl⟩
        obtain ⟨y, hy⟩ : ∃ d, b[j]'hlt2 = d := ⟨_, rfl⟩
        rw [hx] at h1
        rw [hy] at h2
        have hxk := HA.out.2 x (by rw [← hx]; exact List.getElem_mem hlt1)
        have hyk := HB.out.2 y (by rw [← hy]; exact List.getElem_mem hlt2)
        have hk := Lib.hid (And.intro (map_drop hlt1 hx) (map_drop hlt2 hy))
        have hE : ∀ W, Below w.heap.size w W → Calls Try.prog 20 #[x.v, y.v] W fun e w' => e = .returned (.bool (decide (x.o = y.o))) ∧ Below W.heap.size W w' := fun W hW => requal_any x y (hxk.up hW) (hyk.up hW)
        obtain ⟨E, hEE⟩ : ∃ E, decide (x.o = y.o) = E := ⟨_, rfl⟩
        have HE := Lib.hid hEE
        have hstep : Hid (V = (E && decide ((a.drop (j + 1)).map (fun x => x.o) = (b.drop (j + 1)).map (fun x => x.o)))) := by
          show _ = _
          rw [← hat.out, hk.out.1, hk.out.2, ← HE.out]
          rw [Bool.eq_iff_iff]
          simp
        rw [hEE] at hE
        clear hEE hk hxk hyk hx hy
        obtain ⟨⟨⟨s, n⟩, dp, ct, kd, it, q, sn⟩, xA, xc, xA2, xc2⟩ := x
        obtain ⟨⟨⟨s', n'⟩, dp', ct', kd', it', q', sn'⟩, yA, yc, yA2, yc2⟩ := y
        obtain ⟨a1, ha1⟩ : ∃ L, dp.length = L := ⟨_, rfl⟩
        obtain ⟨a2, ha2⟩ : ∃ L, sn.length = L := ⟨_, rfl⟩
        obtain ⟨a3, ha3⟩ : ∃ L, dp'.length = L := ⟨_, rfl⟩
        obtain ⟨a4, ha4⟩ : ∃ L, sn'.length = L := ⟨_, rfl⟩
        simp only [Ov.v, Ov.cells] at hE
        rw [ha1, ha2, ha3, ha4] at hE
        have HEC := Lib.hid hE
        have HC : Hid (∀ W, Below w.heap.size w W → ((W.cell? ⟨b1, o1_ + j * 8, none⟩ = some (.string s) ∧ W.cell? ⟨b1, o1_ + j * 8 + 1, none⟩ = some (.int .i64 n) ∧ W.cell? ⟨b1, o1_ + j * 8 + 2, none⟩ = some (.slice xA a1 xc)) ∧ W.cell? ⟨b1, o1_ + j * 8 + 3, none⟩ = some (.string ct) ∧ W.cell? ⟨b1, o1_ + j * 8 + 4, none⟩ = some (.int .i64 kd) ∧ W.cell? ⟨b1, o1_ + j * 8 + 5, none⟩ = some (.string it) ∧ W.cell? ⟨b1, o1_ + j * 8 + 6, none⟩ = some (.int .i64 q) ∧ W.cell? ⟨b1, o1_ + j * 8 + 7, none⟩ = some (.slice xA2 a2 xc2)) ∧
            ((W.cell? ⟨b2, o2_ + j * 8, none⟩ = some (.string s') ∧ W.cell? ⟨b2, o2_ + j * 8 + 1, none⟩ = some (.int .i64 n') ∧ W.cell? ⟨b2, o2_ + j * 8 + 2, none⟩ = some (.slice yA a3 yc)) ∧ W.cell? ⟨b2, o2_ + j * 8 + 3, none⟩ = some (.string ct') ∧ W.cell? ⟨b2, o2_ + j * 8 + 4, none⟩ = some (.int .i64 kd') ∧ W.cell? ⟨b2, o2_ + j * 8 + 5, none⟩ = some (.string it') ∧ W.cell? ⟨b2, o2_ + j * 8 + 6, none⟩ = some (.int .i64 q') ∧ W.cell? ⟨b2, o2_ + j * 8 + 7, none⟩ = some (.slice yA2 a4 yc2))) := fun W hW => by
          obtain ⟨k0, k1, k2, k3, k4, k5, k6, k7⟩ := h1.below hW hbs1
          obtain ⟨l0, l1, l2, l3, l4, l5, l6, l7⟩ := h2.below hW hbs2
          simp only at k0 k1 k2 k3 k4 k5 k6 k7 l0 l1 l2 l3 l4 l5 l6 l7
          rw [ha1] at k2; rw [ha2] at k7; rw [ha3] at l2; rw [ha4] at l7
          exact ⟨⟨⟨k0, k1, k2⟩, k3, k4, k5, k6, k7⟩, ⟨l0, l1, l2⟩, l3, l4, l5, l6, l7⟩
        have hS0 : Below w.heap.size w wr.drew := hbw.drew
        have HS0 := Lib.hid hS0
        clear h1 h2 ha1 ha2 ha3 ha4 hE hbs1 hbs2 hbw
        go_upto_region 6 with fail
        refine wp_region_held_drew (S := fun Wv => Below w.heap.size w Wv) (by kernel_rfl) hS0 (fun hS => ?_)
        clear hS0
        generalize wr.drew = Wd at *
        refine wpAnyH_take (i := 0) (v := ?_) rfl (by kernel_rfl) (by kernel_rfl) (by kernel_rfl) (fun _ _ _ h => h) (Yields.yieldsIf (Or.inl ⟨by kernel_rfl, ?_⟩)) hS ?_
        rotate_left
        · first | (intro w; go_simp; done) | (intro w; go_simp; with_reducible rfl)
        refine wpAnyH_take (i := 1) (v := ?_) rfl (by kernel_rfl) (by kernel_rfl) (by kernel_rfl) (fun _ _ _ h => h) (Yields.yieldsIf (Or.inl ⟨by kernel_rfl, ?_⟩)) hS ?_
        rotate_left
        · first | (intro w; go_simp; done) | (intro w; go_simp; with_reducible rfl)
        refine wpAnyH_take (i := 2) (v := ?_) rfl (by kernel_rfl) (by kernel_rfl) (by kernel_rfl) (fun _ _ _ h => h) (Yields.yieldsIf (Or.inl ⟨by kernel_rfl, ?_⟩)) hS ?_
        rotate_left
        · first | (intro w; go_simp; done) | (intro w; go_simp; with_reducible rfl)
        refine wpAnyH_take (i := 3) (v := ?_) rfl (by kernel_rfl) (by kernel_rfl) (by kernel_rfl) (fun _ _ _ h => h) (Or.inl ⟨by kernel_rfl, fun W hW => ?_⟩) hS ?_
        rotate_left
        · obtain ⟨⟨⟨c0, c1, c2_⟩, c3, c4, c5, c6, c7⟩, ⟨d0, d1, d2⟩, d3, d4, d5, d6, d7⟩ := HC.out W hW
          first | (go_simp; done) | (go_simp; with_reducible rfl)
        refine wpAnyH_take (i := 4) (v := ?_) rfl (by kernel_rfl) (by kernel_rfl) (by kernel_rfl) (fun _ _ _ h => h) (Yields.yieldsIf (Or.inl ⟨by kernel_rfl, ?_⟩)) hS ?_
        rotate_left
        · first | (intro w; go_simp; done) | (intro w; go_simp; with_reducible rfl)
        refine wpAnyH_take (i := 5) (v := ?_) rfl (by kernel_rfl) (by kernel_rfl) (by kernel_rfl) (fun _ _ _ h => h) (Yields.yieldsIf (Or.inl ⟨by kernel_rfl, ?_⟩)) hS ?_
        rotate_left
        · first | (intro w; go_simp; done) | (intro w; go_simp; with_reducible rfl)
        refine wpAnyH_take (i := 6) (v := ?_) rfl (by kernel_rfl) (by kernel_rfl) (by kernel_rfl) (fun _ _ _ h => h) (Yields.yieldsIf (Or.inl ⟨by kernel_rfl, ?_⟩)) hS ?_
        rotate_left
        · first | (intro w; go_simp; done) | (intro w; go_simp; with_reducible rfl)
        refine wpAnyH_take (i := 7) (v := ?_) rfl (by kernel_rfl) (by kernel_rfl) (by kernel_rfl) (fun _ _ _ h => h) (Or.inl ⟨by kernel_rfl, fun W hW => ?_⟩) hS ?_
        rotate_left
        · obtain ⟨⟨⟨c0, c1, c2_⟩, c3, c4, c5, c6, c7⟩, ⟨d0, d1, d2⟩, d3, d4, d5, d6, d7⟩ := HC.out W hW
          first | (go_simp; done) | (go_simp; with_reducible rfl)
        try go_simp
        refine wpAnyH_ready (rs := [8]) (by kernel_rfl) (by simp) ?_
        refine AllReadyH.cons rfl (fun K hK => ?_) AllReadyH.nil
        go_simp
        go_wp2_with fail
        refine (HEC.out _ HS0.out).mono ?_
        rintro e wx ⟨rfl, hba⟩
        have HSx := Lib.hid (HS0.out.trans (hba.mono HS0.out.size))
        clear hba
        have hS3 : Below w.heap.size w wx := HSx.out
        refine hK.out _ _ hS3 (fun hS => ?_)
        clear hK K hS3
        refine wpAnyH_take (i := 9) (v := ?_) rfl (by kernel_rfl) (by kernel_rfl) (by kernel_rfl) (fun _ _ _ h => h) (Yields.yieldsIf (Or.inl ⟨by kernel_rfl, ?_⟩)) hS ?_
        rotate_left
        · first | (intro w; go_simp; done) | (intro w; go_simp; with_reducible rfl)
        try go_simp
        refine wpAnyH_done (by kernel_rfl) ?_ _
        cases E with
        | true =>
          have hf : Hid (decide ((a.drop (j + 1)).map (fun x => x.o) = (b.drop (j + 1)).map (fun x => x.o)) = V) := by show _ = _; rw [hstep.out]; rfl
          go_wp2
          go_roundg (L - (j + 1))
          case rel => exact ⟨j + 1, by omega, rfl, by go_num, hf, HSx.out⟩
          case measure => have := HGK.out; omega
        | false =>
          have hf : Hid (V = false) := by show _ = _; rw [hstep.out]; rfl
          go_wp2
          go_ret
          exact ⟨ret_bool (by rw [hf.out]), HSx.out⟩
      · have hin : j = L := by omega
        subst hin
        have hf := Lib.hid (show V = true by rw [← hat.out, List.drop_eq_nil_of_le (by have := HL.out.1; omega), List.drop_eq_nil_of_le (by have := HL.out.2; omega)]; simp)
        go_wp2
        go_ret
        exact ⟨ret_bool hf.out.symm, hbw⟩
  · have hf := Lib.hid (show decide (a.map (fun x => x.o) = b.map (fun x => x.o)) = false by simp; intro h; exact hln (by have := congrArg List.length h; simpa using this))
    obtain ⟨L, hL⟩ : ∃ L, a.length = L := ⟨_, rfl⟩
    obtain ⟨M, hM⟩ : ∃ L, b.length = L := ⟨_, rfl⟩
    rw [hL, hM] at hln ⊢
    have hne : (((L : Nat) : Int) != ((M : Nat) : Int)) = true := by simp; omega
    clear hL hM hln
    go_enter Try.func27, Try.ntmps27
    go_wp2
    go_ret
    exact ⟨ret_bool hf.out.symm, Below.refl _ _⟩

end Go.Proofs.Ytdffifkleaekhaa.O

namespace Go.Proofs.Ytdffifkleaekhaa.O
open Go.RowKit Go.Proofs.Ytdffifkleaekhaa.V
set_option linter.unusedVariables false
set_option linter.unusedSimpArgs false

theorem drain_len : ∀ (k : Nat) (p : Pool), (drain k p).1.L.length + (drain k p).1.W.length = p.L.length + p.W.length
  | 0, p => rfl
  | k + 1, p => by
    cases h : p.W.findIdx? (ready p.K) with
    | none => rw [drain_none h]
    | some i =>
      obtain ⟨hi, _, _⟩ := List.findIdx?_eq_some_iff_getElem.1 h
      rw [drain_some h (List.getElem?_eq_getElem hi)]
      have := drain_len k ⟨p.L ++ [p.W[i]], (withO p.K p.W[i].dot).1, p.W.eraseIdx i⟩
      simp only [List.length_append, List.length_cons, List.length_nil, List.length_eraseIdx, if_pos hi] at this ⊢
      omega
theorem putP_len {p : Pool} (h : Inv p) (o : Op) : (putP p o).1.L.length + (putP p o).1.W.length ≤ p.L.length + p.W.length + 1 := by
  rw [← putQ_eq h]
  unfold putQ
  split
  · split
    · simp
    · split
      · split
        · have := drain_len p.W.length (hand p o)
          simp only [hand, List.length_append, List.length_cons, List.length_nil] at this ⊢
          omega
        · split
          · simp
          · simp; omega
      · simp
  · simp
/-- A pool of the law's own, at world W; the law began at w. -/
structure PS (w : World) (b : Nat) (pv : Pv) (q : Pool) (k : Nat) (W : World) : Prop where
  at_ : pv.At W b
  rel : Rel pv q
  qu : Quiet q
  low : ∀ i, pv.own b i → w.heap.size ≤ i
  bel : Below w.heap.size w W
  few : q.L.length + q.W.length ≤ k ∧ pv.O.length ≤ k
theorem PS.new {w W : World} (hb : Below w.heap.size w W) : PS w W.heap.size pv0 none_ 0 (W.alloc (.cells #[.map none, .slice none 0 0, .slice none 0 0, .slice none 0 0] 88)) :=
  ⟨new_at W, new_rel, quiet_none, fun i hi => by rw [new_own] at hi; rw [hi]; exact hb.size, hb.trans ((Below.refl _ W).alloc hb.size _), by simp [none_, pv0]⟩
theorem PS.up {w W V : World} {b k : Nat} {pv : Pv} {q : Pool} (h : PS w b pv q k W) (hb : Below W.heap.size W V) : PS w b pv q k V := ⟨h.at_.up hb, h.rel, h.qu, h.low, h.bel.trans (hb.mono h.bel.size), h.few⟩
theorem PS.lb {w W : World} {b k : Nat} {pv : Pv} {q : Pool} (h : PS w b pv q k W) : w.heap.size ≤ b ∧ b < W.heap.size := ⟨h.low b (.inl rfl), (h.at_.own_lt b (.inl rfl)).2⟩
theorem PS.clear {w W : World} {b k : Nat} {pv : Pv} {q : Pool} (h : PS w b pv q k W) {A : Option Addr} {l : List D} (hr : RowD w w.heap.size A l) : Clear (pv.own b) A l.length := fun hn i hi ho => by
  obtain ⟨g, off, e, hg, _⟩ := hr hn
  rw [e] at hi
  simp [blk] at hi
  have := h.low i ho
  omega
/-- .. of what came in, at any later world. -/
theorem PS.input {w W : World} {b k : Nat} {pv : Pv} {q : Pool} (h : PS w b pv q k W) {x : Ov} (hx : x.ok w w.heap.size) : x.ok W W.heap.size ∧ Clear (pv.own b) x.A x.o.deps.length ∧ Clear (pv.own b) x.A2 x.o.seen.length :=
  ⟨hx.up h.bel, h.clear hx.d.1, h.clear hx.s.1⟩
theorem PS.put {w W : World} {b k : Nat} {pv : Pv} {q : Pool} (h : PS w b pv q k W) (hk : k ≤ 99999) (x : Ov) (hx : x.ok W W.heap.size) (h1 : Clear (pv.own b) x.A x.o.deps.length) (h2 : Clear (pv.own b) x.A2 x.o.seen.length) :
    Calls Try.prog 22 #[.pointer (some ⟨b, 0, none⟩), x.v] W fun e W' => ∃ pv', e = .returned (.tuple #[.int .i64 (putP q x.o).2.1, .int .i64 (putP q x.o).2.2]) ∧ PS w b pv' (putP q x.o).1 (k + 1) W' ∧ Step pv W pv' W' b := by
  refine (put_any h.at_ h.rel h.qu.toInv x hx h1 h2 (by have := h.few; omega) (by have := h.few; omega)).mono ?_
  rintro e W' ⟨pv', he, hr, hs, ho⟩
  refine ⟨pv', he, ⟨hs.at_, hr, (put_does h.qu x.o).1, fun i hi => ?_, ?_, ?_⟩, hs⟩
  · rcases hs.own i hi with h3 | h3
    · exact h.low i h3
    · exact Nat.le_trans h.bel.size h3
  · exact h.bel.trans (hs.but.below h.low h.bel.size)
  · have := putP_len h.qu.toInv x.o
    have := h.few
    omega
theorem PS.known {w W : World} {b k : Nat} {pv : Pv} {q : Pool} (h : PS w b pv q k W) :
    Calls Try.prog 26 #[.pointer (some ⟨b, 0, none⟩)] W fun e W' => (∃ A c, e = .returned (.slice A q.K.length c) ∧ Vc.ok ⟨A, c, q.K⟩ W' W'.heap.size ∧ Lies A W.heap.size W'.heap.size) ∧ Below W.heap.size W W' := by
  have h1 := known_any h.at_ (by rw [h.rel.K]; exact right_len h.qu.rk)
  rw [h.rel.K] at h1
  exact h1
theorem PS.waits {w W : World} {b k : Nat} {pv : Pv} {q : Pool} (h : PS w b pv q k W) : Calls Try.prog 24 #[.pointer (some ⟨b, 0, none⟩)] W fun e w' => e = .returned (.int .i64 (q.W.length : Int)) ∧ W = w' := by
  have h1 := waits_any h.at_
  have h2 : pv.ws.length = q.W.length := by rw [h.rel.ws]; simp
  rw [h2] at h1
  exact h1
theorem PS.ops {w W : World} {b k : Nat} {pv : Pv} {q : Pool} (h : PS w b pv q k W) (hk : k ≤ 99999) :
    Calls Try.prog 28 #[.pointer (some ⟨b, 0, none⟩)] W fun e w' => (∃ A c l, e = .returned (.slice A l.length c) ∧ l.map (fun x => x.o) = q.L ∧ GrO w' W.heap.size A c l ∧ OutO W.heap.size A w' l) ∧ Below W.heap.size W w' :=
  ops_any h.at_ h.rel h.qu.toInv (by have := h.few; omega)
/-- What lies in new memory lies apart from the pool, and goes on so. -/
theorem PS.far {w W : World} {b k : Nat} {pv : Pv} {q : Pool} (h : PS w b pv q k W) {A : Option Addr} {C : Nat} (hl : Lies A W.heap.size C) : Apart (pv.own b) A := fun i hi ho => by
  have := (hl i hi).1
  have := (h.at_.own_lt i ho).2
  omega
theorem Step.far {p p' : Pv} {w w' : World} {b : Nat} (h : Step p w p' w' b) {A : Option Addr} (ha : Apart (p.own b) A) (hl : ∀ i, blk A = some i → i < w.heap.size) : Apart (p'.own b) A := fun i hi ho => by
  rcases h.own i ho with h1 | h1
  · exact ha i hi h1
  · have := hl i hi; omega
end Go.Proofs.Ytdffifkleaekhaa.O

namespace Go.Proofs.Ytdffifkleaekhaa.O
open Go.RowKit Go.Proofs.Ytdffifkleaekhaa.V
set_option linter.unusedVariables false
set_option linter.unusedSimpArgs false


theorem run_cons (o : Op) (t : List Op) (p : Pool) : runP (o :: t) p = if (putP p o).2.2 = 0 then runP t (putP p o).1 else ((putP p o).1, false) := rfl
theorem map_drop2 {ls : List Ov} {j : Nat} {x : Ov} (h : ls[j]? = some x) : (ls.map (fun x => x.o)).drop j = x.o :: (ls.map (fun x => x.o)).drop (j + 1) := by
  obtain ⟨hj, hx⟩ := List.getElem?_eq_some_iff.1 h
  rw [← List.map_drop, map_drop hj hx, List.map_drop]
set_option maxRecDepth 100000 in
set_option maxHeartbeats 6400000 in
theorem putL_any {A : Option Addr} {ls : List Ov} (c : Nat) {w : World} (hr : RowO w w.heap.size A ls) (hok : ∀ x ∈ ls, x.ok w w.heap.size) (hl : ls.length ≤ 9999) :
    Calls Try.prog 32 #[.slice A ls.length c] w fun e w' => ∃ b pv, e = .returned (.tuple #[.pointer (some ⟨b, 0, none⟩), .bool (runP (ls.map (fun x => x.o)) none_).2]) ∧ PS w b pv (runP (ls.map (fun x => x.o)) none_).1 9999 w' := by
  obtain ⟨k, hk⟩ : ∃ k, ls.length = k := ⟨_, rfl⟩
  rw [hk]
  have HT := Lib.hid (And.intro hr (And.intro hok (And.intro hk hl)))
  obtain ⟨R, hR⟩ : ∃ R, runP (ls.map (fun x => x.o)) none_ = R := ⟨_, rfl⟩
  rw [hR]
  have HR := Lib.hid hR
  have hk9 : k ≤ 9999 := by omega
  clear hr hok hk hl hR
  go_enter Try.func32, Try.ntmps32
  go_wp2_with fail
  refine (new_any _).mono ?_
  rintro e W0 ⟨rfl, hw0⟩
  have HP0 : Hid (PS w w.heap.size pv0 none_ 0 W0) := by show PS _ _ _ _ _ _; rw [← hw0]; exact PS.new (Below.refl _ w)
  clear hw0
  have HBW : Hid (∃ b, w.heap.size = b) := ⟨_, rfl⟩
  obtain ⟨b, hb⟩ : ∃ b, w.heap.size = b := ⟨_, rfl⟩
  have HB := Lib.hid hb
  rw [hb] at HP0
  simp only [hb]
  clear hb
  go_wp2
  go_loopg [5] k (fun m i wr => ∃ (j : Nat) (pv : Pv) (q : Pool), j ≤ k ∧ m = k - j ∧ i = .int .i64 j ∧ Hid (PS w b pv q j wr) ∧ Hid (runP ((ls.map (fun x => x.o)).drop j) q = R))
  case atStart => exact ⟨0, pv0, none_, by omega, by omega, rfl, HP0.out, HR.out⟩
  case round =>
    obtain ⟨j, pv, q, hj, hgk, rfl, hps, hrun⟩ := hrel
    have HGK := Lib.hid hgk; clear hgk HP0
    have HJ9 : Hid (j ≤ 9999 ∧ (j < k → j + 1 ≤ 9999)) := ⟨by omega, by omega⟩
    by_cases hlt : j < k
    · have HLT := Lib.hid hlt
      have hlt1 : j < ls.length := by rw [HT.out.2.2.1]; exact hlt
      obtain ⟨bb, off, rfl, hbs, hx8⟩ := HT.out.1.at j hlt1
      obtain ⟨x, hx⟩ : ∃ d, ls[j]'hlt1 = d := ⟨_, rfl⟩
      rw [hx] at hx8
      have HXM : Hid (x ∈ ls ∧ ls[j]? = some x) := ⟨by rw [← hx]; exact List.getElem_mem hlt1, by rw [List.getElem?_eq_getElem hlt1, hx]⟩
      have HX8 := Lib.hid (And.intro hbs hx8)
      have HPU0 : Hid (Calls Try.prog 22 #[.pointer (some ⟨b, 0, none⟩), x.v] wr fun e W' => ∃ pv', e = .returned (.tuple #[.int .i64 (putP q x.o).2.1, .int .i64 (putP q x.o).2.2]) ∧ PS w b pv' (putP q x.o).1 (j + 1) W' ∧ Step pv wr pv' W' b) := by
        obtain ⟨h1, h2, h3⟩ := hps.out.input (HT.out.2.1 x HXM.out.1)
        exact hps.out.put (by omega) x h1 h2 h3
      have hrun2 := hrun.out
      rw [map_drop2 HXM.out.2, run_cons] at hrun2
      have HRUN := Lib.hid hrun2
      clear hrun2
      clear hx hx8 hbs
      obtain ⟨⟨⟨s, n⟩, dp, ct, kd, it, qq, sn⟩, xA, xc, xA2, xc2⟩ := x
      obtain ⟨a1, ha1⟩ : ∃ L, dp.length = L := ⟨_, rfl⟩
      obtain ⟨a2, ha2⟩ : ∃ L, sn.length = L := ⟨_, rfl⟩
      have HXL := Lib.hid (And.intro ha1 ha2)
      have HC : Hid (∀ W', Below w.heap.size w W' → (W'.cell? ⟨bb, off + j * 8, none⟩ = some (.string s) ∧ W'.cell? ⟨bb, off + j * 8 + 1, none⟩ = some (.int .i64 n) ∧ W'.cell? ⟨bb, off + j * 8 + 2, none⟩ = some (.slice xA a1 xc)) ∧ W'.cell? ⟨bb, off + j * 8 + 3, none⟩ = some (.string ct) ∧ W'.cell? ⟨bb, off + j * 8 + 4, none⟩ = some (.int .i64 kd) ∧ W'.cell? ⟨bb, off + j * 8 + 5, none⟩ = some (.string it) ∧ W'.cell? ⟨bb, off + j * 8 + 6, none⟩ = some (.int .i64 qq) ∧ W'.cell? ⟨bb, off + j * 8 + 7, none⟩ = some (.slice xA2 a2 xc2)) := fun W' hW => by
        obtain ⟨k0, k1, k2, k3, k4, k5, k6, k7⟩ := HX8.out.2.below hW HX8.out.1
        simp only at k0 k1 k2 k3 k4 k5 k6 k7
        rw [ha1] at k2; rw [ha2] at k7
        exact ⟨⟨k0, k1, k2⟩, k3, k4, k5, k6, k7⟩
      clear ha1 ha2 HX8
      have hcall := HPU0.out
      simp only [Ov.v, Ov.cells] at hcall
      rw [HXL.out.1, HXL.out.2] at hcall
      obtain ⟨P, hP⟩ : ∃ P, putP q ⟨(s, n), dp, ct, kd, it, qq, sn⟩ = P := ⟨_, rfl⟩
      rw [hP] at hcall
      have HRUN2 : Hid ((if P.2.2 = 0 then runP ((ls.map (fun x => x.o)).drop (j + 1)) P.1 else (P.1, false)) = R) := by have h := HRUN.out; rw [hP] at h; exact h
      obtain ⟨er, her⟩ : ∃ er, P.2.2 = er := ⟨_, rfl⟩
      rw [her] at hcall HRUN2
      obtain ⟨⟨c0, c1, c2_⟩, c3, c4, c5, c6, c7⟩ := HC.out _ hps.out.bel
      clear hP her HPU0 HRUN
      go_wp2_with fail
      refine hcall.mono ?_
      rintro e w1 ⟨pv1, rfl, h1, _⟩
      have H1 := Lib.hid h1
      clear hcall h1 c0 c1 c2_ c3 c4 c5 c6 c7
      by_cases he : er = 0
      · have hR2 : Hid (runP ((ls.map (fun x => x.o)).drop (j + 1)) P.1 = R) := by have h := HRUN2.out; rw [if_pos he] at h; exact h
        subst he
        go_wp2
        go_roundg (k - (j + 1))
        case rel => exact ⟨j + 1, pv1, P.1, by omega, rfl, by go_num, H1.out, hR2.out⟩
        case measure => have := HGK.out; omega
      · have hR2 : Hid ((P.1, false) = R) := by have h := HRUN2.out; rw [if_neg he] at h; exact h
        have hne : (er != 0) = true := by simp [he]
        go_wp2
        go_ret2
        rw [← hR2.out]
        exact ⟨b, pv1, rfl, ⟨H1.out.at_, H1.out.rel, H1.out.qu, H1.out.low, H1.out.bel, ⟨Nat.le_trans H1.out.few.1 (HJ9.out.2 HLT.out), Nat.le_trans H1.out.few.2 (HJ9.out.2 HLT.out)⟩⟩⟩
    · have hin : j = k := by omega
      subst hin
      have hR2 : Hid (R = (q, true)) := by
        show _ = _
        rw [← hrun.out, List.drop_eq_nil_of_le (by rw [List.length_map, HT.out.2.2.1]; exact Nat.le_refl _)]
        rfl
      go_wp2
      go_ret2
      rw [hR2.out]
      exact ⟨b, pv, rfl, ⟨hps.out.at_, hps.out.rel, hps.out.qu, hps.out.low, hps.out.bel, ⟨Nat.le_trans hps.out.few.1 HJ9.out.1, Nat.le_trans hps.out.few.2 HJ9.out.1⟩⟩⟩

end Go.Proofs.Ytdffifkleaekhaa.O

namespace Go.Proofs.Ytdffifkleaekhaa.O
open Go.RowKit Go.Proofs.Ytdffifkleaekhaa.V
set_option linter.unusedVariables false
set_option linter.unusedSimpArgs false


set_option maxRecDepth 100000 in
set_option maxHeartbeats 3200000 in
theorem sameP_any (x y : Ov) {w : World} (hx : x.ok w w.heap.size) (hy : y.ok w w.heap.size) : Calls Try.prog 18 #[x.v, y.v] w fun e w' => e = .returned (.bool (rightO x.o && decide (x.o = y.o))) ∧ Below w.heap.size w w' := by
  have hb2 : Below w.heap.size w ((w.alloc (.cells x.cells 26)).alloc (.cells y.cells 26)) := ((Below.refl _ w).alloc (Nat.le_refl _) _).alloc (by simp) _
  have hsz : ((w.alloc (.cells x.cells 26)).alloc (.cells y.cells 26)).heap.size = w.heap.size + 2 := by simp
  have hc2 := two_ops w x y
  have HC1 : Hid (∀ W, Below w.heap.size w W → Calls Try.prog 16 #[x.v] W fun e w' => e = .returned (.bool (rightO x.o)) ∧ Below W.heap.size W w') := fun W hW => right_op x (hx.up hW)
  have HC3 : Hid (∀ W, Below w.heap.size w W → Calls Try.prog 59 #[x.v, y.v] W fun e w' => e = .returned (.bool (decide (x.o = y.o))) ∧ Below W.heap.size W w') := fun W hW => equal_any x y (hx.up hW) (hy.up hW)
  obtain ⟨RX, hRX⟩ : ∃ R, rightO x.o = R := ⟨_, rfl⟩
  obtain ⟨EX, hEX⟩ : ∃ R, decide (x.o = y.o) = R := ⟨_, rfl⟩
  rw [hRX] at HC1 ⊢
  rw [hEX] at HC3 ⊢
  clear hRX hEX hx hy
  obtain ⟨⟨⟨s, n⟩, dp, ct, kd, it, q, sn⟩, A, c, A2, c2⟩ := x
  obtain ⟨⟨⟨s', n'⟩, dp', ct', kd', it', q', sn'⟩, A', c', A2', c2'⟩ := y
  obtain ⟨a1, ha1⟩ : ∃ L, dp.length = L := ⟨_, rfl⟩
  obtain ⟨b1, hb1⟩ : ∃ L, dp'.length = L := ⟨_, rfl⟩
  obtain ⟨a2, ha2⟩ : ∃ L, sn.length = L := ⟨_, rfl⟩
  obtain ⟨b2, hb2'⟩ : ∃ L, sn'.length = L := ⟨_, rfl⟩
  simp only [Ov.v, Ov.cells] at hc2 hb2 hsz HC1 HC3 ⊢
  rw [ha1, ha2] at HC1
  rw [ha1, hb1, ha2, hb2'] at hc2 hb2 hsz HC3 ⊢
  obtain ⟨W2, hW2⟩ : ∃ W2, (w.alloc (.cells #[.string s, .int .i64 n, .slice A a1 c, .string ct, .int .i64 kd, .string it, .int .i64 q, .slice A2 a2 c2] 26)).alloc (.cells #[.string s', .int .i64 n', .slice A' b1 c', .string ct', .int .i64 kd', .string it', .int .i64 q', .slice A2' b2 c2'] 26) = W2 := ⟨_, rfl⟩
  have HWE := Lib.hid hW2
  rw [hW2] at hc2 hb2 hsz
  have HCC : Hid (∀ W, Below W2.heap.size W2 W → ((W.cell? ⟨w.heap.size, 0, none⟩ = some (.string s) ∧ W.cell? ⟨w.heap.size, 1, none⟩ = some (.int .i64 n) ∧ W.cell? ⟨w.heap.size, 2, none⟩ = some (.slice A a1 c)) ∧ W.cell? ⟨w.heap.size, 3, none⟩ = some (.string ct) ∧ W.cell? ⟨w.heap.size, 4, none⟩ = some (.int .i64 kd) ∧ W.cell? ⟨w.heap.size, 5, none⟩ = some (.string it) ∧ W.cell? ⟨w.heap.size, 6, none⟩ = some (.int .i64 q) ∧ W.cell? ⟨w.heap.size, 7, none⟩ = some (.slice A2 a2 c2)) ∧
      ((W.cell? ⟨w.heap.size + 1, 0, none⟩ = some (.string s') ∧ W.cell? ⟨w.heap.size + 1, 1, none⟩ = some (.int .i64 n') ∧ W.cell? ⟨w.heap.size + 1, 2, none⟩ = some (.slice A' b1 c')) ∧ W.cell? ⟨w.heap.size + 1, 3, none⟩ = some (.string ct') ∧ W.cell? ⟨w.heap.size + 1, 4, none⟩ = some (.int .i64 kd') ∧ W.cell? ⟨w.heap.size + 1, 5, none⟩ = some (.string it') ∧ W.cell? ⟨w.heap.size + 1, 6, none⟩ = some (.int .i64 q') ∧ W.cell? ⟨w.heap.size + 1, 7, none⟩ = some (.slice A2' b2 c2'))) := fun W hW => by
    obtain ⟨⟨k0, k1, k2, k3, k4, k5, k6, k7⟩, ⟨l0, l1, l2, l3, l4, l5, l6, l7⟩⟩ := hc2 W (by rw [← hsz]; exact hW)
    simp only at k0 k1 k2 k3 k4 k5 k6 k7 l0 l1 l2 l3 l4 l5 l6 l7
    rw [ha1] at k2; rw [ha2] at k7; rw [hb1] at l2; rw [hb2'] at l7
    exact ⟨⟨⟨k0, k1, k2⟩, k3, k4, k5, k6, k7⟩, ⟨l0, l1, l2⟩, l3, l4, l5, l6, l7⟩
  have HB2 := Lib.hid hb2
  obtain ⟨⟨⟨c0, c1, c2_⟩, c3, c4, c5, c6, c7⟩, ⟨d0, d1, d2⟩, d3, d4, d5, d6, d7⟩ := HCC.out W2 (Below.refl _ _)
  clear hW2 hb2 hsz hc2 ha1 hb1 ha2 hb2'
  go_enter Try.func18, Try.ntmps18
  go_upto_region 1 with fail
  rw [HWE.out]
  go_wp2_with fail
  refine (HC1.out _ HB2.out).mono ?_
  rintro e wa ⟨rfl, hba⟩
  have HBA := Lib.hid hba
  have HA := Lib.hid (HB2.out.trans (hba.mono HB2.out.size))
  clear hba c0 c1 c2_ c3 c4 c5 c6 c7 d0 d1 d2 d3 d4 d5 d6 d7
  obtain ⟨⟨⟨c0, c1, c2_⟩, c3, c4, c5, c6, c7⟩, ⟨d0, d1, d2⟩, d3, d4, d5, d6, d7⟩ := HCC.out wa HBA.out
  cases RX with
  | false =>
    go_wp2
    go_ret
    exact ⟨ret_bool (by simp), HA.out⟩
  | true =>
    go_wp2_with fail
    refine (HC3.out _ HA.out).mono ?_
    rintro e wb ⟨rfl, hbb⟩
    have HB := Lib.hid (HA.out.trans (hbb.mono HA.out.size))
    clear hbb c0 c1 c2_ c3 c4 c5 c6 c7 d0 d1 d2 d3 d4 d5 d6 d7
    go_wp2
    go_ret
    exact ⟨ret_bool (by simp), HB.out⟩

/-- append(out, o, o). -/
theorem GrO.two {w : World} {base c : Nat} {A : Option Addr} {l : List Ov} (h : GrO w base A c l) (r : Ov) (ty : TypeId) (hb : l.length ≤ 1000000) (hbase : base ≤ w.heap.size) :
    ∃ A' c' w', (Builtin.append_ #[36, 36] ty #[.slice A l.length c, .slice (some ⟨w.heap.size, 0, none⟩) 2 2]).run Try.prog (w.alloc (.cells (r.cells ++ r.cells) 26)) = .ok (.slice A' (l.length + 2) c') w' ∧ GrO w' base A' c' (l ++ [r, r]) ∧ Below base w w' ∧ (∀ k, k < w.heap.size → blk A ≠ some k → w'.heap[k]? = w.heap[k]?) ∧ w.heap.size ≤ w'.heap.size ∧ (blk A' = blk A ∨ ∃ k, blk A' = some k ∧ w.heap.size ≤ k) := by
  obtain ⟨i0, hi, hz0, hz1, hz2⟩ := info_parts info26
  have hB0 : Below base w (w.alloc (.cells (r.cells ++ r.cells) 26)) := (Below.refl _ w).alloc hbase _
  have hBt : Below w.heap.size w (w.alloc (.cells (r.cells ++ r.cells) 26)) := (Below.refl _ w).alloc (Nat.le_refl _) _
  have hcell : ∀ j u, (cellsO [r, r])[j]? = some u → (w.alloc (.cells (r.cells ++ r.cells) 26)).cell? ((⟨w.heap.size, 0, none⟩ : Addr).add j) = some u := by
    intro j u hu
    have e : (⟨w.heap.size, 0, none⟩ : Addr).add j = ⟨w.heap.size, j, none⟩ := by
      unfold Addr.add; split
      · rename_i h; subst h; rfl
      · simp
    rw [e, cell_of_row _ _ j _ 26 (0, 0) (heap_alloc_new w _)]
    have e2 : cellsO [r, r] = (r.cells ++ r.cells).toList := by simp [cellsO]
    rw [e2] at hu
    rw [Array.getElem?_toList] at hu
    exact hu
  obtain ⟨v', w', hrun, ho, hg, hn, hat⟩ := run_append_own_at (P := Try.prog) (w.alloc (.cells (r.cells ++ r.cells) 26)) base 36 ty 26 i0 opZero 8 120 Try.underlying36 hi hz0 hz1 hz2 rfl (by decide) _ _ _ (h.below hBt (Nat.le_refl _)) _ 2 2 (cellsO [r, r]) (by rw [cellsO_length]; rfl) hcell (oneCell_cellsO [r, r]) (by unfold maxLen; omega) (by omega) (by simp; omega)
  have hB : Below base w w' := hB0.grown hg (by simp; omega) (fun k e => by rw [blk_own] at e; exact (h.lt k e).1)
  have e2 : cellsO (l ++ [r, r]) = cellsO l ++ cellsO [r, r] := cellsO_append _ _
  have e3 : (l ++ [r, r]).length = l.length + 2 := by simp
  rw [blk_own] at hg hat
  rcases ho.2 with ⟨e, h0⟩ | ⟨g', cap', cur, e, _⟩
  · omega
  · rw [e] at hrun ho hat
    refine ⟨_, _, w', hrun, by unfold GrO; rw [e2, e3]; exact ho, hB, fun k hk hne => ?_, ?_, ?_⟩
    · exact (hg.block k (by simp; omega) (fun e => hne e.symm)).trans (hBt.block k hk)
    · have := hg.size; simp only [World.size_alloc] at this; omega
    · rw [blk_own] at hat
      rcases hat with hat | hat
      · exact .inl hat
      · exact .inr ⟨_, hat, by simp⟩

theorem metB_next {os : List Op} {k : Nat} {o : Op} (h : os[k]? = some o) (w : ByteArray) : metB (mks (os.take (k + 1)) []) w = (metB (mks (os.take k) []) w || decide (o.dot.1 = w)) := by
  rw [Bool.eq_iff_iff, Bool.or_eq_true, metB_iff, metB_iff, mks_mem, mks_mem, List.take_add_one, h, decide_eq_true_eq]
  constructor
  · rintro (h | ⟨o', h1, h2⟩)
    · cases h
    · rcases List.mem_append.1 h1 with h1 | h1
      · exact .inl (.inr ⟨o', h1, h2⟩)
      · simp only [Option.toList_some, List.mem_singleton] at h1
        subst h1; exact .inr h2
  · rintro ((h | ⟨o', h1, h2⟩) | h)
    · cases h
    · exact .inr ⟨o', List.mem_append.2 (.inl h1), h2⟩
    · exact .inr ⟨o, List.mem_append.2 (.inr (by simp)), h⟩
theorem metB_mono {os : List Op} {k j : Nat} (hkj : k ≤ j) {w : ByteArray} (h : metB (mks (os.take k) []) w = true) : metB (mks (os.take j) []) w = true := by
  rw [metB_iff, mks_mem] at h ⊢
  rcases h with h | ⟨o, h1, h2⟩
  · cases h
  · refine .inr ⟨o, ?_, h2⟩
    have e : os.take k = (os.take j).take k := by rw [List.take_take, Nat.min_eq_left hkj]
    rw [e] at h1
    exact List.mem_of_mem_take h1
set_option maxRecDepth 100000 in
set_option maxHeartbeats 6400000 in
theorem makers_any {A : Option Addr} {ls : List Ov} (c : Nat) {w : World} (hr : RowO w w.heap.size A ls) (hl : ls.length ≤ 9999) :
    Calls Try.prog 31 #[.slice A ls.length c] w fun e w' => e = .returned (.int .i64 ((mks (ls.map (fun x => x.o)) []).length : Int)) ∧ Below w.heap.size w w' := by
  obtain ⟨L, hL⟩ : ∃ k, ls.length = k := ⟨_, rfl⟩
  rw [hL]
  have HT := Lib.hid (And.intro hr (And.intro hL hl))
  obtain ⟨os, hos⟩ : ∃ os, ls.map (fun x => x.o) = os := ⟨_, rfl⟩
  have HOS := Lib.hid hos
  rw [hos]
  have hL9 : L ≤ 9999 := by omega
  have HW : Hid (∀ k, k < L → ∀ W, Below w.heap.size w W → ∃ bb off, A = some ⟨bb, off, none⟩ ∧ ∃ o, os[k]? = some o ∧ W.cell? ⟨bb, off + k * 8, none⟩ = some (.string o.dot.1)) := fun k hk W hW => by
    obtain ⟨bb, off, e, hb, h8⟩ := hr.at k (by rw [hL]; exact hk)
    refine ⟨bb, off, e, (ls[k]'(by rw [hL]; exact hk)).o, ?_, (h8.below hW hb).c0⟩
    rw [← hos, List.getElem?_map, List.getElem?_eq_getElem (by rw [hL]; exact hk)]; rfl
  clear hr hl hL hos
  go_enter Try.func31, Try.ntmps31
  go_wp2
  go_loopg [3, 4] L (fun m v i wr => ∃ (j ml : Nat), j ≤ L ∧ m = L - j ∧ i = .int .i64 j ∧ v = .int .i64 (ml : Int) ∧ Hid ((mks (os.take j) []).length = ml ∧ ml ≤ j) ∧ Below w.heap.size w wr)
  case atStart => exact ⟨0, 0, by omega, by omega, rfl, rfl, ⟨rfl, Nat.le_refl _⟩, Below.refl _ _⟩
  case round =>
    obtain ⟨j, ml, hj, hgk, rfl, rfl, hml, hbw⟩ := hrel
    have HGK := Lib.hid hgk; clear hgk
    by_cases hlt : j < L
    · have HLT := Lib.hid hlt
      obtain ⟨bb, off, rfl, oj, hoj, hcj⟩ := HW.out j hlt wr hbw
      have HOJ := Lib.hid hoj
      have HW2 : Hid (∀ k, k < L → ∀ W, Below w.heap.size w W → ∃ o, os[k]? = some o ∧ W.cell? ⟨bb, off + k * 8, none⟩ = some (.string o.dot.1)) := fun k hk W hW => by
        obtain ⟨b2, off2, e, o, h1, h2⟩ := HW.out k hk W hW
        injection e with e; injection e with e1 e2
        subst e1; subst e2
        exact ⟨o, h1, h2⟩
      obtain ⟨wj, hwj⟩ : ∃ s, oj.dot.1 = s := ⟨_, rfl⟩
      have HWJ := Lib.hid hwj
      have HBW := Lib.hid hbw
      clear hoj hcj hwj hbw
      have hjl9 : j ≤ 9999 := by omega
      go_wp2
      go_loopg [5, 6] j (fun m v i wr => ∃ (k : Nat) (mt : Bool), k ≤ j ∧ m = j - k ∧ i = .int .i64 k ∧ v = .bool mt ∧ Hid (mt = metB (mks (os.take k) []) wj) ∧ Below w.heap.size w wr)
      case atStart => exact ⟨0, false, by omega, by omega, rfl, rfl, (by show _ = _; rfl), HBW.out⟩
      case round =>
        obtain ⟨k, mt, hk, hgk2, rfl, rfl, hmt, hbw2⟩ := hrel
        have HG2 := Lib.hid hgk2; clear hgk2
        by_cases hgo : k < j ∧ mt = false
        · obtain ⟨hkj, rfl⟩ := hgo
          have HKJ := Lib.hid hkj
          have hkL : k < L := by omega
          obtain ⟨ok, hok, hck⟩ := HW2.out k hkL wr hbw2
          obtain ⟨oj2, hoj2, hcj⟩ := HW2.out j HLT.out wr hbw2
          rw [HOJ.out] at hoj2
          injection hoj2 with hoj2
          subst hoj2
          rw [HWJ.out] at hcj
          obtain ⟨wk, hwk⟩ : ∃ s, ok.dot.1 = s := ⟨_, rfl⟩
          rw [hwk] at hck
          obtain ⟨E, hE⟩ : ∃ E, decide (wk = wj) = E := ⟨_, rfl⟩
          have heq : (wk.toList == wj.toList) = E := by rw [eq_str, hE]
          have HNX : Hid (E = metB (mks (os.take (k + 1)) []) wj) := by
            show _ = _
            rw [metB_next hok, ← hmt.out, hwk, hE]
            rfl
          have HBW2 := Lib.hid hbw2
          have hjl : (j : Int) < (L : Int) := by have := HLT.out; omega
          have hkl : (k : Int) < (L : Int) := by omega
          clear hok hE hwk hmt hbw2
          go_upto_region 9 with fail
          go_quiet (fail)
          go_wp2
          go_roundg (j - (k + 1))
          case rel => exact ⟨k + 1, E, Nat.succ_le_of_lt HKJ.out, rfl, by go_num, rfl, HNX.out, below_drewN HBW2.out _⟩
          case measure => have := HG2.out; have := HKJ.out; omega
        · have HMT : Hid (mt = metB (mks (os.take j) []) wj) := by
            show _ = _
            by_cases hkj : k < j
            · have hmtt : mt = true := by
                cases mt with
                | true => rfl
                | false => exact absurd ⟨hkj, rfl⟩ hgo
              have h1 := hmt.out
              rw [hmtt] at h1 ⊢
              exact (metB_mono (Nat.le_of_lt hkj) h1.symm).symm
            · have : k = j := by omega
              rw [← this]; exact hmt.out
          have HSN : Hid ((mks (os.take (j + 1)) []).length = if mt = true then ml else ml + 1) := by
            show _ = _
            rw [List.take_add_one, HOJ.out]
            simp only [Option.toList_some]
            rw [mks_snoc, HWJ.out, ← HMT.out]
            cases mt with
            | true => simp [hml.out.1]
            | false => simp [hml.out.1]
          have hml9 : ml ≤ 9999 := by have := hml.out.2; omega
          have HML := Lib.hid hml.out.2
          clear hmt hml
          cases mt with
          | true =>
            have HS2 : Hid ((mks (os.take (j + 1)) []).length = ml) := HSN.out
            by_cases hkj : (k : Int) < (j : Int)
            · go_wp2
              go_roundg (L - (j + 1))
              case rel => exact ⟨j + 1, ml, Nat.succ_le_of_lt HLT.out, rfl, by go_num, rfl, ⟨HS2.out, by have := HML.out; omega⟩, hbw2⟩
              case measure => have := HGK.out; have := HLT.out; omega
            · go_wp2
              go_roundg (L - (j + 1))
              case rel => exact ⟨j + 1, ml, Nat.succ_le_of_lt HLT.out, rfl, by go_num, rfl, ⟨HS2.out, by have := HML.out; omega⟩, hbw2⟩
              case measure => have := HGK.out; have := HLT.out; omega
          | false =>
            have HS2 : Hid ((mks (os.take (j + 1)) []).length = ml + 1) := HSN.out
            have hkj : ¬ k < j := fun h => hgo ⟨h, rfl⟩
            have hkj2 : ¬ (k : Int) < (j : Int) := by omega
            go_wp2
            go_roundg (L - (j + 1))
            case rel => exact ⟨j + 1, ml + 1, Nat.succ_le_of_lt HLT.out, rfl, by go_num, by go_num, ⟨HS2.out, by have := HML.out; omega⟩, hbw2⟩
            case measure => have := HGK.out; have := HLT.out; omega
    · have hin : j = L := by omega
      subst hin
      have HF : Hid ((mks os []).length = ml) := by
        have h := hml.out.1
        rw [List.take_of_length_le (by rw [← HOS.out, List.length_map, HT.out.2.1]; exact Nat.le_refl _)] at h
        exact h
      go_wp2
      go_ret
      exact ⟨by rw [HF.out]; rfl, hbw⟩

end Go.Proofs.Ytdffifkleaekhaa.O

namespace Go.Proofs.Ytdffifkleaekhaa.orderSame
open Go.RowKit Go.Proofs.Ytdffifkleaekhaa.V Go.Proofs.Ytdffifkleaekhaa.O
set_option linter.unusedVariables false
set_option linter.unusedSimpArgs false


set_option maxRecDepth 100000 in
set_option maxHeartbeats 12800000 in
theorem walk (A : Option Addr) (c : Nat) (ls : List Ov) (w : World) (hr : RowO w w.heap.size A ls) (hok : ∀ x ∈ ls, x.ok w w.heap.size) (hl : ls.length ≤ 10000000000000) (hcap : ls.length ≤ c) (hc : c ≤ 9223372036854775807) : Calls Try.prog 6 #[.slice A ls.length c] w fun e w' => e = .returned (.bool true) ∧ Below w.heap.size w w' := by
  obtain ⟨L, hL⟩ : ∃ L, ls.length = L := ⟨_, rfl⟩
  rw [hL] at hl hcap ⊢
  have hmin : (if (100 : Int) < (L : Int) then (100 : Int) else (L : Int)) = ((min L 100 : Nat) : Int) := by omega
  obtain ⟨k, hk⟩ : ∃ k, min L 100 = k := ⟨_, rfl⟩
  rw [hk] at hmin
  have hkL : k ≤ L := by omega
  have hkc : k ≤ c := by omega
  have htk : (ls.take k).length = k := by rw [List.length_take, hL]; omega
  obtain ⟨lt, hlt_⟩ : ∃ lt, ls.take k = lt := ⟨_, rfl⟩
  have hrt := hr.take k
  have hot : ∀ x ∈ ls.take k, x.ok w w.heap.size := fun x hx => hok x (List.mem_of_mem_take hx)
  rw [hlt_] at htk hrt hot
  have HT := Lib.hid (And.intro hrt (And.intro hot (And.intro htk (show k ≤ 100 by omega))))
  clear hr hok hL hk htk hrt hot hlt_
  have g0 : (0 : Int) ≤ (k : Int) := by omega
  have g1 : (k : Int) ≤ (c : Int) := by omega
  go_enter Try.func6, Try.ntmps6
  go_wp2_with fail
  refine (shown_any _).mono ?_
  rintro e wa ⟨rfl, hba⟩
  have HA := Lib.hid hba
  clear hba
  have hcall := makers_any c (HT.out.1.up HA.out) (by rw [HT.out.2.2.1]; have := HT.out.2.2.2; omega)
  rw [HT.out.2.2.1] at hcall
  obtain ⟨mk, hmk⟩ : ∃ mk, (mks (lt.map (fun x => x.o)) []).length = mk := ⟨_, rfl⟩
  rw [hmk] at hcall
  have HMK := Lib.hid hmk
  clear hmk
  go_wp2_with fail
  refine hcall.mono ?_
  rintro e wb ⟨rfl, hbb⟩
  have HB := Lib.hid (HA.out.trans (hbb.mono HA.out.size))
  have HK : Hid (k ≤ 100) := by show _ ≤ _; exact HT.out.2.2.2
  clear hcall hbb hmin hkL hkc hl hcap hc g0 g1
  by_cases h64 : mk > 64
  · have h64' : (64 : Int) < (mk : Int) := by omega
    go_wp2
    go_ret
    exact ⟨rfl, HB.out⟩
  have h64' : ¬ (64 : Int) < (mk : Int) := by omega
  have HMK2 : Hid ((mks (lt.map (fun x => x.o)) []).length ≤ 64) := by show _ ≤ _; rw [HMK.out]; omega
  have hk100 := HK.out
  go_wp2
  go_loopg [4, 5] k (fun m v i wr => ∃ (j : Nat) (i0 : Int) (A9 : Option Addr) (c9 n9 : Nat) (bs : List Ov), j ≤ k ∧ m = j ∧ Hid (i0 = (j : Int) - 1) ∧ i = .int .i64 i0 ∧ v = .slice A9 n9 c9 ∧ Hid (bs.length = n9 ∧ n9 = 2 * (k - j) ∧ ∀ x ∈ bs, x ∈ lt) ∧ Hid (∀ o, o ∈ bs.map (fun x => x.o) ↔ o ∈ (lt.map (fun x => x.o)).drop j) ∧ Hid (GrO wr wb.heap.size A9 c9 bs) ∧ Hid (Below wb.heap.size wb wr))
  case atStart => exact ⟨k, (k : Int) - 1, none, 0, 0, [], by omega, rfl, rfl, by go_num, rfl, ⟨rfl, by omega, fun x hx => by cases hx⟩, fun o => by rw [List.drop_eq_nil_of_le (by rw [List.length_map, HT.out.2.2.1]; exact Nat.le_refl _)]; simp, GrO.nil _ _, Below.refl _ _⟩
  case round =>
    obtain ⟨j, i0, A9, c9, n9, bs, hj, hgk, hi0, rfl, rfl, hbs_, hset, hgr, hbw⟩ := hrel
    have HGK := Lib.hid hgk; clear hgk
    by_cases hlt : 0 < j
    · obtain ⟨j', rfl⟩ : ∃ j', j = j' + 1 := ⟨j - 1, by omega⟩
      obtain rfl : i0 = (j' : Int) := by have := hi0.out; omega
      have HLT : Hid (j' < k) := by show _ < _; omega
      have hge : (0 : Int) ≤ (j' : Int) := by omega
      have hjk : (j' : Int) < (k : Int) := by omega
      have hlt1 : j' < lt.length := by rw [HT.out.2.2.1]; exact HLT.out
      obtain ⟨bb, off, rfl, hbs, hx8⟩ := HT.out.1.at j' hlt1
      obtain ⟨x, hx⟩ : ∃ d, lt[j']'hlt1 = d := ⟨_, rfl⟩
      rw [hx] at hx8
      have HXM : Hid (x ∈ lt ∧ lt[j']? = some x) := ⟨by rw [← hx]; exact List.getElem_mem hlt1, by rw [List.getElem?_eq_getElem hlt1, hx]⟩
      have HX8 := Lib.hid (And.intro hbs hx8)
      have HDR : Hid ((lt.map (fun x => x.o)).drop j' = x.o :: (lt.map (fun x => x.o)).drop (j' + 1)) := map_drop2 HXM.out.2
      clear hx hx8 hbs
      obtain ⟨⟨⟨s, n⟩, dp, ct, kd, it, qq, sn⟩, xA, xc, xA2, xc2⟩ := x
      obtain ⟨a1, ha1⟩ : ∃ L, dp.length = L := ⟨_, rfl⟩
      obtain ⟨a2, ha2⟩ : ∃ L, sn.length = L := ⟨_, rfl⟩
      have HXL := Lib.hid (And.intro ha1 ha2)
      have HC : Hid (∀ W', Below w.heap.size w W' → (W'.cell? ⟨bb, off + j' * 8, none⟩ = some (.string s) ∧ W'.cell? ⟨bb, off + j' * 8 + 1, none⟩ = some (.int .i64 n) ∧ W'.cell? ⟨bb, off + j' * 8 + 2, none⟩ = some (.slice xA a1 xc)) ∧ W'.cell? ⟨bb, off + j' * 8 + 3, none⟩ = some (.string ct) ∧ W'.cell? ⟨bb, off + j' * 8 + 4, none⟩ = some (.int .i64 kd) ∧ W'.cell? ⟨bb, off + j' * 8 + 5, none⟩ = some (.string it) ∧ W'.cell? ⟨bb, off + j' * 8 + 6, none⟩ = some (.int .i64 qq) ∧ W'.cell? ⟨bb, off + j' * 8 + 7, none⟩ = some (.slice xA2 a2 xc2)) := fun W' hW => by
        obtain ⟨k0, k1, k2, k3, k4, k5, k6, k7⟩ := HX8.out.2.below hW HX8.out.1
        simp only at k0 k1 k2 k3 k4 k5 k6 k7
        rw [ha1] at k2; rw [ha2] at k7
        exact ⟨⟨k0, k1, k2⟩, k3, k4, k5, k6, k7⟩
      clear ha1 ha2 HX8
      have HWW : Hid (Below w.heap.size w wr.drew) := (HB.out.trans (hbw.out.mono HB.out.size)).drew
      have hsz : w.heap.size ≤ wb.heap.size := HB.out.size
      have HA9 : Hid (∀ i, blk A9 = some i → w.heap.size ≤ i) := fun i hi => by have := (hgr.out.lt i hi).1; omega
      have HGF : Hid (GrO wr.drew wb.heap.size A9 c9 bs ∧ wb.heap.size ≤ wr.drew.heap.size ∧ Below wb.heap.size wb wr.drew) := ⟨hgr.out.below (Below.refl _ wr).drew (Nat.le_refl _), hbw.out.drew.size, hbw.out.drew⟩
      have HSZ : Hid (w.heap.size ≤ wr.drew.heap.size) := by show _ ≤ _; exact Nat.le_trans hsz hbw.out.drew.size
      clear hi0 hlt1 hsz hgr hbw hlt
      go_upto_region 9 with fail
      refine wp_region_held_drew (S := fun Wv => But (fun k => blk A9 = some k) wr.drew Wv) (by kernel_rfl) (But.refl _ _) (fun hS => ?_)
      generalize wr.drew = Wf at *
      refine wpAnyH_take (i := 0) (v := ?_) rfl (by kernel_rfl) (by kernel_rfl) (by kernel_rfl) (fun _ _ _ h => h) (Yields.yieldsIf (Or.inl ⟨by kernel_rfl, ?_⟩)) hS ?_
      rotate_left
      · first | (intro w; go_simp; done) | (intro w; go_simp; with_reducible rfl)
      refine wpAnyH_take (i := 1) (v := ?_) rfl (by kernel_rfl) (by kernel_rfl) (by kernel_rfl) (fun _ _ _ h => h) (Yields.yieldsIf (Or.inl ⟨by kernel_rfl, ?_⟩)) hS ?_
      rotate_left
      · first | (intro w; go_simp; done) | (intro w; go_simp; with_reducible rfl)
      refine wpAnyH_take (i := 2) (v := ?_) rfl (by kernel_rfl) (by kernel_rfl) (by kernel_rfl) (fun _ _ _ h => h) (Yields.yieldsIf (Or.inl ⟨by kernel_rfl, ?_⟩)) hS ?_
      rotate_left
      · first | (intro w; go_simp; done) | (intro w; go_simp; with_reducible rfl)
      refine wpAnyH_take (i := 3) (v := ?_) rfl (by kernel_rfl) (by kernel_rfl) (by kernel_rfl) (fun _ _ _ h => h) (Yields.yieldsIf (Or.inl ⟨by kernel_rfl, ?_⟩)) hS ?_
      rotate_left
      · first | (intro w; go_simp; done) | (intro w; go_simp; with_reducible rfl)
      refine wpAnyH_take (i := 4) (v := ?_) rfl (by kernel_rfl) (by kernel_rfl) (by kernel_rfl) (fun _ _ _ h => h) (Or.inl ⟨by kernel_rfl, fun W hW => ?_⟩) hS ?_
      rotate_left
      · obtain ⟨⟨c0, c1, c2_⟩, c3, c4, c5, c6, c7⟩ := HC.out W (HWW.out.trans (hW.below HA9.out HSZ.out))
        first | (go_simp; done) | (go_simp; with_reducible rfl)
      refine wpAnyH_take (i := 5) (v := ?_) rfl (by kernel_rfl) (by kernel_rfl) (by kernel_rfl) (fun _ _ _ h => h) (Yields.yieldsIf (Or.inl ⟨by kernel_rfl, ?_⟩)) hS ?_
      rotate_left
      · first | (intro w; go_simp; done) | (intro w; go_simp; with_reducible rfl)
      refine wpAnyH_take (i := 6) (v := ?_) rfl (by kernel_rfl) (by kernel_rfl) (by kernel_rfl) (fun _ _ _ h => h) (Yields.yieldsIf (Or.inl ⟨by kernel_rfl, ?_⟩)) hS ?_
      rotate_left
      · first | (intro w; go_simp; done) | (intro w; go_simp; with_reducible rfl)
      refine wpAnyH_take (i := 7) (v := ?_) rfl (by kernel_rfl) (by kernel_rfl) (by kernel_rfl) (fun _ _ _ h => h) (Yields.yieldsIf (Or.inl ⟨by kernel_rfl, ?_⟩)) hS ?_
      rotate_left
      · first | (intro w; go_simp; done) | (intro w; go_simp; with_reducible rfl)
      refine wpAnyH_take (i := 8) (v := ?_) rfl (by kernel_rfl) (by kernel_rfl) (by kernel_rfl) (fun _ _ _ h => h) (Or.inl ⟨by kernel_rfl, fun W hW => ?_⟩) hS ?_
      rotate_left
      · obtain ⟨⟨c0, c1, c2_⟩, c3, c4, c5, c6, c7⟩ := HC.out W (HWW.out.trans (hW.below HA9.out HSZ.out))
        first | (go_simp; done) | (go_simp; with_reducible rfl)
      try go_simp
      refine wpAnyH_ready (rs := [9]) (by kernel_rfl) (by simp) ?_
      refine AllReadyH.cons rfl (fun K hK => ?_) AllReadyH.nil
      obtain ⟨A5, c5, wh, hrun, ho1, ho2, ho3, ho4, ho5⟩ := HGF.out.1.two (⟨⟨(s, n), dp, ct, kd, it, qq, sn⟩, xA, xc, xA2, xc2⟩ : Ov) 36 (by rw [hbs_.out.1, hbs_.out.2.1]; have := HK.out; omega) HGF.out.2.1
      rw [hbs_.out.1] at hrun
      simp only [Ov.cells, List.append_toArray, List.cons_append, List.nil_append] at hrun
      rw [HXL.out.1, HXL.out.2] at hrun
      have HRUN := Lib.hid hrun
      have HFIN : Hid (GrO wh wb.heap.size A5 c5 (bs ++ [(⟨⟨(s, n), dp, ct, kd, it, qq, sn⟩, xA, xc, xA2, xc2⟩ : Ov), (⟨⟨(s, n), dp, ct, kd, it, qq, sn⟩, xA, xc, xA2, xc2⟩ : Ov)]) ∧ Below wb.heap.size wb wh ∧ But (fun k => blk A9 = some k) Wf wh) := ⟨ho1, HGF.out.2.2.trans ho2, ⟨ho2.os, ho2.tape, ho2.output, ho4, fun k hk hx => ho3 k hk hx⟩⟩
      clear hrun ho1 ho2 ho3 ho4 ho5
      go_simp
      go_wp2_with fail
      have hS3 : But (fun k => blk A9 = some k) Wf (Wf.alloc (.cells #[.string s, .int .i64 n, .slice xA a1 xc, .string ct, .int .i64 kd, .string it, .int .i64 qq, .slice xA2 a2 xc2, .string s, .int .i64 n, .slice xA a1 xc, .string ct, .int .i64 kd, .string it, .int .i64 qq, .slice xA2 a2 xc2] 26)) := (But.refl _ Wf).alloc _
      refine hK.out _ _ hS3 (fun hS => ?_)
      clear hK K hS3
      try go_simp
      refine wpAnyH_ready (rs := [10]) (by kernel_rfl) (by simp) ?_
      refine AllReadyH.cons rfl (fun K hK => ?_) AllReadyH.nil
      refine Go.Lib.wp_append_run _ _ _ _ _ rfl _ _ rfl rfl _ _ HRUN.out ?_
      have hS3 : But (fun k => blk A9 = some k) Wf wh := HFIN.out.2.2
      refine hK.out _ _ hS3 (fun hS => ?_)
      clear hK K hS3
      refine wpAnyH_take (i := 11) (v := ?_) rfl (by kernel_rfl) (by kernel_rfl) (by kernel_rfl) (fun _ _ _ h => h) (Yields.yieldsIf (Or.inl ⟨by kernel_rfl, ?_⟩)) hS ?_
      rotate_left
      · first | (intro w; go_simp; done) | (intro w; go_simp; with_reducible rfl)
      try go_simp
      refine wpAnyH_done (by kernel_rfl) ?_ _
      have HN2 : Hid ((bs ++ [(⟨⟨(s, n), dp, ct, kd, it, qq, sn⟩, xA, xc, xA2, xc2⟩ : Ov), (⟨⟨(s, n), dp, ct, kd, it, qq, sn⟩, xA, xc, xA2, xc2⟩ : Ov)]).length = n9 + 2 ∧ n9 + 2 = 2 * (k - j') ∧ ∀ x ∈ bs ++ [(⟨⟨(s, n), dp, ct, kd, it, qq, sn⟩, xA, xc, xA2, xc2⟩ : Ov), (⟨⟨(s, n), dp, ct, kd, it, qq, sn⟩, xA, xc, xA2, xc2⟩ : Ov)], x ∈ lt) := by
        refine ⟨by rw [List.length_append, hbs_.out.1]; rfl, by have := hbs_.out.2.1; have := HLT.out; omega, fun x hx => ?_⟩
        rcases List.mem_append.1 hx with h1 | h1
        · exact hbs_.out.2.2 x h1
        · have h2 : x = (⟨⟨(s, n), dp, ct, kd, it, qq, sn⟩, xA, xc, xA2, xc2⟩ : Ov) := by simpa using h1
          rw [h2]; exact HXM.out.1
      have HS2 : Hid (∀ o, o ∈ (bs ++ [(⟨⟨(s, n), dp, ct, kd, it, qq, sn⟩, xA, xc, xA2, xc2⟩ : Ov), (⟨⟨(s, n), dp, ct, kd, it, qq, sn⟩, xA, xc, xA2, xc2⟩ : Ov)]).map (fun x => x.o) ↔ o ∈ (lt.map (fun x => x.o)).drop j') := fun o => by
        have h0 := hset.out o
        rw [HDR.out, List.map_append, List.mem_append, h0, List.mem_cons]
        simp only [List.map_cons, List.map_nil, List.mem_cons, List.not_mem_nil, or_false, or_self]
        exact Or.comm
      have hk100 := HK.out
      have hjk2 := HLT.out
      go_wp2
      go_roundg j'
      case rel => exact ⟨j', (j' : Int) - 1, A5, c5, n9 + 2, _, by have := HLT.out; omega, rfl, rfl, by go_num, rfl, HN2.out, HS2.out, HFIN.out.1, HFIN.out.2.1⟩
      case measure => have := HGK.out; omega
    · obtain rfl : j = 0 := by omega
      obtain rfl : i0 = -1 := by have := hi0.out; omega
      have HBZ := Lib.hid (HB.out.trans (hbw.out.mono HB.out.size))
      have HSET : Hid (∀ o, o ∈ bs.map (fun x => x.o) ↔ o ∈ lt.map (fun x => x.o)) := fun o => by have h := hset.out o; rwa [List.drop_zero] at h
      have hcall := putL_any c (HT.out.1.up HBZ.out) (fun x hx => (HT.out.2.1 x hx).up HBZ.out) (by rw [HT.out.2.2.1]; have := HT.out.2.2.2; omega)
      rw [HT.out.2.2.1] at hcall
      obtain ⟨R1, hR1⟩ : ∃ R, runP (lt.map (fun x => x.o)) none_ = R := ⟨_, rfl⟩
      rw [hR1] at hcall
      have HR1 := Lib.hid hR1
      obtain ⟨R2, hR2⟩ : ∃ R, runP (bs.map (fun x => x.o)) none_ = R := ⟨_, rfl⟩
      have HR2 := Lib.hid hR2
      clear hR1 hR2 hset hi0 hlt hj
      go_wp2_with fail
      refine hcall.mono ?_
      rintro e W1 ⟨b1, pv1, rfl, hps1⟩
      have HP1 := Lib.hid hps1
      have hG1 := hgr.out.below hps1.bel (Nat.le_refl _)
      have HBZ1 := Lib.hid (HBZ.out.trans (hps1.bel.mono HBZ.out.size))
      have hcall2 := putL_any c9 hG1.row (fun x hx => (HT.out.2.1 x (hbs_.out.2.2 x hx)).up HBZ1.out) (by rw [hbs_.out.1, hbs_.out.2.1]; have := HK.out; omega)
      rw [HR2.out, hbs_.out.1] at hcall2
      clear hcall hps1 hG1
      go_wp2_with fail
      refine hcall2.mono ?_
      rintro e W2 ⟨b2, pv2, rfl, hps2⟩
      have HP2 := Lib.hid hps2
      have HP1b := Lib.hid (HP1.out.up hps2.bel)
      have HBZ2 := Lib.hid (HBZ1.out.trans (hps2.bel.mono HBZ1.out.size))
      have hk1 : ∃ B, R1.2 = B := ⟨_, rfl⟩
      have hk2 : ∃ B, R2.2 = B := ⟨_, rfl⟩
      obtain ⟨B1, hB1⟩ := hk1
      obtain ⟨B2, hB2⟩ := hk2
      have HBB := Lib.hid (And.intro hB1 hB2)
      rw [hB1, hB2]
      clear hcall2 hps2 hB1 hB2 HP1
      cases B1 with
      | false =>
        go_wp2
        go_ret
        exact ⟨rfl, HBZ2.out⟩
      | true =>
      cases B2 with
      | false =>
        go_wp2
        go_ret
        exact ⟨rfl, HBZ2.out⟩
      | true =>
      have hsb := same_back HSET.out HMK2.out (by rw [HR1.out]; exact HBB.out.1) (by rw [HR2.out]; exact HBB.out.2)
      rw [HR1.out, HR2.out] at hsb
      have HSB := Lib.hid hsb
      clear hsb
      go_wp2_with fail
      refine (HP1b.out.ops (by omega)).mono ?_
      rintro e w1 ⟨⟨A1, c1, la, rfl, hm1, hg1, ho1⟩, hb1⟩
      obtain ⟨na, hna⟩ : ∃ na, la.length = na := ⟨_, rfl⟩
      have HP2b := Lib.hid (HP2.out.up hb1)
      have HP1c := Lib.hid (HP1b.out.up hb1)
      have HLA : Hid (RowO w1 w1.heap.size A1 la ∧ (∀ x ∈ la, x.ok w1 w1.heap.size) ∧ la.map (fun x => x.o) = R1.1.L ∧ la.length = na) := ⟨hg1.row, fun x hx => (ho1 x hx).1, hm1, hna⟩
      have HB1 := Lib.hid (HBZ2.out.trans (hb1.mono HBZ2.out.size))
      rw [hna]
      clear hm1 hg1 ho1 hb1 hna
      go_wp2_with fail
      refine (HP2b.out.ops (by omega)).mono ?_
      rintro e w2 ⟨⟨A2, c2, lb, rfl, hm2, hg2, ho2⟩, hb2⟩
      have hnb : lb.length = na := by
        have h1 := congrArg List.length hm2
        have h2 := congrArg List.length HLA.out.2.2.1
        rw [List.length_map] at h1 h2
        rw [h1, ← HSB.out.1, ← h2, HLA.out.2.2.2]
      have hnaq : na ≤ 10000 := by
        have h2 := congrArg List.length HLA.out.2.2.1
        rw [List.length_map, HLA.out.2.2.2] at h2
        have := HP1c.out.few
        omega
      have HLB : Hid (RowO w2 w2.heap.size A2 lb ∧ (∀ x ∈ lb, x.ok w2 w2.heap.size) ∧ lb.map (fun x => x.o) = R2.1.L ∧ lb.length = na) := ⟨hg2.row, fun x hx => (ho2 x hx).1, hm2, hnb⟩
      have HLA2 : Hid (RowO w2 w2.heap.size A1 la ∧ (∀ x ∈ la, x.ok w2 w2.heap.size) ∧ la.map (fun x => x.o) = R1.1.L ∧ la.length = na) := ⟨HLA.out.1.up hb2, fun x hx => (HLA.out.2.1 x hx).up hb2, HLA.out.2.2⟩
      have HP2c := Lib.hid (HP2b.out.up hb2)
      have HP1d := Lib.hid (HP1c.out.up hb2)
      have HB2 := Lib.hid (HB1.out.trans (hb2.mono HB1.out.size))
      rw [hnb]
      clear hm2 hg2 ho2 hb2 hnb HP2b HP1c HLA
      go_wp2_with fail
      refine (HP1d.out.waits).mono ?_
      rintro e w2' ⟨rfl, rfl⟩
      go_wp2_with fail
      refine (HP2c.out.waits).mono ?_
      rintro e w2' ⟨rfl, rfl⟩
      rw [HSB.out.2.1]
      go_wp2_with fail
      refine (HP1d.out.known).mono ?_
      rintro e w3 ⟨⟨A3, c3, rfl, hk3, _⟩, hb3⟩
      have HK3 := Lib.hid hk3
      have HP2d := Lib.hid (HP2c.out.up hb3)
      have HB3 := Lib.hid (And.intro hb3 (HB2.out.trans (hb3.mono HB2.out.size)))
      clear hk3 hb3
      go_wp2_with fail
      refine (HP2d.out.known).mono ?_
      rintro e w4 ⟨⟨A4, c4, rfl, hk4, _⟩, hb4⟩
      have hk3 := HK3.out.up hb4
      have hcall := same_any c3 c4 hk3.1 hk3.2.2.2 hk4.1 hk4.2.2.2
      simp only [HSB.out.2.2.1, decide_true] at hcall ⊢
      have HB4 := Lib.hid (And.intro (HB3.out.1.trans (hb4.mono HB3.out.1.size)) (HB3.out.2.trans (hb4.mono HB3.out.2.size)))
      clear hk3 hk4 hb4
      go_wp2_with fail
      refine hcall.mono ?_
      rintro e w5 ⟨rfl, hb5⟩
      have HB5 := Lib.hid (And.intro (HB4.out.1.trans (hb5.mono HB4.out.1.size)) (HB4.out.2.trans (hb5.mono HB4.out.2.size)))
      clear hcall hb5
      go_wp2
      go_loopg [12] na (fun m i wr => ∃ (r : Nat), r ≤ na ∧ m = na - r ∧ i = .int .i64 r ∧ Hid (Below w2.heap.size w2 wr))
      case atStart => exact ⟨0, by omega, by omega, rfl, HB5.out.1⟩
      case round =>
        obtain ⟨r, hr', hgk, rfl, hbr⟩ := hrel
        have HGK1 := Lib.hid hgk; clear hgk
        have HBR := Lib.hid (HB2.out.trans (hbr.out.mono HB2.out.size))
        by_cases hlr : r < na
        · have HLR := Lib.hid hlr
          have hlr1 : r < la.length := by rw [HLA2.out.2.2.2]; exact hlr
          obtain ⟨ba, oa, rfl, hbsa, ha8⟩ := HLA2.out.1.at r hlr1
          obtain ⟨x, hx⟩ : ∃ d, la[r]'hlr1 = d := ⟨_, rfl⟩
          rw [hx] at ha8
          have hxm : x ∈ la := by rw [← hx]; exact List.getElem_mem hlr1
          have HHA := Lib.hid (And.intro hxm (And.intro hbsa ha8))
          have hxl : x.o ∈ R1.1.L := by rw [← HLA2.out.2.2.1]; exact List.mem_map.2 ⟨x, hxm, rfl⟩
          obtain ⟨j0, hj0⟩ : ∃ j0 : Nat, (lb[j0]?).map (fun y : Ov => y.o) = some x.o := by
            have h1 := HSB.out.2.2.2 x.o hxl
            rw [← HLB.out.2.2.1] at h1
            obtain ⟨y, hy, hye⟩ := List.mem_map.1 h1
            obtain ⟨j0, hj0⟩ := List.mem_iff_getElem?.1 hy
            exact ⟨j0, by rw [hj0]; exact congrArg some hye⟩
          have HJ0 : Hid ((lb[j0]?).map (fun y : Ov => y.o) = some x.o ∧ j0 < na ∧ rightO x.o = true) := by
            refine ⟨hj0, ?_, HP1d.out.qu.ro _ (List.mem_append.2 (.inl hxl))⟩
            rw [← HLB.out.2.2.2]
            cases hq : lb[j0]? with
            | none => rw [hq] at hj0; cases hj0
            | some y => exact (List.getElem?_eq_some_iff.1 hq).1
          clear hx hbsa ha8 hxm hxl hj0 hlr1
          go_wp2
          go_loopg [13, 14] na (fun m v i wr' => ∃ (t : Nat) (fd : Bool), t ≤ na ∧ m = na - t ∧ i = .int .i64 t ∧ v = .bool fd ∧ Hid (fd = false → t ≤ j0) ∧ Hid (Below w2.heap.size w2 wr'))
          case atStart => exact ⟨0, false, by omega, by omega, rfl, rfl, fun _ => by omega, hbr.out⟩
          case round =>
            obtain ⟨t, fd, ht, hgk, rfl, rfl, hfd, hbt⟩ := hrel
            have HGK2 := Lib.hid hgk; clear hgk
            by_cases hgo : t < na ∧ fd = false
            · obtain ⟨htn, rfl⟩ := hgo
              have HTN := Lib.hid htn
              have hrn : (r : Int) < (na : Int) := by omega
              have htn' : (t : Int) < (na : Int) := by omega
              have htn1 : t < lb.length := by rw [HLB.out.2.2.2]; exact htn
              obtain ⟨b2_, o2_, rfl, hbs2, h2⟩ := HLB.out.1.at t htn1
              obtain ⟨y, hy⟩ : ∃ d, lb[t]'htn1 = d := ⟨_, rfl⟩
              rw [hy] at h2
              have hym : y ∈ lb := by rw [← hy]; exact List.getElem_mem htn1
              have hyt : lb[t]? = some y := by rw [List.getElem?_eq_getElem htn1, hy]
              have hE : ∀ W, Below w2.heap.size w2 W → Calls Try.prog 18 #[x.v, y.v] W fun e w' => e = .returned (.bool (rightO x.o && decide (x.o = y.o))) ∧ Below W.heap.size W w' := fun W hW => sameP_any x y ((HLA2.out.2.1 x HHA.out.1).up hW) ((HLB.out.2.1 y hym).up hW)
              obtain ⟨E, hEE⟩ : ∃ E, (rightO x.o && decide (x.o = y.o)) = E := ⟨_, rfl⟩
              rw [hEE] at hE
              have HNX : Hid (E = false → t + 1 ≤ j0) := fun h => by
                have h1 := hfd.out rfl
                have h2 : t ≠ j0 := fun e => by
                  have h3 := HJ0.out.1
                  rw [← e, hyt] at h3
                  have h4 : y.o = x.o := Option.some.inj h3
                  rw [h, HJ0.out.2.2, h4] at hEE
                  simp at hEE
                omega
              have HHB := Lib.hid (And.intro hbs2 h2)
              clear hEE hy hym hyt hbs2 h2 htn1 hfd
              have HA8 := Lib.hid HHA.out.2
              have HSV : Hid (∃ z, x = z) := ⟨_, rfl⟩
              clear HHA HJ0
              obtain ⟨⟨⟨s, n⟩, dp, ct, kd, it, q, sn⟩, xA, xc, xA2, xc2⟩ := x
              obtain ⟨⟨⟨s', n'⟩, dp', ct', kd', it', q', sn'⟩, yA, yc, yA2, yc2⟩ := y
              obtain ⟨a1, ha1⟩ : ∃ L, dp.length = L := ⟨_, rfl⟩
              obtain ⟨a2, ha2⟩ : ∃ L, sn.length = L := ⟨_, rfl⟩
              obtain ⟨a3, ha3⟩ : ∃ L, dp'.length = L := ⟨_, rfl⟩
              obtain ⟨a4, ha4⟩ : ∃ L, sn'.length = L := ⟨_, rfl⟩
              simp only [Ov.v, Ov.cells] at hE
              rw [ha1, ha2, ha3, ha4] at hE
              have HEC := Lib.hid hE
              have HC : Hid (∀ W, Below w2.heap.size w2 W → ((W.cell? ⟨ba, oa + r * 8, none⟩ = some (.string s) ∧ W.cell? ⟨ba, oa + r * 8 + 1, none⟩ = some (.int .i64 n) ∧ W.cell? ⟨ba, oa + r * 8 + 2, none⟩ = some (.slice xA a1 xc)) ∧ W.cell? ⟨ba, oa + r * 8 + 3, none⟩ = some (.string ct) ∧ W.cell? ⟨ba, oa + r * 8 + 4, none⟩ = some (.int .i64 kd) ∧ W.cell? ⟨ba, oa + r * 8 + 5, none⟩ = some (.string it) ∧ W.cell? ⟨ba, oa + r * 8 + 6, none⟩ = some (.int .i64 q) ∧ W.cell? ⟨ba, oa + r * 8 + 7, none⟩ = some (.slice xA2 a2 xc2)) ∧
                  ((W.cell? ⟨b2_, o2_ + t * 8, none⟩ = some (.string s') ∧ W.cell? ⟨b2_, o2_ + t * 8 + 1, none⟩ = some (.int .i64 n') ∧ W.cell? ⟨b2_, o2_ + t * 8 + 2, none⟩ = some (.slice yA a3 yc)) ∧ W.cell? ⟨b2_, o2_ + t * 8 + 3, none⟩ = some (.string ct') ∧ W.cell? ⟨b2_, o2_ + t * 8 + 4, none⟩ = some (.int .i64 kd') ∧ W.cell? ⟨b2_, o2_ + t * 8 + 5, none⟩ = some (.string it') ∧ W.cell? ⟨b2_, o2_ + t * 8 + 6, none⟩ = some (.int .i64 q') ∧ W.cell? ⟨b2_, o2_ + t * 8 + 7, none⟩ = some (.slice yA2 a4 yc2))) := fun W hW => by
                obtain ⟨k0, k1, k2, k3, k4, k5, k6, k7⟩ := HA8.out.2.below hW HA8.out.1
                obtain ⟨l0, l1, l2, l3, l4, l5, l6, l7⟩ := HHB.out.2.below hW HHB.out.1
                simp only at k0 k1 k2 k3 k4 k5 k6 k7 l0 l1 l2 l3 l4 l5 l6 l7
                rw [ha1] at k2; rw [ha2] at k7; rw [ha3] at l2; rw [ha4] at l7
                exact ⟨⟨⟨k0, k1, k2⟩, k3, k4, k5, k6, k7⟩, ⟨l0, l1, l2⟩, l3, l4, l5, l6, l7⟩
              have hS0 : Below w2.heap.size w2 wr.drew := hbt.out.drew
              have HS0 := Lib.hid hS0
              clear ha1 ha2 ha3 ha4 hE hbt HA8 HHB HSV
              go_upto_region 25 with fail
              refine wp_region_held_drew (S := fun Wv => Below w2.heap.size w2 Wv) (by kernel_rfl) hS0 (fun hS => ?_)
              clear hS0
              generalize wr.drew = Wd at *
              refine wpAnyH_take (i := 0) (v := ?_) rfl (by kernel_rfl) (by kernel_rfl) (by kernel_rfl) (fun _ _ _ h => h) (Yields.yieldsIf (Or.inl ⟨by kernel_rfl, ?_⟩)) hS ?_
              rotate_left
              · first | (intro w; go_simp; done) | (intro w; go_simp; with_reducible rfl)
              refine wpAnyH_take (i := 1) (v := ?_) rfl (by kernel_rfl) (by kernel_rfl) (by kernel_rfl) (fun _ _ _ h => h) (Yields.yieldsIf (Or.inl ⟨by kernel_rfl, ?_⟩)) hS ?_
              rotate_left
              · first | (intro w; go_simp; done) | (intro w; go_simp; with_reducible rfl)
              refine wpAnyH_take (i := 2) (v := ?_) rfl (by kernel_rfl) (by kernel_rfl) (by kernel_rfl) (fun _ _ _ h => h) (Yields.yieldsIf (Or.inl ⟨by kernel_rfl, ?_⟩)) hS ?_
              rotate_left
              · first | (intro w; go_simp; done) | (intro w; go_simp; with_reducible rfl)
              refine wpAnyH_take (i := 3) (v := ?_) rfl (by kernel_rfl) (by kernel_rfl) (by kernel_rfl) (fun _ _ _ h => h) (Or.inl ⟨by kernel_rfl, fun W hW => ?_⟩) hS ?_
              rotate_left
              · obtain ⟨⟨⟨c0, c1, c2_⟩, c3, c4, c5, c6, c7⟩, ⟨d0, d1, d2⟩, d3, d4, d5, d6, d7⟩ := HC.out W hW
                first | (go_simp; done) | (go_simp; with_reducible rfl)
              refine wpAnyH_take (i := 4) (v := ?_) rfl (by kernel_rfl) (by kernel_rfl) (by kernel_rfl) (fun _ _ _ h => h) (Yields.yieldsIf (Or.inl ⟨by kernel_rfl, ?_⟩)) hS ?_
              rotate_left
              · first | (intro w; go_simp; done) | (intro w; go_simp; with_reducible rfl)
              refine wpAnyH_take (i := 5) (v := ?_) rfl (by kernel_rfl) (by kernel_rfl) (by kernel_rfl) (fun _ _ _ h => h) (Yields.yieldsIf (Or.inl ⟨by kernel_rfl, ?_⟩)) hS ?_
              rotate_left
              · first | (intro w; go_simp; done) | (intro w; go_simp; with_reducible rfl)
              refine wpAnyH_take (i := 6) (v := ?_) rfl (by kernel_rfl) (by kernel_rfl) (by kernel_rfl) (fun _ _ _ h => h) (Yields.yieldsIf (Or.inl ⟨by kernel_rfl, ?_⟩)) hS ?_
              rotate_left
              · first | (intro w; go_simp; done) | (intro w; go_simp; with_reducible rfl)
              refine wpAnyH_take (i := 7) (v := ?_) rfl (by kernel_rfl) (by kernel_rfl) (by kernel_rfl) (fun _ _ _ h => h) (Or.inl ⟨by kernel_rfl, fun W hW => ?_⟩) hS ?_
              rotate_left
              · obtain ⟨⟨⟨c0, c1, c2_⟩, c3, c4, c5, c6, c7⟩, ⟨d0, d1, d2⟩, d3, d4, d5, d6, d7⟩ := HC.out W hW
                first | (go_simp; done) | (go_simp; with_reducible rfl)
              try go_simp
              refine wpAnyH_ready (rs := [8]) (by kernel_rfl) (by simp) ?_
              refine AllReadyH.cons rfl (fun K hK => ?_) AllReadyH.nil
              go_simp
              go_wp2_with fail
              refine (HEC.out _ HS0.out).mono ?_
              rintro e wx ⟨rfl, hba⟩
              have HSx := Lib.hid (HS0.out.trans (hba.mono HS0.out.size))
              clear hba
              have hS3 : Below w2.heap.size w2 wx := HSx.out
              refine hK.out _ _ hS3 (fun hS => ?_)
              clear hK K hS3
              refine wpAnyH_take (i := 9) (v := ?_) rfl (by kernel_rfl) (by kernel_rfl) (by kernel_rfl) (fun _ _ _ h => h) (Yields.yieldsIf (Or.inl ⟨by kernel_rfl, ?_⟩)) hS ?_
              rotate_left
              · first | (intro w; go_simp; done) | (intro w; go_simp; with_reducible rfl)
              try go_simp
              refine wpAnyH_done (by kernel_rfl) ?_ _
              go_wp2
              go_roundg (na - (t + 1))
              case rel => exact ⟨t + 1, E, Nat.succ_le_of_lt HTN.out, rfl, by go_num, rfl, HNX.out, HSx.out⟩
              case measure => have := HGK2.out; have := HTN.out; omega
            · obtain rfl : fd = true := by
                cases fd with
                | true => rfl
                | false =>
                  have h1 := hfd.out rfl
                  have h2 := HJ0.out.2.1
                  exact absurd ⟨by omega, rfl⟩ hgo
              by_cases htn : (t : Int) < (na : Int)
              · go_wp2
                go_roundg (na - (r + 1))
                case rel => exact ⟨r + 1, Nat.succ_le_of_lt HLR.out, rfl, by go_num, hbt.out⟩
                case measure => have := HGK1.out; have := HLR.out; omega
              · go_wp2
                go_roundg (na - (r + 1))
                case rel => exact ⟨r + 1, Nat.succ_le_of_lt HLR.out, rfl, by go_num, hbt.out⟩
                case measure => have := HGK1.out; have := HLR.out; omega
        · obtain rfl : r = na := by omega
          go_wp2
          go_ret
          exact ⟨rfl, HBR.out⟩
end Go.Proofs.Ytdffifkleaekhaa.orderSame

namespace Go.Proofs.Ytdffifkleaekhaa.orderSame
open Go.ChangeShapes Go.WideShapes Go.ChangeAt Go.RowKit Go.Proofs.Ytdffifkleaekhaa.V Go.Proofs.Ytdffifkleaekhaa.O
set_option linter.unusedVariables false

set_option maxRecDepth 100000 in
theorem lifted (os : Os) (started : os.Started) (H : Type) (enc : TypeId × Value → H) :
    ReturnsInHanded {} Try.checked os 6 .any (Rows.orderSameSpec.pre6 enc Try.prog Try.f6 Rows.orderSameRow.domain false) (Rows.orderSameSpec.post enc Try.prog Try.f6 false true false false) := by
  refine returnsInHanded_of_change_sized (C := Try.checked) own started (by kernel_rfl) Try.func6
    (ChangeSpec.witness6 (enc := enc) (C := Try.checked) false ⟨#[], #[.slice none 0 0], []⟩ 8 (by kernel_rfl) (by kernel_rfl) (by kernel_rfl) (by kernel_rfl)) ?_
  intro W base args ds gs before hval0 hW hcnd hsz0 _
  have hval : ∀ (j : Nat) t v, Try.f6.params[j]? = some t → args[j]? = some v → Value.okWide Try.prog W .any base t v := hval0
  have hsz : (DataW.weightsEach Try.prog (Try.f6.params.toList ++ Rows.orderSameSpec.plain.varTypes Try.prog) (ds ++ gs)).all (· ≤ reachBytes) = true := hsz0
  have hW' := hW
  obtain ⟨p, q, hA0, hV, rfl, hfz, hnd⟩ := hW
  have hA : DataW.TrodAll enc Try.prog W 0 (fun _ => true) true Try.f6.params.toList args.toList ds p := hA0
  rw [Try.params6] at hA hval hsz
  obtain ⟨v0, vs0, d0, ds0, p0, q0, hargs, rfl, rfl, h0, r0⟩ := trodAll_cons hA
  obtain ⟨rfl, rfl, rfl⟩ := trodAll_nil r0
  obtain rfl : args = #[v0] := by cases args; simp_all
  obtain ⟨rfl, rfl⟩ := trodVars_none hV
  obtain ⟨a0, len0, cap0, rfl⟩ := okWide_slice Try.underlying36 (hval 0 36 v0 rfl rfl)
  have k0 := h0
  have lt0 : ∀ x ∈ p0, x.block < W.heap.size := by obtain ⟨m, hm⟩ := k0; exact DataW.trod_lt m _ _ _ hm
  obtain ⟨l0, rfl, row0, ok0, lc0, cc0, reach0⟩ := openOps h0 (fun n hn => of_decide_eq_true (List.all_eq_true.1 hsz _ (DataW.weights_mem_each (j := 0) (t := 36) (d := d0) rfl rfl _ hn)))
  clear hA0 hval0 hsz hsz0
  refine (walk a0 cap0 l0 W row0 ok0 reach0 lc0 cc0).mono fun e W' ⟨he, bel⟩ => ?_
  subst he
  exact ⟨_, rfl, _, _, _, [], _, [], hW', trodAll_mk1 (shut_bool Try.underlying4 _), (trodAll_cons_mk (Below.trod laidOut (by kernel_rfl) (of_decide_eq_true (by kernel_rfl)) k0 bel lt0) trodAll_mk0), rfl, bel.frame _, fun h => by cases h⟩

theorem over : Rows.orderSameRow.holds Try.pinned (OpenSpec.ofChange Rows.orderSameSpec) :=
  OpenClaim.holds_of_wide 6 Try.f6 rfl rfl rfl rfl rfl rfl rfl ⟨rfl, rfl, rfl, rfl, rfl⟩ rfl rfl rfl rfl rfl (by kernel_rfl) Try.func6 (by kernel_rfl)
    (of_decide_eq_true (by kernel_rfl)) (by unfold Func.isWrapper; first | (rw [if_pos (by decide +kernel)]; kernel_rfl) | (rw [if_neg (by decide +kernel)]; exact ⟨rfl, rfl⟩))
    (fun os started H enc _ => lifted os started H enc)

theorem proved : Rows.OrderSameSaid := over
#print axioms proved
end Go.Proofs.Ytdffifkleaekhaa.orderSame
