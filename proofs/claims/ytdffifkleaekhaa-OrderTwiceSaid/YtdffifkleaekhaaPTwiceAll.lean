/-
  A slice of operations of the call's own.
  Behind, Ops.
  The reference's SameOps.
  A pool while a law runs.
  OrderTwice: operations that come once more change nothing.
  The law OrderTwice answers true for every input, and leaves what it was given as it was. Conditions: none beside the form's own.
-/
import Derived.Test.YtdffifkleaekhaaPGate
import Derived.Deep.LoopGhost
namespace Go.Proofs.Ytdffifkleaekhaa.O
open Go.RowKit Go.Proofs.Ytdffifkleaekhaa.V
set_option linter.unusedVariables false
set_option linter.unusedSimpArgs false

def cellsO (l : List Ov) : List Value := l.flatMap fun x => x.cells.toList
theorem cellsO_cons (x : Ov) (t : List Ov) : cellsO (x :: t) = x.cells.toList ++ cellsO t := rfl
theorem cellsO_append (l m : List Ov) : cellsO (l ++ m) = cellsO l ++ cellsO m := by simp [cellsO]
theorem cellsO_length : ∀ l : List Ov, (cellsO l).length = l.length * 8
  | [] => rfl
  | x :: t => by rw [cellsO_cons, List.length_append, cellsO_length t, List.length_cons]; show 8 + _ = _; omega
theorem cellsO_get : ∀ (l : List Ov) (j : Nat) (x : Ov), l[j]? = some x → ∀ i, i < 8 → (cellsO l)[j * 8 + i]? = x.cells[i]?
  | [], j, x, h, _, _ => by simp at h
  | y :: t, 0, x, h, i, hi => by
    simp at h; subst h
    rw [cellsO_cons, Nat.zero_mul, Nat.zero_add, List.getElem?_append_left (by show i < 8; exact hi)]
    simp
  | y :: t, j + 1, x, h, i, hi => by
    have ih := cellsO_get t j x (by simpa using h) i hi
    rw [cellsO_cons, List.getElem?_append_right (by show 8 ≤ _; omega), show (j + 1) * 8 + i - y.cells.toList.length = j * 8 + i by show (j + 1) * 8 + i - 8 = _; omega]
    exact ih
theorem oneCell_cellsO (l : List Ov) : ∀ v ∈ cellsO l, v.oneCell' = true := by
  intro v hv
  obtain ⟨x, _, h⟩ := List.mem_flatMap.1 hv
  simp only [Ov.cells, List.mem_cons, List.not_mem_nil, or_false] at h
  rcases h with rfl | rfl | rfl | rfl | rfl | rfl | rfl | rfl <;> rfl
def GrO (w : World) (base : Nat) (A : Option Addr) (c : Nat) (l : List Ov) : Prop := w.ownsRow base 26 8 (.slice A l.length c) l.length (cellsO l)
theorem GrO.nil (w : World) (base : Nat) : GrO w base none 0 [] := ⟨by simp [cellsO], .inl ⟨rfl, rfl⟩⟩
theorem GrO.cases {w : World} {base : Nat} {A : Option Addr} {c : Nat} {l : List Ov} (h : GrO w base A c l) : (A = none ∧ l = [] ∧ c = 0) ∨ ∃ g cur, A = some ⟨g, 0, none⟩ ∧ base ≤ g ∧ w.heap[g]? = some (.cells cur 26 (0, 0)) ∧ l.length ≤ c ∧ c ≤ maxLen ∧ cur.size = c * 8 ∧ cur.toList.take (l.length * 8) = cellsO l := by
  rcases h.2 with ⟨e, h0⟩ | ⟨g, cap, cur, e, hb, hc, h1, h2, h3, h4⟩
  · injection e with e1 e2 e3
    exact .inl ⟨e1, List.eq_nil_of_length_eq_zero e2, e3⟩
  · injection e with e1 e2 e3
    subst e1; subst e3
    exact .inr ⟨g, cur, rfl, hb, hc, h1, h2, h3, h4⟩
theorem GrO.row {w : World} {base c : Nat} {A : Option Addr} {l : List Ov} (h : GrO w base A c l) : RowO w w.heap.size A l := by
  rcases h.cases with ⟨rfl, rfl, rfl⟩ | ⟨g, cur, rfl, hb, hc, h1, h2, h3, h4⟩
  · exact fun h => absurd h (by simp)
  · refine fun _ => ⟨g, 0, rfl, (Array.getElem?_eq_some_iff.1 hc).1, fun j x hx => ?_⟩
    have hj := (List.getElem?_eq_some_iff.1 hx).1
    have hcell : ∀ i, i < 8 → w.cell? ⟨g, 0 + j * 8 + i, none⟩ = x.cells[i]? := fun i hi => by
      rw [cell_of_row w g _ cur 26 (0, 0) hc, ← cellsO_get l j x hx i hi, ← h4, List.getElem?_take, if_pos (by omega), Nat.zero_add]
      simp
    exact ⟨hcell 0 (by omega), hcell 1 (by omega), hcell 2 (by omega), hcell 3 (by omega), hcell 4 (by omega), hcell 5 (by omega), hcell 6 (by omega), hcell 7 (by omega)⟩
theorem GrO.cap {w : World} {base c : Nat} {A : Option Addr} {l : List Ov} (h : GrO w base A c l) : l.length ≤ c ∧ c ≤ maxLen := by
  rcases h.cases with ⟨rfl, rfl, rfl⟩ | ⟨g, cur, rfl, hb, hc, h1, h2, h3, h4⟩
  · exact ⟨by simp, by unfold maxLen; omega⟩
  · exact ⟨h1, h2⟩
theorem GrO.lt {w : World} {base c : Nat} {A : Option Addr} {l : List Ov} (h : GrO w base A c l) : ∀ k, blk A = some k → base ≤ k ∧ k < w.heap.size := by
  have := World.ownsRow.lt h
  rw [blk_own] at this
  exact this
theorem GrO.below {w w' : World} {base c B : Nat} {A : Option Addr} {l : List Ov} (h : GrO w base A c l) (hb : Below B w w') (hB : w.heap.size ≤ B) : GrO w' base A c l := by
  refine ⟨h.1, ?_⟩
  rcases h.2 with ⟨e, h0⟩ | ⟨g, cap, cur, e, hb', hc, h1⟩
  · exact .inl ⟨e, h0⟩
  · have := (Array.getElem?_eq_some_iff.1 hc).1
    exact .inr ⟨g, cap, cur, e, hb', (hb.block g (by omega)).trans hc, h1⟩
theorem info26 : (Try.prog.info? 26).map (fun i => (i.zero, i.size, i.bytes)) = some (some opZero, 8, 120) := by kernel_rfl
/-- append(out, o). Where the new slice lies: where it lay, or in a new block. -/
theorem GrO.one {w : World} {base c : Nat} {A : Option Addr} {l : List Ov} (h : GrO w base A c l) (r : Ov) (ty : TypeId) (hb : l.length ≤ 1000000) (hbase : base ≤ w.heap.size) :
    ∃ A' c' w', (Builtin.append_ #[36, 36] ty #[.slice A l.length c, .slice (some ⟨w.heap.size, 0, none⟩) 1 1]).run Try.prog (w.alloc (.cells r.cells 26)) = .ok (.slice A' (l.length + 1) c') w' ∧ GrO w' base A' c' (l ++ [r]) ∧ Below base w w' ∧ (∀ k, k < w.heap.size → blk A ≠ some k → w'.heap[k]? = w.heap[k]?) ∧ w.heap.size ≤ w'.heap.size ∧ (blk A' = blk A ∨ ∃ k, blk A' = some k ∧ w.heap.size ≤ k) := by
  obtain ⟨i0, hi, hz0, hz1, hz2⟩ := info_parts info26
  have hB0 : Below base w (w.alloc (.cells r.cells 26)) := (Below.refl _ w).alloc hbase _
  have hBt : Below w.heap.size w (w.alloc (.cells r.cells 26)) := (Below.refl _ w).alloc (Nat.le_refl _) _
  have hcell : ∀ j u, (cellsO [r])[j]? = some u → (w.alloc (.cells r.cells 26)).cell? ((⟨w.heap.size, 0, none⟩ : Addr).add j) = some u := by
    intro j u hu
    have e : (⟨w.heap.size, 0, none⟩ : Addr).add j = ⟨w.heap.size, j, none⟩ := by
      unfold Addr.add; split
      · rename_i h; subst h; rfl
      · simp
    rw [e, cell_of_row _ _ j _ 26 (0, 0) (heap_alloc_new w _)]
    simpa [cellsO] using hu
  obtain ⟨v', w', hrun, ho, hg, hn, hat⟩ := run_append_own_at (P := Try.prog) (w.alloc (.cells r.cells 26)) base 36 ty 26 i0 opZero 8 120 Try.underlying36 hi hz0 hz1 hz2 rfl (by decide) _ _ _ (h.below hBt (Nat.le_refl _)) _ 1 1 (cellsO [r]) (by rw [cellsO_length]; rfl) hcell (oneCell_cellsO [r]) (by unfold maxLen; omega) (by omega) (by simp; omega)
  have hB : Below base w w' := hB0.grown hg (by simp; omega) (fun k e => by rw [blk_own] at e; exact (h.lt k e).1)
  have e2 : cellsO (l ++ [r]) = cellsO l ++ cellsO [r] := cellsO_append _ _
  have e3 : (l ++ [r]).length = l.length + 1 := by simp
  rw [blk_own] at hg hat
  rcases ho.2 with ⟨e, h0⟩ | ⟨g', cap', cur, e, _⟩
  · omega
  · rw [e] at hrun ho hat
    refine ⟨_, _, w', hrun, by unfold GrO; rw [e2, e3]; exact ho, hB, fun k hk hne => ?_, ?_, ?_⟩
    · exact (hg.block k (by simp; omega) (fun e => hne e.symm)).trans (hBt.block k hk)
    · have := hg.size; simp only [World.size_alloc] at this; omega
    · rw [blk_own] at hat
      rcases hat with hat | hat
      · exact .inl hat
      · exact .inr ⟨_, hat, by simp⟩
/-- Operations that the call has made: where each of them lies, apart from their row. -/
def OutO (B : Nat) (A : Option Addr) (w : World) (l : List Ov) : Prop := ∀ x ∈ l, x.ok w w.heap.size ∧ (Lies x.A B w.heap.size ∧ Apart (fun k => blk A = some k) x.A) ∧ (Lies x.A2 B w.heap.size ∧ Apart (fun k => blk A = some k) x.A2)
theorem OutO.up {B : Nat} {A : Option Addr} {w w' : World} {l : List Ov} (h : OutO B A w l) (hb : Below w.heap.size w w') : OutO B A w' l := fun x hx => by
  obtain ⟨h1, h2, h3⟩ := h x hx
  exact ⟨h1.up hb, ⟨h2.1.mono (Nat.le_refl _) hb.size, h2.2⟩, ⟨h3.1.mono (Nat.le_refl _) hb.size, h3.2⟩⟩
/-- One more. -/
theorem OutO.one {B : Nat} {A A' : Option Addr} {w w' : World} {l : List Ov} {y : Ov} (h : OutO B A w l) (hy : y.ok w w.heap.size) (l1 : Lies y.A B w.heap.size) (l2 : Lies y.A2 B w.heap.size) (a1 : Apart (fun k => blk A = some k) y.A) (a2 : Apart (fun k => blk A = some k) y.A2)
    (hb : But (fun k => blk A = some k) w w') (hA : blk A' = blk A ∨ ∃ k, blk A' = some k ∧ w.heap.size ≤ k) : OutO B A' w' (l ++ [y]) := fun x hx => by
  have key : ∀ {C : Option Addr}, Lies C B w.heap.size → Apart (fun k => blk A = some k) C → Apart (fun k => blk A' = some k) C := fun {C} hl ha k hk he => by
    rcases hA with hA | ⟨j, hA, hj⟩
    · rw [hA] at he; exact ha k hk he
    · rw [hA] at he; injection he with he; have := (hl k hk).2; omega
  have all : ∀ z : Ov, (z.ok w w.heap.size ∧ (Lies z.A B w.heap.size ∧ Apart (fun k => blk A = some k) z.A) ∧ (Lies z.A2 B w.heap.size ∧ Apart (fun k => blk A = some k) z.A2)) → (z.ok w' w'.heap.size ∧ (Lies z.A B w'.heap.size ∧ Apart (fun k => blk A' = some k) z.A) ∧ (Lies z.A2 B w'.heap.size ∧ Apart (fun k => blk A' = some k) z.A2)) := fun z ⟨g1, g2, g3⟩ =>
    ⟨hb.ov g1 g2.2 g3.2, ⟨g2.1.mono (Nat.le_refl _) hb.size, key g2.1 g2.2⟩, ⟨g3.1.mono (Nat.le_refl _) hb.size, key g3.1 g3.2⟩⟩
  rcases List.mem_append.1 hx with hx | hx
  · exact all x (h x hx)
  · simp at hx; subst hx
    exact all _ ⟨hy, ⟨l1, a1⟩, ⟨l2, a2⟩⟩
/-- What Behind hands out. -/
def OpsR (B : Nat) (e : Ending) (w' : World) (r : List Op × Int) : Prop :=
  ∃ A c l, e = .returned (.tuple #[.slice A l.length c, .int .i64 r.2]) ∧ l.map (fun x => x.o) = r.1 ∧ GrO w' B A c l ∧ OutO B A w' l
def behO (L : List Op) (v : List D) : List Op × Int := if rightB v = true then (L.filter fun o => decide (at' v o.dot.1 < o.dot.2), 0) else ([], 2)
end Go.Proofs.Ytdffifkleaekhaa.O

namespace Go.Proofs.Ytdffifkleaekhaa.O
open Go.RowKit Go.Proofs.Ytdffifkleaekhaa.V
set_option linter.unusedVariables false
set_option linter.unusedSimpArgs false


set_option maxRecDepth 100000 in
set_option maxHeartbeats 6400000 in
theorem behind_any {p : Pv} {w : World} {b : Nat} {q : Pool} (h : p.At w b) (hr : Rel p q) (hi : Inv q) (hn : q.L.length ≤ 100000) {A : Option Addr} {c : Nat} {v : List D} (hx : Vc.ok ⟨A, c, v⟩ w w.heap.size) :
    Calls Try.prog 29 #[.pointer (some ⟨b, 0, none⟩), .slice A v.length c] w fun e w' => OpsR w.heap.size e w' (behO q.L v) ∧ Below w.heap.size w w' := by
  have hcall := right_any c hx.1 hx.2.2.2
  have HA := Lib.hid (And.intro h (And.intro hr (And.intro hi hn)))
  have HX := Lib.hid hx
  obtain ⟨M, hM⟩ : ∃ L, v.length = L := ⟨_, rfl⟩
  simp only at hcall
  rw [hM] at hcall ⊢
  have HM := Lib.hid hM
  obtain ⟨RV, hRV⟩ : ∃ R, rightB v = R := ⟨_, rfl⟩
  rw [hRV] at hcall
  have HRV := Lib.hid hRV
  have hBO : Hid (behO q.L v = if RV = true then (q.L.filter fun o => decide (at' v o.dot.1 < o.dot.2), 0) else ([], 2)) := by show _ = _; rw [← hRV]; rfl
  obtain ⟨BO, hBO2⟩ : ∃ B, behO q.L v = B := ⟨_, rfl⟩
  rw [hBO2] at hBO ⊢
  obtain ⟨n, hnn⟩ : ∃ n, p.ds.length = n := ⟨_, rfl⟩
  have HN := Lib.hid hnn
  obtain ⟨Ad, hAd⟩ : ∃ A, p.Ad = A := ⟨_, rfl⟩
  obtain ⟨cd, hcd⟩ : ∃ A, p.cd = A := ⟨_, rfl⟩
  have HAD := Lib.hid (And.intro hAd hcd)
  obtain ⟨m0, hm0⟩ : ∃ m, p.M = m := ⟨_, rfl⟩
  have HMM := Lib.hid hm0
  have HPC : Hid (∀ W, Below w.heap.size w W → W.cell? ⟨b, 1, none⟩ = some (.slice Ad n cd) ∧ W.cell? ⟨b, 0, none⟩ = some (.map m0)) := fun W hW => by
    have h0 := (h.up hW).box.at
    refine ⟨?_, ?_⟩
    · have := h0.c1; rw [hnn, hAd, hcd] at this; exact this
    · have := h0.c0; rw [hm0] at this; exact this
  clear hM hRV hBO2 hnn hAd hcd hm0 h hr hi hn hx
  go_enter Try.func29, Try.ntmps29
  go_wp2_with fail
  refine hcall.mono ?_
  rintro e wa ⟨rfl, hba⟩
  clear hcall
  cases RV with
  | false =>
    have hR : Hid (BO = ([], 2)) := hBO.out
    have HB := Lib.hid hba
    clear hba
    go_wp2
    go_ret2
    rw [hR.out]
    exact ⟨⟨none, 0, [], rfl, rfl, GrO.nil _ _, fun x hx => by cases hx⟩, HB.out⟩
  | true =>
    have hR : Hid (BO = (q.L.filter fun o => decide (at' v o.dot.1 < o.dot.2), 0)) := hBO.out
    obtain ⟨k1, _⟩ := HPC.out _ hba
    have HB := Lib.hid hba
    have hn6 : n ≤ 100000 := by rw [← HN.out, HA.out.2.1.ds]; simpa using HA.out.2.2.2
    clear hba hBO
    go_wp2
    go_loopg [6, 21] n (fun k o i wr => ∃ (j : Nat) (A4 : Option Addr) (c4 ln : Nat) (l : List Ov), j ≤ n ∧ k = n - j ∧ i = .int .i64 j ∧ o = .slice A4 ln c4 ∧ Hid (l.length = ln ∧ l.map (fun x => x.o) = (q.L.take j).filter fun o => decide (at' v o.dot.1 < o.dot.2)) ∧ Hid (GrO wr w.heap.size A4 c4 l ∧ OutO w.heap.size A4 wr l) ∧ Below w.heap.size w wr)
    case atStart => exact ⟨0, none, 0, 0, [], by omega, by omega, rfl, rfl, ⟨rfl, rfl⟩, ⟨GrO.nil _ _, fun x hx => by cases hx⟩, HB.out⟩
    case round =>
      obtain ⟨j, A4, c4, ln, l, hj, hgk, rfl, rfl, hl, hg, hbw⟩ := hrel
      have HGK := Lib.hid hgk; clear hgk k1
      by_cases hlt : j < n
      · have hlt' : j < p.ds.length := by rw [HN.out]; exact hlt
        obtain ⟨o, ho⟩ : ∃ o, q.L[j]? = some o := by
          rw [HA.out.2.1.ds] at hlt'
          exact ⟨_, List.getElem?_eq_getElem (by simpa using hlt')⟩
        have hod : p.ds[j]'hlt' = o.dot := by
          have h0 : p.ds[j]? = some o.dot := by rw [HA.out.2.1.ds, List.getElem?_map, ho]; rfl
          rw [List.getElem?_eq_getElem hlt'] at h0
          injection h0
        have hmem : o ∈ q.L ++ q.W := List.mem_append.2 (.inl (List.mem_of_getElem? ho))
        obtain ⟨x, hx, hxo⟩ := HA.out.2.1.has HA.out.2.2.1 hmem
        have hdb : dotB o.dot = true := (rightO_iff (HA.out.2.2.1.ro o hmem)).dot
        have hfew := hr_few (HA.out.2.2.1.ro o hmem)
        have hAr := HA.out.1.up hbw
        obtain ⟨g, off, hga, hgl, g0, g1⟩ := hAr.gd.row.at j hlt'
        rw [hod] at g0 g1
        rw [HAD.out.1] at hga
        subst hga
        obtain ⟨⟨s, m⟩, hd⟩ : ∃ d, o.dot = d := ⟨_, rfl⟩
        rw [hd] at g0 g1 hdb
        simp only at g0 g1
        have hsz := hbw.size
        have HO := Lib.hid (And.intro ho (And.intro hd (And.intro hx (And.intro hxo (And.intro hfew hdb)))))
        obtain ⟨V, hV⟩ : ∃ V, at' v s = V := ⟨_, rfl⟩
        have HV := Lib.hid hV
        have hstep : Hid ((q.L.take (j + 1)).filter (fun o => decide (at' v o.dot.1 < o.dot.2)) = (q.L.take j).filter (fun o => decide (at' v o.dot.1 < o.dot.2)) ++ (if V < m then [o] else [])) := by
          show _ = _
          rw [List.take_add_one, List.filter_append, ho]
          simp only [Option.toList_some, List.filter_cons, List.filter_nil, hd, hV]
          by_cases e : V < m <;> simp [e]
        obtain ⟨We, hWe⟩ : ∃ We, wr.alloc (.cells #[.string s, .int .i64 m] 23) = We := ⟨_, rfl⟩
        have HWe := Lib.hid hWe
        have hTw : Two We wr.heap.size (.string s) (.int .i64 m) := by rw [← hWe]; exact Two.new wr _ _
        have HBr : Hid (Below wr.heap.size wr We) := by show Below _ _ _; rw [← hWe]; exact (Below.refl _ wr).alloc (Nat.le_refl _) _
        have HBE : Hid (Below w.heap.size w We) := hbw.trans (HBr.out.mono hsz)
        have HS0 : Hid (Below We.heap.size We We.drew) := (Below.refl _ We).drew
        have HT : Hid (∀ W, Below We.heap.size We W → W.cell? ⟨wr.heap.size, 0, none⟩ = some (.string s) ∧ W.cell? ⟨wr.heap.size, 1, none⟩ = some (.int .i64 m)) := fun W hW => ⟨(hTw.below hW hTw.lt).c0, (hTw.below hW hTw.lt).c1⟩
        have HAT : Hid (∀ W, Below We.heap.size We W → Calls Try.prog 71 #[.slice A M c, .string s] W fun e w' => e = .returned (.int .i64 V) ∧ Below W.heap.size W w') := fun W hW => by
          have h0 := HX.out.up (HBE.out.trans (hW.mono HBE.out.size))
          have h1 := at_any c s h0.1 h0.2.2.2
          simp only at h1
          rw [hV, HM.out] at h1
          exact h1
        have HG := Lib.hid (And.intro hl.out (And.intro hg.out hbw))
        have hlnn : ln ≤ 100000 := by
          have h0 := congrArg List.length hl.out.2
          rw [List.length_map, hl.out.1] at h0
          have h1 := List.length_filter_le (fun o => decide (at' v o.dot.1 < o.dot.2)) (q.L.take j)
          rw [List.length_take] at h1
          omega
        clear hWe hTw hl hg hV ho hd hx hxo hfew hdb hod hmem hAr
        go_upto_region 9 with fail
        have hwx := HWe.out
        try rw [hwx]
        clear hwx g0 g1 hbw
        refine wp_region_held_drew (S := fun Wv => Below We.heap.size We Wv) (by kernel_rfl) HS0.out (fun hS => ?_)
        generalize We.drew = Wd at *
        refine wpAnyH_take (i := 0) (v := ?_) rfl (by kernel_rfl) (by kernel_rfl) (by kernel_rfl) (fun _ _ _ h => h) (Yields.yieldsIf (Or.inl ⟨by kernel_rfl, ?_⟩)) hS ?_
        rotate_left
        · first | (intro w; go_simp; done) | (intro w; go_simp; with_reducible rfl)
        refine wpAnyH_take (i := 1) (v := ?_) rfl (by kernel_rfl) (by kernel_rfl) (by kernel_rfl) (fun _ _ _ h => h) (Or.inl ⟨by kernel_rfl, fun W hW => ?_⟩) hS ?_
        rotate_left
        · obtain ⟨c0, c1⟩ := HT.out W hW
          first | (go_simp; done) | (go_simp; with_reducible rfl)
        refine wpAnyH_take (i := 2) (v := ?_) rfl (by kernel_rfl) (by kernel_rfl) (by kernel_rfl) (fun _ _ _ h => h) (Yields.yieldsIf (Or.inl ⟨by kernel_rfl, ?_⟩)) hS ?_
        rotate_left
        · first | (intro w; go_simp; done) | (intro w; go_simp; with_reducible rfl)
        refine wpAnyH_take (i := 3) (v := ?_) rfl (by kernel_rfl) (by kernel_rfl) (by kernel_rfl) (fun _ _ _ h => h) (Yields.yieldsIf (Or.inl ⟨by kernel_rfl, ?_⟩)) hS ?_
        rotate_left
        · first | (intro w; go_simp; done) | (intro w; go_simp; with_reducible rfl)
        refine wpAnyH_take (i := 4) (v := ?_) rfl (by kernel_rfl) (by kernel_rfl) (by kernel_rfl) (fun _ _ _ h => h) (Or.inl ⟨by kernel_rfl, fun W hW => ?_⟩) hS ?_
        rotate_left
        · obtain ⟨c0, c1⟩ := HT.out W hW
          first | (go_simp; done) | (go_simp; with_reducible rfl)
        try go_simp
        refine wpAnyH_ready (rs := [5]) (by kernel_rfl) (by simp) ?_
        refine AllReadyH.cons rfl (fun K hK => ?_) AllReadyH.nil
        go_simp
        go_wp2_with fail
        refine (HAT.out _ HS0.out).mono ?_
        rintro e wx ⟨rfl, hba⟩
        have HSx := Lib.hid (HS0.out.trans (hba.mono HS0.out.size))
        clear hba
        have hS3 : Below We.heap.size We wx := HSx.out
        refine hK.out _ _ hS3 (fun hS => ?_)
        clear hK K hS3
        refine wpAnyH_take (i := 6) (v := ?_) rfl (by kernel_rfl) (by kernel_rfl) (by kernel_rfl) (fun _ _ _ h => h) (Yields.yieldsIf (Or.inl ⟨by kernel_rfl, ?_⟩)) hS ?_
        rotate_left
        · first | (intro w; go_simp; done) | (intro w; go_simp; with_reducible rfl)
        try go_simp
        refine wpAnyH_done (by kernel_rfl) ?_ _
        by_cases hvm : V < m
        · have hgt : V < m := hvm
          go_upto_region 10 with fail
          have HSy : Hid (Below We.heap.size We wx.drew) := HSx.out.drew
          have HBy : Hid (Below wr.heap.size wr wx.drew) := HBr.out.trans (HSy.out.mono HBr.out.size)
          have HPy : Hid (Below w.heap.size w wx.drew) := HBE.out.trans (HSy.out.mono HBE.out.size)
          obtain ⟨mm, hmm⟩ : ∃ mm, m0 = some mm := by
            have h0 := HA.out.1.mp
            unfold Pv.map at h0
            rw [HMM.out] at h0
            cases m0 with
            | none =>
              have h1 : p.O = [] := h0
              have h2 := HO.out.2.2.1
              rw [h1] at h2; cases h2
            | some mm => exact ⟨mm, rfl⟩
          subst hmm
          have HLK : Hid (∀ W, Below wx.drew.heap.size wx.drew W → W.cell? ⟨b, 0, none⟩ = some (.map (some mm)) ∧ (Instr.lookup 86 (.map (some mm)) (.agg #[.string s, .int .i64 m]) false).run Try.prog W = .ok x.v W ∧ W.cell? ⟨wr.heap.size, 0, none⟩ = some (.string s) ∧ W.cell? ⟨wr.heap.size, 1, none⟩ = some (.int .i64 m)) := fun W hW => by
            have hW2 := HPy.out.trans (hW.mono HPy.out.size)
            have hm := (HA.out.1.up hW2).mp
            unfold Pv.map at hm
            rw [HMM.out] at hm
            have hq := dotB_iff.1 HO.out.2.2.2.2.2
            simp only at hq
            have h1 := hm.2.look false (s := s) (k := m) (by have := (nameB_pos hq.1).2; unfold maxLen; omega) (wf64 hq.2)
            have h2 := HO.out.2.2.1
            rw [HO.out.2.1] at h2
            rw [h2] at h1
            obtain ⟨t0, t1⟩ := HT.out W (HSy.out.trans (hW.mono HSy.out.size))
            exact ⟨(HPC.out W hW2).2, h1, t0, t1⟩
          have hxk : Ov.ok x wx.drew wx.drew.heap.size := ((HA.out.1.up HPy.out).ops x (List.mem_of_find?_eq_some HO.out.2.2.1)).1
          obtain ⟨vx, hvx⟩ : ∃ vv, x.v = vv := ⟨_, rfl⟩
          have hown := own_r x hxk (by rw [HO.out.2.2.2.1]; exact HO.out.2.2.2.2.1.1) (by rw [HO.out.2.2.2.1]; exact HO.out.2.2.2.2.1.2)
          rw [hvx] at HLK hown
          have HOWN := Lib.hid hown
          have hS2 : Below wx.drew.heap.size wx.drew wx.drew := Below.refl _ _
          clear hvx hown hxk hS
          have HBY2 := Lib.hid (And.intro HBy.out HPy.out)
          refine wp_region_held_drew (S := fun Wv => But (fun k => blk A4 = some k) wx.drew Wv) (by kernel_rfl) (But.of hS2) (fun hS => ?_)
          clear hS2
          generalize wx.drew = Wf at *
          have HA4 : Hid (∀ k, blk A4 = some k → w.heap.size ≤ k ∧ k < wr.heap.size ∧ k ≠ b) := fun k hk => by
            have h0 := HG.out.2.1.1.lt k hk
            exact ⟨h0.1, h0.2, by have := (HA.out.1.own_lt b (.inl rfl)).2; omega⟩
          have HF : Hid (∀ W, But (fun k => blk A4 = some k) Wf W → W.cell? ⟨b, 0, none⟩ = some (.map (some mm)) ∧ W.cell? ⟨wr.heap.size, 0, none⟩ = some (.string s) ∧ W.cell? ⟨wr.heap.size, 1, none⟩ = some (.int .i64 m)) := fun W hW => by
            obtain ⟨e0, _, e2, e3⟩ := HLK.out Wf (Below.refl _ _)
            exact ⟨hW.cell (p := ⟨b, 0, none⟩) (fun e => (HA4.out _ e).2.2 rfl) e0, hW.cell (p := ⟨wr.heap.size, 0, none⟩) (fun e => by have := (HA4.out _ e).2.1; simp only at this; omega) e2, hW.cell (p := ⟨wr.heap.size, 1, none⟩) (fun e => by have := (HA4.out _ e).2.1; simp only at this; omega) e3⟩
          refine wpAnyH_take (i := 0) (v := ?_) rfl (by kernel_rfl) (by kernel_rfl) (by kernel_rfl) (fun _ _ _ h => h) (Yields.yieldsIf (Or.inl ⟨by kernel_rfl, ?_⟩)) hS ?_
          rotate_left
          · first | (intro w; go_simp; done) | (intro w; go_simp; with_reducible rfl)
          refine wpAnyH_take (i := 1) (v := ?_) rfl (by kernel_rfl) (by kernel_rfl) (by kernel_rfl) (fun _ _ _ h => h) (Yields.yieldsIf (Or.inl ⟨by kernel_rfl, ?_⟩)) hS ?_
          rotate_left
          · first | (intro w; go_simp; done) | (intro w; go_simp; with_reducible rfl)
          refine wpAnyH_take (i := 2) (v := ?_) rfl (by kernel_rfl) (by kernel_rfl) (by kernel_rfl) (fun _ _ _ h => h) (Yields.yieldsIf (Or.inl ⟨by kernel_rfl, ?_⟩)) hS ?_
          rotate_left
          · first | (intro w; go_simp; done) | (intro w; go_simp; with_reducible rfl)
          refine wpAnyH_take (i := 3) (v := ?_) rfl (by kernel_rfl) (by kernel_rfl) (by kernel_rfl) (fun _ _ _ h => h) (Yields.yieldsIf (Or.inl ⟨by kernel_rfl, ?_⟩)) hS ?_
          rotate_left
          · first | (intro w; go_simp; done) | (intro w; go_simp; with_reducible rfl)
          refine wpAnyH_take (i := 4) (v := ?_) rfl (by kernel_rfl) (by kernel_rfl) (by kernel_rfl) (fun _ _ _ h => h) (Or.inl ⟨by kernel_rfl, fun W hW => ?_⟩) hS ?_
          rotate_left
          · obtain ⟨d0, c0, c1⟩ := HF.out W hW
            first | (go_simp; done) | (go_simp; with_reducible rfl)
          refine wpAnyH_take (i := 5) (v := ?_) rfl (by kernel_rfl) (by kernel_rfl) (by kernel_rfl) (fun _ _ _ h => h) (Or.inl ⟨by kernel_rfl, fun W hW => ?_⟩) hS ?_
          rotate_left
          · obtain ⟨d0, c0, c1⟩ := HF.out W hW
            first | (go_simp; done) | (go_simp; with_reducible rfl)
          try go_simp
          refine wpAnyH_ready (rs := [6]) (by kernel_rfl) (by simp) ?_
          refine AllReadyH.cons rfl (fun K hK => ?_) AllReadyH.nil
          have lk := (HLK.out Wf (Below.refl _ _)).2.1
          go_simp
          have hS3 : But (fun k => blk A4 = some k) Wf Wf := But.refl _ _
          clear lk
          refine hK.out _ _ hS3 (fun hS => ?_)
          clear hK K hS3
          try go_simp
          refine wpAnyH_ready (rs := [7]) (by kernel_rfl) (by simp) ?_
          refine AllReadyH.cons rfl (fun K hK => ?_) AllReadyH.nil
          go_simp
          go_wp2_with fail
          refine HOWN.out.mono ?_
          rintro e wg ⟨⟨y, hyo, rfl, hyk, y1, y2⟩, hbg⟩
          have hGg := HG.out.2.1.1.below (HBY2.out.1.trans (hbg.mono HBY2.out.1.size)) (Nat.le_refl _)
          obtain ⟨A5, c5, wh, hrun, ho1, ho2, ho3, ho4, ho5⟩ := hGg.one y 36 (by rw [HG.out.1.1]; omega) (by have := HBY2.out.2.size; have := hbg.size; omega)
          rw [HG.out.1.1] at hrun
          obtain ⟨vy, hvy⟩ : ∃ vv, y.v = vv := ⟨_, rfl⟩
          obtain ⟨⟨⟨ys, yn⟩, ydp, yct, ykd, yit, yq, ysn⟩, yA, yc, yA2, yc2⟩ := y
          obtain ⟨b1, hb1⟩ : ∃ L, ydp.length = L := ⟨_, rfl⟩
          obtain ⟨b2, hb2⟩ : ∃ L, ysn.length = L := ⟨_, rfl⟩
          simp only [Ov.v, Ov.cells] at hrun hvy ⊢
          rw [hb1, hb2] at hrun hvy ⊢
          have HRUN := Lib.hid hrun
          have hbut : But (fun k => blk A4 = some k) wg wh := ⟨ho2.os, ho2.tape, ho2.output, ho4, fun k hk hx => ho3 k hk hx⟩
          have hww := HBY2.out.2.size
          have hOO : OutO w.heap.size A5 wh (l ++ ([⟨⟨(ys, yn), ydp, yct, ykd, yit, yq, ysn⟩, yA, yc, yA2, yc2⟩] : List Ov)) := OutO.one ((HG.out.2.1.2.up HBY2.out.1).up hbg) hyk (y1.mono hww (Nat.le_refl _)) (y2.mono hww (Nat.le_refl _)) (fun k hk he => by have := (y1 k hk).1; have := (HA4.out k he).2.1; have := HBY2.out.1.size; omega) (fun k hk he => by have := (y2 k hk).1; have := (HA4.out k he).2.1; have := HBY2.out.1.size; omega) hbut ho5
          have HFIN : Hid (GrO wh w.heap.size A5 c5 (l ++ ([⟨⟨(ys, yn), ydp, yct, ykd, yit, yq, ysn⟩, yA, yc, yA2, yc2⟩] : List Ov)) ∧ OutO w.heap.size A5 wh (l ++ ([⟨⟨(ys, yn), ydp, yct, ykd, yit, yq, ysn⟩, yA, yc, yA2, yc2⟩] : List Ov)) ∧ Below w.heap.size w wh ∧ (l ++ ([⟨⟨(ys, yn), ydp, yct, ykd, yit, yq, ysn⟩, yA, yc, yA2, yc2⟩] : List Ov)).length = ln + 1 ∧ (l ++ ([⟨⟨(ys, yn), ydp, yct, ykd, yit, yq, ysn⟩, yA, yc, yA2, yc2⟩] : List Ov)).map (fun x => x.o) = (q.L.take (j + 1)).filter fun o => decide (at' v o.dot.1 < o.dot.2)) :=
            ⟨ho1, hOO, HBY2.out.2.trans ((hbg.mono hww).trans ho2), by rw [List.length_append, HG.out.1.1]; rfl, by rw [hstep.out, if_pos (show V < m by omega), List.map_append, HG.out.1.2]; simp only [List.map_cons, List.map_nil]; rw [show (⟨(ys, yn), ydp, yct, ykd, yit, yq, ysn⟩ : Op) = o from hyo.trans HO.out.2.2.2.1]⟩
          have HBH : Hid (But (fun k => blk A4 = some k) Wf wh ∧ But (fun k => blk A4 = some k) Wf (wg.alloc (.cells #[.string ys, .int .i64 yn, .slice yA b1 yc, .string yct, .int .i64 ykd, .string yit, .int .i64 yq, .slice yA2 b2 yc2] 26))) := ⟨(But.of hbg).trans hbut, (But.of hbg).alloc _⟩
          have hS3 : But (fun k => blk A4 = some k) Wf wg := But.of hbg
          clear hyo hyk y1 y2 hGg hrun ho1 ho2 ho3 ho4 ho5 hvy hbut hOO hb1 hb2 hbg hww
          refine hK.out _ _ hS3 (fun hS => ?_)
          clear hK K hS3
          try go_simp
          refine wpAnyH_ready (rs := [8]) (by kernel_rfl) (by simp) ?_
          refine AllReadyH.cons rfl (fun K hK => ?_) AllReadyH.nil
          go_simp
          go_wp2_with fail
          have hS3 : But (fun k => blk A4 = some k) Wf (wg.alloc (.cells #[.string ys, .int .i64 yn, .slice yA b1 yc, .string yct, .int .i64 ykd, .string yit, .int .i64 yq, .slice yA2 b2 yc2] 26)) := HBH.out.2
          refine hK.out _ _ hS3 (fun hS => ?_)
          clear hK K hS3
          try go_simp
          refine wpAnyH_ready (rs := [9]) (by kernel_rfl) (by simp) ?_
          refine AllReadyH.cons rfl (fun K hK => ?_) AllReadyH.nil
          refine Go.Lib.wp_append_run _ _ _ _ _ rfl _ _ rfl rfl _ _ HRUN.out ?_
          have hS3 : But (fun k => blk A4 = some k) Wf wh := HBH.out.1
          refine hK.out _ _ hS3 (fun hS => ?_)
          clear hK K hS3
          refine wpAnyH_take (i := 10) (v := ?_) rfl (by kernel_rfl) (by kernel_rfl) (by kernel_rfl) (fun _ _ _ h => h) (Yields.yieldsIf (Or.inl ⟨by kernel_rfl, ?_⟩)) hS ?_
          rotate_left
          · first | (intro w; go_simp; done) | (intro w; go_simp; with_reducible rfl)
          try go_simp
          refine wpAnyH_done (by kernel_rfl) ?_ _
          go_wp2
          go_roundg (n - (j + 1))
          case rel => exact ⟨j + 1, A5, c5, ln + 1, _, by omega, rfl, by go_num, rfl, ⟨HFIN.out.2.2.2.1, HFIN.out.2.2.2.2⟩, ⟨HFIN.out.1, HFIN.out.2.1⟩, HFIN.out.2.2.1⟩
          case measure => have := HGK.out; omega
        · have hng : ¬ V < m := hvm
          have HSn := Lib.hid ((HBr.out.trans (HSx.out.mono HBr.out.size)))
          have HPn := Lib.hid ((HBE.out.trans (HSx.out.mono HBE.out.size)))
          go_wp2
          go_roundg (n - (j + 1))
          case rel => exact ⟨j + 1, A4, c4, ln, l, by omega, rfl, by go_num, rfl, ⟨HG.out.1.1, by rw [hstep.out, if_neg (show ¬ V < m by omega), List.append_nil]; exact HG.out.1.2⟩, ⟨HG.out.2.1.1.below HSn.out (Nat.le_refl _), HG.out.2.1.2.up HSn.out⟩, HPn.out⟩
          case measure => have := HGK.out; omega
      · have hin : j = n := by omega
        subst hin
        have hfl : Hid (BO = (l.map (fun x => x.o), 0)) := by
          show _ = _
          rw [hR.out, hl.out.2, List.take_of_length_le (by
            have h0 := HN.out
            rw [HA.out.2.1.ds] at h0
            simp at h0
            omega)]
        have HLn := Lib.hid hl.out.1
        go_wp2
        go_ret2
        rw [hfl.out]
        exact ⟨⟨A4, c4, l, (by rw [HLn.out]; rfl), rfl, hg.out.1, hg.out.2⟩, hbw⟩

set_option maxRecDepth 100000 in
theorem ops_any {p : Pv} {w : World} {b : Nat} {q : Pool} (h : p.At w b) (hr : Rel p q) (hi : Inv q) (hn : q.L.length ≤ 100000) :
    Calls Try.prog 28 #[.pointer (some ⟨b, 0, none⟩)] w fun e w' => (∃ A c l, e = .returned (.slice A l.length c) ∧ l.map (fun x => x.o) = q.L ∧ GrO w' w.heap.size A c l ∧ OutO w.heap.size A w' l) ∧ Below w.heap.size w w' := by
  have hcall := behind_any h hr hi hn (nil_ok w w.heap.size)
  have hB : behO q.L [] = (q.L, 0) := by
    unfold behO
    rw [if_pos (by decide)]
    congr 1
    refine List.filter_eq_self.2 fun o ho => ?_
    have h1 := (dotB_iff.1 (rightO_iff (hi.ro o (List.mem_append.2 (.inl ho)))).dot).2.1
    show decide (at' [] o.dot.1 < o.dot.2) = true
    rw [show at' [] o.dot.1 = 0 from rfl, decide_eq_true_eq]
    omega
  rw [hB] at hcall
  simp only [List.length_nil] at hcall
  clear hB h hr hi hn
  go_enter Try.func28, Try.ntmps28
  go_wp2_with fail
  refine hcall.mono ?_
  rintro e w2 ⟨⟨A, c, l, rfl, h1, h2, h3⟩, h4⟩
  have HH := Lib.hid (And.intro h1 (And.intro h2 (And.intro h3 h4)))
  clear hcall h1 h2 h3 h4
  obtain ⟨L, hL⟩ : ∃ L, l.length = L := ⟨_, rfl⟩
  have HL := Lib.hid hL
  simp only
  rw [hL]
  clear hL
  go_wp2
  go_ret
  exact ⟨⟨A, c, l, (by rw [HL.out]; rfl), HH.out.1, HH.out.2.1, HH.out.2.2.1⟩, HH.out.2.2.2⟩

end Go.Proofs.Ytdffifkleaekhaa.O

namespace Go.Proofs.Ytdffifkleaekhaa.O
open Go.RowKit Go.Proofs.Ytdffifkleaekhaa.V
set_option linter.unusedVariables false
set_option linter.unusedSimpArgs false


theorem RowO.at {w : World} {B : Nat} {A : Option Addr} {l : List Ov} (h : RowO w B A l) (j : Nat) (hj : j < l.length) : ∃ b off, A = some ⟨b, off, none⟩ ∧ b < B ∧ OpAt w b (off + j * 8) (l[j]'hj) := by
  obtain ⟨b, off, e, hb, hc⟩ := h (by omega)
  exact ⟨b, off, e, hb, hc j _ (List.getElem?_eq_getElem hj)⟩
theorem OpAt.below {w w' : World} {b o B : Nat} {x : Ov} (h : OpAt w b o x) (hb : Below B w w') (hB : b < B) : OpAt w' b o x := h.keep fun i v hv => (hb.cell (p := ⟨b, i, none⟩) hB).trans hv
theorem map_drop {a : List Ov} {j : Nat} {x : Ov} (hj : j < a.length) (hd : a[j]'hj = x) : (a.drop j).map (fun x => x.o) = x.o :: (a.drop (j + 1)).map (fun x => x.o) := by
  rw [List.drop_eq_getElem_cons hj, hd]; rfl
set_option maxRecDepth 100000 in
set_option maxHeartbeats 6400000 in
theorem sameOps_any {A A2 : Option Addr} {a b : List Ov} (c c2 : Nat) {w : World} (hra : RowO w w.heap.size A a) (hka : ∀ x ∈ a, x.ok w w.heap.size) (hla : a.length ≤ 10000000000000) (hrb : RowO w w.heap.size A2 b) (hkb : ∀ x ∈ b, x.ok w w.heap.size) (hlb : b.length ≤ 10000000000000) :
    Calls Try.prog 27 #[.slice A a.length c, .slice A2 b.length c2] w fun e w' => e = .returned (.bool (decide (a.map (fun x => x.o) = b.map (fun x => x.o)))) ∧ Below w.heap.size w w' := by
  by_cases hln : a.length = b.length
  · obtain ⟨L, hL⟩ : ∃ L, a.length = L := ⟨_, rfl⟩
    have hLb : b.length = L := by omega
    rw [hL, hLb]
    obtain ⟨V, hV⟩ : ∃ V, decide (a.map (fun x => x.o) = b.map (fun x => x.o)) = V := ⟨_, rfl⟩
    rw [hV]
    have hL64 : L ≤ 10000000000000 := by omega
    have HV := Lib.hid hV
    have HA := Lib.hid (And.intro hra hka)
    have HB := Lib.hid (And.intro hrb hkb)
    have HL := Lib.hid (And.intro hL hLb)
    clear hV hra hrb hka hkb hla hlb hln hL hLb
    go_enter Try.func27, Try.ntmps27
    go_wp2
    go_loopg [5] L (fun k i wr => ∃ (j : Nat), j ≤ L ∧ k = L - j ∧ i = .int .i64 j ∧ Hid (decide ((a.drop j).map (fun x => x.o) = (b.drop j).map (fun x => x.o)) = V) ∧ Below w.heap.size w wr)
    case atStart => exact ⟨0, by omega, by omega, rfl, HV.out, Below.refl _ _⟩
    case round =>
      obtain ⟨j, hj, hgk, rfl, hat, hbw⟩ := hrel
      have HBW := Lib.hid hbw
      have HGK := Lib.hid hgk; clear hgk
      by_cases hlt : j < L
      · have hlt1 : j < a.length := by rw [HL.out.1]; exact hlt
        have hlt2 : j < b.length := by rw [HL.out.2]; exact hlt
        obtain ⟨b1, o1_, rfl, hbs1, h1⟩ := HA.out.1.at j hlt1
        obtain ⟨b2, o2_, rfl, hbs2, h2⟩ := HB.out.1.at j hlt2
        obtain ⟨x, hx⟩ : ∃ d, a[j]'hlt1 = d := ⟨_, rfl⟩
        obtain ⟨y, hy⟩ : ∃ d, b[j]'hlt2 = d := ⟨_, rfl⟩
        rw [hx] at h1
        rw [hy] at h2
        have hxk := HA.out.2 x (by rw [← hx]; exact List.getElem_mem hlt1)
        have hyk := HB.out.2 y (by rw [← hy]; exact List.getElem_mem hlt2)
        have hk := Lib.hid (And.intro (map_drop hlt1 hx) (map_drop hlt2 hy))
        have hE : ∀ W, Below w.heap.size w W → Calls Try.prog 20 #[x.v, y.v] W fun e w' => e = .returned (.bool (decide (x.o = y.o))) ∧ Below W.heap.size W w' := fun W hW => requal_any x y (hxk.up hW) (hyk.up hW)
        obtain ⟨E, hEE⟩ : ∃ E, decide (x.o = y.o) = E := ⟨_, rfl⟩
        have HE := Lib.hid hEE
        have hstep : Hid (V = (E && decide ((a.drop (j + 1)).map (fun x => x.o) = (b.drop (j + 1)).map (fun x => x.o)))) := by
          show _ = _
          rw [← hat.out, hk.out.1, hk.out.2, ← HE.out]
          rw [Bool.eq_iff_iff]
          simp
        rw [hEE] at hE
        clear hEE hk hxk hyk hx hy
        obtain ⟨⟨⟨s, n⟩, dp, ct, kd, it, q, sn⟩, xA, xc, xA2, xc2⟩ := x
        obtain ⟨⟨⟨s', n'⟩, dp', ct', kd', it', q', sn'⟩, yA, yc, yA2, yc2⟩ := y
        obtain ⟨a1, ha1⟩ : ∃ L, dp.length = L := ⟨_, rfl⟩
        obtain ⟨a2, ha2⟩ : ∃ L, sn.length = L := ⟨_, rfl⟩
        obtain ⟨a3, ha3⟩ : ∃ L, dp'.length = L := ⟨_, rfl⟩
        obtain ⟨a4, ha4⟩ : ∃ L, sn'.length = L := ⟨_, rfl⟩
        simp only [Ov.v, Ov.cells] at hE
        rw [ha1, ha2, ha3, ha4] at hE
        have HEC := Lib.hid hE
        have HC : Hid (∀ W, Below w.heap.size w W → ((W.cell? ⟨b1, o1_ + j * 8, none⟩ = some (.string s) ∧ W.cell? ⟨b1, o1_ + j * 8 + 1, none⟩ = some (.int .i64 n) ∧ W.cell? ⟨b1, o1_ + j * 8 + 2, none⟩ = some (.slice xA a1 xc)) ∧ W.cell? ⟨b1, o1_ + j * 8 + 3, none⟩ = some (.string ct) ∧ W.cell? ⟨b1, o1_ + j * 8 + 4, none⟩ = some (.int .i64 kd) ∧ W.cell? ⟨b1, o1_ + j * 8 + 5, none⟩ = some (.string it) ∧ W.cell? ⟨b1, o1_ + j * 8 + 6, none⟩ = some (.int .i64 q) ∧ W.cell? ⟨b1, o1_ + j * 8 + 7, none⟩ = some (.slice xA2 a2 xc2)) ∧
            ((W.cell? ⟨b2, o2_ + j * 8, none⟩ = some (.string s') ∧ W.cell? ⟨b2, o2_ + j * 8 + 1, none⟩ = some (.int .i64 n') ∧ W.cell? ⟨b2, o2_ + j * 8 + 2, none⟩ = some (.slice yA a3 yc)) ∧ W.cell? ⟨b2, o2_ + j * 8 + 3, none⟩ = some (.string ct') ∧ W.cell? ⟨b2, o2_ + j * 8 + 4, none⟩ = some (.int .i64 kd') ∧ W.cell? ⟨b2, o2_ + j * 8 + 5, none⟩ = some (.string it') ∧ W.cell? ⟨b2, o2_ + j * 8 + 6, none⟩ = some (.int .i64 q') ∧ W.cell? ⟨b2, o2_ + j * 8 + 7, none⟩ = some (.slice yA2 a4 yc2))) := fun W hW => by
          obtain ⟨k0, k1, k2, k3, k4, k5, k6, k7⟩ := h1.below hW hbs1
          obtain ⟨l0, l1, l2, l3, l4, l5, l6, l7⟩ := h2.below hW hbs2
          simp only at k0 k1 k2 k3 k4 k5 k6 k7 l0 l1 l2 l3 l4 l5 l6 l7
          rw [ha1] at k2; rw [ha2] at k7; rw [ha3] at l2; rw [ha4] at l7
          exact ⟨⟨⟨k0, k1, k2⟩, k3, k4, k5, k6, k7⟩, ⟨l0, l1, l2⟩, l3, l4, l5, l6, l7⟩
        have hS0 : Below w.heap.size w wr.drew := hbw.drew
        have HS0 := Lib.hid hS0
        clear h1 h2 ha1 ha2 ha3 ha4 hE hbs1 hbs2 hbw
        go_upto_region 6 with fail
        refine wp_region_held_drew (S := fun Wv => Below w.heap.size w Wv) (by kernel_rfl) hS0 (fun hS => ?_)
        clear hS0
        generalize wr.drew = Wd at *
        refine wpAnyH_take (i := 0) (v := ?_) rfl (by kernel_rfl) (by kernel_rfl) (by kernel_rfl) (fun _ _ _ h => h) (Yields.yieldsIf (Or.inl ⟨by kernel_rfl, ?_⟩)) hS ?_
        rotate_left
        · first | (intro w; go_simp; done) | (intro w; go_simp; with_reducible rfl)
        refine wpAnyH_take (i := 1) (v := ?_) rfl (by kernel_rfl) (by kernel_rfl) (by kernel_rfl) (fun _ _ _ h => h) (Yields.yieldsIf (Or.inl ⟨by kernel_rfl, ?_⟩)) hS ?_
        rotate_left
        · first | (intro w; go_simp; done) | (intro w; go_simp; with_reducible rfl)
        refine wpAnyH_take (i := 2) (v := ?_) rfl (by kernel_rfl) (by kernel_rfl) (by kernel_rfl) (fun _ _ _ h => h) (Yields.yieldsIf (Or.inl ⟨by kernel_rfl, ?_⟩)) hS ?_
        rotate_left
        · first | (intro w; go_simp; done) | (intro w; go_simp; with_reducible rfl)
        refine wpAnyH_take (i := 3) (v := ?_) rfl (by kernel_rfl) (by kernel_rfl) (by kernel_rfl) (fun _ _ _ h => h) (Or.inl ⟨by kernel_rfl, fun W hW => ?_⟩) hS ?_
        rotate_left
        · obtain ⟨⟨⟨c0, c1, c2_⟩, c3, c4, c5, c6, c7⟩, ⟨d0, d1, d2⟩, d3, d4, d5, d6, d7⟩ := HC.out W hW
          first | (go_simp; done) | (go_simp; with_reducible rfl)
        refine wpAnyH_take (i := 4) (v := ?_) rfl (by kernel_rfl) (by kernel_rfl) (by kernel_rfl) (fun _ _ _ h => h) (Yields.yieldsIf (Or.inl ⟨by kernel_rfl, ?_⟩)) hS ?_
        rotate_left
        · first | (intro w; go_simp; done) | (intro w; go_simp; with_reducible rfl)
        refine wpAnyH_take (i := 5) (v := ?_) rfl (by kernel_rfl) (by kernel_rfl) (by kernel_rfl) (fun _ _ _ h => h) (Yields.yieldsIf (Or.inl ⟨by kernel_rfl, ?_⟩)) hS ?_
        rotate_left
        · first | (intro w; go_simp; done) | (intro w; go_simp; with_reducible rfl)
        refine wpAnyH_take (i := 6) (v := ?_) rfl (by kernel_rfl) (by kernel_rfl) (by kernel_rfl) (fun _ _ _ h => h) (Yields.yieldsIf (Or.inl ⟨by kernel_rfl, ?_⟩)) hS ?_
        rotate_left
        · first | (intro w; go_simp; done) | (intro w; go_simp; with_reducible rfl)
        refine wpAnyH_take (i := 7) (v := ?_) rfl (by kernel_rfl) (by kernel_rfl) (by kernel_rfl) (fun _ _ _ h => h) (Or.inl ⟨by kernel_rfl, fun W hW => ?_⟩) hS ?_
        rotate_left
        · obtain ⟨⟨⟨c0, c1, c2_⟩, c3, c4, c5, c6, c7⟩, ⟨d0, d1, d2⟩, d3, d4, d5, d6, d7⟩ := HC.out W hW
          first | (go_simp; done) | (go_simp; with_reducible rfl)
        try go_simp
        refine wpAnyH_ready (rs := [8]) (by kernel_rfl) (by simp) ?_
        refine AllReadyH.cons rfl (fun K hK => ?_) AllReadyH.nil
        go_simp
        go_wp2_with fail
        refine (HEC.out _ HS0.out).mono ?_
        rintro e wx ⟨rfl, hba⟩
        have HSx := Lib.hid (HS0.out.trans (hba.mono HS0.out.size))
        clear hba
        have hS3 : Below w.heap.size w wx := HSx.out
        refine hK.out _ _ hS3 (fun hS => ?_)
        clear hK K hS3
        refine wpAnyH_take (i := 9) (v := ?_) rfl (by kernel_rfl) (by kernel_rfl) (by kernel_rfl) (fun _ _ _ h => h) (Yields.yieldsIf (Or.inl ⟨by kernel_rfl, ?_⟩)) hS ?_
        rotate_left
        · first | (intro w; go_simp; done) | (intro w; go_simp; with_reducible rfl)
        try go_simp
        refine wpAnyH_done (by kernel_rfl) ?_ _
        cases E with
        | true =>
          have hf : Hid (decide ((a.drop (j + 1)).map (fun x => x.o) = (b.drop (j + 1)).map (fun x => x.o)) = V) := by show _ = _; rw [hstep.out]; rfl
          go_wp2
          go_roundg (L - (j + 1))
          case rel => exact ⟨j + 1, by omega, rfl, by go_num, hf, HSx.out⟩
          case measure => have := HGK.out; omega
        | false =>
          have hf : Hid (V = false) := by show _ = _; rw [hstep.out]; rfl
          go_wp2
          go_ret
          exact ⟨ret_bool (by rw [hf.out]), HSx.out⟩
      · have hin : j = L := by omega
        subst hin
        have hf := Lib.hid (show V = true by rw [← hat.out, List.drop_eq_nil_of_le (by have := HL.out.1; omega), List.drop_eq_nil_of_le (by have := HL.out.2; omega)]; simp)
        go_wp2
        go_ret
        exact ⟨ret_bool hf.out.symm, hbw⟩
  · have hf := Lib.hid (show decide (a.map (fun x => x.o) = b.map (fun x => x.o)) = false by simp; intro h; exact hln (by have := congrArg List.length h; simpa using this))
    obtain ⟨L, hL⟩ : ∃ L, a.length = L := ⟨_, rfl⟩
    obtain ⟨M, hM⟩ : ∃ L, b.length = L := ⟨_, rfl⟩
    rw [hL, hM] at hln ⊢
    have hne : (((L : Nat) : Int) != ((M : Nat) : Int)) = true := by simp; omega
    clear hL hM hln
    go_enter Try.func27, Try.ntmps27
    go_wp2
    go_ret
    exact ⟨ret_bool hf.out.symm, Below.refl _ _⟩

end Go.Proofs.Ytdffifkleaekhaa.O

namespace Go.Proofs.Ytdffifkleaekhaa.O
open Go.RowKit Go.Proofs.Ytdffifkleaekhaa.V
set_option linter.unusedVariables false
set_option linter.unusedSimpArgs false

theorem drain_len : ∀ (k : Nat) (p : Pool), (drain k p).1.L.length + (drain k p).1.W.length = p.L.length + p.W.length
  | 0, p => rfl
  | k + 1, p => by
    cases h : p.W.findIdx? (ready p.K) with
    | none => rw [drain_none h]
    | some i =>
      obtain ⟨hi, _, _⟩ := List.findIdx?_eq_some_iff_getElem.1 h
      rw [drain_some h (List.getElem?_eq_getElem hi)]
      have := drain_len k ⟨p.L ++ [p.W[i]], (withO p.K p.W[i].dot).1, p.W.eraseIdx i⟩
      simp only [List.length_append, List.length_cons, List.length_nil, List.length_eraseIdx, if_pos hi] at this ⊢
      omega
theorem putP_len {p : Pool} (h : Inv p) (o : Op) : (putP p o).1.L.length + (putP p o).1.W.length ≤ p.L.length + p.W.length + 1 := by
  rw [← putQ_eq h]
  unfold putQ
  split
  · split
    · simp
    · split
      · split
        · have := drain_len p.W.length (hand p o)
          simp only [hand, List.length_append, List.length_cons, List.length_nil] at this ⊢
          omega
        · split
          · simp
          · simp; omega
      · simp
  · simp
/-- A pool of the law's own, at world W; the law began at w. -/
structure PS (w : World) (b : Nat) (pv : Pv) (q : Pool) (k : Nat) (W : World) : Prop where
  at_ : pv.At W b
  rel : Rel pv q
  qu : Quiet q
  low : ∀ i, pv.own b i → w.heap.size ≤ i
  bel : Below w.heap.size w W
  few : q.L.length + q.W.length ≤ k ∧ pv.O.length ≤ k
theorem PS.new {w W : World} (hb : Below w.heap.size w W) : PS w W.heap.size pv0 none_ 0 (W.alloc (.cells #[.map none, .slice none 0 0, .slice none 0 0, .slice none 0 0] 88)) :=
  ⟨new_at W, new_rel, quiet_none, fun i hi => by rw [new_own] at hi; rw [hi]; exact hb.size, hb.trans ((Below.refl _ W).alloc hb.size _), by simp [none_, pv0]⟩
theorem PS.up {w W V : World} {b k : Nat} {pv : Pv} {q : Pool} (h : PS w b pv q k W) (hb : Below W.heap.size W V) : PS w b pv q k V := ⟨h.at_.up hb, h.rel, h.qu, h.low, h.bel.trans (hb.mono h.bel.size), h.few⟩
theorem PS.lb {w W : World} {b k : Nat} {pv : Pv} {q : Pool} (h : PS w b pv q k W) : w.heap.size ≤ b ∧ b < W.heap.size := ⟨h.low b (.inl rfl), (h.at_.own_lt b (.inl rfl)).2⟩
theorem PS.clear {w W : World} {b k : Nat} {pv : Pv} {q : Pool} (h : PS w b pv q k W) {A : Option Addr} {l : List D} (hr : RowD w w.heap.size A l) : Clear (pv.own b) A l.length := fun hn i hi ho => by
  obtain ⟨g, off, e, hg, _⟩ := hr hn
  rw [e] at hi
  simp [blk] at hi
  have := h.low i ho
  omega
/-- .. of what came in, at any later world. -/
theorem PS.input {w W : World} {b k : Nat} {pv : Pv} {q : Pool} (h : PS w b pv q k W) {x : Ov} (hx : x.ok w w.heap.size) : x.ok W W.heap.size ∧ Clear (pv.own b) x.A x.o.deps.length ∧ Clear (pv.own b) x.A2 x.o.seen.length :=
  ⟨hx.up h.bel, h.clear hx.d.1, h.clear hx.s.1⟩
theorem PS.put {w W : World} {b k : Nat} {pv : Pv} {q : Pool} (h : PS w b pv q k W) (hk : k ≤ 99999) (x : Ov) (hx : x.ok W W.heap.size) (h1 : Clear (pv.own b) x.A x.o.deps.length) (h2 : Clear (pv.own b) x.A2 x.o.seen.length) :
    Calls Try.prog 22 #[.pointer (some ⟨b, 0, none⟩), x.v] W fun e W' => ∃ pv', e = .returned (.tuple #[.int .i64 (putP q x.o).2.1, .int .i64 (putP q x.o).2.2]) ∧ PS w b pv' (putP q x.o).1 (k + 1) W' ∧ Step pv W pv' W' b := by
  refine (put_any h.at_ h.rel h.qu.toInv x hx h1 h2 (by have := h.few; omega) (by have := h.few; omega)).mono ?_
  rintro e W' ⟨pv', he, hr, hs, ho⟩
  refine ⟨pv', he, ⟨hs.at_, hr, (put_does h.qu x.o).1, fun i hi => ?_, ?_, ?_⟩, hs⟩
  · rcases hs.own i hi with h3 | h3
    · exact h.low i h3
    · exact Nat.le_trans h.bel.size h3
  · exact h.bel.trans (hs.but.below h.low h.bel.size)
  · have := putP_len h.qu.toInv x.o
    have := h.few
    omega
theorem PS.known {w W : World} {b k : Nat} {pv : Pv} {q : Pool} (h : PS w b pv q k W) :
    Calls Try.prog 26 #[.pointer (some ⟨b, 0, none⟩)] W fun e W' => (∃ A c, e = .returned (.slice A q.K.length c) ∧ Vc.ok ⟨A, c, q.K⟩ W' W'.heap.size ∧ Lies A W.heap.size W'.heap.size) ∧ Below W.heap.size W W' := by
  have h1 := known_any h.at_ (by rw [h.rel.K]; exact right_len h.qu.rk)
  rw [h.rel.K] at h1
  exact h1
theorem PS.waits {w W : World} {b k : Nat} {pv : Pv} {q : Pool} (h : PS w b pv q k W) : Calls Try.prog 24 #[.pointer (some ⟨b, 0, none⟩)] W fun e w' => e = .returned (.int .i64 (q.W.length : Int)) ∧ W = w' := by
  have h1 := waits_any h.at_
  have h2 : pv.ws.length = q.W.length := by rw [h.rel.ws]; simp
  rw [h2] at h1
  exact h1
theorem PS.ops {w W : World} {b k : Nat} {pv : Pv} {q : Pool} (h : PS w b pv q k W) (hk : k ≤ 99999) :
    Calls Try.prog 28 #[.pointer (some ⟨b, 0, none⟩)] W fun e w' => (∃ A c l, e = .returned (.slice A l.length c) ∧ l.map (fun x => x.o) = q.L ∧ GrO w' W.heap.size A c l ∧ OutO W.heap.size A w' l) ∧ Below W.heap.size W w' :=
  ops_any h.at_ h.rel h.qu.toInv (by have := h.few; omega)
/-- What lies in new memory lies apart from the pool, and goes on so. -/
theorem PS.far {w W : World} {b k : Nat} {pv : Pv} {q : Pool} (h : PS w b pv q k W) {A : Option Addr} {C : Nat} (hl : Lies A W.heap.size C) : Apart (pv.own b) A := fun i hi ho => by
  have := (hl i hi).1
  have := (h.at_.own_lt i ho).2
  omega
theorem Step.far {p p' : Pv} {w w' : World} {b : Nat} (h : Step p w p' w' b) {A : Option Addr} (ha : Apart (p.own b) A) (hl : ∀ i, blk A = some i → i < w.heap.size) : Apart (p'.own b) A := fun i hi ho => by
  rcases h.own i ho with h1 | h1
  · exact ha i hi h1
  · have := hl i hi; omega
end Go.Proofs.Ytdffifkleaekhaa.O

namespace Go.Proofs.Ytdffifkleaekhaa.orderTwice
open Go.RowKit Go.Proofs.Ytdffifkleaekhaa.V Go.Proofs.Ytdffifkleaekhaa.O
set_option linter.unusedVariables false
set_option linter.unusedSimpArgs false


set_option maxRecDepth 100000 in
set_option maxHeartbeats 12800000 in
theorem walk (A : Option Addr) (c : Nat) (ls : List Ov) (w : World) (hr : RowO w w.heap.size A ls) (hok : ∀ x ∈ ls, x.ok w w.heap.size) (hl : ls.length ≤ 10000000000000) (hcap : ls.length ≤ c) (hc : c ≤ 9223372036854775807) : Calls Try.prog 10 #[.slice A ls.length c] w fun e w' => e = .returned (.bool true) ∧ Below w.heap.size w w' := by
  obtain ⟨L, hL⟩ : ∃ L, ls.length = L := ⟨_, rfl⟩
  rw [hL] at hl hcap ⊢
  have hmin : (if (150 : Int) < (L : Int) then (150 : Int) else (L : Int)) = ((min L 150 : Nat) : Int) := by omega
  obtain ⟨k, hk⟩ : ∃ k, min L 150 = k := ⟨_, rfl⟩
  rw [hk] at hmin
  have hkL : k ≤ L := by omega
  have hk150 : k ≤ 150 := by omega
  have hkc : k ≤ c := by omega
  have HT := Lib.hid (And.intro hr (And.intro hok (And.intro hL hkL)))
  have HK := Lib.hid hk150
  clear hr hok hL hk
  have g0 : (0 : Int) ≤ (k : Int) := by omega
  have g1 : (k : Int) ≤ (c : Int) := by omega
  go_enter Try.func10, Try.ntmps10
  go_wp2_with fail
  refine (shown_any _).mono ?_
  rintro e wa ⟨rfl, hba⟩
  have HA := Lib.hid hba
  clear hba
  go_wp2_with fail
  refine (new_any _).mono ?_
  rintro e W0 ⟨rfl, hw0⟩
  have HP0 : Hid (PS w wa.heap.size pv0 none_ 0 W0) := by show PS _ _ _ _ _ _; rw [← hw0]; exact PS.new HA.out
  clear hw0
  generalize wa.heap.size = b at *
  clear hmin hkL hkc hl hcap hc
  go_wp2
  go_loopg [5] k (fun m i wr => ∃ (j : Nat) (pv : Pv) (q : Pool), j ≤ k ∧ m = k - j ∧ i = .int .i64 j ∧ Hid (PS w b pv q (2 * j) wr))
  case atStart => exact ⟨0, pv0, none_, by omega, by omega, rfl, HP0.out⟩
  case round =>
    obtain ⟨j, pv, q, hj, hgk, rfl, hps⟩ := hrel
    have HGK := Lib.hid hgk; clear hgk HP0
    by_cases hlt : j < k
    · have hlt1 : j < ls.length := by rw [HT.out.2.2.1]; have := HT.out.2.2.2; omega
      obtain ⟨bb, off, rfl, hbs, hx8⟩ := HT.out.1.at j hlt1
      obtain ⟨x, hx⟩ : ∃ d, ls[j]'hlt1 = d := ⟨_, rfl⟩
      rw [hx] at hx8
      have hxk := HT.out.2.1 x (by rw [← hx]; exact List.getElem_mem hlt1)
      have HX := Lib.hid hxk
      have HX8 := Lib.hid (And.intro hbs hx8)
      have HPUT : Hid (∀ (pv : Pv) (q : Pool) (m : Nat) (W : World), PS w b pv q m W → m ≤ 99999 → Calls Try.prog 22 #[.pointer (some ⟨b, 0, none⟩), x.v] W fun e W' => ∃ pv', e = .returned (.tuple #[.int .i64 (putP q x.o).2.1, .int .i64 (putP q x.o).2.2]) ∧ PS w b pv' (putP q x.o).1 (m + 1) W' ∧ Step pv W pv' W' b) := fun pv q m W h hm => by
        obtain ⟨h1, h2, h3⟩ := h.input HX.out
        exact h.put hm x h1 h2 h3
      have hT := put_twice hps.out.qu x.o
      obtain ⟨R, hR⟩ : ∃ R, putP q x.o = R := ⟨_, rfl⟩
      rw [hR] at hT
      have HR := Lib.hid (And.intro hR hT)
      clear hR hT hx hxk hx8 hbs hlt1
      obtain ⟨⟨⟨s, n⟩, dp, ct, kd, it, qq, sn⟩, xA, xc, xA2, xc2⟩ := x
      obtain ⟨a1, ha1⟩ : ∃ L, dp.length = L := ⟨_, rfl⟩
      obtain ⟨a2, ha2⟩ : ∃ L, sn.length = L := ⟨_, rfl⟩
      have HC : Hid (∀ W, Below w.heap.size w W → (W.cell? ⟨bb, off + j * 8, none⟩ = some (.string s) ∧ W.cell? ⟨bb, off + j * 8 + 1, none⟩ = some (.int .i64 n) ∧ W.cell? ⟨bb, off + j * 8 + 2, none⟩ = some (.slice xA a1 xc)) ∧ W.cell? ⟨bb, off + j * 8 + 3, none⟩ = some (.string ct) ∧ W.cell? ⟨bb, off + j * 8 + 4, none⟩ = some (.int .i64 kd) ∧ W.cell? ⟨bb, off + j * 8 + 5, none⟩ = some (.string it) ∧ W.cell? ⟨bb, off + j * 8 + 6, none⟩ = some (.int .i64 qq) ∧ W.cell? ⟨bb, off + j * 8 + 7, none⟩ = some (.slice xA2 a2 xc2)) := fun W hW => by
        obtain ⟨k0, k1, k2, k3, k4, k5, k6, k7⟩ := HX8.out.2.below hW HX8.out.1
        simp only at k0 k1 k2 k3 k4 k5 k6 k7
        rw [ha1] at k2; rw [ha2] at k7
        exact ⟨⟨k0, k1, k2⟩, k3, k4, k5, k6, k7⟩
      have HPU : Hid (∀ (pv : Pv) (q : Pool) (m : Nat) (W : World), PS w b pv q m W → m ≤ 99999 → Calls Try.prog 22 #[.pointer (some ⟨b, 0, none⟩), .agg #[.string s, .int .i64 n, .slice xA a1 xc, .string ct, .int .i64 kd, .string it, .int .i64 qq, .slice xA2 a2 xc2]] W fun e W' => ∃ pv', e = .returned (.tuple #[.int .i64 (putP q ⟨(s, n), dp, ct, kd, it, qq, sn⟩).2.1, .int .i64 (putP q ⟨(s, n), dp, ct, kd, it, qq, sn⟩).2.2]) ∧ PS w b pv' (putP q ⟨(s, n), dp, ct, kd, it, qq, sn⟩).1 (m + 1) W' ∧ Step pv W pv' W' b) := fun pv q m W h hm => by
        have h0 := HPUT.out pv q m W h hm
        simp only [Ov.v, Ov.cells] at h0
        rw [ha1, ha2] at h0
        exact h0
      clear ha1 ha2 HPUT HX8
      obtain ⟨⟨c0, c1, c2_⟩, c3, c4, c5, c6, c7⟩ := HC.out _ hps.out.bel
      have hcall := HPU.out pv q _ _ hps.out (by have := HK.out; omega)
      rw [HR.out.1] at hcall
      go_wp2_with fail
      refine hcall.mono ?_
      rintro e w1 ⟨pv1, rfl, h1, _⟩
      have H1 := Lib.hid h1
      clear hcall h1 c0 c1 c2_ c3 c4 c5 c6 c7
      have hcall := H1.out.known
      obtain ⟨kl, hkl⟩ : ∃ kl, R.1.K.length = kl := ⟨_, rfl⟩
      have HKL := Lib.hid hkl
      rw [hkl] at hcall
      clear hkl
      go_wp2_with fail
      refine hcall.mono ?_
      rintro e w2 ⟨⟨A8, c8, rfl, hk1, hk2⟩, hb2⟩
      have H2 := Lib.hid (And.intro (H1.out.up hb2) (And.intro hk1 (show Apart (pv1.own b) A8 from fun i hi ho => by
        have := (hk2 i hi).1
        have := (H1.out.at_.own_lt i ho).2
        omega)))
      clear hcall hk1 hk2 hb2
      go_wp2_with fail
      refine (H2.out.1.waits).mono ?_
      rintro e w2 ⟨rfl, rfl⟩
      obtain ⟨⟨c0, c1, c2_⟩, c3, c4, c5, c6, c7⟩ := HC.out _ H2.out.1.bel
      have hcall := HPU.out pv1 R.1 _ _ H2.out.1 (by have := HK.out; omega)
      rw [HR.out.2] at hcall
      go_wp2_with fail
      refine hcall.mono ?_
      rintro e w3 ⟨pv3, rfl, h3, hst⟩
      have H3 := Lib.hid (And.intro h3 (hst.but.vc H2.out.2.1 H2.out.2.2))
      clear hcall h3 hst c0 c1 c2_ c3 c4 c5 c6 c7
      obtain ⟨er, her⟩ : ∃ er, R.2.2 = er := ⟨_, rfl⟩
      have hcall := H3.out.1.known
      rw [HKL.out] at hcall
      simp only
      rw [her]
      clear her
      go_wp2_with fail
      refine hcall.mono ?_
      rintro e w4 ⟨⟨A9, c9, rfl, hk1, _⟩, hb4⟩
      clear hcall
      have hcall := same_any (a := R.1.K) (b := R.1.K) c8 c9 (H3.out.2.up hb4).1 H3.out.2.2.2.2 hk1.1 hk1.2.2.2
      rw [HKL.out] at hcall
      have H4 := Lib.hid (H3.out.1.up hb4)
      clear hk1 hb4
      go_wp2_with fail
      refine hcall.mono ?_
      rintro e w5 ⟨rfl, hb5⟩
      have H5 := Lib.hid (H4.out.up hb5)
      clear hcall hb5
      simp only [decide_true]
      go_wp2_with fail
      refine (H5.out.waits).mono ?_
      rintro e w6 ⟨rfl, rfl⟩
      go_wp2
      go_roundg (k - (j + 1))
      case rel => exact ⟨j + 1, pv3, R.1, by omega, rfl, by go_num, by
        have h := H5.out
        rw [show 2 * (j + 1) = 2 * j + 1 + 1 by omega]
        exact h⟩
      case measure => have := HGK.out; omega
    · have hin : j = k := by omega
      subst hin
      have HPF := Lib.hid (And.intro hps.out (show 2 * j ≤ 300 by have := HK.out; omega))
      clear HT
      have hcall := HPF.out.1.ops (by have := HPF.out.2; omega)
      go_wp2_with fail
      refine hcall.mono ?_
      rintro e w1 ⟨⟨A1, c1, la, rfl, hm1, hg1, ho1⟩, hb1⟩
      obtain ⟨na, hna⟩ : ∃ na, la.length = na := ⟨_, rfl⟩
      have hnaq : na ≤ 300 := by
        have h0 := congrArg List.length hm1
        rw [List.length_map, hna] at h0
        have := HPF.out.1.few
        have := HPF.out.2
        omega
      -- what was handed out stays where it lies while the pool is asked
      have HO : Hid (RowO w1 w1.heap.size A1 la ∧ (∀ x ∈ la, x.ok w1 w1.heap.size) ∧ la.map (fun x => x.o) = q.L ∧ la.length = na) := ⟨hg1.row, fun x hx => (ho1 x hx).1, hm1, hna⟩
      have HSt : Hid (∀ x ∈ la, Apart (pv.own b) x.A ∧ Apart (pv.own b) x.A2) := fun x hx => by
        obtain ⟨_, h2, h3⟩ := ho1 x hx
        exact ⟨fun i hi ho => by have := (h2.1 i hi).1; have := (HPF.out.1.at_.own_lt i ho).2; omega, fun i hi ho => by have := (h3.1 i hi).1; have := (HPF.out.1.at_.own_lt i ho).2; omega⟩
      have HSA : Hid (Apart (pv.own b) A1 ∧ (∀ i, blk A1 = some i → i < w1.heap.size) ∧ ∀ x ∈ la, (∀ i, blk x.A = some i → i < w1.heap.size) ∧ ∀ i, blk x.A2 = some i → i < w1.heap.size) :=
        ⟨fun i hi ho => by have := (hg1.lt i hi).1; have := (HPF.out.1.at_.own_lt i ho).2; omega, fun i hi => (hg1.lt i hi).2, fun x hx => ⟨fun i hi => ((ho1 x hx).2.1.1 i hi).2, fun i hi => ((ho1 x hx).2.2.1 i hi).2⟩⟩
      have HPS := Lib.hid (HPF.out.1.up hb1)
      rw [hna]
      clear hcall hm1 hg1 ho1 hb1 hna g0 g1
      go_wp2
      go_loopg [13] na (fun m i wr => ∃ (r : Nat) (pv' : Pv), r ≤ na ∧ m = na - r ∧ i = .int .i64 r ∧ Hid (PS w b pv' q (300 + r) wr ∧ Step pv w1 pv' wr b))
      case atStart => exact ⟨0, pv, by omega, by omega, rfl, ⟨⟨HPS.out.at_, HPS.out.rel, HPS.out.qu, HPS.out.low, HPS.out.bel, by have := HPS.out.few; have := HPF.out.2; omega⟩, Step.refl HPS.out.at_⟩⟩
      case round =>
        obtain ⟨r, pv', hr', hgk, rfl, hps'⟩ := hrel
        have HGK2 := Lib.hid hgk; clear hgk
        have HKEEP : Hid (RowO wr wr.heap.size A1 la ∧ ∀ x ∈ la, x.ok wr wr.heap.size ∧ Clear (pv'.own b) x.A x.o.deps.length ∧ Clear (pv'.own b) x.A2 x.o.seen.length) := by
          refine ⟨fun hn => ?_, fun x hx => ?_⟩
          · obtain ⟨g, off, e, hgl, hcc⟩ := HO.out.1 hn
            have hx : ¬ pv.own b g := HSA.out.1 g (by rw [e]; rfl)
            exact ⟨g, off, e, Nat.lt_of_lt_of_le hgl hps'.out.2.but.size, fun j x hj => (hcc j x hj).keep fun i v hv => hps'.out.2.but.cell (p := ⟨g, i, none⟩) hx hv⟩
          · obtain ⟨a1, a2⟩ := HSt.out x hx
            obtain ⟨b1, b2⟩ := HSA.out.2.2 x hx
            exact ⟨hps'.out.2.but.ov (HO.out.2.1 x hx) a1 a2, (hps'.out.2.far a1 b1).clear _, (hps'.out.2.far a2 b2).clear _⟩
        by_cases hlt2 : r < na
        · have hlt1 : r < la.length := by rw [HO.out.2.2.2]; exact hlt2
          obtain ⟨bb, off, rfl, hbs, hx8⟩ := HKEEP.out.1.at r hlt1
          obtain ⟨x, hx⟩ : ∃ d, la[r]'hlt1 = d := ⟨_, rfl⟩
          rw [hx] at hx8
          have hxm : x ∈ la := by rw [← hx]; exact List.getElem_mem hlt1
          have hxq : x.o ∈ q.L ++ q.W := List.mem_append.2 (.inl (by rw [← HO.out.2.2.1]; exact List.mem_map.2 ⟨x, hxm, rfl⟩))
          obtain ⟨k1, k2, k3⟩ := HKEEP.out.2 x hxm
          have hcall := hps'.out.1.put (by omega) x k1 k2 k3
          rw [put_there hps'.out.1.qu hxq] at hcall
          clear hx hxm hxq k1 k2 k3 hlt1
          obtain ⟨⟨⟨s, n⟩, dp, ct, kd, it, qq, sn⟩, xA, xc, xA2, xc2⟩ := x
          obtain ⟨a1, ha1⟩ : ∃ L, dp.length = L := ⟨_, rfl⟩
          obtain ⟨a2, ha2⟩ : ∃ L, sn.length = L := ⟨_, rfl⟩
          obtain ⟨c0, c1_, c2_, c3, c4, c5, c6, c7⟩ := hx8
          simp only [Ov.v, Ov.cells] at c0 c1_ c2_ c3 c4 c5 c6 c7 hcall
          rw [ha1] at c2_ hcall
          rw [ha2] at c7 hcall
          clear ha1 ha2 hbs
          go_wp2_with fail
          refine hcall.mono ?_
          rintro e w5 ⟨pv5, rfl, h5, hs5⟩
          have H5 := Lib.hid (And.intro h5 (hps'.out.2.trans hs5))
          clear hcall h5 hs5 c0 c1_ c2_ c3 c4 c5 c6 c7
          go_wp2
          go_roundg (na - (r + 1))
          case rel => exact ⟨r + 1, pv5, by omega, rfl, by go_num, ⟨by
            have h := H5.out.1
            rw [show 300 + (r + 1) = 300 + r + 1 by omega]
            exact h, H5.out.2⟩⟩
          case measure => have := HGK2.out; omega
        · have hin : r = na := by omega
          subst hin
          have hcall := hps'.out.1.ops (by omega)
          go_wp2_with fail
          refine hcall.mono ?_
          rintro e w7 ⟨⟨A7, c7, lb, rfl, hm7, hg7, ho7⟩, hb7⟩
          have hlb : lb.length ≤ 10000000000000 := by
            have h0 := congrArg List.length hm7
            rw [List.length_map] at h0
            have := hps'.out.1.few
            omega
          have hrow : RowO w7 w7.heap.size A1 la := HKEEP.out.1.up hb7
          have hcall2 := sameOps_any (a := la) (b := lb) c1 c7 hrow (fun x hx => ((HKEEP.out.2 x hx).1.up hb7)) (by rw [HO.out.2.2.2]; omega) hg7.row (fun x hx => (ho7 x hx).1) hlb
          rw [HO.out.2.2.1, hm7, HO.out.2.2.2] at hcall2
          obtain ⟨nb, hnb⟩ : ∃ nb, lb.length = nb := ⟨_, rfl⟩
          rw [hnb] at hcall2 ⊢
          have H7 := Lib.hid (hps'.out.1.bel.trans (hb7.mono hps'.out.1.bel.size))
          clear hcall hm7 hg7 ho7 hlb hrow hb7 hnb
          go_wp2_with fail
          refine hcall2.mono ?_
          rintro e w8 ⟨rfl, hb8⟩
          have H8 := Lib.hid (H7.out.trans (hb8.mono H7.out.size))
          clear hcall2 hb8
          simp only [decide_true]
          go_wp2
          go_ret
          exact ⟨rfl, H8.out⟩
end Go.Proofs.Ytdffifkleaekhaa.orderTwice

namespace Go.Proofs.Ytdffifkleaekhaa.orderTwice
open Go.ChangeShapes Go.WideShapes Go.ChangeAt Go.RowKit Go.Proofs.Ytdffifkleaekhaa.V Go.Proofs.Ytdffifkleaekhaa.O
set_option linter.unusedVariables false

set_option maxRecDepth 100000 in
theorem lifted (os : Os) (started : os.Started) (H : Type) (enc : TypeId × Value → H) :
    ReturnsInHanded {} Try.checked os 10 .any (Rows.orderTwiceSpec.pre6 enc Try.prog Try.f10 Rows.orderTwiceRow.domain false) (Rows.orderTwiceSpec.post enc Try.prog Try.f10 false true false false) := by
  refine returnsInHanded_of_change_sized (C := Try.checked) own started (by kernel_rfl) Try.func10
    (ChangeSpec.witness6 (enc := enc) (C := Try.checked) false ⟨#[], #[.slice none 0 0], []⟩ 8 (by kernel_rfl) (by kernel_rfl) (by kernel_rfl) (by kernel_rfl)) ?_
  intro W base args ds gs before hval0 hW hcnd hsz0 _
  have hval : ∀ (j : Nat) t v, Try.f10.params[j]? = some t → args[j]? = some v → Value.okWide Try.prog W .any base t v := hval0
  have hsz : (DataW.weightsEach Try.prog (Try.f10.params.toList ++ Rows.orderTwiceSpec.plain.varTypes Try.prog) (ds ++ gs)).all (· ≤ reachBytes) = true := hsz0
  have hW' := hW
  obtain ⟨p, q, hA0, hV, rfl, hfz, hnd⟩ := hW
  have hA : DataW.TrodAll enc Try.prog W 0 (fun _ => true) true Try.f10.params.toList args.toList ds p := hA0
  rw [Try.params10] at hA hval hsz
  obtain ⟨v0, vs0, d0, ds0, p0, q0, hargs, rfl, rfl, h0, r0⟩ := trodAll_cons hA
  obtain ⟨rfl, rfl, rfl⟩ := trodAll_nil r0
  obtain rfl : args = #[v0] := by cases args; simp_all
  obtain ⟨rfl, rfl⟩ := trodVars_none hV
  obtain ⟨a0, len0, cap0, rfl⟩ := okWide_slice Try.underlying36 (hval 0 36 v0 rfl rfl)
  have k0 := h0
  have lt0 : ∀ x ∈ p0, x.block < W.heap.size := by obtain ⟨m, hm⟩ := k0; exact DataW.trod_lt m _ _ _ hm
  obtain ⟨l0, rfl, row0, ok0, lc0, cc0, reach0⟩ := openOps h0 (fun n hn => of_decide_eq_true (List.all_eq_true.1 hsz _ (DataW.weights_mem_each (j := 0) (t := 36) (d := d0) rfl rfl _ hn)))
  clear hA0 hval0 hsz hsz0
  refine (walk a0 cap0 l0 W row0 ok0 reach0 lc0 cc0).mono fun e W' ⟨he, bel⟩ => ?_
  subst he
  exact ⟨_, rfl, _, _, _, [], _, [], hW', trodAll_mk1 (shut_bool Try.underlying4 _), (trodAll_cons_mk (Below.trod laidOut (by kernel_rfl) (of_decide_eq_true (by kernel_rfl)) k0 bel lt0) trodAll_mk0), rfl, bel.frame _, fun h => by cases h⟩

theorem over : Rows.orderTwiceRow.holds Try.pinned (OpenSpec.ofChange Rows.orderTwiceSpec) :=
  OpenClaim.holds_of_wide 10 Try.f10 rfl rfl rfl rfl rfl rfl rfl ⟨rfl, rfl, rfl, rfl, rfl⟩ rfl rfl rfl rfl rfl (by kernel_rfl) Try.func10 (by kernel_rfl)
    (of_decide_eq_true (by kernel_rfl)) (by unfold Func.isWrapper; first | (rw [if_pos (by decide +kernel)]; kernel_rfl) | (rw [if_neg (by decide +kernel)]; exact ⟨rfl, rfl⟩))
    (fun os started H enc _ => lifted os started H enc)

theorem proved : Rows.OrderTwiceSaid := over
#print axioms proved
end Go.Proofs.Ytdffifkleaekhaa.orderTwice
