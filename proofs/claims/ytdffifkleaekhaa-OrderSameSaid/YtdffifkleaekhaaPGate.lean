/-
  Operations, and slices of them, that came in.
-/
import Derived.Test.YtdffifkleaekhaaPShown
import Derived.Test.YtdffifkleaekhaaVGate
namespace Go.Proofs.Ytdffifkleaekhaa.O
open Go.ChangeShapes Go.WideShapes Go.ChangeAt Go.RowKit Go.Deep Go.Proofs.Ytdffifkleaekhaa.V
set_option linter.unusedVariables false
set_option linter.unusedSimpArgs false

theorem weights_all_mem {H : Type} {P : Program} {e : TypeId} : ∀ {l : List (DataW H)} {d : DataW H}, d ∈ l → ∀ n ∈ d.weights P e, n ∈ DataW.weightsAll P e l
  | x :: t, d, h, n, hn => by
    simp only [DataW.weightsAll, List.mem_append]
    rcases List.mem_cons.1 h with rfl | h
    · exact .inl hn
    · exact .inr (weights_all_mem h n hn)
/-- One vector among other fields. -/
theorem open_vec {H : Type} {enc : TypeId × Value → H} {W : World} {n : Nat} {cs : List Value} {y : DataW H × List MemPlace} (h : DataW.trod enc Try.prog W 0 (fun _ => true) true n 24 cs = some y) (hw : ∀ k ∈ y.1.weights Try.prog 24, k ≤ reachBytes) :
    ∃ x : Vc, cs = [x.v] ∧ x.ok W W.heap.size ∧ Fit x.l := by
  obtain ⟨d, p⟩ := y
  rcases open_slice Try.underlying24 h with ⟨hcs, _⟩ | ⟨x, len, cap, m, n', Dd, Pl, hcs, _, hl, hm, hmm, hx, hel⟩
  · exact ⟨⟨none, 0, []⟩, hcs, nil_ok _ _, by simp [Fit]⟩
  · simp only [if_true] at hmm
    subst hmm
    simp only [Prod.mk.injEq] at hx
    obtain ⟨l, e1, e2, e3⟩ := open_dots (len := len) (fun i hi => by obtain ⟨cs', h1, h2⟩ := hel i hi; exact ⟨cs', h1, _, h2⟩) hl
    subst e1
    refine ⟨⟨some x, m, l⟩, hcs, ⟨e2, hl, by unfold maxLen at hm; show m ≤ _; omega, ?_⟩, e3⟩
    have h1 := hw (((List.range l.length).map Dd).length + ((List.range (m - l.length)).map fun j => Dd (l.length + j)).length |>.mul (Try.prog.bytesOf 23)) (by rw [hx.1]; simp only [DataW.weights, Try.underlying24]; exact List.mem_cons_self ..)
    rw [bytes24] at h1
    simp only [List.length_map, List.length_range, reachBytes, Nat.mul_eq] at h1
    show l.length ≤ _
    omega
theorem cells26 : Try.prog.cellsOf 26 = 8 := by kernel_rfl
theorem cells3 : Try.prog.cellsOf 3 = 1 := by kernel_rfl
theorem cellsV : Try.prog.cellsOf 24 = 1 := by kernel_rfl
theorem bytesOp : Try.prog.bytesOf 26 = 120 := by kernel_rfl
theorem fields26 : ∃ f0 f1 f2 f3 f4 f5 f6 : Field, Try.prog.underlying 26 = some (.struct #[f0, f1, f2, f3, f4, f5, f6]) ∧ (f0.type = 23 ∧ f0.offset = 0) ∧ (f1.type = 24 ∧ f1.offset = 2) ∧ (f2.type = 9 ∧ f2.offset = 3) ∧ (f3.type = 3 ∧ f3.offset = 4) ∧ (f4.type = 9 ∧ f4.offset = 5) ∧ (f5.type = 2 ∧ f5.offset = 6) ∧ (f6.type = 24 ∧ f6.offset = 7) :=
  ⟨_, _, _, _, _, _, _, Try.underlying26, ⟨rfl, rfl⟩, ⟨rfl, rfl⟩, ⟨rfl, rfl⟩, ⟨rfl, rfl⟩, ⟨rfl, rfl⟩, ⟨rfl, rfl⟩, ⟨rfl, rfl⟩⟩
set_option maxRecDepth 100000 in
theorem open_op8 {H : Type} {enc : TypeId × Value → H} {W : World} {n : Nat} {cs : List Value} {y : DataW H × List MemPlace} (h : DataW.trod enc Try.prog W 0 (fun _ => true) true n 26 cs = some y) (hlen : cs.length = 8) (hw : ∀ k ∈ y.1.weights Try.prog 26, k ≤ reachBytes) :
    ∃ x : Ov, cs = x.cells.toList ∧ x.ok W W.heap.size := by
  obtain ⟨f0, f1, f2, f3, f4, f5, f6, hu, ⟨t0, o0⟩, ⟨t1, o1⟩, ⟨t2, o2⟩, ⟨t3, o3⟩, ⟨t4, o4⟩, ⟨t5, o5⟩, ⟨t6, o6⟩⟩ := fields26
  obtain ⟨xs, m, _, rfl, _, hl, hf⟩ := DataW.trod_struct hu h
  have hl : xs.length = 7 := by simpa using hl
  match cs, hlen, xs, hl with
  | [v0, v1, v2, v3, v4, v5, v6, v7], _, [y0, y1, y2, y3, y4, y5, y6], _ =>
    have hwt : ∀ j t (d : DataW H), ([f0, f1, f2, f3, f4, f5, f6].map (·.type))[j]? = some t → ([y0, y1, y2, y3, y4, y5, y6].map (·.1))[j]? = some d → ∀ k ∈ d.weights Try.prog t, k ≤ reachBytes := fun j t d ht hd k hk => hw k (by
      simp only [DataW.weights, hu]
      exact DataW.weights_mem_each ht hd k hk)
    have h0 := hf 0 f0 rfl
    have h1 := hf 1 f1 rfl
    have h2 := hf 2 f2 rfl
    have h3 := hf 3 f3 rfl
    have h4 := hf 4 f4 rfl
    have h5 := hf 5 f5 rfl
    have h6 := hf 6 f6 rfl
    rw [t0, o0, cells24] at h0
    rw [t1, o1, cellsV] at h1
    rw [t2, o2, cells9] at h2
    rw [t3, o3, cells3] at h3
    rw [t4, o4, cells9] at h4
    rw [t5, o5, cells2] at h5
    rw [t6, o6, cellsV] at h6
    obtain ⟨dd, hdd, e0⟩ := open_cells h0 rfl
    obtain ⟨x1, e1, ok1, fit1⟩ := open_vec h1 (hwt 1 _ _ (by simp [t1]) rfl)
    obtain ⟨s2, e2, _, hs2⟩ := DataW.trod_string Try.underlying9 h2
    obtain ⟨z3, e3, _, _⟩ := DataW.trod_int Try.underlying3 h3
    obtain ⟨s4, e4, _, hs4⟩ := DataW.trod_string Try.underlying9 h4
    obtain ⟨z5, e5, _, _⟩ := DataW.trod_int Try.underlying2 h5
    obtain ⟨x6, e6, ok6, fit6⟩ := open_vec h6 (hwt 6 _ _ (by simp [t6]) rfl)
    simp at e0 e1 e2 e3 e4 e5 e6
    obtain ⟨e0, e0'⟩ := e0
    refine ⟨⟨⟨dd, x1.l, s2, z3, s4, z5, x6.l⟩, x1.A, x1.c, x6.A, x6.c⟩, ?_, ⟨ok1, ok6, ⟨fit1, fit6, hdd, by unfold maxLen at hs2; show s2.size ≤ _; omega, by unfold maxLen at hs4; show s4.size ≤ _; omega⟩⟩⟩
    simp only [Ov.cells]
    rw [e0, e0', e1, e2, e3, e4, e5, e6]
    rfl
set_option maxRecDepth 100000 in
/-- An operation that came in. -/
theorem openOp {H : Type} {enc : TypeId × Value → H} {W : World} {base : Nat} {v : Value} {d : DataW H} {p : List MemPlace} (hv : Value.okWide Try.prog W .any base 26 v) (h : DataW.Trod enc Try.prog W 0 (fun _ => true) true 26 v d p) (hw : ∀ k ∈ d.weights Try.prog 26, k ≤ reachBytes) :
    ∃ x : Ov, v = x.v ∧ x.ok W W.heap.size := by
  obtain ⟨f0, f1, f2, f3, f4, f5, f6, hu, _⟩ := fields26
  obtain ⟨cs, rfl, hsz⟩ := okWide_struct hu hv
  rw [cells26] at hsz
  obtain ⟨l⟩ := cs
  obtain ⟨fuel, hf⟩ := h
  obtain ⟨x, hx, ok⟩ := open_op8 hf (by simpa [Value.cells] using hsz) hw
  simp only [Value.cells] at hx
  exact ⟨x, by rw [hx]; rfl, ok⟩
/-- An operation's eight cells. -/
structure OpAt (w : World) (b o : Nat) (x : Ov) : Prop where
  c0 : w.cell? ⟨b, o, none⟩ = some (.string x.o.dot.1)
  c1 : w.cell? ⟨b, o + 1, none⟩ = some (.int .i64 x.o.dot.2)
  c2 : w.cell? ⟨b, o + 2, none⟩ = some (.slice x.A x.o.deps.length x.c)
  c3 : w.cell? ⟨b, o + 3, none⟩ = some (.string x.o.cart)
  c4 : w.cell? ⟨b, o + 4, none⟩ = some (.int .i64 x.o.kind)
  c5 : w.cell? ⟨b, o + 5, none⟩ = some (.string x.o.item)
  c6 : w.cell? ⟨b, o + 6, none⟩ = some (.int .i64 x.o.qty)
  c7 : w.cell? ⟨b, o + 7, none⟩ = some (.slice x.A2 x.o.seen.length x.c2)
theorem OpAt.keep {w w' : World} {b o : Nat} {x : Ov} (h : OpAt w b o x) (hk : ∀ i v, w.cell? ⟨b, i, none⟩ = some v → w'.cell? ⟨b, i, none⟩ = some v) : OpAt w' b o x :=
  ⟨hk _ _ h.c0, hk _ _ h.c1, hk _ _ h.c2, hk _ _ h.c3, hk _ _ h.c4, hk _ _ h.c5, hk _ _ h.c6, hk _ _ h.c7⟩
/-- A slice of operations' cells. -/
def RowO (w : World) (B : Nat) (A : Option Addr) (l : List Ov) : Prop := 0 < l.length → ∃ b off, A = some ⟨b, off, none⟩ ∧ b < B ∧ ∀ j x, l[j]? = some x → OpAt w b (off + j * 8) x
theorem RowO.below {w w' : World} {B : Nat} {A : Option Addr} {l : List Ov} (h : RowO w B A l) (hb : Below B w w') : RowO w' B A l := fun hn => by
  obtain ⟨b, off, e, hl, hc⟩ := h hn
  exact ⟨b, off, e, hl, fun j x hj => (hc j x hj).keep fun i v hv => (hb.cell (p := ⟨b, i, none⟩) hl).trans hv⟩
theorem RowO.more {w : World} {B B' : Nat} {A : Option Addr} {l : List Ov} (h : RowO w B A l) (hB : B ≤ B') : RowO w B' A l := fun hn => by obtain ⟨b, off, e, hb, hc⟩ := h hn; exact ⟨b, off, e, by omega, hc⟩
theorem RowO.up {w w' : World} {A : Option Addr} {l : List Ov} (h : RowO w w.heap.size A l) (hb : Below w.heap.size w w') : RowO w' w'.heap.size A l := (h.below hb).more hb.size
theorem RowO.take {w : World} {B : Nat} {A : Option Addr} {l : List Ov} (h : RowO w B A l) (k : Nat) : RowO w B A (l.take k) := fun hn => by
  obtain ⟨b, off, e, hb, hc⟩ := h (by rw [List.length_take] at hn; omega)
  refine ⟨b, off, e, hb, fun j x hj => hc j x ?_⟩
  rw [List.getElem?_take] at hj
  split at hj
  · exact hj
  · cases hj
set_option maxRecDepth 100000 in
/-- A slice of operations that came in. -/
theorem openOps {H : Type} {enc : TypeId × Value → H} {W : World} {a : Option Addr} {len cap : Nat} {d : DataW H} {p : List MemPlace} (h : DataW.Trod enc Try.prog W 0 (fun _ => true) true 36 (.slice a len cap) d p) (hw : ∀ k ∈ d.weights Try.prog 36, k ≤ reachBytes) :
    ∃ l : List Ov, len = l.length ∧ RowO W W.heap.size a l ∧ (∀ x ∈ l, x.ok W W.heap.size) ∧ l.length ≤ cap ∧ cap ≤ 9223372036854775807 ∧ l.length ≤ 10000000000000 := by
  obtain ⟨fuel, hf⟩ := h
  rcases open_slice Try.underlying36 hf with ⟨hcs, _⟩ | ⟨x, l, c, m, n, Dd, Pl, hcs, _, hl, hm, hmm, hx, hel⟩
  · simp [Value.cells] at hcs
    obtain ⟨rfl, rfl, rfl⟩ := hcs
    exact ⟨[], rfl, fun h => absurd h (by simp), by simp, by simp, by omega, by simp⟩
  · simp [Value.cells] at hcs
    obtain ⟨rfl, rfl, rfl⟩ := hcs
    simp only [if_true] at hmm
    subst hmm
    simp only [Prod.mk.injEq] at hx
    have h1 := hw (((List.range len).map Dd).length + ((List.range (m - len)).map fun j => Dd (len + j)).length |>.mul (Try.prog.bytesOf 26)) (by rw [hx.1]; simp only [DataW.weights, Try.underlying36]; exact List.mem_cons_self ..)
    rw [bytesOp] at h1
    simp only [List.length_map, List.length_range, reachBytes, Nat.mul_eq] at h1
    have each : ∀ i, i < len → ∃ q : Ov, (∀ k, k < 8 → W.cell? ((x.add (i * 8)).add k) = q.cells[k]?) ∧ q.ok W W.heap.size := by
      intro i hi
      obtain ⟨cs', g1, g2⟩ := hel i (by omega)
      rw [cells26] at g1
      obtain ⟨_, hlen, hcell⟩ := World.cells?_some g1
      obtain ⟨q, hq, ho⟩ := open_op8 g2 hlen (fun k hk => hw k (by
        rw [hx.1]
        simp only [DataW.weights, Try.underlying36]
        exact List.mem_cons_of_mem _ (List.mem_append.2 (.inl (weights_all_mem (List.mem_map.2 ⟨i, List.mem_range.2 hi, rfl⟩) k hk)))))
      subst hq
      exact ⟨q, fun k hk => by rw [hcell k hk]; simp, ho⟩
    haveI : Inhabited Ov := ⟨⟨⟨(⟨#[]⟩, 0), [], ⟨#[]⟩, 0, ⟨#[]⟩, 0, []⟩, none, 0, none, 0⟩⟩
    obtain ⟨q, hq⟩ := choose_lt each
    refine ⟨(List.range len).map q, by simp, fun hpos => ?_, ?_, by simpa using hl, by unfold maxLen at hm; omega, by simp; omega⟩
    · rw [List.length_map, List.length_range] at hpos
      have hc0 : W.cell? ((x.add (0 * 8)).add 0) = some (.string (q 0).o.dot.1) := (hq 0 hpos).1 0 (by omega)
      rw [Go.Deep.add_add] at hc0
      obtain ⟨b, off, spot⟩ := x
      have hspot : spot = none := by simpa [Addr.add] using World.cell?_spot hc0
      subst hspot
      have hadd : ∀ j, (⟨b, off, none⟩ : Addr).add j = ⟨b, off + j, none⟩ := fun j => by
        unfold Addr.add; split
        · rename_i h; subst h; rfl
        · rfl
      simp only [Go.Deep.add_add, hadd] at hq hc0
      refine ⟨b, off, rfl, World.block_lt_of_cell? W _ hc0, fun j r hj => ?_⟩
      obtain ⟨hj1, hj2⟩ := List.getElem?_eq_some_iff.1 hj
      rw [List.length_map, List.length_range] at hj1
      simp only [List.getElem_map, List.getElem_range] at hj2
      subst hj2
      have hk := (hq j hj1).1
      try simp only [← Nat.add_assoc] at hk
      exact ⟨hk 0 (by omega), hk 1 (by omega), hk 2 (by omega), hk 3 (by omega), hk 4 (by omega), hk 5 (by omega), hk 6 (by omega), hk 7 (by omega)⟩
    · intro y hy
      obtain ⟨i, hi, rfl⟩ := List.mem_map.1 hy
      exact (hq i (List.mem_range.1 hi)).2
end Go.Proofs.Ytdffifkleaekhaa.O
