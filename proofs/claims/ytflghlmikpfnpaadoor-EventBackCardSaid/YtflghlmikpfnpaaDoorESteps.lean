/-
  Steps in memory; the reference's steps, Means.
-/
import Derived.Test.YtflghlmikpfnpaaDoorERight
import Derived.Test.YtflghlmikpfnpaaDoorESMath
namespace Go.Proofs.YtflghlmikpfnpaaDoor.E
open Go.RowKit

/-- An append whose run is known. -/
theorem wpList_append_run {P : Program} {w w' : World} {v' : Value} {ops : Array Oper} {rest : List Oper} {o : Oper} {a : Act} {Q : Exit → Act → World → Prop} (hgd : o.guard = none) (s x : Operand) (t u : TypeId)
    (ho : o.op = .call { callee := .builtin .append, args := #[s, x], argTypes := #[t, u] }) (vs vx : Value) (hs : a.eval s = vs) (hx : a.eval x = vx) (hrun : (Builtin.append_ #[t, u] o.type #[vs, vx]).run P w = .ok v' w')
    (h : wpList P ops Q rest (a.put o.dst v') w') : wpList P ops Q (o :: rest) a w :=
  wpList_plain hgd fun _ hK => by
    unfold Oper.wp execOp
    simp only [ho, resolve, invoke, builtin, Sem.run_bind, Sem.run_pure, Result.andThen_ok, List.map_toArray, List.map_cons, List.map_nil, hs, hx, hrun]
    exact hK _ _ h

/-- Ranges as cells; a slice of ranges of the call's own, nil if it holds none. -/
def cellsR (l : List St) : List Value := l.flatMap fun r => [.int .u64 (r.1 : Int), .int .i64 r.2]
theorem cellsR_length (l : List St) : (cellsR l).length = l.length * 2 := by
  induction l with
  | nil => rfl
  | cons p t ih => simp [cellsR] at ih ⊢; omega
theorem cellsR_get : ∀ (l : List St) (j : Nat) (r : St), l[j]? = some r → (cellsR l)[j * 2]? = some (.int .u64 (r.1 : Int)) ∧ (cellsR l)[j * 2 + 1]? = some (.int .i64 r.2)
  | [], j, p, h => by simp at h
  | q :: t, 0, p, h => by simp at h; subst h; simp [cellsR]
  | q :: t, j + 1, p, h => by
    have ih := cellsR_get t j p (by simpa using h)
    have e : cellsR (q :: t) = .int .u64 (q.1 : Int) :: .int .i64 q.2 :: cellsR t := by simp [cellsR]
    rw [e, show (j + 1) * 2 = j * 2 + 1 + 1 by omega]
    simp only [List.getElem?_cons_succ]
    exact ih
/-- A slice of ranges that reads as l and lies below block B. -/
def RowR (w : World) (B : Nat) (A : Option Addr) (l : List St) : Prop :=
  0 < l.length → ∃ b off, A = some ⟨b, off, none⟩ ∧ b < B ∧ ∀ j r, l[j]? = some r → w.cell? ⟨b, off + j * 2, none⟩ = some (.int .u64 (r.1 : Int)) ∧ w.cell? ⟨b, off + j * 2 + 1, none⟩ = some (.int .i64 r.2)
theorem RowR.keep {w w' : World} {B : Nat} {A : Option Addr} {l : List St} (h : RowR w B A l) (hk : ∀ p : Addr, p.block < B → w'.cell? p = w.cell? p) : RowR w' B A l :=
  fun hn => by obtain ⟨b, off, e, hb, hc⟩ := h hn; exact ⟨b, off, e, hb, fun j p hj => ⟨(hk _ hb).trans (hc j p hj).1, (hk _ hb).trans (hc j p hj).2⟩⟩
theorem RowR.below {w w' : World} {B : Nat} {A : Option Addr} {l : List St} (h : RowR w B A l) (hb : Below B w w') : RowR w' B A l := h.keep fun _ hp => hb.cell hp
theorem RowR.more {w : World} {B B' : Nat} {A : Option Addr} {l : List St} (h : RowR w B A l) (hB : B ≤ B') : RowR w B' A l := fun hn => by obtain ⟨b, off, e, hb, hc⟩ := h hn; exact ⟨b, off, e, by omega, hc⟩
theorem RowR.up {w w' : World} {A : Option Addr} {l : List St} (h : RowR w w.heap.size A l) (hb : Below w.heap.size w w') : RowR w' w'.heap.size A l := (h.below hb).more hb.size
def GrR (w : World) (base : Nat) (A : Option Addr) (c : Nat) (l : List St) : Prop := w.ownsRow base 90 2 (.slice A l.length c) l.length (cellsR l)
theorem GrR.nil (w : World) (base : Nat) : GrR w base none 0 [] := ⟨by simp [cellsR], .inl ⟨rfl, rfl⟩⟩
theorem GrR.cases {w : World} {base : Nat} {A : Option Addr} {c : Nat} {l : List St} (h : GrR w base A c l) : (A = none ∧ l = [] ∧ c = 0) ∨ ∃ g cur, A = some ⟨g, 0, none⟩ ∧ base ≤ g ∧ w.heap[g]? = some (.cells cur 90 (0, 0)) ∧ l.length ≤ c ∧ c ≤ maxLen ∧ cur.size = c * 2 ∧ cur.toList.take (l.length * 2) = cellsR l := by
  rcases h.2 with ⟨e, h0⟩ | ⟨g, cap, cur, e, hb, hc, h1, h2, h3, h4⟩
  · injection e with e1 e2 e3
    exact .inl ⟨e1, List.eq_nil_of_length_eq_zero e2, e3⟩
  · injection e with e1 e2 e3
    subst e1; subst e3
    exact .inr ⟨g, cur, rfl, hb, hc, h1, h2, h3, h4⟩
theorem GrR.row {w : World} {base c : Nat} {A : Option Addr} {l : List St} (h : GrR w base A c l) : RowR w w.heap.size A l := by
  rcases h.cases with ⟨rfl, rfl, rfl⟩ | ⟨g, cur, rfl, hb, hc, h1, h2, h3, h4⟩
  · intro hn; simp at hn
  · refine fun _ => ⟨g, 0, rfl, (Array.getElem?_eq_some_iff.1 hc).1, fun j p hp => ?_⟩
    have hj := (List.getElem?_eq_some_iff.1 hp).1
    have hcell : ∀ k, k < l.length * 2 → w.cell? ⟨g, k, none⟩ = (cellsR l)[k]? := fun k hk => by
      rw [cell_of_row w g k cur 90 (0, 0) hc, ← h4, List.getElem?_take, if_pos hk]; simp
    obtain ⟨g0, g1⟩ := cellsR_get l j p hp
    refine ⟨?_, ?_⟩
    · rw [Nat.zero_add, hcell _ (by omega), g0]
    · rw [Nat.zero_add, hcell _ (by omega), g1]
theorem GrR.own {w : World} {base c : Nat} {A : Option Addr} {l : List St} (h : GrR w base A c l) : ∀ k, (Value.slice A l.length c).ownBlock = some k → base ≤ k ∧ k < w.heap.size := by
  rcases h.cases with ⟨rfl, rfl, rfl⟩ | ⟨g, cur, rfl, hb, hc, _⟩
  · intro k e; simp [Value.ownBlock] at e
  · intro k e
    simp only [Value.ownBlock, Option.some.injEq] at e
    subst e
    exact ⟨hb, (Array.getElem?_eq_some_iff.1 hc).1⟩
theorem GrR.below {w w' : World} {base c B : Nat} {A : Option Addr} {l : List St} (h : GrR w base A c l) (hb : Below B w w') (hB : w.heap.size ≤ B) : GrR w' base A c l := by
  refine ⟨h.1, ?_⟩
  rcases h.2 with ⟨e, h0⟩ | ⟨g, cap, cur, e, hb', hc, h1⟩
  · exact .inl ⟨e, h0⟩
  · have := (Array.getElem?_eq_some_iff.1 hc).1
    exact .inr ⟨g, cap, cur, e, hb', (hb.block g (by omega)).trans hc, h1⟩
theorem info90 : (Tryd.prog.info? 90).map (fun i => (i.zero, i.size, i.bytes)) = some (some (.agg #[.int .u64 0, .int .i64 0]), 2, 16) := by kernel_rfl
theorem oneCell_cellsR (l : List St) : ∀ v ∈ cellsR l, v.oneCell' = true := by
  intro v hv
  obtain ⟨p, _, h⟩ := List.mem_flatMap.1 hv
  simp only [List.mem_cons, List.not_mem_nil, or_false] at h
  rcases h with rfl | rfl <;> rfl
/-- Whatever is not a row of ranges lies as it lay. -/
def Fr (w w' : World) : Prop := ∀ (k : Nat) (o : Obj), w.heap[k]? = some o → (∀ cs fr, o ≠ .cells cs 90 fr) → w'.heap[k]? = some o
theorem Fr.refl (w : World) : Fr w w := fun _ _ h _ => h
theorem Fr.trans {a b c : World} (h : Fr a b) (g : Fr b c) : Fr a c := fun k o hk ho => g k o (h k o hk ho) ho
theorem Fr.alloc (w : World) (x : Obj) : Fr w (w.alloc x) := fun k _ hk _ => (Below.heap_alloc w x k (Array.getElem?_eq_some_iff.1 hk).1).trans hk
theorem Fr.cell {w w' : World} (h : Fr w w') {k : Nat} {cs : Array Value} {t : TypeId} (hk : w.heap[k]? = some (.cells cs t (0, 0))) (ht : t ≠ 90) : w'.heap[k]? = some (.cells cs t (0, 0)) := h k _ hk (fun cs' fr e => by injection e with _ e2 _; exact ht e2)
theorem GrR.fr {w w' : World} {base c : Nat} {A : Option Addr} {l : List St} (h : GrR w base A c l) (hg : w.grownBy w' (Value.slice A l.length c).ownBlock) : Fr w w' := fun k o hk ho => by
  refine (hg.block k (Array.getElem?_eq_some_iff.1 hk).1 (fun e => ?_)).trans hk
  rcases h.cases with ⟨rfl, h2, rfl⟩ | ⟨g, cur, rfl, _, hc, _⟩
  · simp [Value.ownBlock] at e
  · obtain rfl : k = g := by simpa [Value.ownBlock] using e
    rw [hc] at hk
    injection hk with hk
    exact ho cur (0, 0) hk.symm
/-- append(out, r): one range, in a block of its own. -/
theorem GrR.one {w : World} {base c : Nat} {A : Option Addr} {l : List St} (h : GrR w base A c l) (r : St) (ty : TypeId) (hb : l.length ≤ 10000000) (hbase : base ≤ w.heap.size) :
    ∃ A' c' w', (Builtin.append_ #[49, 49] ty #[.slice A l.length c, .slice (some ⟨w.heap.size, 0, none⟩) 1 1]).run Tryd.prog (w.alloc (.cells #[.int .u64 (r.1 : Int), .int .i64 r.2] 90)) = .ok (.slice A' (l.length + 1) c') w' ∧ GrR w' base A' c' (l ++ [r]) ∧ Below base w w' ∧ Fr w w' := by
  obtain ⟨i0, hi, hz0, hz1, hz2⟩ := info_parts info90
  have hB0 : Below base w (w.alloc (.cells #[.int .u64 (r.1 : Int), .int .i64 r.2] 90)) := (Below.refl _ w).alloc hbase _
  have hBt : Below w.heap.size w (w.alloc (.cells #[.int .u64 (r.1 : Int), .int .i64 r.2] 90)) := (Below.refl _ w).alloc (Nat.le_refl _) _
  have hcell : ∀ j u, (cellsR [r])[j]? = some u → (w.alloc (.cells #[.int .u64 (r.1 : Int), .int .i64 r.2] 90)).cell? ((⟨w.heap.size, 0, none⟩ : Addr).add j) = some u := by
    intro j u hu
    have e : (⟨w.heap.size, 0, none⟩ : Addr).add j = ⟨w.heap.size, j, none⟩ := by
      unfold Addr.add; split
      · rename_i h; subst h; rfl
      · simp
    rw [e, cell_of_row _ _ j _ 90 (0, 0) (heap_alloc_new w _)]
    simpa [cellsR] using hu
  obtain ⟨v', w', hrun, ho, hg, hn⟩ := run_append_own_wide (P := Tryd.prog) (w.alloc (.cells #[.int .u64 (r.1 : Int), .int .i64 r.2] 90)) base 49 ty 90 i0 (.agg #[.int .u64 0, .int .i64 0]) 2 16 Tryd.underlying49 hi hz0 hz1 hz2 rfl (by decide) _ _ _ (h.below hBt (Nat.le_refl _)) _ 1 1 (cellsR [r]) (by simp [cellsR]) hcell (oneCell_cellsR [r]) (by unfold maxLen; omega) (by omega) (by simp; omega)
  have hB : Below base w w' := hB0.grown hg (by simp; omega) (fun k e => (h.own k e).1)
  have e2 : cellsR (l ++ [r]) = cellsR l ++ cellsR [r] := by simp [cellsR]
  have e3 : (l ++ [r]).length = l.length + 1 := by simp
  rcases ho.2 with ⟨e, h0⟩ | ⟨g', cap', cur, e, _⟩
  · omega
  · rw [e] at hrun ho
    exact ⟨_, _, w', hrun, by unfold GrR; rw [e2, e3]; exact ho, hB, (Fr.alloc w _).trans ((h.below hBt (Nat.le_refl _)).fr hg)⟩
def LaysR (l : List St) (base : Nat) (w : World) (e : Ending) (w' : World) : Prop := ∃ A c, e = .returned (.slice A l.length c) ∧ GrR w' base A c l ∧ Below base w w' ∧ Fr w w'


/-- A variable of two cells that is no row of steps. -/
theorem Fr.at2 {w w' : World} (h : Fr w w') {g : Nat} {u v : Value} (hb : w.heap[g]? = some (.cells #[u, v] 24 (0, 0))) : w'.cell? ⟨g, 0, none⟩ = some u ∧ w'.cell? ⟨g, 1, none⟩ = some v := by
  have h2 := h.cell hb (by decide)
  exact ⟨by rw [cell_of_row w' g 0 _ 24 (0, 0) h2]; rfl, by rw [cell_of_row w' g 1 _ 24 (0, 0) h2]; rfl⟩

set_option maxRecDepth 100000 in
set_option maxHeartbeats 3200000 in
theorem steps_any : ∀ (t : Tr) (k n a : Nat) (s : Int) (A : Option Addr) (c : Nat) (l : List St) (base : Nat) (v : Value) (w : World), t.depth ≤ k → n = 2 ^ k → a + n ≤ 1000000000000 → l.length + t.nodes ≤ 1000000 → 0 ≤ s → s ≤ 4611686018427387904 → t.okc (4611686018427387904 - s) = true → InT w base t v → GrR w base A c l → base ≤ w.heap.size →
    Calls Tryd.prog 72 #[.slice A l.length c, v, .int .u64 (a : Int), .int .u64 (n : Int), .int .i64 s] w (LaysR (l ++ stepsT t a n s) base w) := by
  intro t
  induction t with
  | leaf o =>
    rintro k n a s A c l base v w hd hn ha hl hs hs2 hok ⟨A1, c1, rfl⟩ hg hbase
    have ho := okc_N _ _ hok
    simp only [Tr.N] at ho
    unfold tv
    have HR : Hid (l ++ stepsT (.leaf o) a n s = l ++ [(a + n, s + o)]) := rfl
    have hb0 : Below w.heap.size w (w.alloc (.cells #[.int .i64 o, .slice A1 0 c1] 24)) := (Below.refl _ w).alloc (Nat.le_refl _) _
    obtain ⟨A2, c2, w2, hap, hg2, hb2, hf2⟩ := (hg.below hb0 (Nat.le_refl _)).one (a + n, s + o) 49 (by simp [Tr.nodes] at hl; omega) (by simp; omega)
    simp only [World.size_alloc, show ((a + n : Nat) : Int) = (a : Int) + (n : Int) by omega] at hap
    have HAP := Lib.hid hap
    have HG2 := Lib.hid hg2
    have HB2 : Hid (Below base w w2) := ((Below.refl _ w).alloc hbase _).trans hb2
    have HF2 : Hid (Fr w w2) := (Fr.alloc w _).trans hf2
    clear hn hg hap hg2 hb2 hf2 hb0 hok
    go_enter Tryd.func72, Tryd.ntmps72
    go_wp2_with (at_builtin; refine wpList_append_run rfl _ _ _ _ rfl _ _ rfl rfl HAP.out ?_; clear HAP)
    go_ret
    refine ⟨A2, c2, ?_, ?_, HB2.out, HF2.out⟩
    · rw [HR.out, List.length_append]; rfl
    · rw [HR.out]; exact HG2.out
  | node o x y ihx ihy =>
    rintro k n a s A c l base v w hd hn ha hl hs hs2 hok ⟨b, off, c1, rfl, hb, ⟨o1, A1, n1, d1, e1, e2, e3⟩, ⟨o2, A2, n2, d2, g1, g2, g3⟩⟩ hg hbase
    have hb : b < base := hb
    unfold tv
    simp only [Tr.okc, Bool.and_eq_true_iff, decide_eq_true_eq] at hok
    have es : (4611686018427387904 : Int) - (s + o) = 4611686018427387904 - s - o := by omega
    obtain ⟨k, rfl⟩ : ∃ k', k = k' + 1 := ⟨k - 1, by simp only [Tr.depth] at hd; omega⟩
    obtain ⟨h, hh⟩ : ∃ h, 2 ^ k = h := ⟨_, rfl⟩
    have hn2 : n = h * 2 := by rw [hn, Nat.pow_succ, hh]
    have hq : (n : Int).tdiv 2 = (h : Int) := by rw [Int.tdiv_eq_ediv_of_nonneg (by omega)]; omega
    have hwh : IntKind.u64.wrap (h : Int) = (h : Int) := by rw [IntKind.wrap_u64]; omega
    have hwa : IntKind.u64.wrap ((a : Int) + (h : Int)) = (a : Int) + (h : Int) := by rw [IntKind.wrap_u64]; omega
    have hws : IntKind.i64.wrap (s + o) = s + o := wrap_id (by omega) (by omega)
    simp only [Tr.depth] at hd
    simp only [Tr.nodes] at hl
    have HR : Hid (l ++ stepsT (.node o x y) a n s = (l ++ stepsT x a h (s + o)) ++ stepsT y (a + h) h (s + o)) := by
      show _ = _
      simp only [stepsT, show n / 2 = h by omega, List.append_assoc]
    have hlx : (stepsT x a h (s + o)).length ≤ x.nodes := steps_len x a h (s + o)
    obtain ⟨W0, hW0⟩ : ∃ W0, w.alloc (.cells #[.int .i64 o, .slice (some ⟨b, off, none⟩) 2 c1] 24) = W0 := ⟨_, rfl⟩
    have hB0 : Below base w W0 := by rw [← hW0]; exact (Below.refl _ w).alloc hbase _
    have hBt : Below w.heap.size w W0 := by rw [← hW0]; exact (Below.refl _ w).alloc (Nat.le_refl _) _
    have hbox : W0.heap[w.heap.size]? = some (.cells #[.int .i64 o, .slice (some ⟨b, off, none⟩) 2 c1] 24 (0, 0)) := by rw [← hW0]; exact heap_alloc_new w _
    have HC1 : Hid (Calls Tryd.prog 72 #[.slice A l.length c, .agg #[.int .i64 o1, .slice A1 n1 d1], .int .u64 (a : Int), .int .u64 (h : Int), .int .i64 (s + o)] W0.drew (LaysR (l ++ stepsT x a h (s + o)) base W0.drew)) := ihx k h a (s + o) A c l base (tv o1 A1 n1 d1) W0.drew (by omega) hh.symm (by omega) (by omega) (by omega) (by omega) (by rw [es]; exact hok.2.1) (e3.below hB0.drew) (hg.below hBt.drew (Nat.le_refl _)) (by have := hBt.size; show base ≤ W0.heap.size; omega)
    have HC2 : Hid (∀ W A3 c3 L, Below base w W → L.length ≤ l.length + x.nodes → GrR W base A3 c3 L → Calls Tryd.prog 72 #[.slice A3 L.length c3, .agg #[.int .i64 o2, .slice A2 n2 d2], .int .u64 ((a : Int) + (h : Int)), .int .u64 (h : Int), .int .i64 (s + o)] W (LaysR (L ++ stepsT y (a + h) h (s + o)) base W)) := fun W A3 c3 L hW hL hG => by
      have := ihy k h (a + h) (s + o) A3 c3 L base (tv o2 A2 n2 d2) W (by omega) hh.symm (by omega) (by omega) (by omega) (by omega) (by rw [es]; exact hok.2.2) (g3.below hW) hG (Nat.le_trans hbase hW.size)
      simpa only [tv, show ((a + h : Nat) : Int) = (a : Int) + (h : Int) by omega] using this
    obtain ⟨L, hL⟩ : ∃ L, l ++ stepsT x a h (s + o) = L := ⟨_, rfl⟩
    have hLl : L.length ≤ l.length + x.nodes := by rw [← hL, List.length_append]; omega
    rw [hL] at HC1 HR
    have HFC : Hid (∀ W, (Below base w W ∧ Fr W0 W) → W.cell? ⟨w.heap.size, 0, none⟩ = some (.int .i64 o) ∧ W.cell? ⟨w.heap.size, 1, none⟩ = some (.slice (some ⟨b, off, none⟩) 2 c1) ∧ W.cell? ⟨b, off, none⟩ = some (.int .i64 o1) ∧ W.cell? ⟨b, off + 1, none⟩ = some (.slice A1 n1 d1) ∧ W.cell? ⟨b, off + 2, none⟩ = some (.int .i64 o2) ∧ W.cell? ⟨b, off + 2 + 1, none⟩ = some (.slice A2 n2 d2)) := fun W hW => by
      have low : ∀ i, W.cell? ⟨b, i, none⟩ = w.cell? ⟨b, i, none⟩ := fun i => hW.1.cell hb
      exact ⟨(hW.2.at2 hbox).1, (hW.2.at2 hbox).2, (low _).trans e1, (low _).trans e2, (low _).trans g1, (low _).trans g2⟩
    have hS0 : Below base w W0.drew ∧ Fr W0 W0.drew := ⟨hB0.drew, Fr.refl _⟩
    have HBB := Lib.hid hb
    have H2 := Lib.hid hn2
    have HF0 : Hid (Fr w W0) := by show Fr _ _; rw [← hW0]; exact Fr.alloc w _
    have HW0 := Lib.hid hW0
    clear hg ihx ihy hh e1 e2 e3 g1 g2 g3 hB0 hBt hbox hn hL hlx hb hW0 hok
    go_enter Tryd.func72, Tryd.ntmps72
    go_wp2
    rw [HW0.out]
    refine wp_region_held_drew (S := fun W => Below base w W ∧ Fr W0 W) (by kernel_rfl) hS0 (fun hS => ?_)
    clear hS0
    obtain ⟨wd, hwd⟩ : ∃ wd, W0.drew = wd := ⟨_, rfl⟩
    rw [hwd] at hS HC1 ⊢
    refine wpAnyH_take (i := 0) (v := ?_) rfl (by kernel_rfl) (by kernel_rfl) (by kernel_rfl) (fun _ _ _ h => h) (Yields.yieldsIf (Or.inl ⟨by kernel_rfl, ?_⟩)) hS ?_
    rotate_left
    · first | (intro w; go_simp; done) | (intro w; go_simp; with_reducible rfl)
    refine wpAnyH_take (i := 1) (v := ?_) rfl (by kernel_rfl) (by kernel_rfl) (by kernel_rfl) (fun _ _ _ h => h) (Yields.yieldsIf (Or.inl ⟨by kernel_rfl, ?_⟩)) hS ?_
    rotate_left
    · first | (intro w; go_simp; done) | (intro w; go_simp; with_reducible rfl)
    refine wpAnyH_take (i := 2) (v := ?_) rfl (by kernel_rfl) (by kernel_rfl) (by kernel_rfl) (fun _ _ _ h => h) (Or.inl ⟨by kernel_rfl, fun W hW => ?_⟩) hS ?_
    rotate_left
    · obtain ⟨f0, f1, f2, f3, f4, f5⟩ := HFC.out W hW
      first | (go_simp; done) | (go_simp; with_reducible rfl)
    refine wpAnyH_take (i := 3) (v := ?_) rfl (by kernel_rfl) (by kernel_rfl) (by kernel_rfl) (fun _ _ _ h => h) (Yields.yieldsIf (Or.inl ⟨by kernel_rfl, ?_⟩)) hS ?_
    rotate_left
    · first | (intro w; go_simp; done) | (intro w; go_simp; with_reducible rfl)
    refine wpAnyH_take (i := 4) (v := ?_) rfl (by kernel_rfl) (by kernel_rfl) (by kernel_rfl) (fun _ _ _ h => h) (Or.inl ⟨by kernel_rfl, fun W hW => ?_⟩) hS ?_
    rotate_left
    · obtain ⟨f0, f1, f2, f3, f4, f5⟩ := HFC.out W hW
      first | (go_simp; done) | (go_simp; with_reducible rfl)
    refine wpAnyH_take (i := 5) (v := ?_) rfl (by kernel_rfl) (by kernel_rfl) (by kernel_rfl) (fun _ _ _ h => h) (Yields.yieldsIf (Or.inl ⟨by kernel_rfl, ?_⟩)) hS ?_
    rotate_left
    · first | (intro w; go_simp; done) | (intro w; go_simp; with_reducible rfl)
    refine wpAnyH_take (i := 6) (v := ?_) rfl (by kernel_rfl) (by kernel_rfl) (by kernel_rfl) (fun _ _ _ h => h) (Yields.yieldsIf (Or.inl ⟨by kernel_rfl, ?_⟩)) hS ?_
    rotate_left
    · first | (intro w; go_simp; done) | (intro w; go_simp; with_reducible rfl)
    refine wpAnyH_take (i := 7) (v := ?_) rfl (by kernel_rfl) (by kernel_rfl) (by kernel_rfl) (fun _ _ _ h => h) (Yields.yieldsIf (Or.inl ⟨by kernel_rfl, ?_⟩)) hS ?_
    rotate_left
    · first | (intro w; go_simp; done) | (intro w; go_simp; with_reducible rfl)
    refine wpAnyH_take (i := 8) (v := ?_) rfl (by kernel_rfl) (by kernel_rfl) (by kernel_rfl) (fun _ _ _ h => h) (Yields.yieldsIf (Or.inl ⟨by kernel_rfl, ?_⟩)) hS ?_
    rotate_left
    · first | (intro w; go_simp; done) | (intro w; go_simp; with_reducible rfl)
    refine wpAnyH_take (i := 9) (v := ?_) rfl (by kernel_rfl) (by kernel_rfl) (by kernel_rfl) (fun _ _ _ h => h) (Yields.yieldsIf (Or.inl ⟨by kernel_rfl, ?_⟩)) hS ?_
    rotate_left
    · first | (intro w; go_simp; done) | (intro w; go_simp; with_reducible rfl)
    refine wpAnyH_take (i := 10) (v := ?_) rfl (by kernel_rfl) (by kernel_rfl) (by kernel_rfl) (fun _ _ _ h => h) (Or.inl ⟨by kernel_rfl, fun W hW => ?_⟩) hS ?_
    rotate_left
    · obtain ⟨f0, f1, f2, f3, f4, f5⟩ := HFC.out W hW
      first | (go_simp; done) | (go_simp; with_reducible rfl)
    refine wpAnyH_take (i := 11) (v := ?_) rfl (by kernel_rfl) (by kernel_rfl) (by kernel_rfl) (fun _ _ _ h => h) (Yields.yieldsIf (Or.inl ⟨by kernel_rfl, ?_⟩)) hS ?_
    rotate_left
    · first | (intro w; go_simp; done) | (intro w; go_simp; with_reducible rfl)
    refine wpAnyH_ready (rs := [12]) (by kernel_rfl) (by simp) ?_
    refine AllReadyH.cons rfl (fun K hK => ?_) AllReadyH.nil
    go_simp
    go_wp2_with (go_at_call 72; refine (HC1.out).mono ?_; rintro e w2 ⟨A3, c3, rfl, hg3, hb3, hf3⟩)
    have hS3 : Below base w w2 ∧ Fr W0 w2 := ⟨hS.1.trans hb3, hS.2.trans hf3⟩
    have HG3 := Lib.hid hg3
    clear hb3 hf3 hg3 hS HC1 hwd
    refine hK.out _ _ hS3 (fun hS => ?_)
    clear hK K hS3
    refine wpAnyH_take (i := 13) (v := ?_) rfl (by kernel_rfl) (by kernel_rfl) (by kernel_rfl) (fun _ _ _ h => h) (Yields.yieldsIf (Or.inl ⟨by kernel_rfl, ?_⟩)) hS ?_
    rotate_left
    · first | (intro w; go_simp; done) | (intro w; go_simp; with_reducible rfl)
    refine wpAnyH_done (by kernel_rfl) ?_ _
    have hXD : Below base w w2.drew ∧ Fr W0 w2.drew := ⟨hS.1.drew, hS.2⟩
    have HG4 : Hid (GrR w2.drew base A3 c3 L) := HG3.out.below ((Below.refl w2.heap.size w2).drew) (Nat.le_refl _)
    clear hS HG3
    go_wp2
    refine wp_region_held_drew (S := fun W => Below base w W ∧ Fr W0 W) (by kernel_rfl) hXD (fun hS => ?_)
    clear hXD
    generalize w2.drew = we at hS HG4 ⊢
    refine wpAnyH_take (i := 0) (v := ?_) rfl (by kernel_rfl) (by kernel_rfl) (by kernel_rfl) (fun _ _ _ h => h) (Yields.yieldsIf (Or.inl ⟨by kernel_rfl, ?_⟩)) hS ?_
    rotate_left
    · first | (intro w; go_simp; done) | (intro w; go_simp; with_reducible rfl)
    refine wpAnyH_take (i := 1) (v := ?_) rfl (by kernel_rfl) (by kernel_rfl) (by kernel_rfl) (fun _ _ _ h => h) (Yields.yieldsIf (Or.inl ⟨by kernel_rfl, ?_⟩)) hS ?_
    rotate_left
    · first | (intro w; go_simp; done) | (intro w; go_simp; with_reducible rfl)
    refine wpAnyH_take (i := 2) (v := ?_) rfl (by kernel_rfl) (by kernel_rfl) (by kernel_rfl) (fun _ _ _ h => h) (Or.inl ⟨by kernel_rfl, fun W hW => ?_⟩) hS ?_
    rotate_left
    · obtain ⟨f0, f1, f2, f3, f4, f5⟩ := HFC.out W hW
      first | (go_simp; done) | (go_simp; with_reducible rfl)
    refine wpAnyH_take (i := 3) (v := ?_) rfl (by kernel_rfl) (by kernel_rfl) (by kernel_rfl) (fun _ _ _ h => h) (Yields.yieldsIf (Or.inl ⟨by kernel_rfl, ?_⟩)) hS ?_
    rotate_left
    · first | (intro w; go_simp; done) | (intro w; go_simp; with_reducible rfl)
    refine wpAnyH_take (i := 4) (v := ?_) rfl (by kernel_rfl) (by kernel_rfl) (by kernel_rfl) (fun _ _ _ h => h) (Or.inl ⟨by kernel_rfl, fun W hW => ?_⟩) hS ?_
    rotate_left
    · obtain ⟨f0, f1, f2, f3, f4, f5⟩ := HFC.out W hW
      first | (go_simp; done) | (go_simp; with_reducible rfl)
    refine wpAnyH_take (i := 5) (v := ?_) rfl (by kernel_rfl) (by kernel_rfl) (by kernel_rfl) (fun _ _ _ h => h) (Yields.yieldsIf (Or.inl ⟨by kernel_rfl, ?_⟩)) hS ?_
    rotate_left
    · first | (intro w; go_simp; done) | (intro w; go_simp; with_reducible rfl)
    refine wpAnyH_take (i := 6) (v := ?_) rfl (by kernel_rfl) (by kernel_rfl) (by kernel_rfl) (fun _ _ _ h => h) (Yields.yieldsIf (Or.inl ⟨by kernel_rfl, ?_⟩)) hS ?_
    rotate_left
    · first | (intro w; go_simp; done) | (intro w; go_simp; with_reducible rfl)
    refine wpAnyH_take (i := 7) (v := ?_) rfl (by kernel_rfl) (by kernel_rfl) (by kernel_rfl) (fun _ _ _ h => h) (Yields.yieldsIf (Or.inl ⟨by kernel_rfl, ?_⟩)) hS ?_
    rotate_left
    · first | (intro w; go_simp; done) | (intro w; go_simp; with_reducible rfl)
    refine wpAnyH_take (i := 8) (v := ?_) rfl (by kernel_rfl) (by kernel_rfl) (by kernel_rfl) (fun _ _ _ h => h) (Yields.yieldsIf (Or.inl ⟨by kernel_rfl, ?_⟩)) hS ?_
    rotate_left
    · first | (intro w; go_simp; done) | (intro w; go_simp; with_reducible rfl)
    refine wpAnyH_take (i := 9) (v := ?_) rfl (by kernel_rfl) (by kernel_rfl) (by kernel_rfl) (fun _ _ _ h => h) (Yields.yieldsIf (Or.inl ⟨by kernel_rfl, ?_⟩)) hS ?_
    rotate_left
    · first | (intro w; go_simp; done) | (intro w; go_simp; with_reducible rfl)
    refine wpAnyH_take (i := 10) (v := ?_) rfl (by kernel_rfl) (by kernel_rfl) (by kernel_rfl) (fun _ _ _ h => h) (Yields.yieldsIf (Or.inl ⟨by kernel_rfl, ?_⟩)) hS ?_
    rotate_left
    · first | (intro w; go_simp; done) | (intro w; go_simp; with_reducible rfl)
    refine wpAnyH_take (i := 11) (v := ?_) rfl (by kernel_rfl) (by kernel_rfl) (by kernel_rfl) (fun _ _ _ h => h) (Yields.yieldsIf (Or.inl ⟨by kernel_rfl, ?_⟩)) hS ?_
    rotate_left
    · first | (intro w; go_simp; done) | (intro w; go_simp; with_reducible rfl)
    refine wpAnyH_take (i := 12) (v := ?_) rfl (by kernel_rfl) (by kernel_rfl) (by kernel_rfl) (fun _ _ _ h => h) (Yields.yieldsIf (Or.inl ⟨by kernel_rfl, ?_⟩)) hS ?_
    rotate_left
    · first | (intro w; go_simp; done) | (intro w; go_simp; with_reducible rfl)
    refine wpAnyH_take (i := 13) (v := ?_) rfl (by kernel_rfl) (by kernel_rfl) (by kernel_rfl) (fun _ _ _ h => h) (Or.inl ⟨by kernel_rfl, fun W hW => ?_⟩) hS ?_
    rotate_left
    · obtain ⟨f0, f1, f2, f3, f4, f5⟩ := HFC.out W hW
      first | (go_simp; done) | (go_simp; with_reducible rfl)
    refine wpAnyH_take (i := 14) (v := ?_) rfl (by kernel_rfl) (by kernel_rfl) (by kernel_rfl) (fun _ _ _ h => h) (Yields.yieldsIf (Or.inl ⟨by kernel_rfl, ?_⟩)) hS ?_
    rotate_left
    · first | (intro w; go_simp; done) | (intro w; go_simp; with_reducible rfl)
    refine wpAnyH_ready (rs := [15]) (by kernel_rfl) (by simp) ?_
    refine AllReadyH.cons rfl (fun K hK => ?_) AllReadyH.nil
    go_simp
    go_wp2_with (go_at_call 72; refine (HC2.out we A3 c3 L hS.1 hLl HG4.out).mono ?_; rintro e w4 ⟨A5, c5, rfl, hg5, hb5, hf5⟩)
    have hS3 : Below base w w4 ∧ Fr W0 w4 := ⟨hS.1.trans hb5, hS.2.trans hf5⟩
    have HG5 := Lib.hid hg5
    clear hb5 hf5 hg5 hS HC2 HG4
    refine hK.out _ _ hS3 (fun hS => ?_)
    clear hK K hS3
    refine wpAnyH_take (i := 16) (v := ?_) rfl (by kernel_rfl) (by kernel_rfl) (by kernel_rfl) (fun _ _ _ h => h) (Yields.yieldsIf (Or.inl ⟨by kernel_rfl, ?_⟩)) hS ?_
    rotate_left
    · first | (intro w; go_simp; done) | (intro w; go_simp; with_reducible rfl)
    refine wpAnyH_done (by kernel_rfl) ?_ _
    go_wp2
    go_ret
    refine ⟨A5, c5, ?_, ?_, hS.1, HF0.out.trans hS.2⟩
    · rw [HR.out]; first | rfl | (rw [List.length_append]; rfl)
    · rw [HR.out]; exact HG5.out

set_option maxRecDepth 100000 in
set_option maxHeartbeats 800000 in
theorem means_any (t : Tr) (v : Value) (w : World) (hok : okT t = true) (ht : InT w w.heap.size t v) : Calls Tryd.prog 37 #[v] w (LaysR (stepsT t 0 4294967296 0) w.heap.size w) := by
  obtain ⟨hd, ho, hn⟩ := (okT_iff t).1 hok
  obtain ⟨A, n, c, rfl⟩ := ht.form
  have hb0 : Below w.heap.size w (w.alloc (.cells #[.int .i64 t.N, .slice A n c] 24)) := (Below.refl _ w).alloc (Nat.le_refl _) _
  have hcall := steps_any t 32 4294967296 0 0 none 0 [] w.heap.size (tv t.N A n c) (w.alloc (.cells #[.int .i64 t.N, .slice A n c] 24)) hd rfl (by omega) (by simp; omega) (by omega) (by omega) ho (ht.below hb0) (GrR.nil _ _) (by simp)
  rw [List.nil_append] at hcall
  unfold tv at hcall ⊢
  simp only [List.length_nil, Int.natCast_zero] at hcall
  have HB0 := Lib.hid hb0
  clear hb0 ht hd ho hn hok
  generalize t.N = o at *
  go_enter Tryd.func37, Tryd.ntmps37
  go_wp2_with fail
  refine hcall.mono ?_
  rintro e w1 ⟨A1, c1, rfl, hg1, hb1, hf1⟩
  go_wp2
  go_ret
  exact ⟨A1, c1, rfl, hg1, HB0.out.trans hb1, (Fr.alloc w _).trans hf1⟩
end Go.Proofs.YtflghlmikpfnpaaDoor.E
