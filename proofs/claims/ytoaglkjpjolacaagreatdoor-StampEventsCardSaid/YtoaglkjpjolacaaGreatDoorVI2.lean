/-
  The reference's Sum.
-/
import Derived.Test.YtoaglkjpjolacaaGreatDoorVI1
import Derived.RangeFuncNested
import Derived.RangeFuncBound
import Derived.RangeFuncCalls
import Derived.RangeFuncLeaves
import Derived.Shelf.Abstract
import Derived.Shelf.RegionOpen
import Derived.OwnWalkIn
import Derived.TacticsInMore
import Derived.LoopNIn
import Derived.LoopIn
namespace Go.Proofs.YtoaglkjpjolacaaGreatDoor.I
open Go.RowKit
/-- A right tree in memory as trees that came in are. -/
theorem unT {w : World} {B : Nat} : ∀ {t : Tr} {v : Value}, InT w B t v → ∃ (o : Bool) (ks : Fo) (A : Option Addr) (c : Nat), v = tv o A ks.len c ∧ Kd w B ks A ∧ (trees ks).bind (one o) = some t
  | .leaf o, _, ⟨A, c, rfl⟩ => ⟨o, .nil, A, c, rfl, .inl rfl, rfl⟩
  | .node x y, _, ⟨b, off, c, rfl, hb, ⟨o1, A1, n1, c1, h1, h2, h3⟩, ⟨o2, A2, n2, c2, g1, g2, g3⟩⟩ => by
    obtain ⟨p1, k1, B1, d1, e1, kd1, t1⟩ := unT h3
    obtain ⟨p2, k2, B2, d2, e2, kd2, t2⟩ := unT g3
    unfold tv at e1 e2
    simp only [Value.agg.injEq, Array.mk.injEq, List.cons.injEq, Value.bool.injEq, Value.slice.injEq, and_true] at e1 e2
    obtain ⟨rfl, rfl, rfl, rfl⟩ := e1
    obtain ⟨rfl, rfl, rfl, rfl⟩ := e2
    refine ⟨false, .cons o1 k1 (.cons o2 k2 .nil), _, c, rfl, .inr ⟨b, off, rfl, hb, ⟨A1, c1, h1, h2, kd1⟩, ⟨A2, c2, g1, g2, kd2⟩, trivial⟩, ?_⟩
    obtain ⟨l1, hl1, ht1⟩ := Option.bind_eq_some_iff.1 t1
    obtain ⟨l2, hl2, ht2⟩ := Option.bind_eq_some_iff.1 t2
    have e2 : trees (.cons o2 k2 .nil) = some [y] := by simp only [trees, hl2, Option.bind_some, ht2, Option.map_some]
    have e1 : trees (.cons o1 k1 (.cons o2 k2 .nil)) = some [x, y] := by
      have e : trees (.cons o1 k1 (.cons o2 k2 .nil)) = (trees k1).bind fun k => (one o1 k).bind fun t => (trees (.cons o2 k2 .nil)).map (t :: ·) := rfl
      rw [e, e2, hl1, Option.bind_some, ht1, Option.bind_some, Option.map_some]
    rw [e1]
    rfl
/-- append(out, x...). -/
theorem GrR.app {w : World} {base c : Nat} {A : Option Addr} {l : List (Nat × Nat)} (h : GrR w base A c l) (hA : A ≠ none) (A2 : Option Addr) (d : Nat) (x : List (Nat × Nat)) (base2 : Nat) (h2 : GrR w base2 A2 d x) (ty : TypeId) (hb : l.length + x.length ≤ 10000000) (hbase : base ≤ w.heap.size) :
    ∃ A' c' w', (Builtin.append_ #[87, 87] ty #[.slice A l.length c, .slice A2 x.length d]).run Tryz.prog w = .ok (.slice A' (l.length + x.length) c') w' ∧ A' ≠ none ∧ GrR w' base A' c' (l ++ x) ∧ Below base w w' := by
  obtain ⟨i0, hi, hz0, hz1, hz2⟩ := info_parts info52
  rcases h2.cases with ⟨rfl, rfl, rfl⟩ | ⟨g, cur, rfl, hgb, hc, h3, h4, h5, h6⟩
  · refine ⟨A, c, w, ?_, hA, by rw [List.append_nil]; exact h, Below.refl _ _⟩
    rcases h.cases with ⟨rfl, _, _⟩ | ⟨g', cur', rfl, _, _, k1, _⟩
    · exact absurd rfl hA
    · simp [Builtin.append_, run_underlying Tryz.underlying87, sizeOf, typeInfo, hi, Builtin.lenOf, Builtin.firstCells, k1, storeCells]
  · have hcell : ∀ j u, (cellsR x)[j]? = some u → w.cell? ((⟨g, 0, none⟩ : Addr).add j) = some u := by
      intro j u hu
      have e : (⟨g, 0, none⟩ : Addr).add j = ⟨g, j, none⟩ := by
        unfold Addr.add; split
        · rename_i h; subst h; rfl
        · simp
      have hj : j < x.length * 2 := by have := (List.getElem?_eq_some_iff.1 hu).1; rwa [cellsR_length] at this
      rw [e, cell_of_row w g j cur 148 (0, 0) hc, ← hu, ← h6, List.getElem?_take, if_pos hj]; simp
    obtain ⟨v', w', hrun, ho, hg, hn⟩ := run_append_own_wide (P := Tryz.prog) w base 87 ty 148 i0 (.agg #[.int .u64 0, .int .u64 0]) 2 16 Tryz.underlying87 hi hz0 hz1 hz2 rfl (by decide) _ _ _ h _ x.length d (cellsR x) (by rw [cellsR_length]) hcell (oneCell_cellsR x) (by unfold maxLen; omega) (by omega) hbase
    have hB : Below base w w' := (Below.refl _ w).grown hg hbase (fun k e => (h.own k e).1)
    have e2 : cellsR (l ++ x) = cellsR l ++ cellsR x := by simp [cellsR]
    have e3 : (l ++ x).length = l.length + x.length := by simp
    rcases ho.2 with ⟨e, h0⟩ | ⟨g', cap', cur', e, _⟩
    · have := (hn.1 e).1
      injection this with this _ _
      exact absurd this hA
    · rw [e] at hrun ho
      exact ⟨_, _, w', hrun, by simp, by unfold GrR; rw [e2, e3]; exact ho, hB⟩
/-- The first boxes of Sum: the two trees, the result. -/
def SumW (w : World) (o1 o2 : Bool) (A1 A2 : Option Addr) (n1 n2 c1 c2 : Nat) : World := ((w.alloc (.cells #[.bool o1, .slice A1 n1 c1] 24)).alloc (.cells #[.bool o2, .slice A2 n2 c2] 24)).alloc (.cells #[.bool false, .slice none 0 0] 24)
structure SumB (w : World) (o1 o2 : Bool) (A1 A2 : Option Addr) (n1 n2 c1 c2 : Nat) (W : World) : Prop where
  a0 : W.cell? ⟨w.heap.size, 0, none⟩ = some (.bool o1)
  a1 : W.cell? ⟨w.heap.size, 1, none⟩ = some (.slice A1 n1 c1)
  b0 : W.cell? ⟨w.heap.size + 1, 0, none⟩ = some (.bool o2)
  b1 : W.cell? ⟨w.heap.size + 1, 1, none⟩ = some (.slice A2 n2 c2)
  box : Box0 W (w.heap.size + 1 + 1)
  bel : Below w.heap.size w W
  big : w.heap.size + 3 ≤ W.heap.size
theorem SumB.start (w : World) (o1 o2 : Bool) (A1 A2 : Option Addr) (n1 n2 c1 c2 : Nat) : SumB w o1 o2 A1 A2 n1 n2 c1 c2 (SumW w o1 o2 A1 A2 n1 n2 c1 c2) := by
  unfold SumW
  refine ⟨by simp [go_sem], by simp [go_sem], by simp [go_sem], by simp [go_sem], ?_, three_boxes w _ _ _, by simp⟩
  have := heap_alloc_new ((w.alloc (.cells #[.bool o1, .slice A1 n1 c1] 24)).alloc (.cells #[.bool o2, .slice A2 n2 c2] 24)) (.cells #[.bool false, .slice none 0 0] 24)
  rw [World.size_alloc, World.size_alloc] at this
  exact this
theorem SumB.next {w : World} {o1 o2 : Bool} {A1 A2 : Option Addr} {n1 n2 c1 c2 : Nat} {W W' : World} (h : SumB w o1 o2 A1 A2 n1 n2 c1 c2 W) (hb : Below W.heap.size W W') : SumB w o1 o2 A1 A2 n1 n2 c1 c2 W' := by
  have hbig := h.big
  exact ⟨(hb.cell (by show w.heap.size < _; omega)).trans h.a0, (hb.cell (by show w.heap.size < _; omega)).trans h.a1, (hb.cell (by show w.heap.size + 1 < _; omega)).trans h.b0, (hb.cell (by show w.heap.size + 1 < _; omega)).trans h.b1, h.box.below hb (by omega), h.bel.trans (hb.mono (by omega)), Nat.le_trans h.big hb.size⟩
end Go.Proofs.YtoaglkjpjolacaaGreatDoor.I
namespace Go.Proofs.YtoaglkjpjolacaaGreatDoor.I
open Go.RowKit
/-- Every block but those of X lies as it lay. -/
structure Kept (X : Nat → Prop) (W W' : World) : Prop where
  size : W.heap.size ≤ W'.heap.size
  same : ∀ k, k < W.heap.size → ¬ X k → W'.heap[k]? = W.heap[k]?
theorem Kept.refl (X : Nat → Prop) (W : World) : Kept X W W := ⟨Nat.le_refl _, fun _ _ _ => rfl⟩
theorem Kept.trans {X : Nat → Prop} {A B C : World} (h : Kept X A B) (g : Kept X B C) : Kept X A C :=
  ⟨Nat.le_trans h.size g.size, fun k hk hx => (g.same k (Nat.lt_of_lt_of_le hk h.size) hx).trans (h.same k hk hx)⟩
theorem Kept.mono {X Y : Nat → Prop} {A B : World} (h : Kept X A B) (hxy : ∀ k, X k → Y k) : Kept Y A B := ⟨h.size, fun k hk hy => h.same k hk fun hx => hy (hxy k hx)⟩
theorem Kept.alloc {X : Nat → Prop} {A B : World} (h : Kept X A B) (o : Obj) : Kept X A (B.alloc o) :=
  h.trans ⟨by simp, fun k hk _ => Below.heap_alloc B o k hk⟩
theorem Kept.putObj {X : Nat → Prop} {W : World} {l : Nat} (hl : X l) (o : Obj) : Kept X W (W.putObj l o) :=
  ⟨by simp [World.putObj], fun _ _ hx => World.putObj_heap_other (fun e => hx (e ▸ hl))⟩
theorem Kept.setCell {X : Nat → Prop} {A B : World} (h : Kept X A B) {p : Addr} (hp : X p.block) (u : Value) : Kept X A (B.setCell p u) :=
  h.trans ⟨by simp, fun k _ hx => Below.heap_setCell B p u k (fun e => hx (e ▸ hp))⟩
theorem Kept.below {X : Nat → Prop} {B : Nat} {W W' : World} (hb : Below B W W') (hB : W.heap.size ≤ B) : Kept X W W' := ⟨hb.size, fun k hk _ => hb.block k (Nat.lt_of_lt_of_le hk hB)⟩
theorem Kept.cell {X : Nat → Prop} {W W' : World} (h : Kept X W W') {p : Addr} {v : Value} (hx : ¬ X p.block) (hc : W.cell? p = some v) : W'.cell? p = some v := by
  obtain ⟨o, ho, _⟩ := cells_of_cell hc
  exact (World.cell?_of_block (h.same _ (Array.getElem?_eq_some_iff.1 ho).1 hx)).trans hc

/-- An iterator over S, whatever the rounds do to the blocks of X (and to their loop's own record); Q: what is known of each x; G: what a round that goes on has found. -/
def SeqO {α : Type} (P : Program) (g : Nat) (lb : Array Value) (encs : α → Array Value) (X : Nat → Prop) (Q G : α → Prop) (S Sp : List α → Prop) (w : World) : Prop :=
  ∀ (l : Nat) (J Jx : List α → World → Prop) (W : World), Below w.heap.size w W → w.heap.size ≤ l → l < W.heap.size → OwnFrom W.heap.size J → OwnFrom W.heap.size Jx →
    (∀ pre x W1, J pre W1 → Q x → YieldAt Fence.wide 0 P l (encs x) W1 fun e W' =>
      (e = .returned (.bool true) ∧ G x ∧ J (pre ++ [x]) W' ∧ Kept (fun k => X k ∨ k = l) W1 W') ∨ (e = .returned (.bool false) ∧ Jx (pre ++ [x]) W' ∧ Kept (fun k => X k ∨ k = l) W1 W')) →
    J [] W →
    Calls P g (#[.func (.yield l) #[] #[]] ++ lb) W fun e W' => (∃ v, e = .returned v) ∧ ((∃ xs, S xs ∧ J xs W') ∨ (∃ pre, Sp pre ∧ Jx pre W'))

/-- How a round may be left. -/
def rPost {α : Type} (X : Nat → Prop) (G : α → Prop) (I : List α → World → Prop) (Ix : Code → List α → World → Prop) (pre : List α) (x : α) (W : World) : Exit → Act → World → Prop
  | .normal, _, W' => Kept X W W' ∧ G x ∧ I (pre ++ [x]) W'
  | .ret, _, W' => Kept X W W' ∧ Ix .ret (pre ++ [x]) W'
  | .exit id, _, W' => Kept X W W' ∧ Ix (.exit id) (pre ++ [x]) W'
  | .goto t, _, W' => Kept X W W' ∧ Ix (.goto t) (pre ++ [x]) W'
  | .panic _, _, _ => False
  | .outgrown, _, _ => False

theorem roundIn_deep {m m' : Nat} {P : Program} {l : Nat} {f : FuncId} {tmps : Array Value} {assign body : Code} {w : World} {R : Ending → World → Prop}
    (h : RoundIn Fence.wide m P l f tmps assign body w R) : RoundIn Fence.wide m' P l f tmps assign body w R := ⟨h.1, fun c cs _ => h.2 c cs (room_wide _)⟩

theorem range_own {α : Type} {P : Program} {n : Nat} {g : Operand} {ps : Array Tmp} {assign body : Code} {Z : Exit → Act → World → Prop} {a : Act} {w : World}
    {gf : Nat} {lb : Array Value} (hg : a.eval g = .func (.func gf) #[] lb) (eg : ∀ args w, (callFunc gf args).run P w = .ok (.enter gf args) w)
    {encs : α → Array Value} {X : Nat → Prop} {Q G : α → Prop} {S Sp : List α → Prop} {w0 : World} (hseq : SeqO P gf lb encs X Q G S Sp w0) (hX : ∀ k, X k → k < w.heap.size)
    (hb0 : Below w0.heap.size w0 w) (hps : ∀ x, (encs x).size = ps.size)
    (I : List α → World → Prop) (Ix : Code → List α → World → Prop) (hI : OwnFrom w.heap.size I) (hIx : ∀ c, OwnFrom w.heap.size (Ix c)) (h0 : I [] w) (Ax : α → Act → World → Prop) (hAx : ∀ x a', OwnFrom w.heap.size (fun (_ : Unit) W => Ax x a' W))
    (hassign : ∀ (l : Nat) (pre : List α) (x : α) (W : World) (K : Act → World → Prop), w.heap.size ≤ W.heap.size → I pre W → (∀ a' W', Kept X W W' → I pre W' → Ax x a' W' → K a' W') →
      assign.wpIn (Fence.wide.inRound l) n P (Exit.then K (fun _ _ _ => False)) { tmps := (ps.zip (encs x)).foldl (fun t (p, v) => t.setIfInBounds p v) a.tmps, defers := [] } W)
    (hbody : ∀ (l : Nat) (pre : List α) (x : α) (a' : Act) (W : World), w.heap.size ≤ W.heap.size → I pre W → Ax x a' W → Q x → body.wpIn (Fence.wide.inRound l) n P (rPost X G I Ix pre x W) a' W)
    (hdone : ∀ (D : Nat) (xs : List α) (W : World), w.heap.size ≤ D → S xs → I xs W → W.heap[D]? = some (.deferred (some [])) → Z .normal { a with defers := { target := .collected D, args := #[] } :: a.defers } W)
    (hstop : ∀ (D : Nat) (c : Code) (pre : List α) (W : World), w.heap.size ≤ D → Sp pre → Ix c pre W → W.heap[D]? = some (.deferred (some [])) → c.wpIn Fence.wide n P Z { a with defers := { target := .collected D, args := #[] } :: a.defers } W) :
    (Code.rangeFunc g ps assign body).wpIn Fence.wide n P Z a w := by
  refine wpIn_rangeFunc fun fn hfn => ?_
  obtain ⟨rec, hrec⟩ : ∃ rec : LoopState → Option Code → Loop, rec = fun st pe => { state := st, pending := pe, fn, tmps := a.tmps, params := ps, assign, body, defers := w.heap.size } := ⟨_, rfl⟩
  obtain ⟨W1, hW1⟩ : ∃ W1, (w.alloc (.deferred (some []))).alloc (.loop (rec .ready none)) = W1 := ⟨_, rfl⟩
  have hsz : W1.heap.size = w.heap.size + 2 := by rw [← hW1]; simp
  have hL1 : W1.heap[w.heap.size + 1]? = some (.loop (rec .ready none)) := by
    rw [← hW1]; have := World.alloc_heap_new (w.alloc (.deferred (some []))) (.loop (rec .ready none)); rwa [World.size_alloc] at this
  have hK1 : W1.heap[w.heap.size]? = some (.deferred (some [])) := by
    rw [← hW1]; exact (Below.heap_alloc _ _ _ (by simp)).trans (World.alloc_heap_new w _)
  have hI1 : I [] W1 := by rw [← hW1]; exact hI.alloc _ (hI.alloc _ h0)
  have hb1 : Below w0.heap.size w0 W1 := by
    rw [← hW1]; exact hb0.trans ((((Below.refl _ w).alloc (Nat.le_refl _) _).alloc (by simp) _).mono hb0.size)
  have hXl : ¬ X (w.heap.size + 1) := fun h => by have := hX _ h; omega
  have hXd : ¬ X w.heap.size := fun h => by have := hX _ h; omega
  refine ⟨w.heap.size + 1, [{ target := .collected w.heap.size, args := #[] }], W1, { target := .fn (.func gf) lb, args := #[.func (.yield (w.heap.size + 1)) #[] #[]] }, W1, gf,
    #[.func (.yield (w.heap.size + 1)) #[] #[]] ++ lb, W1, ?_, ?_, fun _ _ => trivial, ?_, (fun h => (by cases h)), ?_⟩
  · rw [← hW1, hrec]; exact run_enterLoop_outer _ _ _ _ _
  · simp only [resolve, hg]
    simp [go_sem]
  · simp [invoke, go_sem, eg]
  · -- what is kept through a turn of a block beyond W1
    have turn : ∀ {k : Nat} {o : Obj} {A B : World} {row : Option Nat}, k < W1.heap.size → A.heap[k]? = some o → A.grownBy B row → (∀ r, row = some r → W1.heap.size ≤ r ∧ ∃ o : Obj, A.heap[r]? = some o ∧ o.isCells = false) → B.heap[k]? = some o :=
      fun hk ho hgr hr => (hgr.block _ (Array.getElem?_eq_some_iff.1 ho).1 (fun e => by have := (hr _ e.symm).1; omega)).trans ho
    have wide : ∀ {A : World} {row : Option Nat}, (∀ r, row = some r → W1.heap.size ≤ r ∧ ∃ o : Obj, A.heap[r]? = some o ∧ o.isCells = false) → (∀ r, row = some r → w.heap.size ≤ r ∧ ∃ o : Obj, A.heap[r]? = some o ∧ o.isCells = false) :=
      fun hr r e => ⟨by have := (hr r e).1; omega, (hr r e).2⟩
    refine callsIn_wide.2 ((hseq (w.heap.size + 1)
      (fun pre W => I pre W ∧ W.heap[w.heap.size + 1]? = some (.loop (rec .ready none)) ∧ W.heap[w.heap.size]? = some (.deferred (some [])))
      (fun pre W => ∃ c, Ix c pre W ∧ W.heap[w.heap.size + 1]? = some (.loop (rec .done (some c))) ∧ W.heap[w.heap.size]? = some (.deferred (some [])))
      W1 hb1 (by have := hb0.size; omega) (by omega)
      (fun s A B row hs hg' hr => ⟨hI s A B row hs.1 hg' (wide hr), turn (by omega) hs.2.1 hg' hr, turn (by omega) hs.2.2 hg' hr⟩)
      (fun s A B row ⟨c, hc, hl, hk⟩ hg' hr => ⟨c, hIx c s A B row hc hg' (wide hr), turn (by omega) hl hg' hr, turn (by omega) hk hg' hr⟩)
      ?_ ⟨hI1, hL1, hK1⟩).mono ?_)
    · rintro pre x W ⟨hi, hl, hk⟩ hq
      have hy := run_yield (P := P) (args := encs x) hl (by rw [hrec]; exact hps x)
      rw [hrec] at hy
      refine ⟨fn, _, assign, body, hy, roundIn_deep (m := n) (roundIn_of_wpIn hfn (hassign _ pre x W _ (by have := (Array.getElem?_eq_some_iff.1 hl).1; omega) hi ?_))⟩
      clear hy
      intro a' Wa hka hia hax
      have hl' := (hka.same _ (Array.getElem?_eq_some_iff.1 hl).1 hXl).trans hl
      have hk' := (hka.same _ (Array.getElem?_eq_some_iff.1 hk).1 hXd).trans hk
      have hlt : w.heap.size + 1 < Wa.heap.size := (Array.getElem?_eq_some_iff.1 hl').1
      refine ⟨_, run_beginRound hl' (by rw [hrec]), ?_⟩
      obtain ⟨Wb, hWb⟩ : ∃ Wb, Wa.putObj (w.heap.size + 1) (.loop { rec .ready none with state := .busy }) = Wb := ⟨_, rfl⟩
      have hkb : Kept (fun k => X k ∨ k = w.heap.size + 1) Wa Wb := by rw [← hWb]; exact Kept.putObj (.inr rfl) _
      have hl2 : Wb.heap[w.heap.size + 1]? = some (.loop { rec .ready none with state := .busy }) := by rw [← hWb]; exact World.putObj_heap_same hlt
      have hk2 : Wb.heap[w.heap.size]? = some (.deferred (some [])) := by rw [← hWb]; exact (World.putObj_heap_other (by omega)).trans hk'
      have hib : I pre Wb := by rw [← hWb]; exact hI.putObj _ hia (by omega) hl' rfl
      have hab : Ax x a' Wb := by rw [← hWb]; exact (hAx x a').putObj (s := ()) _ hax (by omega) hl' rfl
      rw [hWb]
      refine wpIn_mono (hbody _ pre x a' Wb (by have := (Array.getElem?_eq_some_iff.1 hl2).1; omega) hib hab hq) ?_
      have fin : ∀ (jump : Option Code) (W3 : World), Kept X Wb W3 →
          ∃ W4, (Instr.endRound (w.heap.size + 1) jump).run P W3 = .ok (.bool jump.isNone) W4 ∧ W4 = W3.putObj (w.heap.size + 1) (.loop (rec (if jump.isNone then .ready else .done) jump)) ∧
          (∃ o : Obj, W3.heap[w.heap.size + 1]? = some o ∧ o.isCells = false) ∧
          W4.heap[w.heap.size + 1]? = some (.loop (rec (if jump.isNone then .ready else .done) jump)) ∧ W4.heap[w.heap.size]? = some (.deferred (some [])) ∧ Kept (fun k => X k ∨ k = w.heap.size + 1) W W4 := fun jump W3 hk3 => by
        have hl3 := (hk3.same _ (Array.getElem?_eq_some_iff.1 hl2).1 hXl).trans hl2
        have hd3 := (hk3.same _ (Array.getElem?_eq_some_iff.1 hk2).1 hXd).trans hk2
        have := run_endRound (P := P) jump hl3
        refine ⟨_, this, by rw [hrec], ⟨_, hl3, rfl⟩, ?_, (World.putObj_heap_other (by omega)).trans hd3, ((hka.mono fun _ h => .inl h).trans hkb).trans ((hk3.mono fun _ h => .inl h).trans (Kept.putObj (.inr rfl) _))⟩
        rw [hrec]; exact World.putObj_heap_same (Array.getElem?_eq_some_iff.1 hl3).1
      rintro e a3 W3 hp
      cases e with
      | normal =>
        obtain ⟨hk3, hgx, hi3⟩ := hp
        obtain ⟨W4, hr, e4, ⟨o, ho, hoc⟩, hl4, hk4, hkk⟩ := fin none W3 hk3
        exact ⟨_, _, hr, .inl ⟨rfl, hgx, ⟨by rw [e4]; exact hI.putObj _ hi3 (by omega) ho hoc, hl4, hk4⟩, hkk⟩⟩
      | ret =>
        obtain ⟨hk3, hi3⟩ := hp
        obtain ⟨W4, hr, e4, ⟨o, ho, hoc⟩, hl4, hk4, hkk⟩ := fin (some .ret) W3 hk3
        exact ⟨_, _, hr, .inr ⟨rfl, ⟨.ret, by rw [e4]; exact (hIx _).putObj _ hi3 (by omega) ho hoc, hl4, hk4⟩, hkk⟩⟩
      | exit id =>
        obtain ⟨hk3, hi3⟩ := hp
        obtain ⟨W4, hr, e4, ⟨o, ho, hoc⟩, hl4, hk4, hkk⟩ := fin (some (.exit id)) W3 hk3
        exact ⟨_, _, hr, .inr ⟨rfl, ⟨.exit id, by rw [e4]; exact (hIx _).putObj _ hi3 (by omega) ho hoc, hl4, hk4⟩, hkk⟩⟩
      | goto t =>
        obtain ⟨hk3, hi3⟩ := hp
        obtain ⟨W4, hr, e4, ⟨o, ho, hoc⟩, hl4, hk4, hkk⟩ := fin (some (.goto t)) W3 hk3
        exact ⟨_, _, hr, .inr ⟨rfl, ⟨.goto t, by rw [e4]; exact (hIx _).putObj _ hi3 (by omega) ho hoc, hl4, hk4⟩, hkk⟩⟩
      | panic ch => exact hp.elim
      | outgrown => exact hp.elim
    · rintro e W2 ⟨⟨v, rfl⟩, (⟨xs, hS, hi, hl, hk⟩ | ⟨pre, hSp, c, hi, hl, hk⟩)⟩
      · exact ⟨none, _, by have := run_endLoop (P := P) hl (by rw [hrec]; simp); rw [hrec] at this; exact this, hdone _ xs _ (Nat.le_refl _) hS (hI.putObj _ hi (by omega) hl rfl) ((World.putObj_heap_other (by omega)).trans hk)⟩
      · exact ⟨some c, _, by have := run_endLoop (P := P) hl (by rw [hrec]; simp); rw [hrec] at this; exact this, hstop _ c pre _ (Nat.le_refl _) hSp ((hIx c).putObj _ hi (by omega) hl rfl) ((World.putObj_heap_other (by omega)).trans hk)⟩
end Go.Proofs.YtoaglkjpjolacaaGreatDoor.I
namespace Go.Proofs.YtoaglkjpjolacaaGreatDoor.I
open Go.RowKit Go.Shelf
attribute [local go_sem] Oper.semAt_some

/-- A node as the iterator hands it on: its One, its kids' slice, its depth. -/
structure It where
  o : Bool
  A : Option Addr
  n : Nat
  c : Nat
  d : Int
def It.key (x : It) : Bool × Nat × Int := (x.o, x.n, x.d)
def It.enc (x : It) : Array Value := #[tv x.o x.A x.n x.c, .int .i64 x.d]
def nx (d : Int) : Int := wrap64 (d + 1)
def walkK : Fo → Int → List (Bool × Nat × Int)
  | .nil, _ => []
  | .cons o ks rest, d => (o, ks.len, d) :: (walkK ks (nx d) ++ walkK rest d)
def walkT (o : Bool) (ks : Fo) (d : Int) : List (Bool × Nat × Int) := (o, ks.len, d) :: walkK ks (nx d)
theorem walkK_cons (o : Bool) (ks rest : Fo) (d : Int) : walkK (.cons o ks rest) d = walkT o ks d ++ walkK rest d := rfl
def Fo.size : Fo → Nat
  | .nil => 0
  | .cons _ ks rest => ks.size + rest.size + 1

set_option maxHeartbeats 1000000 in
theorem nodes_in (n : Nat) (o : Bool) (A : Option Addr) (k c : Nat) (d : Int) (w : World) :
    CallsIn Fence.wide n Tryz.prog 93 #[tv o A k c, .int .i64 d] w fun e w' => e = .returned (.func (.func 143) #[] #[.pointer (some ⟨w.heap.size, 0, none⟩), .pointer (some ⟨w.heap.size + 1, 0, none⟩)]) ∧
      (w.alloc (.cells #[.bool o, .slice A k c] 24)).alloc (.cells #[.int .i64 d] 3) = w' := by
  unfold tv
  refine callsIn_of_wp Tryz.func93 rfl trivial ?_ rfl
  simp only [Tryz.ntmps93, List.size_toArray, List.length_cons, List.length_nil, Nat.reduceAdd, Nat.reduceSub, Array.replicate_succ, Array.replicate_zero, List.push_toArray, List.append_toArray, List.nil_append, List.cons_append]
  gi_wp2
  go_ret
  exact ⟨rfl, rfl⟩

theorem InF.keep2 {w w' : World} {B : Nat} (hk : ∀ (p : Addr) (v : Value), p.block < B → w.cell? p = some v → w'.cell? p = some v) : ∀ {f : Fo} {b off : Nat}, b < B → InF w B f b off → InF w' B f b off
  | .nil, _, _, _, _ => trivial
  | .cons o ks rest, b, off, hb, ⟨⟨A, c, h1, h2, h3⟩, h4⟩ => by
    refine ⟨⟨A, c, hk _ _ hb h1, hk _ _ hb h2, ?_⟩, InF.keep2 hk hb h4⟩
    rcases h3 with h3 | ⟨b', off', e, hb', h3⟩
    · exact .inl h3
    · exact .inr ⟨b', off', e, hb', InF.keep2 hk hb' h3⟩
theorem Kd.keep2 {w w' : World} {B : Nat} (hk : ∀ (p : Addr) (v : Value), p.block < B → w.cell? p = some v → w'.cell? p = some v) {f : Fo} {A : Option Addr} (h : Kd w B f A) : Kd w' B f A := by
  rcases h with h | ⟨b, off, e, hb, h⟩
  · exact .inl h
  · exact .inr ⟨b, off, e, hb, h.keep2 hk hb⟩

/-- The cells of every block but those of X hold what they held. -/
def Holds (X : Nat → Prop) (Z W : World) : Prop := ∀ (p : Addr) (v : Value), ¬ X p.block → Z.cell? p = some v → W.cell? p = some v
theorem Holds.refl (X : Nat → Prop) (Z : World) : Holds X Z Z := fun _ _ _ h => h
theorem Holds.trans {X : Nat → Prop} {A B C : World} (h : Holds X A B) (g : Holds X B C) : Holds X A C := fun p v hx hc => g p v hx (h p v hx hc)
theorem Kept.holds {X : Nat → Prop} {A B : World} (h : Kept X A B) : Holds X A B := fun _ _ hx hc => h.cell hx hc
theorem Holds.own {β : Type} (X : Nat → Prop) (Z : World) : Own (fun (_ : β) W => Holds X Z W) := fun _ _ _ _ hs hg hr => fun p v hx hc => cell_kept (hs p v hx hc) hg hr
/-- Marks of loops that are over, the youngest first. -/
def Marks (W : World) : Nat → Nat → List Deferred → Prop
  | _, _, [] => True
  | L, B, d :: ds => ∃ D, d = { target := .collected D, args := #[] } ∧ L ≤ D ∧ D < B ∧ W.heap[D]? = some (.deferred (some [])) ∧ Marks W L D ds
theorem Marks.keep {W W' : World} : ∀ {L B : Nat} {ds : List Deferred}, (∀ k, L ≤ k → k < B → W.heap[k]? = some (.deferred (some [])) → W'.heap[k]? = some (.deferred (some []))) → Marks W L B ds → Marks W' L B ds
  | _, _, [], _, _ => trivial
  | _, _, _ :: _, hk, ⟨D, e, h1, h2, h3, h4⟩ => ⟨D, e, h1, h2, hk D h1 h2 h3, h4.keep fun k a b => hk k a (Nat.lt_trans b h2)⟩
theorem Marks.more {W : World} : ∀ {L B B' : Nat} {ds : List Deferred}, B ≤ B' → Marks W L B ds → Marks W L B' ds
  | _, _, _, [], _, _ => trivial
  | _, _, _, _ :: _, hb, ⟨D, e, h1, h2, h3, h4⟩ => ⟨D, e, h1, Nat.lt_of_lt_of_le h2 hb, h3, h4⟩
theorem Marks.own {β : Type} (L B : Nat) (ds : List Deferred) : OwnFrom B (fun (_ : β) W => Marks W L B ds) := fun _ _ _ _ hs hg hr =>
  hs.keep fun k _ hk h => (hg.block k (Array.getElem?_eq_some_iff.1 h).1 (fun e => by have := (hr _ e.symm).1; omega)).trans h
theorem own_more {β : Type} {B B' : Nat} {I : β → World → Prop} (h : OwnFrom B I) (hB : B ≤ B') : OwnFrom B' I := fun s W W' row hs hg hr => h s W W' row hs hg fun r e => ⟨Nat.le_trans hB (hr r e).1, (hr r e).2⟩
/-- A function without results leaves, its marks taken in one by one. -/
theorem leave_marks {P : Program} {fn : Func} {n : Nat} {tmps : Array Value} {R : Ending → World → Prop} (hres : fn.results = #[]) {L : Nat} (hR : ∀ W W' row, R (.returned (.tuple #[])) W → W.grownBy W' row → (∀ r, row = some r → L ≤ r ∧ ∃ o : Obj, W.heap[r]? = some o ∧ o.isCells = false) → R (.returned (.tuple #[])) W') :
    ∀ (ds : List Deferred) (B : Nat) (W : World), Marks W L B ds → R (.returned (.tuple #[])) W → LeavesInM Fence.wide n P fn tmps R ds .returning W
  | [], _, W, _, h => ⟨_, results_none hres _ _ _, h⟩
  | d :: ds, B, W, ⟨D, e, h1, h2, h3, h4⟩, h => by
    subst e
    refine ⟨by simp, .inl ⟨D, _, rfl, run_takeDeferred h3, leave_marks hres hR ds D _ (h4.keep fun k _ hk hd => (World.putObj_heap_other (by omega)).trans hd) (hR W _ (some D) h (grownBy_putObj' W D _) fun r e => by cases e; exact ⟨h1, _, h3, rfl⟩)⟩⟩

theorem round_in {m m' : Nat} (l' : Nat) {P : Program} {l : Nat} {f : FuncId} {tmps : Array Value} {assign body : Code} {w : World} {R : Ending → World → Prop}
    (h : RoundIn Fence.wide m P l f tmps assign body w R) : RoundIn (Fence.wide.inRound l') m' P l f tmps assign body w R := roundIn_deep (m' := m') h

set_option maxRecDepth 100000 in
set_option maxHeartbeats 4000000 in
theorem nodes_seq : ∀ (N : Nat) (o : Bool) (ks : Fo) (A : Option Addr) (c : Nat) (d : Int) (Bt Bd n₀ : Nat) (X : Nat → Prop) (Q G : It → Prop) (w : World), ks.size < N → (∀ x, G x → x.n = 0 ∨ x.n = 2) → (∀ x : It, x.key ∈ walkT o ks d → Q x) →
    Kd w n₀ ks A → n₀ ≤ w.heap.size → Bt < w.heap.size → Bd < w.heap.size → w.cell? ⟨Bt, 0, none⟩ = some (.bool o) → w.cell? ⟨Bt, 1, none⟩ = some (.slice A ks.len c) → w.cell? ⟨Bd, 0, none⟩ = some (.int .i64 d) → ¬ X Bt → ¬ X Bd → (∀ k, X k → n₀ ≤ k ∧ k < w.heap.size) →
    SeqO Tryz.prog 143 #[.pointer (some ⟨Bt, 0, none⟩), .pointer (some ⟨Bd, 0, none⟩)] It.enc X Q G (fun ys => ys.map It.key = walkT o ks d) (fun pre => pre.map It.key <+: walkT o ks d) w := by
  intro N
  induction N with
  | zero => intro o ks A c d Bt Bd n₀ X Q G w h; omega
  | succ N ih =>
  intro o ks A c d Bt Bd n₀ X Q G w hN hG hQ hk hn0 hBt hBd c0 c1 c2 hXt hXd hX l J Jx W hW hl1 hl2 hJ hJx hY h0
  refine (callsIn_wide (n := 3)).1 ?_
  have hJ0 : J [] (W.alloc (.cells #[.func (.yield l) #[] #[]] 162)) := hJ.alloc _ h0
  have t0 : (W.alloc (.cells #[.func (.yield l) #[] #[]] 162)).cell? ⟨Bt, 0, none⟩ = some (.bool o) := ((Below.refl _ W).alloc (Nat.le_refl _) _).cell (p := ⟨Bt, 0, none⟩) (Nat.lt_of_lt_of_le hBt hW.size) |>.trans ((hW.cell (p := ⟨Bt, 0, none⟩) hBt).trans c0)
  have t1 : (W.alloc (.cells #[.func (.yield l) #[] #[]] 162)).cell? ⟨Bt, 1, none⟩ = some (.slice A ks.len c) := ((Below.refl _ W).alloc (Nat.le_refl _) _).cell (p := ⟨Bt, 1, none⟩) (Nat.lt_of_lt_of_le hBt hW.size) |>.trans ((hW.cell (p := ⟨Bt, 1, none⟩) hBt).trans c1)
  have t2 : (W.alloc (.cells #[.func (.yield l) #[] #[]] 162)).cell? ⟨Bd, 0, none⟩ = some (.int .i64 d) := ((Below.refl _ W).alloc (Nat.le_refl _) _).cell (p := ⟨Bd, 0, none⟩) (Nat.lt_of_lt_of_le hBd hW.size) |>.trans ((hW.cell (p := ⟨Bd, 0, none⟩) hBd).trans c2)
  obtain ⟨fn, tmps, assign, body, hy, hR⟩ := hY [] ⟨o, A, ks.len, c, d⟩ _ hJ0 (hQ _ (by simp [It.key, walkT]))
  unfold It.enc tv at hy
  dsimp only at hy
  have HR := fun m => roundIn_deep (m' := m) hR
  clear hR
  have HH := Lib.hid (And.intro hQ (And.intro hk (And.intro hX (And.intro hY ih))))
  clear ih hQ hk hX hY
  refine callsIn_of_wp_marks Tryz.func143 rfl trivial ?_ rfl
  simp only [Tryz.ntmps143, List.size_toArray, List.length_cons, List.length_nil, Nat.reduceAdd, Nat.reduceSub, Array.replicate_succ, Array.replicate_zero, List.push_toArray, List.append_toArray, List.nil_append, List.cons_append]
  gi_wp2
  refine (HR _).mono ?_
  clear HR
  obtain ⟨Wy, hWy⟩ : ∃ Wy, W.alloc (.cells #[.func (.yield l) #[] #[]] 162) = Wy := ⟨_, rfl⟩
  have hyb : Wy.cell? ⟨W.heap.size, 0, none⟩ = some (.func (.yield l) #[] #[]) := by rw [← hWy]; simp [go_sem]
  have hsy : Wy.heap.size = W.heap.size + 1 := by rw [← hWy]; simp
  have hWy' : Below w.heap.size w Wy := by rw [← hWy]; exact hW.trans (((Below.refl _ W).alloc (Nat.le_refl _) _).mono hW.size)
  rw [hWy] at t0 t1 t2 ⊢
  clear hJ0 hy
  have hsz := hW.size
  have RR : ∀ (A B : World) (row : Option Nat), ((∃ v, Ending.returned (.tuple #[]) = .returned v) ∧ ((∃ xs : List It, xs.map It.key = walkT o ks d ∧ J xs A) ∨ ∃ pre : List It, pre.map It.key <+: walkT o ks d ∧ Jx pre A)) → A.grownBy B row → (∀ r, row = some r → W.heap.size ≤ r ∧ ∃ o : Obj, A.heap[r]? = some o ∧ o.isCells = false) →
      ((∃ v, Ending.returned (.tuple #[]) = .returned v) ∧ ((∃ xs : List It, xs.map It.key = walkT o ks d ∧ J xs B) ∨ ∃ pre : List It, pre.map It.key <+: walkT o ks d ∧ Jx pre B)) := by
    rintro A B row ⟨h1, h2⟩ hg hr
    refine ⟨h1, ?_⟩
    rcases h2 with ⟨xs, e, h⟩ | ⟨pre, e, h⟩
    · exact .inl ⟨xs, e, hJ xs A B row h hg hr⟩
    · exact .inr ⟨pre, e, hJx pre A B row h hg hr⟩
  have RR := Lib.hid RR
  rintro e W3 (⟨rfl, hg3, hj3, hk3⟩ | ⟨rfl, hx3, hk3⟩)
  · obtain ⟨hQ, hk, hX, hY, ih⟩ := HH.out
    have hX' : ∀ k, X k ∨ k = l → n₀ ≤ k ∧ k < W.heap.size := by
      rintro k (h | rfl)
      · have := hX k h; omega
      · omega
    have hold3 := hk3.holds
    have hXb : ∀ B, B < w.heap.size → ¬ X B → ¬ (X B ∨ B = l) := by
      rintro B hB hx (h | rfl)
      · exact hx h
      · omega
    have hXn : ∀ B, W.heap.size ≤ B → ¬ (X B ∨ B = l) := fun B hB h => by have := hX' B h; omega
    have s1 := hold3 ⟨Bt, 1, none⟩ _ (hXb Bt hBt hXt) t1
    have s2 := hold3 ⟨Bd, 0, none⟩ _ (hXb Bd hBd hXd) t2
    have s3 := hold3 ⟨W.heap.size, 0, none⟩ _ (hXn _ (Nat.le_refl _)) hyb
    have hmem : Kd W3 n₀ ks A := (hk.below (hWy'.mono hn0)).keep2 fun p v hp hc => hold3 p v (fun h => by have := hX' _ h; omega) hc
    have hsz3 : W.heap.size + 1 ≤ W3.heap.size := by have := hk3.size; omega
    rw [List.nil_append] at hj3
    have hlen : ks.len ≤ 2 := by rcases hG _ hg3 with h | h <;> (simp only at h; omega)
    clear t0 t1 t2 c0 c1 c2 hyb h0 hk hWy' hWy hold3 hk3 hg3
    have HY := Lib.hid (And.intro hQ (And.intro hX (And.intro hY ih)))
    clear HH hQ hX hY ih
    gi_wp2
    refine wpIn_loop (fun a Wr => ∃ (i : Nat) (fo : Fo) (pre : List It) (v5 v17 v18 v19 v20 v21 v22 v23 v31 : Value) (ds : List Deferred), a = { tmps := #[.func (.yield l) #[] #[], .pointer (some ⟨Bt, 0, none⟩), .pointer (some ⟨Bd, 0, none⟩), .pointer (some ⟨W.heap.size, 0, none⟩), undef, v5, undef, undef, .func (.yield l) #[] #[], .agg #[.bool o, .slice A ks.len c], .int .i64 d, .bool true, .bool false, .pointer (some ⟨Bt, 1, none⟩), .slice A ks.len c, .int .i64 (ks.len : Int), .int .i64 (i : Int), v17, v18, v19, v20, v21, v22, v23, undef, undef, undef, undef, undef, undef, undef, v31], defers := ds } ∧ Hid (i + fo.len = ks.len) ∧ Hid (fo.len = 0 ∨ ∃ b off, A = some ⟨b, off, none⟩ ∧ b < n₀ ∧ InF W3 n₀ fo b (off + i * 2)) ∧ Hid (fo.size ≤ ks.size) ∧ Hid (pre.map It.key ++ walkK fo (nx d) = walkT o ks d) ∧ J pre Wr ∧ Hid (Holds (fun k => X k ∨ k = l) W3 Wr) ∧ Hid (Marks Wr W.heap.size Wr.heap.size ds) ∧ W.heap.size + 1 ≤ Wr.heap.size) (fun a _ => ks.len - (intOf (a.tmps.getD 16 undef)).toNat) ?start ?round
    case start =>
      refine ⟨0, ks, [⟨o, A, ks.len, c, d⟩], undef, undef, undef, undef, undef, undef, undef, undef, undef, [], rfl, by show _ = _; omega, ?_, Nat.le_refl _, ?_, hj3, Holds.refl _ _, trivial, hsz3⟩
      · rcases hmem with h | ⟨b, off, e, hb, h⟩
        · exact .inl h
        · exact .inr ⟨b, off, e, hb, by rw [Nat.zero_mul, Nat.add_zero]; exact h⟩
      · show _ = _; simp [It.key, walkT]
    case round =>
      rintro a Wr ⟨i, fo, pre, v5, v17, v18, v19, v20, v21, v22, v23, v31, ds, rfl, hi, hfo, hfs, hpre, hJr, hH, hM, hsr⟩
      have r1 := hH.out _ _ (hXb Bt hBt hXt) s1
      have r2 := hH.out _ _ (hXb Bd hBd hXd) s2
      have r3 := hH.out _ _ (hXn _ (Nat.le_refl _)) s3
      clear s1 s2 s3 hj3 hmem
      cases fo with
      | nil =>
        have hin : i = ks.len := by have := hi.out; simp [Fo.len] at this; exact this
        subst hin
        have HP : Hid (pre.map It.key = walkT o ks d) := by show _ = _; have := hpre.out; simpa [walkK] using this
        gi_wp2
        exact leave_marks rfl (L := W.heap.size) RR.out ds _ _ hM.out ⟨⟨_, rfl⟩, .inl ⟨pre, HP.out, hJr⟩⟩
      | cons o1 k1 rest =>
        have hlt : i < ks.len := by have := hi.out; simp [Fo.len] at this; omega
        obtain ⟨b, off, hA, hb, ⟨A1, c1, m1, m2, m3⟩, m4⟩ : ∃ b off, A = some ⟨b, off, none⟩ ∧ b < n₀ ∧ InF W3 n₀ (.cons o1 k1 rest) b (off + i * 2) := by
          rcases hfo.out with h | h
          · simp [Fo.len] at h
          · exact h
        have hXm : ∀ B, B < n₀ → ¬ (X B ∨ B = l) := fun B hB h => by have := hX' B h; omega
        have g1 := hH.out _ _ (hXm b hb) m1
        have g2 := hH.out _ _ (hXm b hb) m2
        have hm3 : Kd Wr n₀ k1 A1 := Kd.keep2 (fun p v hp hc => hH.out p v (hXm _ hp) hc) (w := W3) m3
        subst hA
        have r2a : (Wr.alloc (.cells #[.bool o1, .slice A1 k1.len c1] 24)).cell? ⟨Bd, 0, none⟩ = some (.int .i64 d) := (((Below.refl _ Wr).alloc (Nat.le_refl _) _).cell (p := ⟨Bd, 0, none⟩) (by show Bd < Wr.heap.size; omega)).trans r2
        gi_wp2_with (refine ⟨trivial, ?_⟩; gi_at_call 93; refine (nodes_in _ o1 A1 k1.len c1 _ _).mono ?_; rintro e w' ⟨rfl, rfl⟩)
        obtain ⟨Wa, hWa⟩ : ∃ Wa, ((Wr.alloc (.cells #[.bool o1, .slice A1 k1.len c1] 24)).alloc (.cells #[.bool o1, .slice A1 k1.len c1] 24)).alloc (.cells #[.int .i64 (wrap64 (d + 1))] 3) = Wa := ⟨_, rfl⟩
        have hsa : Wa.heap.size = Wr.heap.size + 3 := by rw [← hWa]; simp
        have hka : Below Wr.heap.size Wr Wa := by rw [← hWa]; exact three_boxes Wr _ _ _
        have a0 : Wa.cell? ⟨Wr.heap.size + 1, 0, none⟩ = some (.bool o1) := by rw [← hWa]; simp [go_sem]
        have a1 : Wa.cell? ⟨Wr.heap.size + 1, 1, none⟩ = some (.slice A1 k1.len c1) := by rw [← hWa]; simp [go_sem]
        have a2 : Wa.cell? ⟨Wr.heap.size + 1 + 1, 0, none⟩ = some (.int .i64 (nx d)) := by rw [← hWa]; simp [go_sem, nx]
        have a3 : Wa.cell? ⟨W.heap.size, 0, none⟩ = some (.func (.yield l) #[] #[]) := (hka.cell (p := ⟨W.heap.size, 0, none⟩) (by show W.heap.size < Wr.heap.size; omega)).trans r3
        have aJ : J pre Wa := by rw [← hWa]; exact hJ.alloc _ (hJ.alloc _ (hJ.alloc _ hJr))
        have aM : Marks Wa W.heap.size Wa.heap.size ds := (hM.out.keep fun k _ hk h => (hka.block k hk).trans h).more (by omega)
        have aK : Kd Wa n₀ k1 A1 := hm3.keep2 fun p v hp hc => (hka.cell (by have := hW.size; omega)).trans hc
        have aH : Holds (fun k => X k ∨ k = l) W3 Wa := hH.out.trans fun p v hx hc => (hka.cell (Array.getElem?_eq_some_iff.1 (cells_of_cell hc).choose_spec.1).1).trans hc
        rw [hWa]
        obtain ⟨hQ, hX, hY, ih⟩ := HY.out
        have hQ1 : ∀ x : It, x.key ∈ walkT o1 k1 (nx d) → Q x := fun x hx => hQ x (by rw [← hpre.out, walkK_cons]; simp [hx])
        have hseq := ih o1 k1 A1 c1 (nx d) (Wr.heap.size + 1) (Wr.heap.size + 1 + 1) n₀ (fun k => X k ∨ k = l) Q G Wa (by have := hfs.out; simp only [Fo.size] at this; omega) hG hQ1 aK (by omega) (by omega) (by omega) a0 a1 a2
          (hXn _ (by omega)) (hXn _ (by omega)) (fun k h => by have := hX' k h; omega)
        clear ih hWa r1 r2 r3 r2a g1 g2 m1 m2 m3 hm3 hJr HY
        have HP := Lib.hid hpre.out; clear hpre
        refine range_own (gf := 143) (lb := #[.pointer (some ⟨Wr.heap.size + 1, 0, none⟩), .pointer (some ⟨Wr.heap.size + 1 + 1, 0, none⟩)]) rfl (enters_of Tryz.func143 (by kernel_rfl) rfl) hseq (fun k h => by have := hX' k h; omega) (Below.refl _ _) (fun _ => rfl)
          (fun q V => J (pre ++ q) V ∧ Holds (fun k => X k ∨ k = l) Wa V ∧ Marks V W.heap.size Wa.heap.size ds)
          (fun cd q V => cd = .ret ∧ Jx (pre ++ q) V ∧ Marks V W.heap.size Wa.heap.size ds)
          (OwnFrom.and (fun q V V' row hs hg hr => (own_more hJ (by omega)) (pre ++ q) V V' row hs hg hr) (OwnFrom.and ((Holds.own _ _).from _) (Marks.own _ _ _)))
          (fun cd => OwnFrom.and (ownFrom_pure _ _) (OwnFrom.and (fun q V V' row hs hg hr => (own_more hJx (by omega)) (pre ++ q) V V' row hs hg hr) (Marks.own _ _ _)))
          ⟨by rw [List.append_nil]; exact aJ, Holds.refl _ _, aM⟩
          (fun x a' V => ∃ Bx, V.cell? ⟨Bx, 0, none⟩ = some (.bool x.o) ∧ V.cell? ⟨Bx, 1, none⟩ = some (.slice x.A x.n x.c) ∧ a' = { tmps := #[.func (.yield l) #[] #[], .pointer (some ⟨Bt, 0, none⟩), .pointer (some ⟨Bd, 0, none⟩), .pointer (some ⟨W.heap.size, 0, none⟩), undef, .pointer (some ⟨Wr.heap.size, 0, none⟩), .pointer (some ⟨Bx, 0, none⟩), .int .i64 x.d, .func (.yield l) #[] #[], .agg #[.bool o, .slice (some ⟨b, off, none⟩) ks.len c], .int .i64 d, .bool true, .bool false, .pointer (some ⟨Bt, 1, none⟩), .slice (some ⟨b, off, none⟩) ks.len c, .int .i64 (ks.len : Int), .int .i64 (i : Int), .bool true, .pointer (some ⟨b, off + i * 2, none⟩), .agg #[.bool o1, .slice A1 k1.len c1], .agg #[.bool o1, .slice A1 k1.len c1], .int .i64 d, .int .i64 (wrap64 (d + 1)), .func (.func 143) #[] #[.pointer (some ⟨Wr.heap.size + 1, 0, none⟩), .pointer (some ⟨Wr.heap.size + 1 + 1, 0, none⟩)], tv x.o x.A x.n x.c, .int .i64 x.d, undef, undef, undef, undef, undef, v31], defers := [] })
          (fun x a' _ V V' row hs hg hr => by
            obtain ⟨Bx, b0, b1, e⟩ := hs
            exact ⟨Bx, cell_kept b0 hg (fun r e => (hr r e).2), cell_kept b1 hg (fun r e => (hr r e).2), e⟩) ?assign ?body ?done ?stop
        case assign =>
          rintro l' q x V K hsv ⟨hj, hh, hm⟩ hK
          unfold It.enc tv
          dsimp only
          gi_wp2
          exact hK _ _ ((Kept.refl _ V).alloc _) ⟨hJ (pre ++ q) V _ none hj (World.grownBy_alloc V _ none) (fun r e => by cases e), (Holds.own (β := Unit) (fun k => X k ∨ k = l) Wa) () V _ none hh (World.grownBy_alloc V _ none) (fun r e => by cases e), (Marks.own (β := Unit) W.heap.size Wa.heap.size ds) () V _ none hm (World.grownBy_alloc V _ none) (fun r e => by cases e)⟩ ⟨V.heap.size, by simp [go_sem], by simp [go_sem], rfl⟩
        case body =>
          rintro l' q x a' V hsv ⟨hj, hh, hm⟩ ⟨Bx, b0, b1, rfl⟩ hq
          have b3 := hh _ _ (hXn _ (Nat.le_refl _)) a3
          obtain ⟨fn2, tmps2, assign2, body2, hy2, hR2⟩ := hY (pre ++ q) x V hj hq
          unfold It.enc tv at hy2
          have hR3 := fun m => round_in (m' := m) l' hR2
          clear hR2 hY hseq hQ hQ1 a0 a1 a2 a3 aJ aM aK aH
          have HMk : ∀ V', Kept (fun k => X k ∨ k = l) V V' → Marks V' W.heap.size Wa.heap.size ds := fun V' hk' => hm.keep fun k hk1 hk2 h => (hk'.same k (Array.getElem?_eq_some_iff.1 h).1 (hXn k hk1)).trans h
          gi_wp2
          refine (hR3 _).mono ?_
          rintro e V2 (⟨rfl, hg2, hj2, hk2⟩ | ⟨rfl, hx2, hk2⟩)
          · gi_wp2
            exact ⟨hk2, hg2, by rw [← List.append_assoc]; exact hj2, hh.trans hk2.holds, HMk V2 hk2⟩
          · gi_wp2
            exact ⟨hk2, rfl, by rw [← List.append_assoc]; exact hx2, HMk V2 hk2⟩
        case done =>
          rintro D xs V hD hxs ⟨hj, hh, hm⟩ hdf
          clear hY hseq hQ hQ1 a0 a1 a2 a3 aJ aM aK
          have hDv := (Array.getElem?_eq_some_iff.1 hdf).1
          have hi2 := hi.out
          have hfs2 := hfs.out
          simp only [Fo.len] at hi2
          simp only [Fo.size] at hfs2
          gi_wp2
          refine ⟨⟨i + 1, rest, pre ++ xs, _, _, _, _, _, _, _, _, _, _, rfl, by show _ = _; omega, .inr ⟨b, off, rfl, hb, ?_⟩, by show _ ≤ _; omega, ?_, hj, aH.trans hh, ⟨D, rfl, by omega, hDv, hdf, hm.more hD⟩, by omega⟩, ?_⟩
          · rw [show off + (i + 1) * 2 = off + i * 2 + 2 by omega]; exact m4
          · show _ = _
            rw [← HP.out, walkK_cons, List.map_append, hxs, List.append_assoc]
          · simp [intOf]; omega
        case stop =>
          rintro D cd q V hD hq ⟨rfl, hx, hm⟩ hdf
          clear hY hseq hQ hQ1 a0 a1 a2 a3 aJ aM aK
          gi_wp2
          refine leave_marks rfl (L := W.heap.size) RR.out _ (D + 1) _ ⟨D, rfl, by omega, by omega, hdf, hm.more hD⟩ ⟨⟨_, rfl⟩, .inr ⟨_, ?_, hx⟩⟩
          rw [List.map_append, ← HP.out, walkK_cons]
          exact (List.prefix_append_right_inj _).2 (hq.trans (List.prefix_append _ _))
  · clear t0 t1 t2
    gi_wp2
    refine leave_marks rfl (L := W.heap.size) RR.out [] 0 _ trivial ⟨⟨_, rfl⟩, .inr ⟨_, ?_, hx3⟩⟩
    simp [It.key, walkT]
end Go.Proofs.YtoaglkjpjolacaaGreatDoor.I
namespace Go.Proofs.YtoaglkjpjolacaaGreatDoor.I
open Go.RowKit
theorem int_zero (n : Nat) : ((n : Int) == 0) = decide (n = 0) := by
  by_cases h : n = 0
  · subst h; rfl
  · rw [decide_eq_false h]; exact beq_eq_false_iff_ne.2 (by omega)

theorem pleaf_any (o : Bool) (A : Option Addr) (n c : Nat) (w : World) : Calls Tryz.prog 117 #[tv o A n c] w fun e w' => e = .returned (.bool (decide (n = 0))) ∧ Below w.heap.size w w' := by
  have h := int_zero n
  unfold tv
  go_enter Tryz.func117, Tryz.ntmps117
  go_wp2
  go_ret
  exact ⟨ret_bool (by simp), (Below.refl _ w).alloc (Nat.le_refl _) _⟩

def okN (o : Bool) (n : Nat) : Bool := decide (n = 0) || (decide (n = 2) && !o)
set_option maxHeartbeats 800000 in
theorem rightNode_any (o : Bool) (A : Option Addr) (n c : Nat) (w : World) : Calls Tryz.prog 116 #[tv o A n c] w fun e w' => e = .returned (.bool (okN o n)) ∧ Below w.heap.size w w' := by
  have hb0 : Below w.heap.size w (w.alloc (.cells #[.bool o, .slice A n c] 24)) := (Below.refl _ w).alloc (Nat.le_refl _) _
  have hc := pleaf_any o A n c (w.alloc (.cells #[.bool o, .slice A n c] 24))
  unfold tv at *
  go_enter Tryz.func116, Tryz.ntmps116
  go_wp2_with fail
  refine hc.mono ?_
  rintro e w1 ⟨rfl, hb1⟩
  have f0 := (hb1.cell (p := ⟨w.heap.size, 0, none⟩) (by simp)).trans (show _ = some (.bool o) by simp [go_sem])
  have f1 := (hb1.cell (p := ⟨w.heap.size, 1, none⟩) (by simp)).trans (show _ = some (.slice A n c) by simp [go_sem])
  have HB : Hid (Below w.heap.size w w1) := hb0.trans (hb1.mono (by simp))
  clear hb1 hb0 hc
  by_cases h0 : n = 0
  · subst h0
    go_wp2
    go_ret
    exact ⟨ret_bool (by simp [okN]), HB.out⟩
  · have h0b : decide (n = 0) = false := decide_eq_false h0
    rw [h0b]
    by_cases h2 : n = 2
    · subst h2
      go_wp2
      go_ret
      exact ⟨ret_bool (by simp [okN]), HB.out⟩
    · have h2b : ((n : Int) == 2) = false := beq_eq_false_iff_ne.2 (by omega)
      have HN := Lib.hid h0
      have HN2 := Lib.hid h2
      clear h0 h0b h2
      go_wp2
      go_ret
      exact ⟨ret_bool (by simp [okN, HN.out, HN2.out]), HB.out⟩

def alikeB (o1 : Bool) (n1 : Nat) (o2 : Bool) (n2 : Nat) : Bool := decide (n1 = 0) && decide (n2 = 0) && (o1 == o2)
set_option maxHeartbeats 1600000 in
theorem alike_any (o1 : Bool) (A1 : Option Addr) (n1 c1 : Nat) (o2 : Bool) (A2 : Option Addr) (n2 c2 : Nat) (w : World) :
    Calls Tryz.prog 153 #[tv o1 A1 n1 c1, tv o2 A2 n2 c2] w fun e w' => e = .returned (.bool (alikeB o1 n1 o2 n2)) ∧ Below w.heap.size w w' := by
  have hb0 : Below w.heap.size w ((w.alloc (.cells #[.bool o1, .slice A1 n1 c1] 24)).alloc (.cells #[.bool o2, .slice A2 n2 c2] 24)) := ((Below.refl _ w).alloc (Nat.le_refl _) _).alloc (by simp) _
  have hc := pleaf_any o1 A1 n1 c1 ((w.alloc (.cells #[.bool o1, .slice A1 n1 c1] 24)).alloc (.cells #[.bool o2, .slice A2 n2 c2] 24))
  have hc2 := fun W => pleaf_any o2 A2 n2 c2 W
  unfold tv at *
  go_enter Tryz.func153, Tryz.ntmps153
  go_wp2_with fail
  refine hc.mono ?_
  rintro e w1 ⟨rfl, hb1⟩
  have HB : Hid (Below w.heap.size w w1) := hb0.trans (hb1.mono (by simp; omega))
  have f0 := (hb1.cell (p := ⟨w.heap.size, 0, none⟩) (by simp; omega)).trans (show _ = some (.bool o1) by simp [go_sem])
  have f2 := (hb1.cell (p := ⟨w.heap.size + 1, 0, none⟩) (by simp)).trans (show _ = some (.bool o2) by simp [go_sem])
  have f3 := (hb1.cell (p := ⟨w.heap.size + 1, 1, none⟩) (by simp)).trans (show _ = some (.slice A2 n2 c2) by simp [go_sem])
  have hs1 : w.heap.size + 2 ≤ w1.heap.size := by have := hb1.size; simpa using this
  clear hb1 hb0 hc
  by_cases h0 : n1 = 0
  · subst h0
    go_wp2_with fail
    refine (hc2 w1).mono ?_
    rintro e w2 ⟨rfl, hb2⟩
    have g0 := (hb2.cell (p := ⟨w.heap.size, 0, none⟩) (by show w.heap.size < _; omega)).trans f0
    have g2 := (hb2.cell (p := ⟨w.heap.size + 1, 0, none⟩) (by show w.heap.size + 1 < _; omega)).trans f2
    have HB2 : Hid (Below w.heap.size w w2) := HB.out.trans (hb2.mono HB.out.size)
    clear hb2 f0 f2 f3 hc2
    by_cases h2 : n2 = 0
    · subst h2
      go_wp2
      go_ret
      exact ⟨ret_bool (by simp [alikeB]), HB2.out⟩
    · have h2b : decide (n2 = 0) = false := decide_eq_false h2
      rw [h2b]
      have HN := Lib.hid h2
      clear h2 h2b
      go_wp2
      go_ret
      exact ⟨ret_bool (by simp [alikeB, HN.out]), HB2.out⟩
  · have h0b : decide (n1 = 0) = false := decide_eq_false h0
    rw [h0b]
    have HN := Lib.hid h0
    clear h0 h0b hc2
    go_wp2
    go_ret
    exact ⟨ret_bool (by simp [alikeB, HN.out]), HB.out⟩

set_option maxRecDepth 100000 in
set_option maxHeartbeats 800000 in
theorem pair_any (x y : Tr) (u v : Value) (w : World) (hx : InT w w.heap.size x u) (hy : InT w w.heap.size y v) : Calls Tryz.prog 154 #[u, v] w (Trees (.node x y) w) := by
  obtain ⟨o1, A1, n1, c1, rfl⟩ := hx.form
  obtain ⟨o2, A2, n2, c2, rfl⟩ := hy.form
  have HX := Lib.hid hx
  have HY := Lib.hid hy
  clear hx hy
  unfold tv
  go_enter Tryz.func154, Tryz.ntmps154
  go_wp2
  refine bodyPost_ret (v := tv false (some ⟨w.heap.size + 1 + 1 + 1, 0, none⟩) 2 2) (by simp [results, Tryz.f154, go_sem, tv]) rfl ?_
  exact ⟨_, rfl, two_in (four_boxes w _ _ _ _) (by have := heap_alloc_new (((w.alloc (.cells #[.bool o1, .slice A1 n1 c1] 24)).alloc (.cells #[.bool o2, .slice A2 n2 c2] 24)).alloc (.cells #[.bool false, .slice (some ⟨w.heap.size + 1 + 1 + 1, 0, none⟩) 2 2] 24)) (.cells #[.bool o1, .slice A1 n1 c1, .bool o2, .slice A2 n2 c2] 24); simpa only [World.size_alloc] using this) HX.out HY.out, four_boxes w _ _ _ _⟩

theorem InT.leafy {w : World} {B : Nat} {x : Tr} {o : Bool} {A : Option Addr} {n c : Nat} (h : InT w B x (tv o A n c)) : (n = 0 ∧ x = .leaf o) ∨ (n = 2 ∧ o = false ∧ ∃ l r, x = .node l r) := by
  cases x with
  | leaf o' =>
    obtain ⟨A', c', e⟩ := h
    unfold tv at e
    injection e with e
    injection e with e
    injection e with e1 e2
    injection e1 with e1
    injection e2 with e2
    injection e2 with e2 e3 e4
    exact .inl ⟨e3, by rw [e1]⟩
  | node l r =>
    obtain ⟨b, off, c', e, _⟩ := h
    unfold tv at e
    injection e with e
    injection e with e
    injection e with e1 e2
    injection e1 with e1
    injection e2 with e2
    injection e2 with e2 e3 e4
    exact .inr ⟨e3, e1, l, r, rfl⟩
theorem mk2_alike {w : World} {B : Nat} {x y : Tr} {o1 o2 : Bool} {A1 A2 : Option Addr} {n1 n2 c1 c2 : Nat} (hx : InT w B x (tv o1 A1 n1 c1)) (hy : InT w B y (tv o2 A2 n2 c2)) :
    x.mk2 y = if alikeB o1 n1 o2 n2 = true then x else .node x y := by
  rcases hx.leafy with ⟨rfl, rfl⟩ | ⟨rfl, rfl, l, r, rfl⟩
  · rcases hy.leafy with ⟨rfl, rfl⟩ | ⟨rfl, rfl, l, r, rfl⟩
    · by_cases h : o1 = o2 <;> simp [alikeB, Tr.mk2, h]
    · simp [alikeB, Tr.mk2]
  · cases y <;> simp [alikeB, Tr.mk2]

/-- What a function keeps that has boxed two trees, and a tree for its answer. -/
structure JB (w : World) (o1 : Bool) (A1 : Option Addr) (n1 c1 : Nat) (o2 : Bool) (A2 : Option Addr) (n2 c2 : Nat) (W : World) : Prop where
  a0 : W.cell? ⟨w.heap.size, 0, none⟩ = some (.bool o1)
  a1 : W.cell? ⟨w.heap.size, 1, none⟩ = some (.slice A1 n1 c1)
  b0 : W.cell? ⟨w.heap.size + 1, 0, none⟩ = some (.bool o2)
  b1 : W.cell? ⟨w.heap.size + 1, 1, none⟩ = some (.slice A2 n2 c2)
  box : Box0 W (w.heap.size + 1 + 1)
  bel : Below w.heap.size w W
  big : w.heap.size + 3 ≤ W.heap.size
def JW (w : World) (o1 : Bool) (A1 : Option Addr) (n1 c1 : Nat) (o2 : Bool) (A2 : Option Addr) (n2 c2 : Nat) : World :=
  ((w.alloc (.cells #[.bool o1, .slice A1 n1 c1] 24)).alloc (.cells #[.bool o2, .slice A2 n2 c2] 24)).alloc (.cells #[.bool false, .slice none 0 0] 24)
theorem JB.start (w : World) (o1 : Bool) (A1 : Option Addr) (n1 c1 : Nat) (o2 : Bool) (A2 : Option Addr) (n2 c2 : Nat) : JB w o1 A1 n1 c1 o2 A2 n2 c2 (JW w o1 A1 n1 c1 o2 A2 n2 c2) := by
  unfold JW
  refine ⟨by simp [go_sem], by simp [go_sem], by simp [go_sem], by simp [go_sem], ?_, three_boxes w _ _ _, by simp⟩
  have := box_start ((w.alloc (.cells #[.bool o1, .slice A1 n1 c1] 24)).alloc (.cells #[.bool o2, .slice A2 n2 c2] 24))
  simpa only [World.size_alloc] using this
theorem JB.next {w : World} {o1 o2 : Bool} {A1 A2 : Option Addr} {n1 n2 c1 c2 : Nat} {W W' : World} (h : JB w o1 A1 n1 c1 o2 A2 n2 c2 W) {B : Nat} (hb : Below B W W') (hB : w.heap.size + 3 ≤ B) : JB w o1 A1 n1 c1 o2 A2 n2 c2 W' :=
  ⟨(hb.cell (by show w.heap.size < _; omega)).trans h.a0, (hb.cell (by show w.heap.size < _; omega)).trans h.a1, (hb.cell (by show w.heap.size + 1 < _; omega)).trans h.b0, (hb.cell (by show w.heap.size + 1 < _; omega)).trans h.b1, h.box.below hb (by omega), h.bel.trans (hb.mono (by omega)), Nat.le_trans h.big hb.size⟩

set_option maxRecDepth 100000 in
set_option maxHeartbeats 1600000 in
theorem join_any (x y : Tr) (u v : Value) (w : World) (hx : InT w w.heap.size x u) (hy : InT w w.heap.size y v) : Calls Tryz.prog 125 #[u, v] w (Trees (x.mk2 y) w) := by
  obtain ⟨o1, A1, n1, c1, rfl⟩ := hx.form
  obtain ⟨o2, A2, n2, c2, rfl⟩ := hy.form
  have HM := Lib.hid (mk2_alike hx hy)
  have HX := Lib.hid hx
  have HY := Lib.hid hy
  have HJ := Lib.hid (JB.start w o1 A1 n1 c1 o2 A2 n2 c2)
  have hc := alike_any o1 A1 n1 c1 o2 A2 n2 c2 (JW w o1 A1 n1 c1 o2 A2 n2 c2)
  have hc2 := fun W (h : Below w.heap.size w W) => pair_any x y _ _ W (HX.out.up h) (HY.out.up h)
  unfold JW at hc HJ
  unfold tv at hc hc2 ⊢
  clear hx hy
  go_enter Tryz.func125, Tryz.ntmps125
  go_wp2_with fail
  refine hc.mono ?_
  rintro e w1 ⟨rfl, hb1⟩
  have HJ1 := HJ.out.next hb1 HJ.out.big
  clear hb1 hc HJ
  obtain ⟨a0, a1, b0, b1, hbox, hbel, hbig⟩ := HJ1
  by_cases h : alikeB o1 n1 o2 n2 = true
  · rw [h] at HM ⊢
    have HM' : Hid (x.mk2 y = x) := by show _ = _; rw [HM.out]; rfl
    obtain ⟨⟨c0, c1'⟩, f0, f1⟩ := hbox.facts
    have HFIN : Hid (∀ u1 u2, InT ((w1.setCell ⟨w.heap.size + 1 + 1, 0, none⟩ u1).setCell ⟨w.heap.size + 1 + 1, 1, none⟩ u2) ((w1.setCell ⟨w.heap.size + 1 + 1, 0, none⟩ u1).setCell ⟨w.heap.size + 1 + 1, 1, none⟩ u2).heap.size x (tv o1 A1 n1 c1) ∧ Below w.heap.size w ((w1.setCell ⟨w.heap.size + 1 + 1, 0, none⟩ u1).setCell ⟨w.heap.size + 1 + 1, 1, none⟩ u2)) := fun u1 u2 => store_in hbox (HX.out.up hbel) hbel (by omega)
    clear hbox hbel hbig hc2 HM
    go_wp2
    refine bodyPost_ret (v := tv o1 A1 n1 c1) (by simp [results, Tryz.f125, go_sem, tv, c0, c1']) rfl ?_
    refine ⟨_, rfl, ?_, (HFIN.out _ _).2⟩
    rw [HM'.out]; exact (HFIN.out _ _).1
  · have hf : alikeB o1 n1 o2 n2 = false := by simpa using h
    rw [hf] at HM ⊢
    have HM' : Hid (x.mk2 y = .node x y) := by show _ = _; rw [HM.out]; rfl
    have hcall := hc2 w1 hbel
    have HBX := Lib.hid hbox
    have HBL := Lib.hid hbel
    have HG := Lib.hid hbig
    clear hbox hbel hbig hc2 HM h hf
    go_wp2_with fail
    refine hcall.mono ?_
    rintro e w5 ⟨v3, rfl, ht3, hb5⟩
    obtain ⟨o5, A5, n5, c5, rfl⟩ := ht3.form
    have HBX5 := HBX.out.below hb5 (by have := HG.out; omega)
    obtain ⟨⟨c0, c1'⟩, f0, f1⟩ := HBX5.facts
    have HFIN : Hid (∀ u1 u2, InT ((w5.setCell ⟨w.heap.size + 1 + 1, 0, none⟩ u1).setCell ⟨w.heap.size + 1 + 1, 1, none⟩ u2) ((w5.setCell ⟨w.heap.size + 1 + 1, 0, none⟩ u1).setCell ⟨w.heap.size + 1 + 1, 1, none⟩ u2).heap.size (.node x y) (tv o5 A5 n5 c5) ∧ Below w.heap.size w ((w5.setCell ⟨w.heap.size + 1 + 1, 0, none⟩ u1).setCell ⟨w.heap.size + 1 + 1, 1, none⟩ u2)) := fun u1 u2 => store_in HBX5 ht3 (HBL.out.trans (hb5.mono HBL.out.size)) (by omega)
    clear hb5 HBX5 ht3 hcall a0 a1 b0 b1
    unfold tv
    go_wp2
    refine bodyPost_ret (v := tv o5 A5 n5 c5) (by simp [results, Tryz.f125, go_sem, tv, c0, c1']) rfl ?_
    refine ⟨_, rfl, ?_, (HFIN.out _ _).2⟩
    rw [HM'.out]; exact (HFIN.out _ _).1
end Go.Proofs.YtoaglkjpjolacaaGreatDoor.I
namespace Go.Proofs.YtoaglkjpjolacaaGreatDoor.I
open Go.RowKit Go.Shelf
attribute [local go_sem] Oper.semAt_some

theorem scope_wide {n : Nat} {P : Program} {c : Code} {Q : Exit → Act → World → Prop} {a : Act} {w : World} (h : c.wpIn Fence.wide n P (Exit.noGoto Q) a w) : (Code.scope c).wpIn Fence.wide n P Q a w := wpIn_wide.2 (wp_scope_straight (wpIn_wide.1 h))

def goodK (k : Bool × Nat × Int) : Bool := okN k.1 k.2.1 && decide (k.2.2 ≤ 32)
def okL (l : List (Bool × Nat × Int)) : Bool := l.all goodK && decide (l.length ≤ 2047)

theorem boxed_below {W W' : World} {B N : Nat} {t : TypeId} {v : Value} (h : Boxed W B t v) (hb : Below N W W') (hg : B < N) : Boxed W' B t v := (hb.block B hg).trans h

set_option maxRecDepth 100000 in
set_option maxHeartbeats 4000000 in
theorem right_walk (o : Bool) (ks : Fo) (A : Option Addr) (c : Nat) (w : World) (hk : Kd w w.heap.size ks A) :
    Calls Tryz.prog 57 #[tv o A ks.len c] w fun e w' => e = .returned (.bool (okL (walkT o ks 0))) ∧ Below w.heap.size w w' := by
  refine (callsIn_wide (n := 3)).1 ?_
  unfold tv
  refine callsIn_of_wp_marks Tryz.func57 rfl trivial ?_ rfl
  simp only [Tryz.ntmps57, List.size_toArray, List.length_cons, List.length_nil, Nat.reduceAdd, Nat.reduceSub, Array.replicate_succ, Array.replicate_zero, List.push_toArray, List.append_toArray, List.nil_append, List.cons_append]
  have HK := Lib.hid hk
  clear hk
  gi_wp2
  refine scope_wide ?_
  gi_wp2
  refine wpIn_label ?_
  gi_wp2_with (refine ⟨trivial, ?_⟩; gi_at_call 93; refine (nodes_in _ o A ks.len c _ _).mono ?_; rintro e w' ⟨rfl, rfl⟩)
  obtain ⟨W0, hW0⟩ : ∃ W0, ((((w.alloc (.cells #[.bool o, .slice A ks.len c] 24)).alloc (.cells #[.int .i64 0] 3)).alloc (.cells #[.bool true] 4)).alloc (.cells #[.bool o, .slice A ks.len c] 24)).alloc (.cells #[.int .i64 0] 3) = W0 := ⟨_, rfl⟩
  have hs0 : W0.heap.size = w.heap.size + 5 := by rw [← hW0]; simp
  have hb0 : Below w.heap.size w W0 := by rw [← hW0]; exact (four_boxes w _ _ _ _).alloc (by simp; omega) _
  have a0 : W0.cell? ⟨w.heap.size + 3, 0, none⟩ = some (.bool o) := by rw [← hW0]; simp [go_sem]
  have a1 : W0.cell? ⟨w.heap.size + 3, 1, none⟩ = some (.slice A ks.len c) := by rw [← hW0]; simp [go_sem]
  have a2 : W0.cell? ⟨w.heap.size + 4, 0, none⟩ = some (.int .i64 0) := by rw [← hW0]; simp [go_sem]
  have bc : Boxed W0 (w.heap.size + 1) 3 (.int .i64 0) := by
    rw [← hW0]
    have := Boxed.new (w.alloc (.cells #[.bool o, .slice A ks.len c] 24)) 3 (.int .i64 0)
    rw [World.size_alloc] at this
    exact ((this.alloc _).alloc _).alloc _
  have br : Boxed W0 (w.heap.size + 2) 4 (.bool true) := by
    rw [← hW0]
    have := Boxed.new ((w.alloc (.cells #[.bool o, .slice A ks.len c] 24)).alloc (.cells #[.int .i64 0] 3)) 4 (.bool true)
    simp only [World.size_alloc] at this
    exact (this.alloc _).alloc _
  simp only [Nat.add_assoc, Nat.reduceAdd]
  rw [hW0]
  have hseq := nodes_seq (ks.size + 1) o ks A c 0 (w.heap.size + 3) (w.heap.size + 4) w.heap.size (fun k => k = w.heap.size + 1 ∨ k = w.heap.size + 2) (fun _ => True) (fun x => x.n = 0 ∨ x.n = 2) W0 (Nat.lt_succ_self _) (fun _ h => h) (fun _ _ => trivial)
    (HK.out.below hb0) (by omega) (by omega) (by omega) a0 a1 a2 (by omega) (by omega) (fun k h => by omega)
  clear a0 a1 a2 hW0 HK
  refine range_own (gf := 143) (lb := #[.pointer (some ⟨w.heap.size + 3, 0, none⟩), .pointer (some ⟨w.heap.size + 4, 0, none⟩)]) rfl (enters_of Tryz.func143 (by kernel_rfl) rfl) hseq (fun k h => by omega) (Below.refl _ _) (fun _ => rfl)
    (fun q V => Boxed V (w.heap.size + 1) 3 (.int .i64 (q.length : Int)) ∧ Boxed V (w.heap.size + 2) 4 (.bool true) ∧ Below w.heap.size w V ∧ okL (q.map It.key) = true)
    (fun cd q V => cd = .exit 0 ∧ Boxed V (w.heap.size + 2) 4 (.bool false) ∧ Below w.heap.size w V ∧ okL (q.map It.key) = false)
    (OwnFrom.and ((boxed_own _ _ (fun q : List It => .int .i64 (q.length : Int))).from _) (OwnFrom.and ((boxed_own _ _ _).from _) (OwnFrom.and (ownFrom_below (Nat.le_refl _) (by omega)) (ownFrom_pure _ _))))
    (fun cd => OwnFrom.and (ownFrom_pure _ _) (OwnFrom.and ((boxed_own _ _ _).from _) (OwnFrom.and (ownFrom_below (Nat.le_refl _) (by omega)) (ownFrom_pure _ _))))
    ⟨bc, br, hb0, rfl⟩
    (fun x a' V => ∃ Bx, w.heap.size + 2 < Bx ∧ V.cell? ⟨Bx, 0, none⟩ = some (.bool x.o) ∧ V.cell? ⟨Bx, 1, none⟩ = some (.slice x.A x.n x.c) ∧ a' = { tmps := #[.agg #[.bool o, .slice A ks.len c], .pointer (some ⟨w.heap.size, 0, none⟩), .bool false, .pointer (some ⟨w.heap.size + 1, 0, none⟩), .pointer (some ⟨w.heap.size + 2, 0, none⟩), .pointer (some ⟨Bx, 0, none⟩), .int .i64 x.d, .agg #[.bool o, .slice A ks.len c], .func (.func 143) #[] #[.pointer (some ⟨w.heap.size + 3, 0, none⟩), .pointer (some ⟨w.heap.size + 4, 0, none⟩)], tv x.o x.A x.n x.c, .int .i64 x.d, undef, undef, undef, undef, undef, undef, undef, undef, undef, undef, undef], defers := [] })
    (fun x a' _ V V' row hs hg hr => by
      obtain ⟨Bx, hx, b0, b1, e⟩ := hs
      exact ⟨Bx, hx, cell_kept b0 hg (fun r e => (hr r e).2), cell_kept b1 hg (fun r e => (hr r e).2), e⟩) ?assign ?body ?done ?stop
  case assign =>
    rintro l' q x V K hsv ⟨h1, h2, h3, h4⟩ hK
    unfold It.enc tv
    gi_wp2
    exact hK _ _ ((Kept.refl _ V).alloc _) ⟨h1.alloc _, h2.alloc _, h3.alloc h3.size _, h4⟩ ⟨V.heap.size, h2.lt, by simp [go_sem], by simp [go_sem], rfl⟩
  case body =>
    rintro l' q x a' V hsv ⟨h1, h2, h3, h4⟩ ⟨Bx, hBx, b0, b1, rfl⟩ _
    have hq : q.length ≤ 2047 := by
      unfold okL at h4
      have := (Bool.and_eq_true_iff.1 h4).2
      have := of_decide_eq_true this
      simpa using this
    have hc := h1.cell
    have hf := h1.frozen
    have HG : Hid (okL ((q ++ [x]).map It.key) = (okN x.o x.n && decide (x.d ≤ 32) && decide (q.length + 1 ≤ 2047))) := by
      show _ = _
      unfold okL at h4 ⊢
      rw [List.map_append, List.all_append, (Bool.and_eq_true_iff.1 h4).1]
      simp [goodK, It.key]
    obtain ⟨V1, hV1⟩ : ∃ V1, V.setCell ⟨w.heap.size + 1, 0, none⟩ (.int .i64 ((q.length : Int) + 1)) = V1 := ⟨_, rfl⟩
    have e1 : Boxed V1 (w.heap.size + 1) 3 (.int .i64 ((q.length : Int) + 1)) := by rw [← hV1]; exact h1.set _
    have e2 : Boxed V1 (w.heap.size + 2) 4 (.bool true) := by rw [← hV1]; exact h2.other (by omega) _
    have e3 : Below w.heap.size w V1 := by rw [← hV1]; exact h3.setCell (p := ⟨w.heap.size + 1, 0, none⟩) (by show w.heap.size ≤ w.heap.size + 1; omega) _
    have e4 : V1.cell? ⟨Bx, 0, none⟩ = some (.bool x.o) := by rw [← hV1]; exact (World.cell?_setCell_other _ _ _ _ (fun e => by injection e; omega)).trans b0
    have e5 : V1.cell? ⟨Bx, 1, none⟩ = some (.slice x.A x.n x.c) := by rw [← hV1]; exact (World.cell?_setCell_other _ _ _ _ (fun e => by injection e; omega)).trans b1
    have ek : Kept (fun k => k = w.heap.size + 1 ∨ k = w.heap.size + 2) V V1 := by rw [← hV1]; exact (Kept.refl _ V).setCell (p := ⟨w.heap.size + 1, 0, none⟩) (.inl rfl) _
    have hcall := (callsIn_wide (n := 2)).2 (rightNode_any x.o x.A x.n x.c V1)
    unfold tv at hcall ⊢
    have hq2 : (q.length : Int) ≤ 2047 := by omega
    have HE := Lib.hid hV1
    clear hV1 hseq bc br
    by_cases h_a : okN x.o x.n = true
    · rw [h_a] at hcall HG
      by_cases h_d : x.d ≤ 32
      · rw [decide_eq_true h_d] at HG
        by_cases h_n : q.length + 1 ≤ 2047
        · rw [decide_eq_true h_n] at HG
          have h_n2 : ¬ (2047 : Int) < (q.length : Int) + 1 := by omega
          have h_d2 : ¬ (32 : Int) < x.d := by omega
          clear h_n h_d
          have h_a2 : x.n = 0 ∨ x.n = 2 := by
            unfold okN at h_a
            simp at h_a
            omega
          clear h_a
          gi_wp2_with (refine ⟨trivial, ?_⟩; gi_at_call 116; rw [HE.out]; refine (CallsIn.inRound l' hcall).mono ?_; clear hcall; rintro e V2 ⟨rfl, hb2⟩; have g1 := (boxed_below e1 hb2 e1.lt).cell; have g2 := (boxed_below e2 hb2 e2.lt).cell; have g3 := (boxed_below e2 hb2 e2.lt).frozen; have g4 := boxed_below e2 hb2 e2.lt; have g6 := boxed_below e1 hb2 e1.lt; have g5 := ek.trans (Kept.below hb2 (Nat.le_refl _)); have g7 := e3.trans (hb2.mono e3.size); clear hb2 e1 e2 e3 e4 e5 ek h1 h2 h3 hc hf b0 b1)
          exact ⟨g5, h_a2, by rw [List.length_append]; exact g6, g4, g7, by rw [HG.out]; rfl⟩
        · rw [decide_eq_false h_n] at HG
          have h_n2 : (2047 : Int) < (q.length : Int) + 1 := by omega
          have h_d2 : ¬ (32 : Int) < x.d := by omega
          clear h_n h_d h_a
          gi_wp2_with (refine ⟨trivial, ?_⟩; gi_at_call 116; rw [HE.out]; refine (CallsIn.inRound l' hcall).mono ?_; clear hcall; rintro e V2 ⟨rfl, hb2⟩; have g1 := (boxed_below e1 hb2 e1.lt).cell; have g2 := (boxed_below e2 hb2 e2.lt).cell; have g3 := (boxed_below e2 hb2 e2.lt).frozen; have g4 := boxed_below e2 hb2 e2.lt; have g6 := boxed_below e1 hb2 e1.lt; have g5 := ek.trans (Kept.below hb2 (Nat.le_refl _)); have g7 := e3.trans (hb2.mono e3.size); clear hb2 e1 e2 e3 e4 e5 ek h1 h2 h3 hc hf b0 b1)
          exact ⟨g5.setCell (p := ⟨w.heap.size + 2, 0, none⟩) (.inr rfl) _, rfl, g4.set _, g7.setCell (p := ⟨w.heap.size + 2, 0, none⟩) (by show w.heap.size ≤ w.heap.size + 2; omega) _, by rw [HG.out]; rfl⟩
      · rw [decide_eq_false h_d] at HG
        have h_d2 : (32 : Int) < x.d := by omega
        clear h_d h_a
        gi_wp2_with (refine ⟨trivial, ?_⟩; gi_at_call 116; rw [HE.out]; refine (CallsIn.inRound l' hcall).mono ?_; clear hcall; rintro e V2 ⟨rfl, hb2⟩; have g1 := (boxed_below e1 hb2 e1.lt).cell; have g2 := (boxed_below e2 hb2 e2.lt).cell; have g3 := (boxed_below e2 hb2 e2.lt).frozen; have g4 := boxed_below e2 hb2 e2.lt; have g6 := boxed_below e1 hb2 e1.lt; have g5 := ek.trans (Kept.below hb2 (Nat.le_refl _)); have g7 := e3.trans (hb2.mono e3.size); clear hb2 e1 e2 e3 e4 e5 ek h1 h2 h3 hc hf b0 b1)
        exact ⟨g5.setCell (p := ⟨w.heap.size + 2, 0, none⟩) (.inr rfl) _, rfl, g4.set _, g7.setCell (p := ⟨w.heap.size + 2, 0, none⟩) (by show w.heap.size ≤ w.heap.size + 2; omega) _, by rw [HG.out]; simp⟩
    · have h_a2 : okN x.o x.n = false := by simpa using h_a
      rw [h_a2] at hcall HG
      clear h_a h_a2
      gi_wp2_with (refine ⟨trivial, ?_⟩; gi_at_call 116; rw [HE.out]; refine (CallsIn.inRound l' hcall).mono ?_; clear hcall; rintro e V2 ⟨rfl, hb2⟩; have g1 := (boxed_below e1 hb2 e1.lt).cell; have g2 := (boxed_below e2 hb2 e2.lt).cell; have g3 := (boxed_below e2 hb2 e2.lt).frozen; have g4 := boxed_below e2 hb2 e2.lt; have g6 := boxed_below e1 hb2 e1.lt; have g5 := ek.trans (Kept.below hb2 (Nat.le_refl _)); have g7 := e3.trans (hb2.mono e3.size); clear hb2 e1 e2 e3 e4 e5 ek h1 h2 h3 hc hf b0 b1)
      exact ⟨g5.setCell (p := ⟨w.heap.size + 2, 0, none⟩) (.inr rfl) _, rfl, g4.set _, g7.setCell (p := ⟨w.heap.size + 2, 0, none⟩) (by show w.heap.size ≤ w.heap.size + 2; omega) _, by rw [HG.out]; simp⟩
  case done =>
    rintro D xs V hD hxs ⟨h1, h2, h3, h4⟩ hdf
    have c2 := h2.cell
    rw [hxs] at h4
    clear hseq bc br
    have HB : Hid (∀ o', Below w.heap.size w (V.putObj D o')) := fun o' => h3.trans (belowK_b (w := w) (Nat.le_refl _) V D _ _ (by omega) hdf rfl rfl)
    gi_wp2
    refine ⟨by simp, .inl ⟨_, _, rfl, run_takeDeferred hdf, ?_⟩⟩
    exact ⟨_, results_tmp rfl _ _ _, by rw [h4]; rfl, HB.out _⟩
  case stop =>
    rintro D cd q V hD hq ⟨rfl, h2, h3, h4⟩ hdf
    have c2 := h2.cell
    have HF : Hid (okL (walkT o ks 0) = false) := by
      show _ = _
      obtain ⟨r, hr⟩ := hq
      unfold okL at h4 ⊢
      rw [← hr, List.all_append, List.length_append]
      cases hh : (List.map It.key q).all goodK with
      | false => simp
      | true =>
        rw [hh] at h4
        have : ¬ (List.map It.key q).length ≤ 2047 := by simpa using h4
        rw [decide_eq_false (by omega : ¬ (List.map It.key q).length + r.length ≤ 2047), Bool.and_false]
    clear hseq bc br
    have HB : Hid (∀ o', Below w.heap.size w (V.putObj D o')) := fun o' => h3.trans (belowK_b (w := w) (Nat.le_refl _) V D _ _ (by omega) hdf rfl rfl)
    clear h4 hq
    gi_wp2
    refine ⟨by simp, .inl ⟨_, _, rfl, run_takeDeferred hdf, ?_⟩⟩
    exact ⟨_, results_tmp rfl _ _ _, by rw [HF.out]; rfl, HB.out _⟩
end Go.Proofs.YtoaglkjpjolacaaGreatDoor.I
namespace Go.Proofs.YtoaglkjpjolacaaGreatDoor.I
open Go.RowKit
theorem nx_small (d : Int) (h0 : 0 ≤ d) (h : d ≤ 1000) : nx d = d + 1 := by unfold nx wrap64; omega

def deepOk (d : Int) : Option (List Tr) → Bool
  | some ts => ts.all fun t => decide (d + t.depth ≤ 32)
  | none => false
def deepT (d : Int) : Option Tr → Bool
  | some t => decide (d + t.depth ≤ 32)
  | none => false

theorem one_all (o : Bool) (ks : Fo) (d : Int) (_hd : d ≤ 32) : (okN o ks.len && deepOk (d + 1) (trees ks)) = deepT d ((trees ks).bind (one o)) := by
  cases ht : trees ks with
  | none => simp [deepOk, deepT]
  | some ts =>
    have hl := trees_len ks ts ht
    rw [← hl]
    simp only [Option.bind_some]
    match ts with
    | [] => simp [okN, deepOk, one, deepT, Tr.depth]; omega
    | [x] => simp [okN, one, deepT]
    | [x, y] =>
      cases o
      · have e : (Tr.node x y).depth = max x.depth y.depth + 1 := rfl
        simp only [okN, deepOk, one, deepT, List.length_cons, List.length_nil, List.all_cons, List.all_nil]
        simp
        rw [← Bool.decide_and]
        exact decide_eq_decide.2 (by rw [e]; omega)
      · simp [okN, one, deepT]
    | x :: y :: z :: r => simp [okN, one, deepT]

theorem walkK_all : ∀ (f : Fo) (d : Int), 0 ≤ d → d ≤ 33 → (walkK f d).all goodK = deepOk d (trees f)
  | .nil, d, _, _ => rfl
  | .cons o ks rest, d, h0, h1 => by
    by_cases hd : d ≤ 32
    · have ih1 := walkK_all ks (nx d) (by rw [nx_small d h0 (by omega)]; omega) (by rw [nx_small d h0 (by omega)]; omega)
      have ih2 := walkK_all rest d h0 h1
      have key := one_all o ks d hd
      simp only [walkK, List.all_cons, List.all_append, ih1, ih2, goodK, decide_eq_true hd, Bool.and_true]
      rw [nx_small d h0 (by omega), ← Bool.and_assoc, key]
      simp only [trees]
      cases trees ks with
      | none => simp [deepT, deepOk]
      | some k =>
        simp only [Option.bind_some]
        cases one o k with
        | none => simp [deepT, deepOk]
        | some t =>
          simp only [Option.bind_some, deepT]
          cases trees rest with
          | none => simp [deepOk]
          | some ts => simp [deepOk]
    · obtain rfl : d = 33 := by omega
      simp only [walkK, List.all_cons, goodK]
      rw [decide_eq_false hd]
      simp only [Bool.and_false, Bool.false_and, trees]
      cases trees ks with
      | none => simp [deepOk]
      | some k =>
        simp only [Option.bind_some]
        cases one o k with
        | none => simp [deepOk]
        | some t =>
          simp only [Option.bind_some]
          cases trees rest with
          | none => simp [deepOk]
          | some ts =>
            simp only [Option.map_some, deepOk, List.all_cons]
            rw [decide_eq_false (by omega), Bool.false_and]

theorem one_nodes (o : Bool) (ts : List Tr) (t : Tr) (h : one o ts = some t) : t.nodes = sumN ts + 1 := by
  match ts, h with
  | [], h => simp [one] at h; subst h; rfl
  | [x], h => simp [one] at h
  | [x, y], h =>
    cases o
    · simp [one] at h; subst h; simp [Tr.nodes, sumN]
    · simp [one] at h
  | x :: y :: z :: r, h => simp [one] at h
theorem walkK_len : ∀ (f : Fo) (ts : List Tr) (d : Int), trees f = some ts → (walkK f d).length = sumN ts
  | .nil, ts, d, h => by simp [trees] at h; subst h; rfl
  | .cons o ks rest, ts, d, h => by
    simp only [trees] at h
    cases hk : trees ks with
    | none => rw [hk] at h; simp at h
    | some k =>
      rw [hk] at h
      simp only [Option.bind_some] at h
      cases ho : one o k with
      | none => rw [ho] at h; simp at h
      | some t =>
        rw [ho] at h
        simp only [Option.bind_some] at h
        cases hr : trees rest with
        | none => rw [hr] at h; simp at h
        | some ts' =>
          rw [hr] at h
          simp at h
          subst h
          have i1 := walkK_len ks k (nx d) hk
          have i2 := walkK_len rest ts' d hr
          have i3 := one_nodes o k t ho
          simp only [walkK, List.length_cons, List.length_append, i1, i2, sumN, List.map_cons, List.sum_cons]
          unfold sumN at i3
          omega
theorem okL_tree (o : Bool) (ks : Fo) : okL (walkT o ks 0) = (treeOf o ks).isSome := by
  have h1 : (walkT o ks 0).all goodK = deepT 0 ((trees ks).bind (one o)) := by
    unfold walkT
    rw [List.all_cons, nx_small 0 (by decide) (by decide), walkK_all ks (0 + 1) (by decide) (by decide), ← one_all o ks 0 (by decide)]
    simp [goodK]
  unfold okL treeOf
  rw [h1]
  cases hk : trees ks with
  | none => rfl
  | some k =>
    simp only [Option.bind_some]
    cases ho : one o k with
    | none => rfl
    | some t =>
      have hl : (walkT o ks 0).length = t.nodes := by
        unfold walkT
        rw [List.length_cons, walkK_len ks k _ hk, one_nodes o k t ho]
      rw [hl]
      simp only [deepT, Option.filter_some]
      by_cases h1 : t.depth ≤ 32
      · by_cases h2 : t.nodes ≤ 2047
        · simp [h1, h2]; omega
        · simp [h2]
      · simp [h1]; intro h; omega
theorem right_any (o : Bool) (ks : Fo) (A : Option Addr) (c : Nat) (w : World) (hk : Kd w w.heap.size ks A) :
    Calls Tryz.prog 57 #[tv o A ks.len c] w fun e w' => e = .returned (.bool (treeOf o ks).isSome) ∧ Below w.heap.size w w' := by
  rw [← okL_tree]; exact right_walk o ks A c w hk
end Go.Proofs.YtoaglkjpjolacaaGreatDoor.I
namespace Go.Proofs.YtoaglkjpjolacaaGreatDoor.I
open Go.RowKit
theorem Box2.facts {w : World} {g : Nat} (h : Box2 w g) : ∃ u0 u1, (w.cell? ⟨g, 0, none⟩ = some u0 ∧ w.cell? ⟨g, 1, none⟩ = some u1) ∧ w.frozen? ⟨g, 0, none⟩ = false ∧ w.frozen? ⟨g, 1, none⟩ = false := by
  obtain ⟨cs, h1, h2⟩ := h
  refine ⟨cs[0]'(by omega), cs[1]'(by omega), ⟨?_, ?_⟩, ?_, ?_⟩
  · rw [cell_of_row w g 0 _ 24 (0, 0) h1]; exact Array.getElem?_eq_getElem _
  · rw [cell_of_row w g 1 _ 24 (0, 0) h1]; exact Array.getElem?_eq_getElem _
  · simp [World.frozen?, h1]
  · simp [World.frozen?, h1]
theorem Box2.far {w : World} {g g' i : Nat} (h : Box2 w g) (hne : g ≠ g') (u : Value) : Box2 (w.setCell ⟨g', i, none⟩ u) g := by
  obtain ⟨cs, h1, h2⟩ := h
  exact ⟨cs, (Below.heap_setCell w ⟨g', i, none⟩ u g hne).trans h1, h2⟩
/-- A tree that was stored into a variable of two cells. -/
theorem store_two {w W : World} {B g : Nat} {t : Tr} {v u1 u2 : Value} (hg : Box2 W g) (h : InT W W.heap.size t v) (hb : Below B w W) (hB : B ≤ g) : InT ((W.setCell ⟨g, 0, none⟩ u1).setCell ⟨g, 1, none⟩ u2) ((W.setCell ⟨g, 0, none⟩ u1).setCell ⟨g, 1, none⟩ u2).heap.size t v ∧ Below B w ((W.setCell ⟨g, 0, none⟩ u1).setCell ⟨g, 1, none⟩ u2) := by
  refine ⟨?_, (hb.setCell (p := ⟨g, 0, none⟩) hB _).setCell (p := ⟨g, 1, none⟩) hB _⟩
  have h1 := InT.set2 (i := 1) (u := u2) (hg.set u1) (InT.set2 (i := 0) (u := u1) hg h)
  have e : ((W.setCell ⟨g, 0, none⟩ u1).setCell ⟨g, 1, none⟩ u2).heap.size = W.heap.size := by simp
  rw [e]; exact h1

/-- What a function keeps that has boxed a tree, and a tree for its answer. -/
structure NB (w : World) (o : Bool) (A : Option Addr) (n c : Nat) (W : World) : Prop where
  a0 : W.cell? ⟨w.heap.size, 0, none⟩ = some (.bool o)
  a1 : W.cell? ⟨w.heap.size, 1, none⟩ = some (.slice A n c)
  box : Box2 W (w.heap.size + 1)
  bel : Below w.heap.size w W
  big : w.heap.size + 2 ≤ W.heap.size
theorem NB.start (w : World) (o : Bool) (A : Option Addr) (n c : Nat) : NB w o A n c ((w.alloc (.cells #[.bool o, .slice A n c] 24)).alloc (.cells #[.bool false, .slice none 0 0] 24)) := by
  refine ⟨by simp [go_sem], by simp [go_sem], ?_, ((Below.refl _ w).alloc (Nat.le_refl _) _).alloc (by simp) _, by simp⟩
  have := box_start (w.alloc (.cells #[.bool o, .slice A n c] 24))
  simpa only [World.size_alloc] using this.two
theorem NB.next {w : World} {o : Bool} {A : Option Addr} {n c : Nat} {W W' : World} (h : NB w o A n c W) {B : Nat} (hb : Below B W W') (hB : w.heap.size + 2 ≤ B) : NB w o A n c W' :=
  ⟨(hb.cell (by show w.heap.size < _; omega)).trans h.a0, (hb.cell (by show w.heap.size < _; omega)).trans h.a1, h.box.below hb (by omega), h.bel.trans (hb.mono (by omega)), Nat.le_trans h.big hb.size⟩
theorem NB.store {w : World} {o : Bool} {A : Option Addr} {n c : Nat} {W : World} (h : NB w o A n c W) (i : Nat) (u : Value) : NB w o A n c (W.setCell ⟨w.heap.size + 1, i, none⟩ u) :=
  ⟨(World.cell?_setCell_other _ _ _ _ (fun e => by injection e; omega)).trans h.a0, (World.cell?_setCell_other _ _ _ _ (fun e => by injection e; omega)).trans h.a1, h.box.set u, h.bel.setCell (p := ⟨w.heap.size + 1, i, none⟩) (by show w.heap.size ≤ w.heap.size + 1; omega) _, by simpa using h.big⟩
theorem NB.drew {w : World} {o : Bool} {A : Option Addr} {n c : Nat} {W : World} (h : NB w o A n c W) : NB w o A n c W.drew := h.next ((Below.refl W.heap.size W).drew) h.big

set_option maxRecDepth 100000 in
set_option maxHeartbeats 3200000 in
theorem norm_any : ∀ (t : Tr) (v : Value) (w : World), InT w w.heap.size t v → Calls Tryz.prog 75 #[v] w (Trees t.norm w) := by
  intro t
  induction t with
  | leaf o =>
    rintro v w ⟨A, c, rfl⟩
    have HN := Lib.hid (NB.start w o A 0 c)
    have hc := pleaf_any o A 0 c ((w.alloc (.cells #[.bool o, .slice A 0 c] 24)).alloc (.cells #[.bool false, .slice none 0 0] 24))
    unfold tv at hc ⊢
    go_enter Tryz.func75, Tryz.ntmps75
    go_wp2_with fail
    refine hc.mono ?_
    rintro e w1 ⟨rfl, hb1⟩
    obtain ⟨a0, a1, hbox, hbel, hbig⟩ := HN.out.next hb1 (by simp)
    obtain ⟨u0, u1, ⟨c0, c1'⟩, f0, f1⟩ := hbox.facts
    have HFIN : Hid (∀ u1 u2, InT ((w1.setCell ⟨w.heap.size + 1, 0, none⟩ u1).setCell ⟨w.heap.size + 1, 1, none⟩ u2) ((w1.setCell ⟨w.heap.size + 1, 0, none⟩ u1).setCell ⟨w.heap.size + 1, 1, none⟩ u2).heap.size (.leaf o) (tv o none 0 0) ∧ Below w.heap.size w ((w1.setCell ⟨w.heap.size + 1, 0, none⟩ u1).setCell ⟨w.heap.size + 1, 1, none⟩ u2)) := fun u1 u2 => store_two hbox ⟨none, 0, rfl⟩ hbel (by omega)
    clear hb1 hbox hbel hbig hc HN
    go_wp2
    refine bodyPost_ret (v := tv o none 0 0) (by simp [results, Tryz.f75, go_sem, tv, c0, c1']) rfl ?_
    exact ⟨_, rfl, (HFIN.out _ _).1, (HFIN.out _ _).2⟩
  | node x y ihx ihy =>
    rintro v w ⟨b, off, c, rfl, hb, ⟨o1, A1, n1, c1, e1, e2, e3⟩, ⟨o2, A2, n2, c2, g1, g2, g3⟩⟩
    have HN := Lib.hid (NB.start w false (some ⟨b, off, none⟩) 2 c)
    have hc := pleaf_any false (some ⟨b, off, none⟩) 2 c ((w.alloc (.cells #[.bool false, .slice (some ⟨b, off, none⟩) 2 c] 24)).alloc (.cells #[.bool false, .slice none 0 0] 24))
    have HF : Hid (∀ W, NB w false (some ⟨b, off, none⟩) 2 c W → W.cell? ⟨w.heap.size, 1, none⟩ = some (.slice (some ⟨b, off, none⟩) 2 c) ∧ W.cell? ⟨b, off, none⟩ = some (.bool o1) ∧ W.cell? ⟨b, off + 1, none⟩ = some (.slice A1 n1 c1) ∧ W.cell? ⟨b, off + 2, none⟩ = some (.bool o2) ∧ W.cell? ⟨b, off + 2 + 1, none⟩ = some (.slice A2 n2 c2)) := fun W hW => by
      have low : ∀ i, W.cell? ⟨b, i, none⟩ = w.cell? ⟨b, i, none⟩ := fun i => hW.bel.cell hb
      exact ⟨hW.a1, (low _).trans e1, (low _).trans e2, (low _).trans g1, (low _).trans g2⟩
    have hcx : ∀ W, NB w false (some ⟨b, off, none⟩) 2 c W → Calls Tryz.prog 75 #[.agg #[.bool o1, .slice A1 n1 c1]] W (Trees x.norm W) := fun W hW => ihx _ W (e3.up hW.bel)
    have hcy : ∀ W, NB w false (some ⟨b, off, none⟩) 2 c W → Calls Tryz.prog 75 #[.agg #[.bool o2, .slice A2 n2 c2]] W (Trees y.norm W) := fun W hW => ihy _ W (g3.up hW.bel)
    unfold tv at hc ⊢
    clear ihx ihy e1 e2 e3 g1 g2 g3
    go_enter Tryz.func75, Tryz.ntmps75
    go_wp2_with fail
    refine hc.mono ?_
    rintro e w1 ⟨rfl, hb1⟩
    have HN1 := HN.out.next hb1 (by simp)
    clear hb1 hc HN
    go_wp2
    refine wp_region_held_drew (S := fun W => NB w false (some ⟨b, off, none⟩) 2 c W) (by kernel_rfl) HN1.drew (fun hS => ?_)
    clear HN1
    refine wpAnyH_take (i := 0) (v := ?_) rfl (by kernel_rfl) (by kernel_rfl) (by kernel_rfl) (fun _ _ _ h => h) (Yields.yieldsIf (Or.inl ⟨by kernel_rfl, ?_⟩)) hS ?_
    rotate_left
    · first | (intro w; go_simp; done) | (intro w; go_simp; with_reducible rfl)
    refine wpAnyH_take (i := 1) (v := ?_) rfl (by kernel_rfl) (by kernel_rfl) (by kernel_rfl) (fun _ _ _ h => h) (Or.inl ⟨by kernel_rfl, fun W hW => ?_⟩) hS ?_
    rotate_left
    · obtain ⟨f0, f1, f2, f3, f4⟩ := HF.out W hW
      first | (go_simp; done) | (go_simp; with_reducible rfl)
    refine wpAnyH_take (i := 2) (v := ?_) rfl (by kernel_rfl) (by kernel_rfl) (by kernel_rfl) (fun _ _ _ h => h) (Yields.yieldsIf (Or.inl ⟨by kernel_rfl, ?_⟩)) hS ?_
    rotate_left
    · first | (intro w; go_simp; done) | (intro w; go_simp; with_reducible rfl)
    refine wpAnyH_take (i := 3) (v := ?_) rfl (by kernel_rfl) (by kernel_rfl) (by kernel_rfl) (fun _ _ _ h => h) (Or.inl ⟨by kernel_rfl, fun W hW => ?_⟩) hS ?_
    rotate_left
    · obtain ⟨f0, f1, f2, f3, f4⟩ := HF.out W hW
      first | (go_simp; done) | (go_simp; with_reducible rfl)
    refine wpAnyH_take (i := 5) (v := ?_) rfl (by kernel_rfl) (by kernel_rfl) (by kernel_rfl) (fun _ _ _ h => h) (Yields.yieldsIf (Or.inl ⟨by kernel_rfl, ?_⟩)) hS ?_
    rotate_left
    · first | (intro w; go_simp; done) | (intro w; go_simp; with_reducible rfl)
    refine wpAnyH_take (i := 6) (v := ?_) rfl (by kernel_rfl) (by kernel_rfl) (by kernel_rfl) (fun _ _ _ h => h) (Or.inl ⟨by kernel_rfl, fun W hW => ?_⟩) hS ?_
    rotate_left
    · obtain ⟨f0, f1, f2, f3, f4⟩ := HF.out W hW
      first | (go_simp; done) | (go_simp; with_reducible rfl)
    refine wpAnyH_take (i := 7) (v := ?_) rfl (by kernel_rfl) (by kernel_rfl) (by kernel_rfl) (fun _ _ _ h => h) (Yields.yieldsIf (Or.inl ⟨by kernel_rfl, ?_⟩)) hS ?_
    rotate_left
    · first | (intro w; go_simp; done) | (intro w; go_simp; with_reducible rfl)
    refine wpAnyH_take (i := 8) (v := ?_) rfl (by kernel_rfl) (by kernel_rfl) (by kernel_rfl) (fun _ _ _ h => h) (Or.inl ⟨by kernel_rfl, fun W hW => ?_⟩) hS ?_
    rotate_left
    · obtain ⟨f0, f1, f2, f3, f4⟩ := HF.out W hW
      first | (go_simp; done) | (go_simp; with_reducible rfl)
    refine wpAnyH_ready (rs := [4]) (by kernel_rfl) (by simp) ?_
    refine AllReadyH.cons rfl (fun K hK => ?_) AllReadyH.nil
    go_simp
    go_wp2_with (go_at_call 75; refine (hcx _ hS).mono ?_; rintro e w3 ⟨v1, rfl, ht1, hb3⟩)
    have hS3 := hS.next hb3 hS.big
    have HT1 := Lib.hid ht1
    clear hb3 ht1 hS
    refine hK.out _ _ hS3 (fun hS => ?_)
    clear hK K hS3
    refine wpAnyH_ready (rs := [9]) (by kernel_rfl) (by simp) ?_
    refine AllReadyH.cons rfl (fun K hK => ?_) AllReadyH.nil
    go_simp
    go_wp2_with (go_at_call 75; refine (hcy _ hS).mono ?_; rintro e w4 ⟨v2, rfl, ht2, hb4⟩)
    have hS3 := hS.next hb4 hS.big
    have HT2 := Lib.hid (HT1.out.up hb4)
    have HT3 := Lib.hid ht2
    clear hb4 ht2 hS
    refine hK.out _ _ hS3 (fun hS => ?_)
    clear hK K hS3
    clear HT1 hcx hcy
    refine wpAnyH_ready (rs := [10]) (by kernel_rfl) (by simp) ?_
    refine AllReadyH.cons rfl (fun K hK => ?_) AllReadyH.nil
    go_simp
    go_wp2_with (go_at_call 125; refine (join_any _ _ _ _ _ HT2.out HT3.out).mono ?_; rintro e w5 ⟨v3, rfl, ht3, hb5⟩)
    have hS3 := hS.next hb5 hS.big
    have HT4 := Lib.hid ht3
    clear hb5 ht3 hS
    refine hK.out _ _ hS3 (fun hS => ?_)
    clear hK K hS3
    clear HT2 HT3
    obtain ⟨o5, A5, n5, c5, rfl⟩ := HT4.out.form
    have HS := Lib.hid hS
    obtain ⟨a0, a1, hbox, hbel, hbig⟩ := hS
    obtain ⟨u0, u1, ⟨c0, c1'⟩, f0, f1⟩ := hbox.facts
    have HFIN : Hid (∀ u1 u2, InT ((w5.setCell ⟨w.heap.size + 1, 0, none⟩ u1).setCell ⟨w.heap.size + 1, 1, none⟩ u2) ((w5.setCell ⟨w.heap.size + 1, 0, none⟩ u1).setCell ⟨w.heap.size + 1, 1, none⟩ u2).heap.size (x.norm.mk2 y.norm) (tv o5 A5 n5 c5) ∧ Below w.heap.size w ((w5.setCell ⟨w.heap.size + 1, 0, none⟩ u1).setCell ⟨w.heap.size + 1, 1, none⟩ u2)) := fun u1 u2 => store_two hbox HT4.out hbel (by omega)
    clear hbox hbel hbig HT4 a0 a1
    unfold tv
    refine wpAnyH_ready (rs := [11]) (by kernel_rfl) (by simp) ?_
    refine AllReadyH.cons rfl (fun K hK => ?_) AllReadyH.nil
    go_simp
    go_wp2
    refine hK.out _ _ ((HS.out.store 0 _).store 1 _) (fun _ => ?_)
    clear hK K HS
    refine wpAnyH_done (by kernel_rfl) ?_ _
    go_wp2
    refine bodyPost_ret (v := tv o5 A5 n5 c5) (by simp [results, Tryz.f75, go_sem, tv, c0, c1']) rfl ?_
    exact ⟨_, rfl, (HFIN.out _ _).1, (HFIN.out _ _).2⟩
end Go.Proofs.YtoaglkjpjolacaaGreatDoor.I
namespace Go.Proofs.YtoaglkjpjolacaaGreatDoor.I
open Go.RowKit
/-- A tree and an error's number. -/
def Ans (r : Tr × Int) (w : World) (e : Ending) (w' : World) : Prop := ∃ v, e = .returned (.tuple #[v, .int .i64 r.2]) ∧ InT w' w'.heap.size r.1 v ∧ Below w.heap.size w w'
def normR : Option Tr → Tr × Int
  | some t => (t.norm, 0)
  | none => (.leaf false, 2)
theorem zero_in (w : World) (B : Nat) : InT w B (.leaf false) (tv false none 0 0) := ⟨none, 0, rfl⟩
theorem NormR.ans {o : Bool} {ks : Fo} {w w' : World} {e : Ending} (h : NormR o ks w e w') : Ans (normR (treeOf o ks)) w e w' := by
  obtain ⟨h1, hb⟩ := h
  rcases h1 with ⟨t, v, ht, rfl, hin⟩ | ⟨ht, rfl⟩
  · rw [ht]; exact ⟨v, rfl, hin, hb⟩
  · rw [ht]; exact ⟨_, rfl, zero_in _ _, hb⟩
theorem Ans.form {r : Tr × Int} {w w' : World} {e : Ending} (h : Ans r w e w') : ∃ o A n c, e = .returned (.tuple #[tv o A n c, .int .i64 r.2]) ∧ InT w' w'.heap.size r.1 (tv o A n c) ∧ Below w.heap.size w w' := by
  obtain ⟨v, rfl, hin, hb⟩ := h
  obtain ⟨o, A, n, c, rfl⟩ := hin.form
  exact ⟨o, A, n, c, rfl, hin, hb⟩

set_option maxRecDepth 100000 in
set_option maxHeartbeats 1600000 in
theorem pnorm_any (o : Bool) (ks : Fo) (A : Option Addr) (c : Nat) (w : World) (hk : Kd w w.heap.size ks A) : Calls Tryz.prog 34 #[tv o A ks.len c] w (Ans (normR (treeOf o ks)) w) := by
  have HN := Lib.hid (NB.start w o A ks.len c)
  have hc1 := right_any o ks A c _ (hk.up HN.out.bel)
  have HK := Lib.hid hk
  unfold tv at hc1 ⊢
  cases ht : treeOf o ks with
  | none =>
    rw [ht] at hc1
    clear hk ht
    go_enter Tryz.func34, Tryz.ntmps34
    go_wp2_with fail
    refine hc1.mono ?_
    rintro e w1 ⟨rfl, hb1⟩
    obtain ⟨a0, a1, hbox, hbel, hbig⟩ := HN.out.next hb1 (by simp)
    obtain ⟨u0, u1, ⟨c0, c1'⟩, f0, f1⟩ := hbox.facts
    have HFIN : Hid (∀ u1 u2, InT ((w1.setCell ⟨w.heap.size + 1, 0, none⟩ u1).setCell ⟨w.heap.size + 1, 1, none⟩ u2) ((w1.setCell ⟨w.heap.size + 1, 0, none⟩ u1).setCell ⟨w.heap.size + 1, 1, none⟩ u2).heap.size (.leaf false) (tv false none 0 0) ∧ Below w.heap.size w ((w1.setCell ⟨w.heap.size + 1, 0, none⟩ u1).setCell ⟨w.heap.size + 1, 1, none⟩ u2)) := fun u1 u2 => store_two hbox (zero_in _ _) hbel (by omega)
    clear hb1 hc1 hbox hbel hbig HN
    go_wp2
    refine bodyPost_ret (v := .tuple #[tv false none 0 0, .int .i64 2]) (by simp [results, Tryz.f34, go_sem, tv, c0, c1']) rfl ?_
    exact ⟨_, rfl, (HFIN.out _ _).1, (HFIN.out _ _).2⟩
  | some t =>
    rw [ht] at hc1
    obtain ⟨hin, _, _⟩ := in_treeOf (c := c) ht hk
    have HIN := Lib.hid hin
    clear hk ht hin
    go_enter Tryz.func34, Tryz.ntmps34
    go_wp2_with fail
    refine hc1.mono ?_
    rintro e w1 ⟨rfl, hb1⟩
    have HN1 := Lib.hid (HN.out.next hb1 (by simp))
    have a0 := HN1.out.a0
    have a1 := HN1.out.a1
    have hc2 := norm_any t (tv o A ks.len c) w1 (HIN.out.up HN1.out.bel)
    unfold tv at hc2
    clear hb1 hc1 HN
    go_wp2_with fail
    refine hc2.mono ?_
    rintro e w3 ⟨v3, rfl, ht3, hb3⟩
    obtain ⟨o5, A5, n5, c5, rfl⟩ := ht3.form
    obtain ⟨_, _, hbox, hbel, hbig⟩ := HN1.out.next hb3 HN1.out.big
    obtain ⟨u0, u1, ⟨c0, c1'⟩, f0, f1⟩ := hbox.facts
    have HFIN : Hid (∀ u1 u2, InT ((w3.setCell ⟨w.heap.size + 1, 0, none⟩ u1).setCell ⟨w.heap.size + 1, 1, none⟩ u2) ((w3.setCell ⟨w.heap.size + 1, 0, none⟩ u1).setCell ⟨w.heap.size + 1, 1, none⟩ u2).heap.size t.norm (tv o5 A5 n5 c5) ∧ Below w.heap.size w ((w3.setCell ⟨w.heap.size + 1, 0, none⟩ u1).setCell ⟨w.heap.size + 1, 1, none⟩ u2)) := fun u1 u2 => store_two hbox ht3 hbel (by omega)
    clear hb3 ht3 hc2 hbox hbel hbig a0 a1 HN1
    unfold tv
    go_wp2
    refine bodyPost_ret (v := .tuple #[tv o5 A5 n5 c5, .int .i64 0]) (by simp [results, Tryz.f34, go_sem, tv, c0, c1']) rfl ?_
    exact ⟨_, rfl, (HFIN.out _ _).1, (HFIN.out _ _).2⟩
end Go.Proofs.YtoaglkjpjolacaaGreatDoor.I
