/-
  A range over a function: what a round keeps is said of every block but those of X, among which may be blocks that are made later.
-/
import Derived.RangeFuncNested
import Derived.RangeFuncBound
import Derived.RangeFuncCalls
import Derived.RangeFuncLeaves
import Derived.Shelf.Abstract
namespace Go.Proofs.Ytdffifkleaekhaa.V
open Go.RowKit

/-- Every block but those of X lies as it lay. -/
structure Kept (X : Nat → Prop) (W W' : World) : Prop where
  size : W.heap.size ≤ W'.heap.size
  same : ∀ k, k < W.heap.size → ¬ X k → W'.heap[k]? = W.heap[k]?
theorem Kept.refl (X : Nat → Prop) (W : World) : Kept X W W := ⟨Nat.le_refl _, fun _ _ _ => rfl⟩
theorem Kept.trans {X : Nat → Prop} {A B C : World} (h : Kept X A B) (g : Kept X B C) : Kept X A C :=
  ⟨Nat.le_trans h.size g.size, fun k hk hx => (g.same k (Nat.lt_of_lt_of_le hk h.size) hx).trans (h.same k hk hx)⟩
theorem Kept.mono {X Y : Nat → Prop} {A B : World} (h : Kept X A B) (hxy : ∀ k, X k → Y k) : Kept Y A B := ⟨h.size, fun k hk hy => h.same k hk fun hx => hy (hxy k hx)⟩
theorem Kept.alloc {X : Nat → Prop} {A B : World} (h : Kept X A B) (o : Obj) : Kept X A (B.alloc o) :=
  h.trans ⟨by simp, fun k hk _ => Below.heap_alloc B o k hk⟩
theorem Kept.putObj {X : Nat → Prop} {W : World} {l : Nat} (hl : X l) (o : Obj) : Kept X W (W.putObj l o) :=
  ⟨by simp [World.putObj], fun _ _ hx => World.putObj_heap_other (fun e => hx (e ▸ hl))⟩
theorem Kept.setCell {X : Nat → Prop} {A B : World} (h : Kept X A B) {p : Addr} (hp : X p.block) (u : Value) : Kept X A (B.setCell p u) :=
  h.trans ⟨by simp, fun k _ hx => Below.heap_setCell B p u k (fun e => hx (e ▸ hp))⟩
theorem Kept.below {X : Nat → Prop} {B : Nat} {W W' : World} (hb : Below B W W') (hB : W.heap.size ≤ B) : Kept X W W' := ⟨hb.size, fun k hk _ => hb.block k (Nat.lt_of_lt_of_le hk hB)⟩
theorem Kept.cell {X : Nat → Prop} {W W' : World} (h : Kept X W W') {p : Addr} {v : Value} (hx : ¬ X p.block) (hc : W.cell? p = some v) : W'.cell? p = some v := by
  obtain ⟨o, ho, _⟩ := cells_of_cell hc
  exact (World.cell?_of_block (h.same _ (Array.getElem?_eq_some_iff.1 ho).1 hx)).trans hc

/-- How a round may be left. -/
def rPost {α : Type} (X : Nat → Prop) (G : α → Prop) (I : List α → World → Prop) (Ix : Code → List α → World → Prop) (pre : List α) (x : α) (W : World) : Exit → Act → World → Prop
  | .normal, _, W' => Kept X W W' ∧ G x ∧ I (pre ++ [x]) W'
  | .ret, _, W' => Kept X W W' ∧ Ix .ret (pre ++ [x]) W'
  | .exit id, _, W' => Kept X W W' ∧ Ix (.exit id) (pre ++ [x]) W'
  | .goto t, _, W' => Kept X W W' ∧ Ix (.goto t) (pre ++ [x]) W'
  | .panic _, _, _ => False
  | .outgrown, _, _ => False

theorem roundIn_deep {m m' : Nat} {P : Program} {l : Nat} {f : FuncId} {tmps : Array Value} {assign body : Code} {w : World} {R : Ending → World → Prop}
    (h : RoundIn Fence.wide m P l f tmps assign body w R) : RoundIn Fence.wide m' P l f tmps assign body w R := ⟨h.1, fun c cs _ => h.2 c cs (room_wide _)⟩

/-- An iterator over S, whatever the rounds do to the blocks of X (and to their loop's own record); Q: what is known of each x; G: what a round that goes on has found. -/
def SeqQ {α : Type} (P : Program) (g : Nat) (lb : Array Value) (encs : α → Array Value) (X : Nat → Prop) (Q : List α → α → Prop) (G : α → Prop) (S Sp : List α → Prop) (w : World) : Prop :=
  ∀ (l : Nat) (J Jx : List α → World → Prop) (W : World), Below w.heap.size w W → w.heap.size ≤ l → l < W.heap.size → OwnFrom W.heap.size J → OwnFrom W.heap.size Jx →
    (∀ pre x W1, J pre W1 → Q pre x → YieldAt Fence.wide 0 P l (encs x) W1 fun e W' =>
      (e = .returned (.bool true) ∧ G x ∧ J (pre ++ [x]) W' ∧ Kept (fun k => X k ∨ k = l) W1 W') ∨ (e = .returned (.bool false) ∧ Jx (pre ++ [x]) W' ∧ Kept (fun k => X k ∨ k = l) W1 W')) →
    J [] W →
    Calls P g (#[.func (.yield l) #[] #[]] ++ lb) W fun e W' => (∃ v, e = .returned v) ∧ ((∃ xs, S xs ∧ J xs W') ∨ (∃ pre, Sp pre ∧ Jx pre W'))

theorem range_own {α : Type} {P : Program} {n : Nat} {g : Operand} {ps : Array Tmp} {assign body : Code} {Z : Exit → Act → World → Prop} {a : Act} {w : World}
    {gf : Nat} {lb : Array Value} (hg : a.eval g = .func (.func gf) #[] lb) (eg : ∀ args w, (callFunc gf args).run P w = .ok (.enter gf args) w)
    {encs : α → Array Value} {X : Nat → Prop} {Q : List α → α → Prop} {G : α → Prop} {S Sp : List α → Prop} {w0 : World} (hseq : SeqQ P gf lb encs X Q G S Sp w0) (hXd : ¬ X w.heap.size) (hXl : ¬ X (w.heap.size + 1))
    (hb0 : Below w0.heap.size w0 w) (hps : ∀ x, (encs x).size = ps.size)
    (I : List α → World → Prop) (Ix : Code → List α → World → Prop) (hI : OwnFrom w.heap.size I) (hIx : ∀ c, OwnFrom w.heap.size (Ix c)) (h0 : I [] w) (Ax : α → Act → World → Prop) (hAx : ∀ x a', OwnFrom w.heap.size (fun (_ : Unit) W => Ax x a' W))
    (hassign : ∀ (l : Nat) (pre : List α) (x : α) (W : World) (K : Act → World → Prop), w.heap.size ≤ W.heap.size → I pre W → (∀ a' W', Kept X W W' → I pre W' → Ax x a' W' → K a' W') →
      assign.wpIn (Fence.wide.inRound l) n P (Exit.then K (fun _ _ _ => False)) { tmps := (ps.zip (encs x)).foldl (fun t (p, v) => t.setIfInBounds p v) a.tmps, defers := [] } W)
    (hbody : ∀ (l : Nat) (pre : List α) (x : α) (a' : Act) (W : World), w.heap.size ≤ W.heap.size → I pre W → Ax x a' W → Q pre x → body.wpIn (Fence.wide.inRound l) n P (rPost X G I Ix pre x W) a' W)
    (hdone : ∀ (D : Nat) (xs : List α) (W : World), w.heap.size ≤ D → S xs → I xs W → W.heap[D]? = some (.deferred (some [])) → Z .normal { a with defers := { target := .collected D, args := #[] } :: a.defers } W)
    (hstop : ∀ (D : Nat) (c : Code) (pre : List α) (W : World), w.heap.size ≤ D → Sp pre → Ix c pre W → W.heap[D]? = some (.deferred (some [])) → c.wpIn Fence.wide n P Z { a with defers := { target := .collected D, args := #[] } :: a.defers } W) :
    (Code.rangeFunc g ps assign body).wpIn Fence.wide n P Z a w := by
  refine wpIn_rangeFunc fun fn hfn => ?_
  obtain ⟨rec, hrec⟩ : ∃ rec : LoopState → Option Code → Loop, rec = fun st pe => { state := st, pending := pe, fn, tmps := a.tmps, params := ps, assign, body, defers := w.heap.size } := ⟨_, rfl⟩
  obtain ⟨W1, hW1⟩ : ∃ W1, (w.alloc (.deferred (some []))).alloc (.loop (rec .ready none)) = W1 := ⟨_, rfl⟩
  have hsz : W1.heap.size = w.heap.size + 2 := by rw [← hW1]; simp
  have hL1 : W1.heap[w.heap.size + 1]? = some (.loop (rec .ready none)) := by
    rw [← hW1]; have := World.alloc_heap_new (w.alloc (.deferred (some []))) (.loop (rec .ready none)); rwa [World.size_alloc] at this
  have hK1 : W1.heap[w.heap.size]? = some (.deferred (some [])) := by
    rw [← hW1]; exact (Below.heap_alloc _ _ _ (by simp)).trans (World.alloc_heap_new w _)
  have hI1 : I [] W1 := by rw [← hW1]; exact hI.alloc _ (hI.alloc _ h0)
  have hb1 : Below w0.heap.size w0 W1 := by
    rw [← hW1]; exact hb0.trans ((((Below.refl _ w).alloc (Nat.le_refl _) _).alloc (by simp) _).mono hb0.size)
  refine ⟨w.heap.size + 1, [{ target := .collected w.heap.size, args := #[] }], W1, { target := .fn (.func gf) lb, args := #[.func (.yield (w.heap.size + 1)) #[] #[]] }, W1, gf,
    #[.func (.yield (w.heap.size + 1)) #[] #[]] ++ lb, W1, ?_, ?_, fun _ _ => trivial, ?_, (fun h => (by cases h)), ?_⟩
  · rw [← hW1, hrec]; exact run_enterLoop_outer _ _ _ _ _
  · simp only [resolve, hg]
    simp [go_sem]
  · simp [invoke, go_sem, eg]
  · -- what is kept through a turn of a block beyond W1
    have turn : ∀ {k : Nat} {o : Obj} {A B : World} {row : Option Nat}, k < W1.heap.size → A.heap[k]? = some o → A.grownBy B row → (∀ r, row = some r → W1.heap.size ≤ r ∧ ∃ o : Obj, A.heap[r]? = some o ∧ o.isCells = false) → B.heap[k]? = some o :=
      fun hk ho hgr hr => (hgr.block _ (Array.getElem?_eq_some_iff.1 ho).1 (fun e => by have := (hr _ e.symm).1; omega)).trans ho
    have wide : ∀ {A : World} {row : Option Nat}, (∀ r, row = some r → W1.heap.size ≤ r ∧ ∃ o : Obj, A.heap[r]? = some o ∧ o.isCells = false) → (∀ r, row = some r → w.heap.size ≤ r ∧ ∃ o : Obj, A.heap[r]? = some o ∧ o.isCells = false) :=
      fun hr r e => ⟨by have := (hr r e).1; omega, (hr r e).2⟩
    refine callsIn_wide.2 ((hseq (w.heap.size + 1)
      (fun pre W => I pre W ∧ W.heap[w.heap.size + 1]? = some (.loop (rec .ready none)) ∧ W.heap[w.heap.size]? = some (.deferred (some [])))
      (fun pre W => ∃ c, Ix c pre W ∧ W.heap[w.heap.size + 1]? = some (.loop (rec .done (some c))) ∧ W.heap[w.heap.size]? = some (.deferred (some [])))
      W1 hb1 (by have := hb0.size; omega) (by omega)
      (fun s A B row hs hg' hr => ⟨hI s A B row hs.1 hg' (wide hr), turn (by omega) hs.2.1 hg' hr, turn (by omega) hs.2.2 hg' hr⟩)
      (fun s A B row ⟨c, hc, hl, hk⟩ hg' hr => ⟨c, hIx c s A B row hc hg' (wide hr), turn (by omega) hl hg' hr, turn (by omega) hk hg' hr⟩)
      ?_ ⟨hI1, hL1, hK1⟩).mono ?_)
    · rintro pre x W ⟨hi, hl, hk⟩ hq
      have hy := run_yield (P := P) (args := encs x) hl (by rw [hrec]; exact hps x)
      rw [hrec] at hy
      refine ⟨fn, _, assign, body, hy, roundIn_deep (m := n) (roundIn_of_wpIn hfn (hassign _ pre x W _ (by have := (Array.getElem?_eq_some_iff.1 hl).1; omega) hi ?_))⟩
      clear hy
      intro a' Wa hka hia hax
      have hl' := (hka.same _ (Array.getElem?_eq_some_iff.1 hl).1 hXl).trans hl
      have hk' := (hka.same _ (Array.getElem?_eq_some_iff.1 hk).1 hXd).trans hk
      have hlt : w.heap.size + 1 < Wa.heap.size := (Array.getElem?_eq_some_iff.1 hl').1
      refine ⟨_, run_beginRound hl' (by rw [hrec]), ?_⟩
      obtain ⟨Wb, hWb⟩ : ∃ Wb, Wa.putObj (w.heap.size + 1) (.loop { rec .ready none with state := .busy }) = Wb := ⟨_, rfl⟩
      have hkb : Kept (fun k => X k ∨ k = w.heap.size + 1) Wa Wb := by rw [← hWb]; exact Kept.putObj (.inr rfl) _
      have hl2 : Wb.heap[w.heap.size + 1]? = some (.loop { rec .ready none with state := .busy }) := by rw [← hWb]; exact World.putObj_heap_same hlt
      have hk2 : Wb.heap[w.heap.size]? = some (.deferred (some [])) := by rw [← hWb]; exact (World.putObj_heap_other (by omega)).trans hk'
      have hib : I pre Wb := by rw [← hWb]; exact hI.putObj _ hia (by omega) hl' rfl
      have hab : Ax x a' Wb := by rw [← hWb]; exact (hAx x a').putObj (s := ()) _ hax (by omega) hl' rfl
      rw [hWb]
      refine wpIn_mono (hbody _ pre x a' Wb (by have := (Array.getElem?_eq_some_iff.1 hl2).1; omega) hib hab hq) ?_
      have fin : ∀ (jump : Option Code) (W3 : World), Kept X Wb W3 →
          ∃ W4, (Instr.endRound (w.heap.size + 1) jump).run P W3 = .ok (.bool jump.isNone) W4 ∧ W4 = W3.putObj (w.heap.size + 1) (.loop (rec (if jump.isNone then .ready else .done) jump)) ∧
          (∃ o : Obj, W3.heap[w.heap.size + 1]? = some o ∧ o.isCells = false) ∧
          W4.heap[w.heap.size + 1]? = some (.loop (rec (if jump.isNone then .ready else .done) jump)) ∧ W4.heap[w.heap.size]? = some (.deferred (some [])) ∧ Kept (fun k => X k ∨ k = w.heap.size + 1) W W4 := fun jump W3 hk3 => by
        have hl3 := (hk3.same _ (Array.getElem?_eq_some_iff.1 hl2).1 hXl).trans hl2
        have hd3 := (hk3.same _ (Array.getElem?_eq_some_iff.1 hk2).1 hXd).trans hk2
        have := run_endRound (P := P) jump hl3
        refine ⟨_, this, by rw [hrec], ⟨_, hl3, rfl⟩, ?_, (World.putObj_heap_other (by omega)).trans hd3, ((hka.mono fun _ h => .inl h).trans hkb).trans ((hk3.mono fun _ h => .inl h).trans (Kept.putObj (.inr rfl) _))⟩
        rw [hrec]; exact World.putObj_heap_same (Array.getElem?_eq_some_iff.1 hl3).1
      rintro e a3 W3 hp
      cases e with
      | normal =>
        obtain ⟨hk3, hgx, hi3⟩ := hp
        obtain ⟨W4, hr, e4, ⟨o, ho, hoc⟩, hl4, hk4, hkk⟩ := fin none W3 hk3
        exact ⟨_, _, hr, .inl ⟨rfl, hgx, ⟨by rw [e4]; exact hI.putObj _ hi3 (by omega) ho hoc, hl4, hk4⟩, hkk⟩⟩
      | ret =>
        obtain ⟨hk3, hi3⟩ := hp
        obtain ⟨W4, hr, e4, ⟨o, ho, hoc⟩, hl4, hk4, hkk⟩ := fin (some .ret) W3 hk3
        exact ⟨_, _, hr, .inr ⟨rfl, ⟨.ret, by rw [e4]; exact (hIx _).putObj _ hi3 (by omega) ho hoc, hl4, hk4⟩, hkk⟩⟩
      | exit id =>
        obtain ⟨hk3, hi3⟩ := hp
        obtain ⟨W4, hr, e4, ⟨o, ho, hoc⟩, hl4, hk4, hkk⟩ := fin (some (.exit id)) W3 hk3
        exact ⟨_, _, hr, .inr ⟨rfl, ⟨.exit id, by rw [e4]; exact (hIx _).putObj _ hi3 (by omega) ho hoc, hl4, hk4⟩, hkk⟩⟩
      | goto t =>
        obtain ⟨hk3, hi3⟩ := hp
        obtain ⟨W4, hr, e4, ⟨o, ho, hoc⟩, hl4, hk4, hkk⟩ := fin (some (.goto t)) W3 hk3
        exact ⟨_, _, hr, .inr ⟨rfl, ⟨.goto t, by rw [e4]; exact (hIx _).putObj _ hi3 (by omega) ho hoc, hl4, hk4⟩, hkk⟩⟩
      | panic ch => exact hp.elim
      | outgrown => exact hp.elim
    · rintro e W2 ⟨⟨v, rfl⟩, (⟨xs, hS, hi, hl, hk⟩ | ⟨pre, hSp, c, hi, hl, hk⟩)⟩
      · exact ⟨none, _, by have := run_endLoop (P := P) hl (by rw [hrec]; simp); rw [hrec] at this; exact this, hdone _ xs _ (Nat.le_refl _) hS (hI.putObj _ hi (by omega) hl rfl) ((World.putObj_heap_other (by omega)).trans hk)⟩
      · exact ⟨some c, _, by have := run_endLoop (P := P) hl (by rw [hrec]; simp); rw [hrec] at this; exact this, hstop _ c pre _ (Nat.le_refl _) hSp ((hIx c).putObj _ hi (by omega) hl rfl) ((World.putObj_heap_other (by omega)).trans hk)⟩
end Go.Proofs.Ytdffifkleaekhaa.V
