/-
  A range over a function, once more: a round may know what stands ahead of what it is handed.
  The iterator over nodes once more, of a tree that lies in blocks with a property; the loop's own variables may lie in older blocks without it.
-/
import Derived.Test.YtkpefelakhbkhaaIRange
import Derived.Test.YtkpefelakhbkhaaINodes
import Derived.Test.YtkpefelakhbkhaaIPNorm
namespace Go.Proofs.Ytkpefelakhbkhaa.I
open Go.RowKit

/-- An iterator over S, whatever the rounds do to the blocks of X (and to their loop's own record); Q: what is known of each x; G: what a round that goes on has found. -/
def SeqQ {α : Type} (P : Program) (g : Nat) (lb : Array Value) (encs : α → Array Value) (X : Nat → Prop) (Q : List α → α → Prop) (G : α → Prop) (S Sp : List α → Prop) (w : World) : Prop :=
  ∀ (l : Nat) (J Jx : List α → World → Prop) (W : World), Below w.heap.size w W → w.heap.size ≤ l → l < W.heap.size → OwnFrom W.heap.size J → OwnFrom W.heap.size Jx →
    (∀ pre x W1, J pre W1 → Q pre x → YieldAt Fence.wide 0 P l (encs x) W1 fun e W' =>
      (e = .returned (.bool true) ∧ G x ∧ J (pre ++ [x]) W' ∧ Kept (fun k => X k ∨ k = l) W1 W') ∨ (e = .returned (.bool false) ∧ Jx (pre ++ [x]) W' ∧ Kept (fun k => X k ∨ k = l) W1 W')) →
    J [] W →
    Calls P g (#[.func (.yield l) #[] #[]] ++ lb) W fun e W' => (∃ v, e = .returned v) ∧ ((∃ xs, S xs ∧ J xs W') ∨ (∃ pre, Sp pre ∧ Jx pre W'))

theorem range_ownQ {α : Type} {P : Program} {n : Nat} {g : Operand} {ps : Array Tmp} {assign body : Code} {Z : Exit → Act → World → Prop} {a : Act} {w : World}
    {gf : Nat} {lb : Array Value} (hg : a.eval g = .func (.func gf) #[] lb) (eg : ∀ args w, (callFunc gf args).run P w = .ok (.enter gf args) w)
    {encs : α → Array Value} {X : Nat → Prop} {Q : List α → α → Prop} {G : α → Prop} {S Sp : List α → Prop} {w0 : World} (hseq : SeqQ P gf lb encs X Q G S Sp w0) (hX : ∀ k, X k → k < w.heap.size)
    (hb0 : Below w0.heap.size w0 w) (hps : ∀ x, (encs x).size = ps.size)
    (I : List α → World → Prop) (Ix : Code → List α → World → Prop) (hI : OwnFrom w.heap.size I) (hIx : ∀ c, OwnFrom w.heap.size (Ix c)) (h0 : I [] w) (Ax : α → Act → World → Prop) (hAx : ∀ x a', OwnFrom w.heap.size (fun (_ : Unit) W => Ax x a' W))
    (hassign : ∀ (l : Nat) (pre : List α) (x : α) (W : World) (K : Act → World → Prop), w.heap.size ≤ W.heap.size → I pre W → (∀ a' W', Kept X W W' → I pre W' → Ax x a' W' → K a' W') →
      assign.wpIn (Fence.wide.inRound l) n P (Exit.then K (fun _ _ _ => False)) { tmps := (ps.zip (encs x)).foldl (fun t (p, v) => t.setIfInBounds p v) a.tmps, defers := [] } W)
    (hbody : ∀ (l : Nat) (pre : List α) (x : α) (a' : Act) (W : World), w.heap.size ≤ W.heap.size → I pre W → Ax x a' W → Q pre x → body.wpIn (Fence.wide.inRound l) n P (rPost X G I Ix pre x W) a' W)
    (hdone : ∀ (D : Nat) (xs : List α) (W : World), w.heap.size ≤ D → S xs → I xs W → W.heap[D]? = some (.deferred (some [])) → Z .normal { a with defers := { target := .collected D, args := #[] } :: a.defers } W)
    (hstop : ∀ (D : Nat) (c : Code) (pre : List α) (W : World), w.heap.size ≤ D → Sp pre → Ix c pre W → W.heap[D]? = some (.deferred (some [])) → c.wpIn Fence.wide n P Z { a with defers := { target := .collected D, args := #[] } :: a.defers } W) :
    (Code.rangeFunc g ps assign body).wpIn Fence.wide n P Z a w := by
  refine wpIn_rangeFunc fun fn hfn => ?_
  obtain ⟨rec, hrec⟩ : ∃ rec : LoopState → Option Code → Loop, rec = fun st pe => { state := st, pending := pe, fn, tmps := a.tmps, params := ps, assign, body, defers := w.heap.size } := ⟨_, rfl⟩
  obtain ⟨W1, hW1⟩ : ∃ W1, (w.alloc (.deferred (some []))).alloc (.loop (rec .ready none)) = W1 := ⟨_, rfl⟩
  have hsz : W1.heap.size = w.heap.size + 2 := by rw [← hW1]; simp
  have hL1 : W1.heap[w.heap.size + 1]? = some (.loop (rec .ready none)) := by
    rw [← hW1]; have := World.alloc_heap_new (w.alloc (.deferred (some []))) (.loop (rec .ready none)); rwa [World.size_alloc] at this
  have hK1 : W1.heap[w.heap.size]? = some (.deferred (some [])) := by
    rw [← hW1]; exact (Below.heap_alloc _ _ _ (by simp)).trans (World.alloc_heap_new w _)
  have hI1 : I [] W1 := by rw [← hW1]; exact hI.alloc _ (hI.alloc _ h0)
  have hb1 : Below w0.heap.size w0 W1 := by
    rw [← hW1]; exact hb0.trans ((((Below.refl _ w).alloc (Nat.le_refl _) _).alloc (by simp) _).mono hb0.size)
  have hXl : ¬ X (w.heap.size + 1) := fun h => by have := hX _ h; omega
  have hXd : ¬ X w.heap.size := fun h => by have := hX _ h; omega
  refine ⟨w.heap.size + 1, [{ target := .collected w.heap.size, args := #[] }], W1, { target := .fn (.func gf) lb, args := #[.func (.yield (w.heap.size + 1)) #[] #[]] }, W1, gf,
    #[.func (.yield (w.heap.size + 1)) #[] #[]] ++ lb, W1, ?_, ?_, fun _ _ => trivial, ?_, (fun h => (by cases h)), ?_⟩
  · rw [← hW1, hrec]; exact run_enterLoop_outer _ _ _ _ _
  · simp only [resolve, hg]
    simp [go_sem]
  · simp [invoke, go_sem, eg]
  · -- what is kept through a turn of a block beyond W1
    have turn : ∀ {k : Nat} {o : Obj} {A B : World} {row : Option Nat}, k < W1.heap.size → A.heap[k]? = some o → A.grownBy B row → (∀ r, row = some r → W1.heap.size ≤ r ∧ ∃ o : Obj, A.heap[r]? = some o ∧ o.isCells = false) → B.heap[k]? = some o :=
      fun hk ho hgr hr => (hgr.block _ (Array.getElem?_eq_some_iff.1 ho).1 (fun e => by have := (hr _ e.symm).1; omega)).trans ho
    have wide : ∀ {A : World} {row : Option Nat}, (∀ r, row = some r → W1.heap.size ≤ r ∧ ∃ o : Obj, A.heap[r]? = some o ∧ o.isCells = false) → (∀ r, row = some r → w.heap.size ≤ r ∧ ∃ o : Obj, A.heap[r]? = some o ∧ o.isCells = false) :=
      fun hr r e => ⟨by have := (hr r e).1; omega, (hr r e).2⟩
    refine callsIn_wide.2 ((hseq (w.heap.size + 1)
      (fun pre W => I pre W ∧ W.heap[w.heap.size + 1]? = some (.loop (rec .ready none)) ∧ W.heap[w.heap.size]? = some (.deferred (some [])))
      (fun pre W => ∃ c, Ix c pre W ∧ W.heap[w.heap.size + 1]? = some (.loop (rec .done (some c))) ∧ W.heap[w.heap.size]? = some (.deferred (some [])))
      W1 hb1 (by have := hb0.size; omega) (by omega)
      (fun s A B row hs hg' hr => ⟨hI s A B row hs.1 hg' (wide hr), turn (by omega) hs.2.1 hg' hr, turn (by omega) hs.2.2 hg' hr⟩)
      (fun s A B row ⟨c, hc, hl, hk⟩ hg' hr => ⟨c, hIx c s A B row hc hg' (wide hr), turn (by omega) hl hg' hr, turn (by omega) hk hg' hr⟩)
      ?_ ⟨hI1, hL1, hK1⟩).mono ?_)
    · rintro pre x W ⟨hi, hl, hk⟩ hq
      have hy := run_yield (P := P) (args := encs x) hl (by rw [hrec]; exact hps x)
      rw [hrec] at hy
      refine ⟨fn, _, assign, body, hy, roundIn_deep (m := n) (roundIn_of_wpIn hfn (hassign _ pre x W _ (by have := (Array.getElem?_eq_some_iff.1 hl).1; omega) hi ?_))⟩
      clear hy
      intro a' Wa hka hia hax
      have hl' := (hka.same _ (Array.getElem?_eq_some_iff.1 hl).1 hXl).trans hl
      have hk' := (hka.same _ (Array.getElem?_eq_some_iff.1 hk).1 hXd).trans hk
      have hlt : w.heap.size + 1 < Wa.heap.size := (Array.getElem?_eq_some_iff.1 hl').1
      refine ⟨_, run_beginRound hl' (by rw [hrec]), ?_⟩
      obtain ⟨Wb, hWb⟩ : ∃ Wb, Wa.putObj (w.heap.size + 1) (.loop { rec .ready none with state := .busy }) = Wb := ⟨_, rfl⟩
      have hkb : Kept (fun k => X k ∨ k = w.heap.size + 1) Wa Wb := by rw [← hWb]; exact Kept.putObj (.inr rfl) _
      have hl2 : Wb.heap[w.heap.size + 1]? = some (.loop { rec .ready none with state := .busy }) := by rw [← hWb]; exact World.putObj_heap_same hlt
      have hk2 : Wb.heap[w.heap.size]? = some (.deferred (some [])) := by rw [← hWb]; exact (World.putObj_heap_other (by omega)).trans hk'
      have hib : I pre Wb := by rw [← hWb]; exact hI.putObj _ hia (by omega) hl' rfl
      have hab : Ax x a' Wb := by rw [← hWb]; exact (hAx x a').putObj (s := ()) _ hax (by omega) hl' rfl
      rw [hWb]
      refine wpIn_mono (hbody _ pre x a' Wb (by have := (Array.getElem?_eq_some_iff.1 hl2).1; omega) hib hab hq) ?_
      have fin : ∀ (jump : Option Code) (W3 : World), Kept X Wb W3 →
          ∃ W4, (Instr.endRound (w.heap.size + 1) jump).run P W3 = .ok (.bool jump.isNone) W4 ∧ W4 = W3.putObj (w.heap.size + 1) (.loop (rec (if jump.isNone then .ready else .done) jump)) ∧
          (∃ o : Obj, W3.heap[w.heap.size + 1]? = some o ∧ o.isCells = false) ∧
          W4.heap[w.heap.size + 1]? = some (.loop (rec (if jump.isNone then .ready else .done) jump)) ∧ W4.heap[w.heap.size]? = some (.deferred (some [])) ∧ Kept (fun k => X k ∨ k = w.heap.size + 1) W W4 := fun jump W3 hk3 => by
        have hl3 := (hk3.same _ (Array.getElem?_eq_some_iff.1 hl2).1 hXl).trans hl2
        have hd3 := (hk3.same _ (Array.getElem?_eq_some_iff.1 hk2).1 hXd).trans hk2
        have := run_endRound (P := P) jump hl3
        refine ⟨_, this, by rw [hrec], ⟨_, hl3, rfl⟩, ?_, (World.putObj_heap_other (by omega)).trans hd3, ((hka.mono fun _ h => .inl h).trans hkb).trans ((hk3.mono fun _ h => .inl h).trans (Kept.putObj (.inr rfl) _))⟩
        rw [hrec]; exact World.putObj_heap_same (Array.getElem?_eq_some_iff.1 hl3).1
      rintro e a3 W3 hp
      cases e with
      | normal =>
        obtain ⟨hk3, hgx, hi3⟩ := hp
        obtain ⟨W4, hr, e4, ⟨o, ho, hoc⟩, hl4, hk4, hkk⟩ := fin none W3 hk3
        exact ⟨_, _, hr, .inl ⟨rfl, hgx, ⟨by rw [e4]; exact hI.putObj _ hi3 (by omega) ho hoc, hl4, hk4⟩, hkk⟩⟩
      | ret =>
        obtain ⟨hk3, hi3⟩ := hp
        obtain ⟨W4, hr, e4, ⟨o, ho, hoc⟩, hl4, hk4, hkk⟩ := fin (some .ret) W3 hk3
        exact ⟨_, _, hr, .inr ⟨rfl, ⟨.ret, by rw [e4]; exact (hIx _).putObj _ hi3 (by omega) ho hoc, hl4, hk4⟩, hkk⟩⟩
      | exit id =>
        obtain ⟨hk3, hi3⟩ := hp
        obtain ⟨W4, hr, e4, ⟨o, ho, hoc⟩, hl4, hk4, hkk⟩ := fin (some (.exit id)) W3 hk3
        exact ⟨_, _, hr, .inr ⟨rfl, ⟨.exit id, by rw [e4]; exact (hIx _).putObj _ hi3 (by omega) ho hoc, hl4, hk4⟩, hkk⟩⟩
      | goto t =>
        obtain ⟨hk3, hi3⟩ := hp
        obtain ⟨W4, hr, e4, ⟨o, ho, hoc⟩, hl4, hk4, hkk⟩ := fin (some (.goto t)) W3 hk3
        exact ⟨_, _, hr, .inr ⟨rfl, ⟨.goto t, by rw [e4]; exact (hIx _).putObj _ hi3 (by omega) ho hoc, hl4, hk4⟩, hkk⟩⟩
      | panic ch => exact hp.elim
      | outgrown => exact hp.elim
    · rintro e W2 ⟨⟨v, rfl⟩, (⟨xs, hS, hi, hl, hk⟩ | ⟨pre, hSp, c, hi, hl, hk⟩)⟩
      · exact ⟨none, _, by have := run_endLoop (P := P) hl (by rw [hrec]; simp); rw [hrec] at this; exact this, hdone _ xs _ (Nat.le_refl _) hS (hI.putObj _ hi (by omega) hl rfl) ((World.putObj_heap_other (by omega)).trans hk)⟩
      · exact ⟨some c, _, by have := run_endLoop (P := P) hl (by rw [hrec]; simp); rw [hrec] at this; exact this, hstop _ c pre _ (Nat.le_refl _) hSp ((hIx c).putObj _ hi (by omega) hl rfl) ((World.putObj_heap_other (by omega)).trans hk)⟩
end Go.Proofs.Ytkpefelakhbkhaa.I

namespace Go.Proofs.Ytkpefelakhbkhaa.I
open Go.RowKit Go.Shelf
attribute [local go_sem] Oper.semAt_some

def InFP (P : Nat → Prop) (w : World) (B : Nat) : Fo → Nat → Nat → Prop
  | .nil, _, _ => True
  | .cons o ks rest, b, off => (∃ A c, w.cell? ⟨b, off, none⟩ = some (.bool o) ∧ w.cell? ⟨b, off + 1, none⟩ = some (.slice A ks.len c) ∧ (ks.len = 0 ∨ ∃ b' off', A = some ⟨b', off', none⟩ ∧ (b' < B ∧ P b') ∧ InFP P w B ks b' off')) ∧ InFP P w B rest b (off + 2)
def KdP (P : Nat → Prop) (w : World) (B : Nat) (ks : Fo) (A : Option Addr) : Prop := ks.len = 0 ∨ ∃ b off, A = some ⟨b, off, none⟩ ∧ (b < B ∧ P b) ∧ InFP P w B ks b off
theorem InFP.keep2 {P : Nat → Prop} {w w' : World} {B : Nat} (hk : ∀ (p : Addr) (v : Value), (p.block < B ∧ P p.block) → w.cell? p = some v → w'.cell? p = some v) : ∀ {f : Fo} {b off : Nat}, (b < B ∧ P b) → InFP P w B f b off → InFP P w' B f b off
  | .nil, _, _, _, _ => trivial
  | .cons o ks rest, b, off, hb, ⟨⟨A, c, h1, h2, h3⟩, h4⟩ => by
    refine ⟨⟨A, c, hk _ _ hb h1, hk _ _ hb h2, ?_⟩, InFP.keep2 hk hb h4⟩
    rcases h3 with h3 | ⟨b', off', e, hb', h3⟩
    · exact .inl h3
    · exact .inr ⟨b', off', e, hb', InFP.keep2 hk hb' h3⟩
theorem KdP.keep2 {P : Nat → Prop} {w w' : World} {B : Nat} (hk : ∀ (p : Addr) (v : Value), (p.block < B ∧ P p.block) → w.cell? p = some v → w'.cell? p = some v) {f : Fo} {A : Option Addr} (h : KdP P w B f A) : KdP P w' B f A := by
  rcases h with h | ⟨b, off, e, hb, h⟩
  · exact .inl h
  · exact .inr ⟨b, off, e, hb, InFP.keep2 hk hb h⟩
theorem KdP.below {P : Nat → Prop} {w w' : World} {B : Nat} {ks : Fo} {A : Option Addr} (h : KdP P w B ks A) (hb : Below B w w') : KdP P w' B ks A := h.keep2 fun _ _ hp hc => (hb.cell hp.1).trans hc

set_option maxRecDepth 100000 in
set_option maxHeartbeats 4000000 in
theorem nodes_seqQ (P : Nat → Prop) : ∀ (N : Nat) (o : Bool) (ks : Fo) (A : Option Addr) (c : Nat) (d : Int) (Bt Bd n₀ : Nat) (X : Nat → Prop) (Q : List It → It → Prop) (G : It → Prop) (w : World), ks.size < N → (∀ x, G x → x.n = 0 ∨ x.n = 2) → (∀ (pre : List It) (x : It), pre.map It.key ++ [x.key] <+: walkT o ks d → Q pre x) →
    KdP P w n₀ ks A → n₀ ≤ w.heap.size → Bt < w.heap.size → Bd < w.heap.size → w.cell? ⟨Bt, 0, none⟩ = some (.bool o) → w.cell? ⟨Bt, 1, none⟩ = some (.slice A ks.len c) → w.cell? ⟨Bd, 0, none⟩ = some (.int .i64 d) → ¬ X Bt → ¬ X Bd → (∀ k, X k → (k < n₀ → ¬ P k) ∧ k < w.heap.size) →
    SeqQ Try.prog 70 #[.pointer (some ⟨Bt, 0, none⟩), .pointer (some ⟨Bd, 0, none⟩)] It.enc X Q G (fun ys => ys.map It.key = walkT o ks d) (fun pre => pre.map It.key <+: walkT o ks d) w := by
  intro N
  induction N with
  | zero => intro o ks A c d Bt Bd n₀ X Q G w h; omega
  | succ N ih =>
  intro o ks A c d Bt Bd n₀ X Q G w hN hG hQ hk hn0 hBt hBd c0 c1 c2 hXt hXd hX l J Jx W hW hl1 hl2 hJ hJx hY h0
  refine (callsIn_wide (n := 3)).1 ?_
  have hJ0 : J [] (W.alloc (.cells #[.func (.yield l) #[] #[]] 83)) := hJ.alloc _ h0
  have t0 : (W.alloc (.cells #[.func (.yield l) #[] #[]] 83)).cell? ⟨Bt, 0, none⟩ = some (.bool o) := ((Below.refl _ W).alloc (Nat.le_refl _) _).cell (p := ⟨Bt, 0, none⟩) (Nat.lt_of_lt_of_le hBt hW.size) |>.trans ((hW.cell (p := ⟨Bt, 0, none⟩) hBt).trans c0)
  have t1 : (W.alloc (.cells #[.func (.yield l) #[] #[]] 83)).cell? ⟨Bt, 1, none⟩ = some (.slice A ks.len c) := ((Below.refl _ W).alloc (Nat.le_refl _) _).cell (p := ⟨Bt, 1, none⟩) (Nat.lt_of_lt_of_le hBt hW.size) |>.trans ((hW.cell (p := ⟨Bt, 1, none⟩) hBt).trans c1)
  have t2 : (W.alloc (.cells #[.func (.yield l) #[] #[]] 83)).cell? ⟨Bd, 0, none⟩ = some (.int .i64 d) := ((Below.refl _ W).alloc (Nat.le_refl _) _).cell (p := ⟨Bd, 0, none⟩) (Nat.lt_of_lt_of_le hBd hW.size) |>.trans ((hW.cell (p := ⟨Bd, 0, none⟩) hBd).trans c2)
  obtain ⟨fn, tmps, assign, body, hy, hR⟩ := hY [] ⟨o, A, ks.len, c, d⟩ _ hJ0 (hQ [] _ (by simp [It.key, walkT]))
  unfold It.enc tv at hy
  dsimp only at hy
  have HR := fun m => roundIn_deep (m' := m) hR
  clear hR
  have HH := Lib.hid (And.intro hQ (And.intro hk (And.intro hX (And.intro hY ih))))
  clear ih hQ hk hX hY
  refine callsIn_of_wp_marks Try.func70 rfl trivial ?_ rfl
  simp only [Try.ntmps70, List.size_toArray, List.length_cons, List.length_nil, Nat.reduceAdd, Nat.reduceSub, Array.replicate_succ, Array.replicate_zero, List.push_toArray, List.append_toArray, List.nil_append, List.cons_append]
  gi_wp2
  refine (HR _).mono ?_
  clear HR
  obtain ⟨Wy, hWy⟩ : ∃ Wy, W.alloc (.cells #[.func (.yield l) #[] #[]] 83) = Wy := ⟨_, rfl⟩
  have hyb : Wy.cell? ⟨W.heap.size, 0, none⟩ = some (.func (.yield l) #[] #[]) := by rw [← hWy]; simp [go_sem]
  have hsy : Wy.heap.size = W.heap.size + 1 := by rw [← hWy]; simp
  have hWy' : Below w.heap.size w Wy := by rw [← hWy]; exact hW.trans (((Below.refl _ W).alloc (Nat.le_refl _) _).mono hW.size)
  rw [hWy] at t0 t1 t2 ⊢
  clear hJ0 hy
  have hsz := hW.size
  have RR : ∀ (A B : World) (row : Option Nat), ((∃ v, Ending.returned (.tuple #[]) = .returned v) ∧ ((∃ xs : List It, xs.map It.key = walkT o ks d ∧ J xs A) ∨ ∃ pre : List It, pre.map It.key <+: walkT o ks d ∧ Jx pre A)) → A.grownBy B row → (∀ r, row = some r → W.heap.size ≤ r ∧ ∃ o : Obj, A.heap[r]? = some o ∧ o.isCells = false) →
      ((∃ v, Ending.returned (.tuple #[]) = .returned v) ∧ ((∃ xs : List It, xs.map It.key = walkT o ks d ∧ J xs B) ∨ ∃ pre : List It, pre.map It.key <+: walkT o ks d ∧ Jx pre B)) := by
    rintro A B row ⟨h1, h2⟩ hg hr
    refine ⟨h1, ?_⟩
    rcases h2 with ⟨xs, e, h⟩ | ⟨pre, e, h⟩
    · exact .inl ⟨xs, e, hJ xs A B row h hg hr⟩
    · exact .inr ⟨pre, e, hJx pre A B row h hg hr⟩
  have RR := Lib.hid RR
  rintro e W3 (⟨rfl, hg3, hj3, hk3⟩ | ⟨rfl, hx3, hk3⟩)
  · obtain ⟨hQ, hk, hX, hY, ih⟩ := HH.out
    have hX' : ∀ k, X k ∨ k = l → (k < n₀ → ¬ P k) ∧ k < W.heap.size := by
      rintro k (h | rfl)
      · have := hX k h; exact ⟨this.1, by omega⟩
      · exact ⟨fun h => absurd h (by omega), by omega⟩
    have hold3 := hk3.holds
    have hXb : ∀ B, B < w.heap.size → ¬ X B → ¬ (X B ∨ B = l) := by
      rintro B hB hx (h | rfl)
      · exact hx h
      · omega
    have hXn : ∀ B, W.heap.size ≤ B → ¬ (X B ∨ B = l) := fun B hB h => by have := (hX' B h).2; omega
    have s1 := hold3 ⟨Bt, 1, none⟩ _ (hXb Bt hBt hXt) t1
    have s2 := hold3 ⟨Bd, 0, none⟩ _ (hXb Bd hBd hXd) t2
    have s3 := hold3 ⟨W.heap.size, 0, none⟩ _ (hXn _ (Nat.le_refl _)) hyb
    have hmem : KdP P W3 n₀ ks A := (hk.below (hWy'.mono hn0)).keep2 fun p v hp hc => hold3 p v (fun h => (hX' _ h).1 hp.1 hp.2) hc
    have hsz3 : W.heap.size + 1 ≤ W3.heap.size := by have := hk3.size; omega
    rw [List.nil_append] at hj3
    have hlen : ks.len ≤ 2 := by rcases hG _ hg3 with h | h <;> (simp only at h; omega)
    clear t0 t1 t2 c0 c1 c2 hyb h0 hk hWy' hWy hold3 hk3 hg3
    have HY := Lib.hid (And.intro hQ (And.intro hX (And.intro hY ih)))
    clear HH hQ hX hY ih
    gi_wp2
    refine wpIn_loop (fun a Wr => ∃ (i : Nat) (fo : Fo) (pre : List It) (v5 v17 v18 v19 v20 v21 v22 v23 v31 : Value) (ds : List Deferred), a = { tmps := #[.func (.yield l) #[] #[], .pointer (some ⟨Bt, 0, none⟩), .pointer (some ⟨Bd, 0, none⟩), .pointer (some ⟨W.heap.size, 0, none⟩), undef, v5, undef, undef, .func (.yield l) #[] #[], .agg #[.bool o, .slice A ks.len c], .int .i64 d, .bool true, .bool false, .pointer (some ⟨Bt, 1, none⟩), .slice A ks.len c, .int .i64 (ks.len : Int), .int .i64 (i : Int), v17, v18, v19, v20, v21, v22, v23, undef, undef, undef, undef, undef, undef, undef, v31], defers := ds } ∧ Hid (i + fo.len = ks.len) ∧ Hid (fo.len = 0 ∨ ∃ b off, A = some ⟨b, off, none⟩ ∧ (b < n₀ ∧ P b) ∧ InFP P W3 n₀ fo b (off + i * 2)) ∧ Hid (fo.size ≤ ks.size) ∧ Hid (pre.map It.key ++ walkK fo (nx d) = walkT o ks d) ∧ J pre Wr ∧ Hid (Holds (fun k => X k ∨ k = l) W3 Wr) ∧ Hid (Marks Wr W.heap.size Wr.heap.size ds) ∧ W.heap.size + 1 ≤ Wr.heap.size) (fun a _ => ks.len - (intOf (a.tmps.getD 16 undef)).toNat) ?start ?round
    case start =>
      refine ⟨0, ks, [⟨o, A, ks.len, c, d⟩], undef, undef, undef, undef, undef, undef, undef, undef, undef, [], rfl, by show _ = _; omega, ?_, Nat.le_refl _, ?_, hj3, Holds.refl _ _, trivial, hsz3⟩
      · rcases hmem with h | ⟨b, off, e, hb, h⟩
        · exact .inl h
        · exact .inr ⟨b, off, e, hb, by rw [Nat.zero_mul, Nat.add_zero]; exact h⟩
      · show _ = _; simp [It.key, walkT]
    case round =>
      rintro a Wr ⟨i, fo, pre, v5, v17, v18, v19, v20, v21, v22, v23, v31, ds, rfl, hi, hfo, hfs, hpre, hJr, hH, hM, hsr⟩
      have r1 := hH.out _ _ (hXb Bt hBt hXt) s1
      have r2 := hH.out _ _ (hXb Bd hBd hXd) s2
      have r3 := hH.out _ _ (hXn _ (Nat.le_refl _)) s3
      clear s1 s2 s3 hj3 hmem
      cases fo with
      | nil =>
        have hin : i = ks.len := by have := hi.out; simp [Fo.len] at this; exact this
        subst hin
        have HP : Hid (pre.map It.key = walkT o ks d) := by show _ = _; have := hpre.out; simpa [walkK] using this
        gi_wp2
        exact leave_marks rfl (L := W.heap.size) RR.out ds _ _ hM.out ⟨⟨_, rfl⟩, .inl ⟨pre, HP.out, hJr⟩⟩
      | cons o1 k1 rest =>
        have hlt : i < ks.len := by have := hi.out; simp [Fo.len] at this; omega
        obtain ⟨b, off, hA, hb, ⟨A1, c1, m1, m2, m3⟩, m4⟩ : ∃ b off, A = some ⟨b, off, none⟩ ∧ (b < n₀ ∧ P b) ∧ InFP P W3 n₀ (.cons o1 k1 rest) b (off + i * 2) := by
          rcases hfo.out with h | h
          · simp [Fo.len] at h
          · exact h
        have hXm : ∀ B, (B < n₀ ∧ P B) → ¬ (X B ∨ B = l) := fun B hB h => (hX' B h).1 hB.1 hB.2
        have g1 := hH.out _ _ (hXm b hb) m1
        have g2 := hH.out _ _ (hXm b hb) m2
        have hm3 : KdP P Wr n₀ k1 A1 := KdP.keep2 (fun p v hp hc => hH.out p v (hXm _ hp) hc) (w := W3) m3
        subst hA
        have r2a : (Wr.alloc (.cells #[.bool o1, .slice A1 k1.len c1] 24)).cell? ⟨Bd, 0, none⟩ = some (.int .i64 d) := (((Below.refl _ Wr).alloc (Nat.le_refl _) _).cell (p := ⟨Bd, 0, none⟩) (by show Bd < Wr.heap.size; omega)).trans r2
        gi_wp2_with (refine ⟨trivial, ?_⟩; gi_at_call 41; refine (nodes_in _ o1 A1 k1.len c1 _ _).mono ?_; rintro e w' ⟨rfl, rfl⟩)
        obtain ⟨Wa, hWa⟩ : ∃ Wa, ((Wr.alloc (.cells #[.bool o1, .slice A1 k1.len c1] 24)).alloc (.cells #[.bool o1, .slice A1 k1.len c1] 24)).alloc (.cells #[.int .i64 (wrap64 (d + 1))] 3) = Wa := ⟨_, rfl⟩
        have hsa : Wa.heap.size = Wr.heap.size + 3 := by rw [← hWa]; simp
        have hka : Below Wr.heap.size Wr Wa := by rw [← hWa]; exact three_boxes Wr _ _ _
        have a0 : Wa.cell? ⟨Wr.heap.size + 1, 0, none⟩ = some (.bool o1) := by rw [← hWa]; simp [go_sem]
        have a1 : Wa.cell? ⟨Wr.heap.size + 1, 1, none⟩ = some (.slice A1 k1.len c1) := by rw [← hWa]; simp [go_sem]
        have a2 : Wa.cell? ⟨Wr.heap.size + 1 + 1, 0, none⟩ = some (.int .i64 (nx d)) := by rw [← hWa]; simp [go_sem, nx]
        have a3 : Wa.cell? ⟨W.heap.size, 0, none⟩ = some (.func (.yield l) #[] #[]) := (hka.cell (p := ⟨W.heap.size, 0, none⟩) (by show W.heap.size < Wr.heap.size; omega)).trans r3
        have aJ : J pre Wa := by rw [← hWa]; exact hJ.alloc _ (hJ.alloc _ (hJ.alloc _ hJr))
        have aM : Marks Wa W.heap.size Wa.heap.size ds := (hM.out.keep fun k _ hk h => (hka.block k hk).trans h).more (by omega)
        have aK : KdP P Wa n₀ k1 A1 := hm3.keep2 fun p v hp hc => (hka.cell (by have := hW.size; have := hp.1; omega)).trans hc
        have aH : Holds (fun k => X k ∨ k = l) W3 Wa := hH.out.trans fun p v hx hc => (hka.cell (Array.getElem?_eq_some_iff.1 (cells_of_cell hc).choose_spec.1).1).trans hc
        rw [hWa]
        obtain ⟨hQ, hX, hY, ih⟩ := HY.out
        have hQ1 : ∀ (p' : List It) (x : It), p'.map It.key ++ [x.key] <+: walkT o1 k1 (nx d) → Q (pre ++ p') x := fun p' x hx => hQ _ x (by rw [← hpre.out, walkK_cons, List.map_append, List.append_assoc]; exact (List.prefix_append_right_inj _).2 (hx.trans (List.prefix_append _ _)))
        have hseq := ih o1 k1 A1 c1 (nx d) (Wr.heap.size + 1) (Wr.heap.size + 1 + 1) n₀ (fun k => X k ∨ k = l) (fun p' x => Q (pre ++ p') x) G Wa (by have := hfs.out; simp only [Fo.size] at this; omega) hG hQ1 aK (by omega) (by omega) (by omega) a0 a1 a2
          (hXn _ (by omega)) (hXn _ (by omega)) (fun k h => ⟨(hX' k h).1, by have := (hX' k h).2; omega⟩)
        clear ih hWa r1 r2 r3 r2a g1 g2 m1 m2 m3 hm3 hJr HY
        have HP := Lib.hid hpre.out; clear hpre
        refine range_ownQ (gf := 70) (lb := #[.pointer (some ⟨Wr.heap.size + 1, 0, none⟩), .pointer (some ⟨Wr.heap.size + 1 + 1, 0, none⟩)]) rfl (enters_of Try.func70 (by kernel_rfl) rfl) hseq (fun k h => by have := (hX' k h).2; omega) (Below.refl _ _) (fun _ => rfl)
          (fun q V => J (pre ++ q) V ∧ Holds (fun k => X k ∨ k = l) Wa V ∧ Marks V W.heap.size Wa.heap.size ds)
          (fun cd q V => cd = .ret ∧ Jx (pre ++ q) V ∧ Marks V W.heap.size Wa.heap.size ds)
          (OwnFrom.and (fun q V V' row hs hg hr => (own_more hJ (by omega)) (pre ++ q) V V' row hs hg hr) (OwnFrom.and ((Holds.own _ _).from _) (Marks.own _ _ _)))
          (fun cd => OwnFrom.and (ownFrom_pure _ _) (OwnFrom.and (fun q V V' row hs hg hr => (own_more hJx (by omega)) (pre ++ q) V V' row hs hg hr) (Marks.own _ _ _)))
          ⟨by rw [List.append_nil]; exact aJ, Holds.refl _ _, aM⟩
          (fun x a' V => ∃ Bx, V.cell? ⟨Bx, 0, none⟩ = some (.bool x.o) ∧ V.cell? ⟨Bx, 1, none⟩ = some (.slice x.A x.n x.c) ∧ a' = { tmps := #[.func (.yield l) #[] #[], .pointer (some ⟨Bt, 0, none⟩), .pointer (some ⟨Bd, 0, none⟩), .pointer (some ⟨W.heap.size, 0, none⟩), undef, .pointer (some ⟨Wr.heap.size, 0, none⟩), .pointer (some ⟨Bx, 0, none⟩), .int .i64 x.d, .func (.yield l) #[] #[], .agg #[.bool o, .slice (some ⟨b, off, none⟩) ks.len c], .int .i64 d, .bool true, .bool false, .pointer (some ⟨Bt, 1, none⟩), .slice (some ⟨b, off, none⟩) ks.len c, .int .i64 (ks.len : Int), .int .i64 (i : Int), .bool true, .pointer (some ⟨b, off + i * 2, none⟩), .agg #[.bool o1, .slice A1 k1.len c1], .agg #[.bool o1, .slice A1 k1.len c1], .int .i64 d, .int .i64 (wrap64 (d + 1)), .func (.func 70) #[] #[.pointer (some ⟨Wr.heap.size + 1, 0, none⟩), .pointer (some ⟨Wr.heap.size + 1 + 1, 0, none⟩)], tv x.o x.A x.n x.c, .int .i64 x.d, undef, undef, undef, undef, undef, v31], defers := [] })
          (fun x a' _ V V' row hs hg hr => by
            obtain ⟨Bx, b0, b1, e⟩ := hs
            exact ⟨Bx, cell_kept b0 hg (fun r e => (hr r e).2), cell_kept b1 hg (fun r e => (hr r e).2), e⟩) ?assign ?body ?done ?stop
        case assign =>
          rintro l' q x V K hsv ⟨hj, hh, hm⟩ hK
          unfold It.enc tv
          dsimp only
          gi_wp2
          exact hK _ _ ((Kept.refl _ V).alloc _) ⟨hJ (pre ++ q) V _ none hj (World.grownBy_alloc V _ none) (fun r e => by cases e), (Holds.own (β := Unit) (fun k => X k ∨ k = l) Wa) () V _ none hh (World.grownBy_alloc V _ none) (fun r e => by cases e), (Marks.own (β := Unit) W.heap.size Wa.heap.size ds) () V _ none hm (World.grownBy_alloc V _ none) (fun r e => by cases e)⟩ ⟨V.heap.size, by simp [go_sem], by simp [go_sem], rfl⟩
        case body =>
          rintro l' q x a' V hsv ⟨hj, hh, hm⟩ ⟨Bx, b0, b1, rfl⟩ hq
          have b3 := hh _ _ (hXn _ (Nat.le_refl _)) a3
          obtain ⟨fn2, tmps2, assign2, body2, hy2, hR2⟩ := hY (pre ++ q) x V hj hq
          unfold It.enc tv at hy2
          have hR3 := fun m => round_in (m' := m) l' hR2
          clear hR2 hY hseq hQ hQ1 a0 a1 a2 a3 aJ aM aK aH
          have HMk : ∀ V', Kept (fun k => X k ∨ k = l) V V' → Marks V' W.heap.size Wa.heap.size ds := fun V' hk' => hm.keep fun k hk1 hk2 h => (hk'.same k (Array.getElem?_eq_some_iff.1 h).1 (hXn k hk1)).trans h
          gi_wp2
          refine (hR3 _).mono ?_
          rintro e V2 (⟨rfl, hg2, hj2, hk2⟩ | ⟨rfl, hx2, hk2⟩)
          · gi_wp2
            exact ⟨hk2, hg2, by rw [← List.append_assoc]; exact hj2, hh.trans hk2.holds, HMk V2 hk2⟩
          · gi_wp2
            exact ⟨hk2, rfl, by rw [← List.append_assoc]; exact hx2, HMk V2 hk2⟩
        case done =>
          rintro D xs V hD hxs ⟨hj, hh, hm⟩ hdf
          clear hY hseq hQ hQ1 a0 a1 a2 a3 aJ aM aK
          have hDv := (Array.getElem?_eq_some_iff.1 hdf).1
          have hi2 := hi.out
          have hfs2 := hfs.out
          simp only [Fo.len] at hi2
          simp only [Fo.size] at hfs2
          gi_wp2
          refine ⟨⟨i + 1, rest, pre ++ xs, _, _, _, _, _, _, _, _, _, _, rfl, by show _ = _; omega, .inr ⟨b, off, rfl, hb, ?_⟩, by show _ ≤ _; omega, ?_, hj, aH.trans hh, ⟨D, rfl, by omega, hDv, hdf, hm.more hD⟩, by omega⟩, ?_⟩
          · rw [show off + (i + 1) * 2 = off + i * 2 + 2 by omega]; exact m4
          · show _ = _
            rw [← HP.out, walkK_cons, List.map_append, hxs, List.append_assoc]
          · simp [intOf]; omega
        case stop =>
          rintro D cd q V hD hq ⟨rfl, hx, hm⟩ hdf
          clear hY hseq hQ hQ1 a0 a1 a2 a3 aJ aM aK
          gi_wp2
          refine leave_marks rfl (L := W.heap.size) RR.out _ (D + 1) _ ⟨D, rfl, by omega, by omega, hdf, hm.more hD⟩ ⟨⟨_, rfl⟩, .inr ⟨_, ?_, hx⟩⟩
          rw [List.map_append, ← HP.out, walkK_cons]
          exact (List.prefix_append_right_inj _).2 (hq.trans (List.prefix_append _ _))
  · clear t0 t1 t2
    gi_wp2
    refine leave_marks rfl (L := W.heap.size) RR.out [] 0 _ trivial ⟨⟨_, rfl⟩, .inr ⟨_, ?_, hx3⟩⟩
    simp [It.key, walkT]
end Go.Proofs.Ytkpefelakhbkhaa.I
