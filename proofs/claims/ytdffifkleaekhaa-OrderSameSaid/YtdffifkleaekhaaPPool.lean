/-
  The program's pool where it lies.
-/
import Derived.Test.YtdffifkleaekhaaPOwn
import Derived.Test.YtdffifkleaekhaaPMath
namespace Go.Proofs.Ytdffifkleaekhaa.O
open Go.RowKit Go.Proofs.Ytdffifkleaekhaa.V
set_option linter.unusedVariables false
set_option linter.unusedSimpArgs false

/-- A pool's own block. -/
def B4 (w : World) (k : Nat) (a0 a1 a2 a3 : Value) : Prop := w.heap[k]? = some (.cells #[a0, a1, a2, a3] 88 (0, 0))
section
variable {w : World} {k : Nat} {a0 a1 a2 a3 : Value}
structure B4.Cells (w : World) (k : Nat) (a0 a1 a2 a3 : Value) : Prop where
  c0 : w.cell? ⟨k, 0, none⟩ = some a0
  c1 : w.cell? ⟨k, 1, none⟩ = some a1
  c2 : w.cell? ⟨k, 2, none⟩ = some a2
  c3 : w.cell? ⟨k, 3, none⟩ = some a3
structure B4.Fr (w : World) (k : Nat) : Prop where
  f0 : w.frozen? ⟨k, 0, none⟩ = false
  f1 : w.frozen? ⟨k, 1, none⟩ = false
  f2 : w.frozen? ⟨k, 2, none⟩ = false
  f3 : w.frozen? ⟨k, 3, none⟩ = false
theorem B4.at (h : B4 w k a0 a1 a2 a3) : B4.Cells w k a0 a1 a2 a3 := by
  refine ⟨?_, ?_, ?_, ?_⟩
  · rw [cell_of_row w k 0 _ 88 (0, 0) h]; rfl
  · rw [cell_of_row w k 1 _ 88 (0, 0) h]; rfl
  · rw [cell_of_row w k 2 _ 88 (0, 0) h]; rfl
  · rw [cell_of_row w k 3 _ 88 (0, 0) h]; rfl
theorem B4.fr (h : B4 w k a0 a1 a2 a3) : B4.Fr w k := by
  have h' : w.heap[k]? = some (.cells #[a0, a1, a2, a3] 88 (0, 0)) := h
  refine ⟨?_, ?_, ?_, ?_⟩ <;> simp [World.frozen?, h']
theorem B4.lt (h : B4 w k a0 a1 a2 a3) : k < w.heap.size := (Array.getElem?_eq_some_iff.1 h).1
theorem B4.below {w' : World} {B : Nat} (h : B4 w k a0 a1 a2 a3) (hb : Below B w w') (hB : k < B) : B4 w' k a0 a1 a2 a3 := (hb.block k hB).trans h
theorem B4.set0 (h : B4 w k a0 a1 a2 a3) (x : Value) : B4 (w.setCell ⟨k, 0, none⟩ x) k x a1 a2 a3 := blk_set h x
theorem B4.set1 (h : B4 w k a0 a1 a2 a3) (x : Value) : B4 (w.setCell ⟨k, 1, none⟩ x) k a0 x a2 a3 := blk_set h x
theorem B4.set2 (h : B4 w k a0 a1 a2 a3) (x : Value) : B4 (w.setCell ⟨k, 2, none⟩ x) k a0 a1 x a3 := blk_set h x
theorem B4.set3 (h : B4 w k a0 a1 a2 a3) (x : Value) : B4 (w.setCell ⟨k, 3, none⟩ x) k a0 a1 a2 x := blk_set h x
theorem B4.new (w : World) (a0 a1 a2 a3 : Value) : B4 (w.alloc (.cells #[a0, a1, a2, a3] 88)) w.heap.size a0 a1 a2 a3 := heap_alloc_new w _
end

/-- What a pool is made of, and where it lies. -/
structure Pv where
  M : Option Nat
  Ad : Option Addr
  cd : Nat
  Aw : Option Addr
  cw : Nat
  Ak : Option Addr
  ck : Nat
  ds : List D
  ws : List D
  K : List D
  O : List Ov
/-- The blocks that it writes to. -/
def Pv.own (p : Pv) (b : Nat) (k : Nat) : Prop := k = b ∨ p.M = some k ∨ blk p.Ad = some k ∨ blk p.Aw = some k
/-- All its blocks. -/
def Pv.foot (p : Pv) (b : Nat) (k : Nat) : Prop := p.own b k ∨ blk p.Ak = some k ∨ ∃ x ∈ p.O, blk x.A = some k ∨ blk x.A2 = some k
def Pv.map (p : Pv) (w : World) (b : Nat) : Prop := match p.M with | none => p.O = [] | some m => b ≤ m ∧ MapO w m p.O.length p.O
/-- A slice that it only reads. -/
def Pv.Out (p : Pv) (b : Nat) (w : World) (A : Option Addr) : Prop := ∀ k, blk A = some k → k < w.heap.size ∧ ¬ p.own b k
theorem Pv.Out.more {p : Pv} {b : Nat} {w w' : World} {A : Option Addr} (h : p.Out b w A) (hs : w.heap.size ≤ w'.heap.size) : p.Out b w' A := fun k hk => ⟨Nat.lt_of_lt_of_le (h k hk).1 hs, (h k hk).2⟩
structure Pv.At (p : Pv) (w : World) (b : Nat) : Prop where
  box : B4 w b (.map p.M) (.slice p.Ad p.ds.length p.cd) (.slice p.Aw p.ws.length p.cw) (.slice p.Ak p.K.length p.ck)
  gd : GrD w b p.Ad p.cd p.ds
  gw : GrD w b p.Aw p.cw p.ws
  ne : ∀ k, blk p.Ad = some k → blk p.Aw ≠ some k
  k : Vc.ok ⟨p.Ak, p.ck, p.K⟩ w w.heap.size
  kf : p.Out b w p.Ak
  mp : p.map w b
  ops : ∀ x ∈ p.O, x.ok w w.heap.size ∧ p.Out b w x.A ∧ p.Out b w x.A2
theorem grD_same {w w' : World} {base c : Nat} {A : Option Addr} {l : List D} (h : GrD w base A c l) (hb : ∀ k, blk A = some k → w'.heap[k]? = w.heap[k]?) : GrD w' base A c l := by
  refine ⟨h.1, ?_⟩
  rcases h.2 with ⟨e, h0⟩ | ⟨g, cap, cur, e, hb', hc, h1⟩
  · exact .inl ⟨e, h0⟩
  · injection e with e1 e2 e3
    subst e1
    exact .inr ⟨g, cap, cur, by rw [e3], hb', (hb g rfl).trans hc, h1⟩
theorem grD_kind {w : World} {base c : Nat} {A : Option Addr} {l : List D} (h : GrD w base A c l) : ∀ k, blk A = some k → ∃ cs, w.heap[k]? = some (.cells cs 23 (0, 0)) := by
  intro k hk
  rcases h.cases with ⟨rfl, _, _⟩ | ⟨g, cur, rfl, _, hc, _⟩
  · simp [blk] at hk
  · simp [blk] at hk
    subst hk
    exact ⟨_, hc⟩
theorem Pv.At.own_lt {p : Pv} {w : World} {b : Nat} (h : p.At w b) : ∀ k, p.own b k → b ≤ k ∧ k < w.heap.size := by
  rintro k (rfl | hk | hk | hk)
  · exact ⟨Nat.le_refl _, h.box.lt⟩
  · have hm := h.mp
    unfold Pv.map at hm
    rw [hk] at hm
    exact ⟨hm.1, hm.2.lt⟩
  · exact h.gd.lt k hk
  · exact h.gw.lt k hk
/-- The blocks are of three kinds. -/
theorem Pv.At.apart {p : Pv} {w : World} {b : Nat} (h : p.At w b) : (∀ k, p.M = some k → k ≠ b ∧ blk p.Ad ≠ some k ∧ blk p.Aw ≠ some k) ∧ blk p.Ad ≠ some b ∧ blk p.Aw ≠ some b := by
  have hb : w.heap[b]? = some (.cells _ 88 (0, 0)) := h.box
  refine ⟨fun k hk => ?_, fun e => ?_, fun e => ?_⟩
  · have hm := h.mp
    unfold Pv.map at hm
    rw [hk] at hm
    obtain ⟨es, clock, hmk⟩ := hm.2.kind
    refine ⟨?_, fun e => ?_, fun e => ?_⟩
    · rintro rfl; rw [hmk] at hb; cases hb
    · obtain ⟨cs, hc⟩ := grD_kind h.gd k e; rw [hmk] at hc; cases hc
    · obtain ⟨cs, hc⟩ := grD_kind h.gw k e; rw [hmk] at hc; cases hc
  · obtain ⟨cs, hc⟩ := grD_kind h.gd b e; rw [hb] at hc; cases hc
  · obtain ⟨cs, hc⟩ := grD_kind h.gw b e; rw [hb] at hc; cases hc
theorem Pv.map.same {p : Pv} {w w' : World} {b : Nat} (h : p.map w b) (hb : ∀ k, p.M = some k → w'.heap[k]? = w.heap[k]?) : p.map w' b := by
  unfold Pv.map at h ⊢
  cases hM : p.M with
  | none => rw [hM] at h; exact h
  | some m => rw [hM] at h; exact ⟨h.1, h.2.same (hb m hM)⟩
/-- Other blocks are written, new ones made. -/
theorem Pv.At.but {p : Pv} {w w' : World} {b : Nat} {X : Nat → Prop} (h : p.At w b) (hb : But X w w') (hX : ∀ k, k < w.heap.size → X k → ¬ p.foot b k) : p.At w' b := by
  have ho : ∀ k, p.own b k → ¬ X k := fun k hk hx => hX k (h.own_lt k hk).2 hx (.inl hk)
  have hs : ∀ k, p.own b k → w'.heap[k]? = w.heap[k]? := fun k hk => hb.block k (h.own_lt k hk).2 (ho k hk)
  have hrow : ∀ {A : Option Addr} {l : List D}, RowD w w.heap.size A l → (∀ k, blk A = some k → p.foot b k) → RowD w' w'.heap.size A l := fun {A l} hr hf hn => by
    obtain ⟨g, off, e, hg, hc⟩ := hr hn
    have hx : ¬ X g := fun hx => hX g hg hx (hf g (by rw [e]; rfl))
    exact ⟨g, off, e, Nat.lt_of_lt_of_le hg hb.size, fun j d hj => ⟨hb.cell (p := ⟨g, off + j * 2, none⟩) hx (hc j d hj).1, hb.cell (p := ⟨g, off + j * 2 + 1, none⟩) hx (hc j d hj).2⟩⟩
  refine ⟨(hs b (.inl rfl)).trans h.box, (grD_same h.gd fun k hk => hs k (.inr (.inr (.inl hk)))), (grD_same h.gw fun k hk => hs k (.inr (.inr (.inr hk)))), h.ne, ⟨hrow h.k.1 fun k hk => .inr (.inl hk), h.k.2⟩, h.kf.more hb.size, h.mp.same fun k hk => hs k (.inr (.inl hk)), fun x hx => ?_⟩
  obtain ⟨h1, h2, h3⟩ := h.ops x hx
  exact ⟨⟨⟨hrow h1.d.1 fun k hk => .inr (.inr ⟨x, hx, .inl hk⟩), h1.d.2⟩, ⟨hrow h1.s.1 fun k hk => .inr (.inr ⟨x, hx, .inr hk⟩), h1.s.2⟩, h1.fit⟩, h2.more hb.size, h3.more hb.size⟩
theorem Pv.At.up {p : Pv} {w w' : World} {b : Nat} (h : p.At w b) (hb : Below w.heap.size w w') : p.At w' b := h.but (X := fun _ => False) (But.of hb) fun _ _ hx => hx.elim
/-- From one state of a pool to another one. -/
structure Step (p : Pv) (w : World) (p' : Pv) (w' : World) (b : Nat) : Prop where
  at_ : p'.At w' b
  but : But (p.own b) w w'
  own : ∀ k, p'.own b k → p.own b k ∨ w.heap.size ≤ k
  foot : ∀ k, p'.foot b k → p.foot b k ∨ w.heap.size ≤ k
theorem Step.refl {p : Pv} {w : World} {b : Nat} (h : p.At w b) : Step p w p w b := ⟨h, But.refl _ _, fun _ => .inl, fun _ => .inl⟩
theorem Step.of {p : Pv} {w w' : World} {b : Nat} (h : p.At w b) (hb : Below w.heap.size w w') : Step p w p w' b := ⟨h.up hb, But.of hb, fun _ => .inl, fun _ => .inl⟩
theorem Step.trans {p q r : Pv} {u v w : World} {b : Nat} (h : Step p u q v b) (g : Step q v r w b) : Step p u r w b := by
  refine ⟨g.at_, ⟨g.but.os.trans h.but.os, g.but.tape.trans h.but.tape, g.but.output.trans h.but.output, Nat.le_trans h.but.size g.but.size, fun k hk hx => ?_⟩, fun k hk => ?_, fun k hk => ?_⟩
  · refine (g.but.block k (Nat.lt_of_lt_of_le hk h.but.size) fun hq => ?_).trans (h.but.block k hk hx)
    rcases h.own k hq with h1 | h1
    · exact hx h1
    · omega
  · rcases g.own k hk with h1 | h1
    · exact h.own k h1
    · exact .inr (Nat.le_trans h.but.size h1)
  · rcases g.foot k hk with h1 | h1
    · exact h.foot k h1
    · exact .inr (Nat.le_trans h.but.size h1)
theorem Step.then {p q : Pv} {u v w : World} {b : Nat} (h : Step p u q v b) (hb : Below v.heap.size v w) : Step p u q w b := h.trans (Step.of h.at_ hb)
theorem Step.below {p q : Pv} {u v : World} {b B : Nat} (h : Step p u q v b) (hp : p.At u b) (hB : B ≤ b) : Below B u v := h.but.below (fun k hk => Nat.le_trans hB (hp.own_lt k hk).1) (by have := (hp.own_lt b (.inl rfl)).2; omega)
end Go.Proofs.Ytdffifkleaekhaa.O
