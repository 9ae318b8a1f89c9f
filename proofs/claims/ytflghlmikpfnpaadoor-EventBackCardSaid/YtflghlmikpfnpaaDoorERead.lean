/-
  The program's read: a tree off a source whose parts are calls.
-/
import Derived.Test.YtflghlmikpfnpaaDoorERd
namespace Go.Proofs.YtflghlmikpfnpaaDoor.E
open Go.RowKit

/-- Every block but those of X lies as it lay, and all else of the world too. -/
structure KB (X : Nat → Prop) (W W' : World) : Prop where
  os : W'.os = W.os
  tape : W'.tape = W.tape
  output : W'.output = W.output
  size : W.heap.size ≤ W'.heap.size
  same : ∀ k, k < W.heap.size → ¬ X k → W'.heap[k]? = W.heap[k]?
theorem KB.refl (X : Nat → Prop) (W : World) : KB X W W := ⟨rfl, rfl, rfl, Nat.le_refl _, fun _ _ _ => rfl⟩
theorem KB.trans {X : Nat → Prop} {A B C : World} (h : KB X A B) (g : KB X B C) : KB X A C :=
  ⟨g.os.trans h.os, g.tape.trans h.tape, g.output.trans h.output, Nat.le_trans h.size g.size, fun k hk hx => (g.same k (Nat.lt_of_lt_of_le hk h.size) hx).trans (h.same k hk hx)⟩
theorem KB.mono {X Y : Nat → Prop} {A B : World} (h : KB X A B) (hxy : ∀ k, X k → Y k) : KB Y A B := ⟨h.os, h.tape, h.output, h.size, fun k hk hy => h.same k hk fun hx => hy (hxy k hx)⟩
theorem KB.below {X : Nat → Prop} {B : Nat} {W W' : World} (hb : Below B W W') (hB : W.heap.size ≤ B) : KB X W W' := ⟨hb.os, hb.tape, hb.output, hb.size, fun k hk _ => hb.block k (Nat.lt_of_lt_of_le hk hB)⟩
theorem KB.alloc {X : Nat → Prop} {A B : World} (h : KB X A B) (o : Obj) : KB X A (B.alloc o) := h.trans (KB.below ((Below.refl _ B).alloc (Nat.le_refl _) o) (Nat.le_refl _))
theorem KB.setCell {X : Nat → Prop} {A B : World} (h : KB X A B) {p : Addr} (hp : X p.block) (u : Value) : KB X A (B.setCell p u) :=
  have hb := (Below.refl 0 B).setCell (p := p) (Nat.zero_le _) u
  h.trans ⟨hb.os, hb.tape, hb.output, hb.size, fun k _ hx => Below.heap_setCell B p u k (fun e => hx (e ▸ hp))⟩
theorem KB.cell {X : Nat → Prop} {W W' : World} (h : KB X W W') {p : Addr} {v : Value} (hx : ¬ X p.block) (hc : W.cell? p = some v) : W'.cell? p = some v := Kept.cell ⟨h.size, h.same⟩ hx hc
theorem KB.down {X : Nat → Prop} {W W' : World} {B : Nat} (h : KB X W W') (hB : B ≤ W.heap.size) (hx : ∀ k, k < B → ¬ X k) : Below B W W' := ⟨h.os, h.tape, h.output, h.size, fun k hk => h.same k (Nat.lt_of_lt_of_le hk hB) (hx k hk)⟩

/-- Cells that hold what they hold; variables of two cells of the call's own; every older block but those of X as it lay. -/
structure KS (X : Nat → Prop) (w : World) (bs : List (Nat × Nat × Value)) (rs : List Nat) (W : World) : Prop where
  at0 : ∀ b ∈ bs, W.cell? ⟨b.1, b.2.1, none⟩ = some b.2.2 ∧ ¬ X b.1
  box : ∀ r ∈ rs, Box2 W r ∧ w.heap.size ≤ r ∧ ¬ X r
  kp : KB X w W
theorem KS.get {X : Nat → Prop} {w W : World} {bs : List (Nat × Nat × Value)} {rs : List Nat} (h : KS X w bs rs W) {g i : Nat} {v : Value} (hm : (g, i, v) ∈ bs) : W.cell? ⟨g, i, none⟩ = some v := (h.at0 _ hm).1
theorem Box2.lt {w : World} {g : Nat} (h : Box2 w g) : g < w.heap.size := by obtain ⟨_, _, ⟨k, _⟩, _⟩ := h.facts; exact World.block_lt_of_cell? w _ k
theorem KS.next {X : Nat → Prop} {w W W' : World} {bs : List (Nat × Nat × Value)} {rs : List Nat} (h : KS X w bs rs W) (hk : KB X W W') : KS X w bs rs W' :=
  ⟨fun b hm => ⟨hk.cell (h.at0 b hm).2 (h.at0 b hm).1, (h.at0 b hm).2⟩,
   fun r hm => by
     obtain ⟨⟨cs, t, h1, h2⟩, h3, h4⟩ := h.box r hm
     exact ⟨⟨cs, t, (hk.same r (Array.getElem?_eq_some_iff.1 h1).1 h4).trans h1, h2⟩, h3, h4⟩, h.kp.trans hk⟩
theorem KS.begin (X : Nat → Prop) (w : World) : KS X w [] [] w := ⟨by simp, by simp, KB.refl _ _⟩
theorem KS.more {X : Nat → Prop} {w W : World} {bs bs' : List (Nat × Nat × Value)} {rs : List Nat} (h : KS X w bs rs W) (h1 : ∀ b ∈ bs', W.cell? ⟨b.1, b.2.1, none⟩ = some b.2.2 ∧ ¬ X b.1) : KS X w (bs ++ bs') rs W :=
  ⟨fun b hm => by rcases List.mem_append.1 hm with hm | hm; exact h.at0 b hm; exact h1 b hm, h.box, h.kp⟩
theorem KS.boxed {X : Nat → Prop} {w W : World} {bs : List (Nat × Nat × Value)} {rs : List Nat} (h : KS X w bs rs W) (hX : ∀ k, X k → k < w.heap.size) (u v : Value) (t : TypeId) : KS X w (bs ++ [(W.heap.size, 0, u), (W.heap.size, 1, v)]) (rs ++ [W.heap.size]) (W.alloc (.cells #[u, v] t)) := by
  have hn : ¬ X W.heap.size := fun hx => by have := hX _ hx; have := h.kp.size; omega
  have h1 := h.next ((KB.refl X W).alloc (.cells #[u, v] t))
  refine ⟨fun b hm => ?_, fun r hm => ?_, h1.kp⟩
  · rcases List.mem_append.1 hm with hm | hm
    · exact h1.at0 b hm
    · simp only [List.mem_cons, List.not_mem_nil, or_false] at hm
      rcases hm with rfl | rfl
      · exact ⟨by simp [go_sem], hn⟩
      · exact ⟨by simp [go_sem], hn⟩
  · rcases List.mem_append.1 hm with hm | hm
    · exact h1.box r hm
    · simp only [List.mem_singleton] at hm
      subst hm
      exact ⟨Box2.new W u v t, h.kp.size, hn⟩
theorem KS.sub {X : Nat → Prop} {w W : World} {bs bs' : List (Nat × Nat × Value)} {rs rs' : List Nat} (h : KS X w bs rs W) (h1 : ∀ b ∈ bs', b ∈ bs) (h2 : ∀ r ∈ rs', r ∈ rs) : KS X w bs' rs' W := ⟨fun b hm => h.at0 b (h1 b hm), fun r hm => h.box r (h2 r hm), h.kp⟩
theorem KS.fresh {X : Nat → Prop} {w W : World} {bs : List (Nat × Nat × Value)} {rs : List Nat} (h : KS X w bs rs W) (hX : ∀ k, X k → k < w.heap.size) (u v : Value) (t : TypeId) : KS X w bs (rs ++ [W.heap.size]) (W.alloc (.cells #[u, v] t)) := (h.boxed hX u v t).sub (fun _ hm => List.mem_append_left _ hm) (fun _ hm => hm)
theorem KS.facts {X : Nat → Prop} {w W : World} {bs : List (Nat × Nat × Value)} {rs : List Nat} (h : KS X w bs rs W) (g : Nat) (hg : g ∈ rs) : ∃ u0 u1, (W.cell? ⟨g, 0, none⟩ = some u0 ∧ W.cell? ⟨g, 1, none⟩ = some u1) ∧ W.frozen? ⟨g, 0, none⟩ = false ∧ W.frozen? ⟨g, 1, none⟩ = false := (h.box g hg).1.facts
theorem KB.storeNew {X : Nat → Prop} {w W : World} (h : KB X w W) {p : Addr} (hp : w.heap.size ≤ p.block) (u : Value) : KB X w (W.setCell p u) :=
  have hb := (Below.refl 0 W).setCell (p := p) (Nat.zero_le _) u
  ⟨hb.os.trans h.os, hb.tape.trans h.tape, hb.output.trans h.output, by rw [size_set]; exact h.size, fun k hk hx => (Below.heap_setCell W p u k (fun e => by omega)).trans (h.same k hk hx)⟩
theorem KS.fin {X : Nat → Prop} {w W : World} {bs : List (Nat × Nat × Value)} {rs : List Nat} (h : KS X w bs rs W) (g : Nat) (hg : g ∈ rs) {P : Nat → Prop} {t : Tr} {x : Value} (ht : InP P W t x) (u1 u2 : Value) :
    InP P ((W.setCell ⟨g, 0, none⟩ u1).setCell ⟨g, 1, none⟩ u2) t x ∧ KB X w ((W.setCell ⟨g, 0, none⟩ u1).setCell ⟨g, 1, none⟩ u2) :=
  ⟨InP.set2 ((h.box g hg).1.set u1) (InP.set2 (h.box g hg).1 ht), (h.kp.storeNew (p := ⟨g, 0, none⟩) (h.box g hg).2.1 _).storeNew (p := ⟨g, 1, none⟩) (h.box g hg).2.1 _⟩

/-- A source in memory: what its three calls answer; its position lies in block ga, all that it reads below block base. -/
structure SrcW (base ga : Nat) (S : Src) (fI fN fM : Nat) (lI lN lM : Array Value) (R : Nat → World → Prop) : Prop where
  lt : ga < base
  st : ∀ p W W', R p W → base ≤ W.heap.size → W.heap.size ≤ W'.heap.size → (∀ k, k < base → W'.heap[k]? = W.heap[k]?) → R p W'
  pos : ∀ p, (S.num p).1.2 = true → 0 ≤ (S.num p).1.1
  cI : ∀ p W, R p W → base ≤ W.heap.size → Calls Tryd.prog fI lI W fun e W' => e = .returned (.bool (S.inn p).1) ∧ R (S.inn p).2 W' ∧ KB (fun k => k = ga) W W'
  cN : ∀ p W, R p W → base ≤ W.heap.size → Calls Tryd.prog fN lN W fun e W' => e = .returned (.tuple #[.int .i64 (S.num p).1.1, .bool (S.num p).1.2]) ∧ R (S.num p).2 W' ∧ KB (fun k => k = ga) W W'
  cM : ∀ x p W, R p W → base ≤ W.heap.size → Calls Tryd.prog fM (#[.int .u8 (x.toNat : Int)] ++ lM) W fun e W' => e = .returned (.bool (S.mrk x p).1) ∧ R (S.mrk x p).2 W' ∧ KB (fun k => k = ga) W W'
/-- What the closure that reads a tree answers. -/
def TreeR (X : Nat → Prop) (gc : Nat) (R : Nat → World → Prop) (r : Option (Tr × Nat × Nat)) (W : World) (e : Ending) (W' : World) : Prop :=
  KB X W W' ∧ ((∃ t p c v, r = some (t, p, c) ∧ e = .returned (.tuple #[v, .bool true]) ∧ InP (New W W') W' t v ∧ R p W' ∧ Boxed W' gc 3 (.int .i64 (c : Int))) ∨ (r = none ∧ e = .returned (.tuple #[tv 0 none 0 0, .bool false])))

theorem Boxed.kp {X : Nat → Prop} {W W' : World} {g : Nat} {t : TypeId} {v : Value} (h : Boxed W g t v) (hk : KB X W W') (hx : ¬ X g) : Boxed W' g t v := (hk.same g h.lt hx).trans h
theorem boxed_set2 {W : World} {gc g : Nat} {t : TypeId} {v : Value} (h : Boxed W gc t v) (hne : gc ≠ g) (u1 u2 : Value) : Boxed ((W.setCell ⟨g, 0, none⟩ u1).setCell ⟨g, 1, none⟩ u2) gc t v :=
  (Below.heap_setCell _ ⟨g, 1, none⟩ _ gc (by show gc ≠ g; exact hne)).trans ((Below.heap_setCell W ⟨g, 0, none⟩ _ gc (by show gc ≠ g; exact hne)).trans h)
theorem R_set2 {base : Nat} {R : Nat → World → Prop} (st : ∀ p W W', R p W → base ≤ W.heap.size → W.heap.size ≤ W'.heap.size → (∀ k, k < base → W'.heap[k]? = W.heap[k]?) → R p W') {p : Nat} {W : World} (h : R p W) (hb : base ≤ W.heap.size) {g : Nat} (hg : base ≤ g) (u1 u2 : Value) : R p ((W.setCell ⟨g, 0, none⟩ u1).setCell ⟨g, 1, none⟩ u2) :=
  st p W _ h hb (by rw [size_set, size_set]; exact Nat.le_refl _) fun k hk => by rw [Below.heap_setCell _ ⟨g, 1, none⟩ _ k (by show k ≠ g; omega), Below.heap_setCell _ ⟨g, 0, none⟩ _ k (by show k ≠ g; omega)]

theorem node_fin {X : Nat → Prop} {base gc p : Nat} {c : Value} {R : Nat → World → Prop} (st : ∀ p W W', R p W → base ≤ W.heap.size → W.heap.size ≤ W'.heap.size → (∀ k, k < base → W'.heap[k]? = W.heap[k]?) → R p W') {W w W3 W4 : World} {bs : List (Nat × Nat × Value)} {rs : List Nat} (h : KS X W bs rs w) (G : Nat) (hg : G ∈ rs)
    {P1 P2 : Nat → Prop} {x y : Tr} {n xn yn : Int} {A1 A2 : Option Addr} {n1 n2 c1 c2 : Nat} (hx : InP P1 w x (tv xn A1 n1 c1)) (hy : InP P2 w y (tv yn A2 n2 c2)) (h1 : ∀ b, P1 b → New W w b) (h2 : ∀ b, P2 b → New W w b)
    (hR : R p w) (hbw : base ≤ w.heap.size) (hbg : base ≤ G) (hC : Boxed w gc 3 c) (hgc : gc ≠ G)
    (e3 : (w.setCell ⟨G, 0, none⟩ (.int .i64 n)).setCell ⟨G, 1, none⟩ (.slice (some ⟨w.heap.size, 0, none⟩) 2 2) = W3)
    (e4 : W3.alloc (.cells #[.int .i64 xn, .slice A1 n1 c1, .int .i64 yn, .slice A2 n2 c2] 24) = W4) :
    (W4.cell? ⟨G, 0, none⟩ = some (.int .i64 n) ∧ W4.cell? ⟨G, 1, none⟩ = some (.slice (some ⟨w.heap.size, 0, none⟩) 2 2)) ∧ KB X W W4 ∧ InP (New W W4) W4 (.node n x y) (tv n (some ⟨w.heap.size, 0, none⟩) 2 2) ∧ R p W4 ∧ Boxed W4 gc 3 c := by
  obtain ⟨hB, hgW, hnX⟩ := h.box G hg
  obtain ⟨u0, u1, ⟨k0, k1⟩, _, _⟩ := hB.facts
  have hs3 : W3.heap.size = w.heap.size := by rw [← e3]; simp
  have hb : Below w.heap.size W3 W4 := by rw [← e4]; exact (Below.refl _ W3).alloc (by omega) _
  have hb' : Below W3.heap.size W3 W4 := by rw [hs3]; exact hb
  have r0 : W3.cell? ⟨G, 0, none⟩ = some (.int .i64 n) := by
    rw [← e3]
    refine (World.cell?_setCell_other _ _ _ _ (fun e => by injection e; omega)).trans ?_
    simp [go_sem, k0]
  have r1 : W3.cell? ⟨G, 1, none⟩ = some (.slice (some ⟨w.heap.size, 0, none⟩) 2 2) := by
    rw [← e3]
    simp [go_sem, k1]
  have hx3 : InP P1 W3 x (tv xn A1 n1 c1) := by rw [← e3]; exact InP.set2 (hB.set _) (InP.set2 hB hx)
  have hy3 : InP P2 W3 y (tv yn A2 n2 c2) := by rw [← e3]; exact InP.set2 (hB.set _) (InP.set2 hB hy)
  have hs4 : W4.heap.size = w.heap.size + 1 := by rw [← e4]; simp [hs3]
  have hnew := heap_alloc_new W3 (.cells #[.int .i64 xn, .slice A1 n1 c1, .int .i64 yn, .slice A2 n2 c2] 24)
  rw [e4, hs3] at hnew
  have hsz := h.kp.size
  have hK3 : KB X W W3 := by rw [← e3]; exact (h.kp.storeNew (p := ⟨G, 0, none⟩) hgW _).storeNew (p := ⟨G, 1, none⟩) hgW _
  refine ⟨⟨(hb'.cell (World.block_lt_of_cell? W3 _ r0)).trans r0, (hb'.cell (World.block_lt_of_cell? W3 _ r1)).trans r1⟩, hK3.trans (KB.below hb' (Nat.le_refl _)), ?_, ?_, ?_⟩
  · refine two_in (P := New W w) hnew ((hx3.more h1).stay hb') ((hy3.more h2).stay hb') (fun b hb => ⟨hb.1, ?_⟩) ⟨hsz, ?_⟩
    · have := hb.2; omega
    · omega
  · refine st p w W4 hR hbw (by omega) (fun k hk => (hb'.block k (by omega)).trans ?_)
    rw [← e3, Below.heap_setCell _ ⟨G, 1, none⟩ _ k (by show k ≠ G; omega), Below.heap_setCell _ ⟨G, 0, none⟩ _ k (by show k ≠ G; omega)]
  · have := boxed_set2 hC hgc (.int .i64 n) (.slice (some ⟨w.heap.size, 0, none⟩) 2 2)
    rw [e3] at this
    exact boxed_below this hb' this.lt

set_option maxRecDepth 100000 in
set_option maxHeartbeats 6400000 in
theorem tree_read {base ga : Nat} {S : Src} {fI fN fM : Nat} {lI lN lM : Array Value} {R : Nat → World → Prop} (hs : SrcW base ga S fI fN fM lI lN lM R)
    (eI : ∀ args w, (callFunc fI args).run Tryd.prog w = .ok (.enter fI args) w) (eN : ∀ args w, (callFunc fN args).run Tryd.prog w = .ok (.enter fN args) w) (eM : ∀ args w, (callFunc fM args).run Tryd.prog w = .ok (.enter fM args) w) (gc gf gt : Nat) (hgc : base ≤ gc) (hgf : base ≤ gf) (hgt : base ≤ gt) (hd1 : gf ≠ gc) (hd2 : gt ≠ gc) :
    ∀ (f p c : Nat) (d s : Int) (W : World), R p W → Boxed W gc 3 (.int .i64 (c : Int)) → W.cell? ⟨gf, 0, none⟩ = some (.func (.func fI) #[] lI) → W.cell? ⟨gf, 1, none⟩ = some (.func (.func fN) #[] lN) → W.cell? ⟨gf, 2, none⟩ = some (.func (.func fM) #[] lM) → W.cell? ⟨gt, 0, none⟩ = some (.func (.func 77) #[] #[.pointer (some ⟨gc, 0, none⟩), .pointer (some ⟨gf, 0, none⟩), .pointer (some ⟨gt, 0, none⟩)]) →
      c ≤ 2047 → 0 ≤ d → d ≤ 33 → d + f = 34 → 0 ≤ s → s ≤ 4611686018427387904 →
      Calls Tryd.prog 77 #[.agg #[.int .i64 d, .int .i64 s], .pointer (some ⟨gc, 0, none⟩), .pointer (some ⟨gf, 0, none⟩), .pointer (some ⟨gt, 0, none⟩)] W (TreeR (fun k => k = ga ∨ k = gc) gc R (rd S f p c d s) W) := by
  intro f
  induction f with
  | zero =>
    intro p c d s W hR hC f0 f1 f2 f3 hc hd hd33 hf h0 h1
    omega
  | succ f ih =>
    intro p c d s W hR hC f0 f1 f2 f3 hc hd hd33 hf h0 h1
    have hgcW := hC.lt
    have cc := hC.cell
    have cf := hC.frozen
    have hbW : base ≤ W.heap.size := by omega
    have hga := hs.lt
    have hX : ∀ k, (k = ga ∨ k = gc) → k < W.heap.size := by rintro k (h | h) <;> omega
    obtain ⟨W1, hW1⟩ : ∃ W1, ((W.setCell ⟨gc, 0, none⟩ (.int .i64 ((c : Int) + 1))).alloc (.cells #[.int .i64 d, .int .i64 s] 58)).alloc (.cells #[.int .i64 0, .slice none 0 0] 24) = W1 := ⟨_, rfl⟩
    have hK0 : KB (fun k => k = ga ∨ k = gc) W (W.setCell ⟨gc, 0, none⟩ (.int .i64 ((c : Int) + 1))) := KB.setCell (X := fun k => k = ga ∨ k = gc) (KB.refl _ W) (p := ⟨gc, 0, none⟩) (.inr rfl) _
    have hS0 := ((KS.begin (fun k => k = ga ∨ k = gc) W).more (bs' := [(gf, 0, .func (.func fI) #[] lI), (gf, 1, .func (.func fN) #[] lN), (gf, 2, .func (.func fM) #[] lM), (gt, 0, .func (.func 77) #[] #[.pointer (some ⟨gc, 0, none⟩), .pointer (some ⟨gf, 0, none⟩), .pointer (some ⟨gt, 0, none⟩)])]) (by
      simp only [List.mem_cons, List.not_mem_nil, or_false, forall_eq_or_imp, forall_eq]
      exact ⟨⟨f0, by omega⟩, ⟨f1, by omega⟩, ⟨f2, by omega⟩, f3, by omega⟩)).next hK0
    have hS1 := (hS0.boxed hX (.int .i64 d) (.int .i64 s) 58).fresh hX (.int .i64 0) (.slice none 0 0) 24
    have hb1 : Boxed W1 gc 3 (.int .i64 ((c + 1 : Nat) : Int)) := by
      rw [← hW1, show ((c + 1 : Nat) : Int) = (c : Int) + 1 by omega]
      exact ((hC.set _).alloc _).alloc _
    have hR1 : R p W1 := hs.st p W W1 hR hbW (by rw [← hW1]; simp; omega) (fun k hk => by
      rw [← hW1, Below.heap_alloc _ _ k (by simp; omega), Below.heap_alloc _ _ k (by simp; omega), Below.heap_setCell W ⟨gc, 0, none⟩ _ k (by show k ≠ gc; omega)])
    simp only [List.nil_append, List.cons_append, World.size_alloc, size_set] at hS1
    rw [hW1] at hS1
    have hsz1 : base ≤ W1.heap.size := by rw [← hW1]; simp; omega
    have HS1 := Lib.hid hS1
    have g0 := hS1.get (g := gf) (i := 0) (v := .func (.func fI) #[] lI) (by simp)
    have g1 := hS1.get (g := gf) (i := 1) (v := .func (.func fN) #[] lN) (by simp)
    have g2 := hS1.get (g := gf) (i := 2) (v := .func (.func fM) #[] lM) (by simp)
    have hcI := hs.cI p W1 hR1 hsz1
    have hrd : rd S (f + 1) p c d s = _ := rd.eq_2 S p c d s f
    obtain ⟨⟨i1, p1⟩, hi⟩ : ∃ x, S.inn p = x := ⟨_, rfl⟩
    simp only [hi] at hrd hcI
    have hcN := fun W => hs.cN p1 W
    obtain ⟨⟨⟨n, ok⟩, p2⟩, hnum⟩ : ∃ x, S.num p1 = x := ⟨_, rfl⟩
    have hpos := hs.pos p1
    simp only [hnum] at hrd hcN hpos
    have HRD := Lib.hid hrd
    have HPOS := Lib.hid hpos
    have HCN := Lib.hid hcN
    have HCM := Lib.hid hs.cM
    have HLE : Hid (∀ (f p c : Nat) (d s : Int) (t : Tr) (p' c' : Nat), rd S f p c d s = some (t, p', c') → 0 ≤ s → s ≤ 4611686018427387904 → c' ≤ 2047) := fun f p c d s t p' c' h h0 h1 => (rd_ok hs.pos f p c d s t p' c' h h0 h1).2.2.2.2
    have HST := Lib.hid hs.st
    have HIH := Lib.hid ih
    have HC1 := Lib.hid hb1
    clear hS0 hK0 f0 f1 f2 f3 hrd hpos hcN hi hnum ih hS1 hb1 hC hR
    have hc2 : (c : Int) + 1 ≤ 2048 := by omega
    go_enter Tryd.func77, Tryd.ntmps77
    go_wp2_with fail
    refine hcI.mono ?_
    rintro e w2 ⟨rfl, hR2, hk2⟩
    have HS2 := Lib.hid (HS1.out.next (hk2.mono fun k h => .inl h))
    have HC2 := Lib.hid (Boxed.kp HC1.out hk2 (by omega))
    have hsz2 : base ≤ w2.heap.size := Nat.le_trans hsz1 hk2.size
    have hcN2 := HCN.out w2 hR2 hsz2
    have g1' := HS2.out.get (g := gf) (i := 1) (v := .func (.func fN) #[] lN) (by simp)
    clear hcI hk2 HS1 HC1 g0 g1 g2 hR1 hR2 HCN cc cf
    go_wp2_with fail
    refine hcN2.mono ?_
    rintro e w3 ⟨rfl, hR3, hk3⟩
    have HS3 := Lib.hid (HS2.out.next (hk3.mono fun k h => .inl h))
    have HC3 := Lib.hid (Boxed.kp HC2.out hk3 (by omega))
    have HR3 := Lib.hid hR3
    have hsz3 : base ≤ w3.heap.size := Nat.le_trans hsz2 hk3.size
    have q0 := HS3.out.get (g := W.heap.size) (i := 0) (v := .int .i64 d) (by simp)
    have q1 := HS3.out.get (g := W.heap.size) (i := 1) (v := .int .i64 s) (by simp)
    clear hcN2 hk3 HS2 HC2 g1' hR3
    cases ok with
    | false =>
      have HN : Hid (rd S (f + 1) p c d s = none) := by show _ = _; rw [HRD.out]; simp
      obtain ⟨u0, u1, ⟨y0, y1⟩, y2, y3⟩ := HS3.out.facts (W.heap.size + 1) (by simp)
      have HFIN : Hid (∀ u1 u2, KB (fun k => k = ga ∨ k = gc) W ((w3.setCell ⟨W.heap.size + 1, 0, none⟩ u1).setCell ⟨W.heap.size + 1, 1, none⟩ u2)) := fun u1 u2 => (HS3.out.fin (P := fun _ => False) (t := .leaf 0) (x := tv 0 none 0 0) (W.heap.size + 1) (by simp) ⟨none, 0, rfl⟩ u1 u2).2
      clear HS3
      go_wp2
      refine bodyPost_ret (v := .tuple #[tv 0 none 0 0, .bool false]) (by simp [results, Tryd.f77, go_sem, tv, y0, y1]) rfl ?_
      exact ⟨HFIN.out _ _, .inr ⟨HN.out, rfl⟩⟩
    | true =>
      have hn0 := HPOS.out rfl
      have hcF := fits_any n d s w3
      obtain ⟨bf, hbf⟩ : ∃ b, fitsB n d s = b := ⟨_, rfl⟩
      rw [hbf] at hcF
      have HBF := Lib.hid hbf
      clear hbf
      go_wp2_with fail
      refine hcF.mono ?_
      rintro e w4 ⟨rfl, hb4⟩
      have HS4 := Lib.hid (HS3.out.next (KB.below hb4 (Nat.le_refl _)))
      have HC4 := Lib.hid (boxed_below HC3.out hb4 HC3.out.lt)
      have HR4 := Lib.hid (HST.out p2 w3 w4 HR3.out hsz3 hb4.size (fun k hk => hb4.block k (by omega)))
      have hsz4 : base ≤ w4.heap.size := Nat.le_trans hsz3 hb4.size
      clear hcF hb4 HS3 HC3 HR3 q0 q1
      cases bf with
      | false =>
        have HN : Hid (rd S (f + 1) p c d s = none) := by show _ = _; rw [HRD.out, HBF.out]; simp
        obtain ⟨u0, u1, ⟨y0, y1⟩, y2, y3⟩ := HS4.out.facts (W.heap.size + 1) (by simp)
        have HFIN : Hid (∀ u1 u2, KB (fun k => k = ga ∨ k = gc) W ((w4.setCell ⟨W.heap.size + 1, 0, none⟩ u1).setCell ⟨W.heap.size + 1, 1, none⟩ u2)) := fun u1 u2 => (HS4.out.fin (P := fun _ => False) (t := .leaf 0) (x := tv 0 none 0 0) (W.heap.size + 1) (by simp) ⟨none, 0, rfl⟩ u1 u2).2
        clear HS4
        go_wp2
        refine bodyPost_ret (v := .tuple #[tv 0 none 0 0, .bool false]) (by simp [results, Tryd.f77, go_sem, tv, y0, y1]) rfl ?_
        exact ⟨HFIN.out _ _, .inr ⟨HN.out, rfl⟩⟩
      | true =>
        have hfit := (fits_iff (n := n) (d := d) h0 h1).1 HBF.out
        have hn1 : n ≤ 4611686018427387904 - s := hfit.2
        have hd32 : d ≤ 32 := hfit.1
        clear hfit
        have k4 := HC4.out.cell
        by_cases hcnt : 2047 < c + 1
        · have hcnt2 : (2047 : Int) < ((c + 1 : Nat) : Int) := by omega
          have HCNT := Lib.hid hcnt
          clear hcnt
          have HN : Hid (rd S (f + 1) p c d s = none) := by show _ = _; rw [HRD.out]; simp [HCNT.out]
          obtain ⟨u0, u1, ⟨y0, y1⟩, y2, y3⟩ := HS4.out.facts (W.heap.size + 1) (by simp)
          have HFIN : Hid (∀ u1 u2, KB (fun k => k = ga ∨ k = gc) W ((w4.setCell ⟨W.heap.size + 1, 0, none⟩ u1).setCell ⟨W.heap.size + 1, 1, none⟩ u2)) := fun u1 u2 => (HS4.out.fin (P := fun _ => False) (t := .leaf 0) (x := tv 0 none 0 0) (W.heap.size + 1) (by simp) ⟨none, 0, rfl⟩ u1 u2).2
          clear HS4
          go_wp2
          refine bodyPost_ret (v := .tuple #[tv 0 none 0 0, .bool false]) (by simp [results, Tryd.f77, go_sem, tv, y0, y1]) rfl ?_
          exact ⟨HFIN.out _ _, .inr ⟨HN.out, rfl⟩⟩
        · have hcnt2 : ¬ (2047 : Int) < ((c + 1 : Nat) : Int) := by omega
          have HRD2 : Hid (rd S (f + 1) p c d s = if i1 = false then some (.leaf n, p2, c + 1) else if (S.mrk 44 p2).1 = false then none else (rd S f (S.mrk 44 p2).2 (c + 1) (d + 1) (s + n)).bind fun x => if (S.mrk 44 x.2.1).1 = false then none else (rd S f (S.mrk 44 x.2.1).2 x.2.2 (d + 1) (s + n)).bind fun y => if (S.mrk 41 y.2.1).1 = false ∨ lowestT x.1 y.1 = false then none else some (.node n x.1 y.1, (S.mrk 41 y.2.1).2, y.2.2)) := by
            show _ = _
            rw [HRD.out, HBF.out, if_neg (by simp; omega)]
          clear HRD HBF
          cases i1 with
          | false =>
            obtain ⟨u0, u1, ⟨y0, y1⟩, y2, y3⟩ := HS4.out.facts (W.heap.size + 1) (by simp)
            have hgcn : gc ≠ W.heap.size + 1 := by omega
            have HF1 : Hid (∀ u1 u2, KB (fun k => k = ga ∨ k = gc) W ((w4.setCell ⟨W.heap.size + 1, 0, none⟩ u1).setCell ⟨W.heap.size + 1, 1, none⟩ u2)) := fun u1 u2 => (HS4.out.fin (P := fun _ => False) (t := .leaf 0) (x := tv 0 none 0 0) (W.heap.size + 1) (by simp) ⟨none, 0, rfl⟩ u1 u2).2
            have hbg : base ≤ W.heap.size + 1 := by omega
            have HF2 : Hid (∀ u1 u2, R p2 ((w4.setCell ⟨W.heap.size + 1, 0, none⟩ u1).setCell ⟨W.heap.size + 1, 1, none⟩ u2)) := fun u1 u2 => R_set2 (base := base) (R := R) HST.out (p := p2) (W := w4) HR4.out hsz4 (g := W.heap.size + 1) hbg u1 u2
            have HF3 : Hid (∀ u1 u2, Boxed ((w4.setCell ⟨W.heap.size + 1, 0, none⟩ u1).setCell ⟨W.heap.size + 1, 1, none⟩ u2) gc 3 (.int .i64 ((c + 1 : Nat) : Int))) := fun u1 u2 => boxed_set2 HC4.out hgcn u1 u2
            clear HS4 HR4 HC4
            go_wp2
            refine bodyPost_ret (v := .tuple #[tv n none 0 0, .bool true]) (by simp [results, Tryd.f77, go_sem, tv, y0, y1]) rfl ?_
            exact ⟨HF1.out _ _, .inl ⟨.leaf n, p2, c + 1, _, by rw [HRD2.out]; rfl, rfl, ⟨none, 0, rfl⟩, HF2.out _ _, HF3.out _ _⟩⟩
          | true =>
            have hcM := HCM.out 44 p2 w4 HR4.out hsz4
            obtain ⟨⟨m1, p3⟩, hm1⟩ : ∃ x, S.mrk 44 p2 = x := ⟨_, rfl⟩
            simp only [hm1] at hcM
            have HRD3 : Hid (rd S (f + 1) p c d s = if m1 = false then none else (rd S f p3 (c + 1) (d + 1) (s + n)).bind fun x => if (S.mrk 44 x.2.1).1 = false then none else (rd S f (S.mrk 44 x.2.1).2 x.2.2 (d + 1) (s + n)).bind fun y => if (S.mrk 41 y.2.1).1 = false ∨ lowestT x.1 y.1 = false then none else some (.node n x.1 y.1, (S.mrk 41 y.2.1).2, y.2.2)) := by show _ = _; rw [HRD2.out, hm1]; rfl
            have hcM' : Calls Tryd.prog fM (#[.int .u8 44] ++ lM) w4 fun e W' => e = .returned (.bool m1) ∧ R p3 W' ∧ KB (fun k => k = ga) w4 W' := hcM
            have g2' := HS4.out.get (g := gf) (i := 2) (v := .func (.func fM) #[] lM) (by simp)
            clear hcM hm1 HRD2
            go_wp2_with fail
            refine hcM'.mono ?_
            rintro e w5 ⟨rfl, hR5, hk5⟩
            have HS5 := Lib.hid (HS4.out.next (hk5.mono fun k h => .inl h))
            have HC5 := Lib.hid (Boxed.kp HC4.out hk5 (by omega))
            have hsz5 : base ≤ w5.heap.size := Nat.le_trans hsz4 hk5.size
            have HR5 := Lib.hid hR5
            clear hcM' hk5 HS4 HC4 HR4 g2' hR5 k4
            cases m1 with
            | false =>
              have HN : Hid (rd S (f + 1) p c d s = none) := by show _ = _; rw [HRD3.out]; simp
              obtain ⟨u0, u1, ⟨y0, y1⟩, y2, y3⟩ := HS5.out.facts (W.heap.size + 1) (by simp)
              have HFIN : Hid (∀ u1 u2, KB (fun k => k = ga ∨ k = gc) W ((w5.setCell ⟨W.heap.size + 1, 0, none⟩ u1).setCell ⟨W.heap.size + 1, 1, none⟩ u2)) := fun u1 u2 => (HS5.out.fin (P := fun _ => False) (t := .leaf 0) (x := tv 0 none 0 0) (W.heap.size + 1) (by simp) ⟨none, 0, rfl⟩ u1 u2).2
              clear HS5
              go_wp2
              refine bodyPost_ret (v := .tuple #[tv 0 none 0 0, .bool false]) (by simp [results, Tryd.f77, go_sem, tv, y0, y1]) rfl ?_
              exact ⟨HFIN.out _ _, .inr ⟨HN.out, rfl⟩⟩
            | true =>
              have q0 := HS5.out.get (g := W.heap.size) (i := 0) (v := .int .i64 d) (by simp)
              have q1 := HS5.out.get (g := W.heap.size) (i := 1) (v := .int .i64 s) (by simp)
              have q3 := HS5.out.get (g := gt) (i := 0) (v := .func (.func 77) #[] #[.pointer (some ⟨gc, 0, none⟩), .pointer (some ⟨gf, 0, none⟩), .pointer (some ⟨gt, 0, none⟩)]) (by simp)
              obtain ⟨W6, hW6⟩ : ∃ W6, w5.alloc (.cells #[.int .i64 (d + 1), .int .i64 (s + n)] 58) = W6 := ⟨_, rfl⟩
              have hb6 : Below w5.heap.size w5 W6 := by rw [← hW6]; exact (Below.refl _ w5).alloc (Nat.le_refl _) _
              have hS6 := HS5.out.boxed hX (.int .i64 (d + 1)) (.int .i64 (s + n)) 58
              rw [hW6] at hS6
              simp only [List.nil_append, List.cons_append] at hS6
              have hR6 : R p3 W6 := HST.out p3 w5 W6 HR5.out hsz5 hb6.size (fun k hk => hb6.block k (by omega))
              have hC6 := boxed_below HC5.out hb6 HC5.out.lt
              have hcT := HIH.out p3 (c + 1) (d + 1) (s + n) W6 hR6 hC6 (hS6.get (by simp)) (hS6.get (by simp)) (hS6.get (by simp)) (hS6.get (by simp)) (by omega) (by omega) (by omega) (by omega) (by omega) (by omega)
              have HS6 := Lib.hid hS6
              have hsz6 : base ≤ W6.heap.size := Nat.le_trans hsz5 hb6.size
              obtain ⟨gb, hgb⟩ : ∃ g, w5.heap.size = g := ⟨_, rfl⟩
              rw [hgb] at HS6
              have t0 := HS6.out.get (g := gb) (i := 0) (v := .int .i64 (d + 1)) (by simp)
              have t1 := HS6.out.get (g := gb) (i := 1) (v := .int .i64 (s + n)) (by simp)
              have t3 := HS6.out.get (g := gt) (i := 0) (v := .func (.func 77) #[] #[.pointer (some ⟨gc, 0, none⟩), .pointer (some ⟨gf, 0, none⟩), .pointer (some ⟨gt, 0, none⟩)]) (by simp)
              clear hS6 hR6 hC6 HS5 HC5 HR5 hb6
              go_wp2_with fail
              refine hcT.mono ?_
              rintro e w7 ⟨hk7, hcase⟩
              have hw6 : W.heap.size ≤ W6.heap.size := HS6.out.kp.size
              have HS7 := Lib.hid (HS6.out.next hk7)
              have hsz7 : base ≤ w7.heap.size := Nat.le_trans hsz6 hk7.size
              clear hcT t0 t1 t3 q0 q1 q3
              rcases hcase with ⟨x, p4, c4, v, hr, rfl, hin, hR7, hC7⟩ | ⟨hr, rfl⟩
              · obtain ⟨A1, n1, c1, rfl⟩ := hin.form
                have HRD4 : Hid (rd S (f + 1) p c d s = if (S.mrk 44 p4).1 = false then none else (rd S f (S.mrk 44 p4).2 c4 (d + 1) (s + n)).bind fun y => if (S.mrk 41 y.2.1).1 = false ∨ lowestT x y.1 = false then none else some (.node n x y.1, (S.mrk 41 y.2.1).2, y.2.2)) := by show _ = _; rw [HRD3.out, hr]; simp
                have hc4 : c4 ≤ 2047 := HLE.out _ _ _ _ _ _ _ _ hr (by omega) (by omega)
                have HIN7 := Lib.hid hin
                clear hr HRD3 hin
                obtain ⟨W8, hW8⟩ : ∃ W8, w7.alloc (.cells #[.int .i64 x.N, .slice A1 n1 c1] 24) = W8 := ⟨_, rfl⟩
                have hb8 : Below w7.heap.size w7 W8 := by rw [← hW8]; exact (Below.refl _ w7).alloc (Nat.le_refl _) _
                have hS8 := HS7.out.boxed hX (.int .i64 x.N) (.slice A1 n1 c1) 24
                rw [hW8] at hS8
                simp only [List.nil_append, List.cons_append] at hS8
                have hsz8 : base ≤ W8.heap.size := Nat.le_trans hsz7 hb8.size
                have HR8 : Hid (R p4 W8) := HST.out p4 w7 W8 hR7 hsz7 hb8.size (fun k hk => hb8.block k (by omega))
                have HC8 := Lib.hid (boxed_below hC7 hb8 hC7.lt)
                have hcM := HCM.out 44 p4 W8 HR8.out hsz8
                obtain ⟨⟨m2, p5⟩, hm2⟩ : ∃ x, S.mrk 44 p4 = x := ⟨_, rfl⟩
                simp only [hm2] at hcM
                rw [hm2] at HRD4
                have hcM' : Calls Tryd.prog fM (#[.int .u8 44] ++ lM) W8 fun e W' => e = .returned (.bool m2) ∧ R p5 W' ∧ KB (fun k => k = ga) W8 W' := hcM
                have g2' := hS8.get (g := gf) (i := 2) (v := .func (.func fM) #[] lM) (by simp)
                have HS8 := Lib.hid hS8
                generalize x.N = xn at *
                have HB8 : Hid (Below w7.heap.size w7 W8) := hb8
                clear hcM hm2 hS8 HS7 hb8
                unfold tv
                go_wp2_with fail
                refine hcM'.mono ?_
                rintro e w9 ⟨rfl, hR9, hk9⟩
                have HS9 := Lib.hid (HS8.out.next (hk9.mono fun k h => .inl h))
                have HC9 := Lib.hid (Boxed.kp HC8.out hk9 (by omega))
                have hsz9 : base ≤ w9.heap.size := Nat.le_trans hsz8 hk9.size
                have HR9 := Lib.hid hR9
                have HK9 : Hid (KB (fun k => k = ga) W8 w9) := hk9
                clear hcM' hk9 HS8 HC8 HR8 g2' hR9
                cases m2 with
                | false =>
                  have HN : Hid (rd S (f + 1) p c d s = none) := by show _ = _; rw [HRD4.out]; simp
                  obtain ⟨u0, u1, ⟨y0, y1⟩, y2, y3⟩ := HS9.out.facts (W.heap.size + 1) (by simp)
                  have HFIN : Hid (∀ u1 u2, KB (fun k => k = ga ∨ k = gc) W ((w9.setCell ⟨W.heap.size + 1, 0, none⟩ u1).setCell ⟨W.heap.size + 1, 1, none⟩ u2)) := fun u1 u2 => (HS9.out.fin (P := fun _ => False) (t := .leaf 0) (x := tv 0 none 0 0) (W.heap.size + 1) (by simp) ⟨none, 0, rfl⟩ u1 u2).2
                  clear HS9
                  go_wp2
                  refine bodyPost_ret (v := .tuple #[tv 0 none 0 0, .bool false]) (by simp [results, Tryd.f77, go_sem, tv, y0, y1]) rfl ?_
                  exact ⟨HFIN.out _ _, .inr ⟨HN.out, rfl⟩⟩
                | true =>
                  have hcT := HIH.out p5 c4 (d + 1) (s + n) w9 HR9.out HC9.out (HS9.out.get (by simp)) (HS9.out.get (by simp)) (HS9.out.get (by simp)) (HS9.out.get (by simp)) (by omega) (by omega) (by omega) (by omega) (by omega) (by omega)
                  have t0 := HS9.out.get (g := gb) (i := 0) (v := .int .i64 (d + 1)) (by simp)
                  have t1 := HS9.out.get (g := gb) (i := 1) (v := .int .i64 (s + n)) (by simp)
                  have t3 := HS9.out.get (g := gt) (i := 0) (v := .func (.func 77) #[] #[.pointer (some ⟨gc, 0, none⟩), .pointer (some ⟨gf, 0, none⟩), .pointer (some ⟨gt, 0, none⟩)]) (by simp)
                  go_wp2_with fail
                  refine hcT.mono ?_
                  rintro e w10 ⟨hk10, hcase⟩
                  have hw9 : W.heap.size ≤ w9.heap.size := HS9.out.kp.size
                  have HS10 := Lib.hid (HS9.out.next hk10)
                  have hsz10 : base ≤ w10.heap.size := Nat.le_trans hsz9 hk10.size
                  have HK10 : Hid (KB (fun k => k = ga ∨ k = gc) w9 w10) := hk10
                  clear hcT t0 t1 t3 hk10 HS9
                  rcases hcase with ⟨y, p6, c6, v, hr, rfl, hin, hR10, hC10⟩ | ⟨hr, rfl⟩
                  · obtain ⟨A2, n2, c2, rfl⟩ := hin.form
                    have HRD5 : Hid (rd S (f + 1) p c d s = if (S.mrk 41 p6).1 = false ∨ lowestT x y = false then none else some (.node n x y, (S.mrk 41 p6).2, c6)) := by show _ = _; rw [HRD4.out]; simp [hr]
                    have HIN10 := Lib.hid hin
                    clear hr HRD4 hin
                    obtain ⟨W11, hW11⟩ : ∃ W11, w10.alloc (.cells #[.int .i64 y.N, .slice A2 n2 c2] 24) = W11 := ⟨_, rfl⟩
                    have hb11 : Below w10.heap.size w10 W11 := by rw [← hW11]; exact (Below.refl _ w10).alloc (Nat.le_refl _) _
                    have hS11 := HS10.out.boxed hX (.int .i64 y.N) (.slice A2 n2 c2) 24
                    rw [hW11] at hS11
                    simp only [List.nil_append, List.cons_append] at hS11
                    have hsz11 : base ≤ W11.heap.size := Nat.le_trans hsz10 hb11.size
                    have HR11 : Hid (R p6 W11) := HST.out p6 w10 W11 hR10 hsz10 hb11.size (fun k hk => hb11.block k (by omega))
                    have HC11 := Lib.hid (boxed_below hC10 hb11 hC10.lt)
                    have HB11 : Hid (Below w10.heap.size w10 W11) := hb11
                    have hcM := HCM.out 41 p6 W11 HR11.out hsz11
                    obtain ⟨⟨m3, p7⟩, hm3⟩ : ∃ x, S.mrk 41 p6 = x := ⟨_, rfl⟩
                    simp only [hm3] at hcM
                    rw [hm3] at HRD5
                    have hcM' : Calls Tryd.prog fM (#[.int .u8 41] ++ lM) W11 fun e W' => e = .returned (.bool m3) ∧ R p7 W' ∧ KB (fun k => k = ga) W11 W' := hcM
                    have g2' := hS11.get (g := gf) (i := 2) (v := .func (.func fM) #[] lM) (by simp)
                    have HS11 := Lib.hid hS11
                    generalize y.N = yn at *
                    clear hcM hm3 hS11 HS10 hb11
                    unfold tv
                    go_wp2_with fail
                    refine hcM'.mono ?_
                    rintro e w12 ⟨rfl, hR12, hk12⟩
                    have HS12 := Lib.hid (HS11.out.next (hk12.mono fun k h => .inl h))
                    have HC12 := Lib.hid (Boxed.kp HC11.out hk12 (by omega))
                    have hsz12 : base ≤ w12.heap.size := Nat.le_trans hsz11 hk12.size
                    have HR12 := Lib.hid hR12
                    have HK12 : Hid (KB (fun k => k = ga) W11 w12) := hk12
                    clear hcM' hk12 HS11 HC11 HR11 g2' hR12
                    cases m3 with
                    | false =>
                      have HN : Hid (rd S (f + 1) p c d s = none) := by show _ = _; rw [HRD5.out]; simp
                      obtain ⟨u0, u1, ⟨y0, y1⟩, y2, y3⟩ := HS12.out.facts (W.heap.size + 1) (by simp)
                      have HFIN : Hid (∀ u1 u2, KB (fun k => k = ga ∨ k = gc) W ((w12.setCell ⟨W.heap.size + 1, 0, none⟩ u1).setCell ⟨W.heap.size + 1, 1, none⟩ u2)) := fun u1 u2 => (HS12.out.fin (P := fun _ => False) (t := .leaf 0) (x := tv 0 none 0 0) (W.heap.size + 1) (by simp) ⟨none, 0, rfl⟩ u1 u2).2
                      clear HS12
                      go_wp2
                      refine bodyPost_ret (v := .tuple #[tv 0 none 0 0, .bool false]) (by simp [results, Tryd.f77, go_sem, tv, y0, y1]) rfl ?_
                      exact ⟨HFIN.out _ _, .inr ⟨HN.out, rfl⟩⟩
                    | true =>
                      have hk1012 : KB (fun k => k = ga ∨ k = gc) w10 w12 := (KB.below HB11.out (Nat.le_refl _)).trans (HK12.out.mono fun k h => .inl h)
                      have hk712 : KB (fun k => k = ga ∨ k = gc) w7 w12 := (((KB.below HB8.out (Nat.le_refl _)).trans (HK9.out.mono fun k h => .inl h)).trans HK10.out).trans hk1012
                      have hx12 : InP (New W6 w7) w12 x (tv xn A1 n1 c1) := HIN7.out.keep fun q v hq hc => hk712.cell (fun h => by have := hq.1; rcases h with h | h <;> omega) hc
                      have hy12 : InP (New w9 w10) w12 y (tv yn A2 n2 c2) := HIN10.out.keep fun q v hq hc => hk1012.cell (fun h => by have := hq.1; rcases h with h | h <;> omega) hc
                      have hlow := lowest_any x y _ _ w12 hx12 hy12
                      have hs7 := hk712.size
                      have hs10 := hk1012.size
                      have HX12 := Lib.hid hx12
                      have HY12 := Lib.hid hy12
                      have z0 := HS12.out.get (g := w7.heap.size) (i := 0) (v := .int .i64 xn) (by simp)
                      have z1 := HS12.out.get (g := w7.heap.size) (i := 1) (v := .slice A1 n1 c1) (by simp)
                      have z2 := HS12.out.get (g := w10.heap.size) (i := 0) (v := .int .i64 yn) (by simp)
                      have z3 := HS12.out.get (g := w10.heap.size) (i := 1) (v := .slice A2 n2 c2) (by simp)
                      obtain ⟨bl, hbl⟩ : ∃ b, lowestT x y = b := ⟨_, rfl⟩
                      rw [hbl] at hlow HRD5
                      clear hx12 hy12 hk712 hk1012 HIN7 HIN10 HK9 HK10 HB8 HB11 HK12 hbl
                      obtain ⟨g7, hg7⟩ : ∃ g, w7.heap.size = g := ⟨_, rfl⟩
                      obtain ⟨g10, hg10⟩ : ∃ g, w10.heap.size = g := ⟨_, rfl⟩
                      rw [hg7] at z0 z1 HS12
                      rw [hg10] at z2 z3 HS12
                      unfold tv at hlow
                      go_wp2_with fail
                      refine hlow.mono ?_
                      rintro e w13 ⟨rfl, hb13⟩
                      have HS13 := Lib.hid (HS12.out.next (KB.below hb13 (Nat.le_refl _)))
                      have HC13 := Lib.hid (boxed_below HC12.out hb13 HC12.out.lt)
                      have HR13 := Lib.hid (HST.out p7 w12 w13 HR12.out hsz12 hb13.size (fun k hk => hb13.block k (by omega)))
                      have hsz13 : base ≤ w13.heap.size := Nat.le_trans hsz12 hb13.size
                      have HX13 := Lib.hid (HX12.out.stay hb13)
                      have HY13 := Lib.hid (HY12.out.stay hb13)
                      have hs13 := hb13.size
                      clear hlow hb13 HS12 HC12 HR12 z0 z1 z2 z3 HX12 HY12
                      cases bl with
                      | false =>
                        have HN : Hid (rd S (f + 1) p c d s = none) := by show _ = _; rw [HRD5.out]; simp
                        obtain ⟨u0, u1, ⟨y0, y1⟩, y2, y3⟩ := HS13.out.facts (W.heap.size + 1) (by simp)
                        have HFIN : Hid (∀ u1 u2, KB (fun k => k = ga ∨ k = gc) W ((w13.setCell ⟨W.heap.size + 1, 0, none⟩ u1).setCell ⟨W.heap.size + 1, 1, none⟩ u2)) := fun u1 u2 => (HS13.out.fin (P := fun _ => False) (t := .leaf 0) (x := tv 0 none 0 0) (W.heap.size + 1) (by simp) ⟨none, 0, rfl⟩ u1 u2).2
                        clear HS13
                        go_wp2
                        refine bodyPost_ret (v := .tuple #[tv 0 none 0 0, .bool false]) (by simp [results, Tryd.f77, go_sem, tv, y0, y1]) rfl ?_
                        exact ⟨HFIN.out _ _, .inr ⟨HN.out, rfl⟩⟩
                      | true =>
                        have HSOME : Hid (rd S (f + 1) p c d s = some (.node n x y, p7, c6)) := by show _ = _; rw [HRD5.out]; simp
                        have z0 := HS13.out.get (g := g7) (i := 0) (v := .int .i64 xn) (by simp)
                        have z1 := HS13.out.get (g := g7) (i := 1) (v := .slice A1 n1 c1) (by simp)
                        have z2 := HS13.out.get (g := g10) (i := 0) (v := .int .i64 yn) (by simp)
                        have z3 := HS13.out.get (g := g10) (i := 1) (v := .slice A2 n2 c2) (by simp)
                        obtain ⟨u0, u1, ⟨y0, y1⟩, y2, y3⟩ := HS13.out.facts (W.heap.size + 1) (by simp)
                        have hszz : W.heap.size + 1 < w13.heap.size := World.block_lt_of_cell? w13 _ y0
                        obtain ⟨W14, hW14⟩ : ∃ W14, (w13.setCell ⟨W.heap.size + 1, 0, none⟩ (.int .i64 n)).setCell ⟨W.heap.size + 1, 1, none⟩ (.slice (some ⟨w13.heap.size, 0, none⟩) 2 2) = W14 := ⟨_, rfl⟩
                        obtain ⟨W15, hW15⟩ : ∃ W15, W14.alloc (.cells #[.int .i64 xn, .slice A1 n1 c1, .int .i64 yn, .slice A2 n2 c2] 24) = W15 := ⟨_, rfl⟩
                        have HFIN := Lib.hid (node_fin (n := n) HST.out HS13.out (W.heap.size + 1) (by simp) HX13.out HY13.out (fun b hb => ⟨by have := hb.1; omega, by have := hb.2; omega⟩) (fun b hb => ⟨by have := hb.1; omega, by have := hb.2; omega⟩) HR13.out hsz13 (by omega) HC13.out (by omega) hW14 hW15)
                        have HW14 := Lib.hid hW14
                        have HW15 := Lib.hid hW15
                        clear HS13 HX13 HY13 HR13 HC13 hW14 hW15
                        go_wp2
                        rw [HW14.out, HW15.out]
                        refine bodyPost_ret (v := .tuple #[tv n (some ⟨w13.heap.size, 0, none⟩) 2 2, .bool true]) (by simp [results, Tryd.f77, go_sem, tv, HFIN.out.1.1, HFIN.out.1.2]) rfl ?_
                        exact ⟨HFIN.out.2.1, .inl ⟨.node n x y, p7, c6, _, HSOME.out, rfl, HFIN.out.2.2.1, HFIN.out.2.2.2.1, HFIN.out.2.2.2.2⟩⟩
                  · have HN : Hid (rd S (f + 1) p c d s = none) := by show _ = _; rw [HRD4.out]; simp [hr]
                    have hS11 := HS10.out.fresh hX (.int .i64 0) (.slice none 0 0) 24
                    obtain ⟨u0, u1, ⟨y0, y1⟩, y2, y3⟩ := hS11.facts (W.heap.size + 1) (by simp)
                    have HFIN : Hid (∀ u1 u2, KB (fun k => k = ga ∨ k = gc) W (((w10.alloc (.cells #[.int .i64 0, .slice none 0 0] 24)).setCell ⟨W.heap.size + 1, 0, none⟩ u1).setCell ⟨W.heap.size + 1, 1, none⟩ u2)) := fun u1 u2 => (hS11.fin (P := fun _ => False) (t := .leaf 0) (x := tv 0 none 0 0) (W.heap.size + 1) (by simp) ⟨none, 0, rfl⟩ u1 u2).2
                    clear hS11 HS10 hr HRD4
                    unfold tv
                    go_wp2
                    refine bodyPost_ret (v := .tuple #[tv 0 none 0 0, .bool false]) (by simp [results, Tryd.f77, go_sem, tv, y0, y1]) rfl ?_
                    exact ⟨HFIN.out _ _, .inr ⟨HN.out, rfl⟩⟩
              · have HN : Hid (rd S (f + 1) p c d s = none) := by show _ = _; rw [HRD3.out, hr]; simp
                have hS8 := HS7.out.fresh hX (.int .i64 0) (.slice none 0 0) 24
                obtain ⟨u0, u1, ⟨y0, y1⟩, y2, y3⟩ := hS8.facts (W.heap.size + 1) (by simp)
                have HFIN : Hid (∀ u1 u2, KB (fun k => k = ga ∨ k = gc) W (((w7.alloc (.cells #[.int .i64 0, .slice none 0 0] 24)).setCell ⟨W.heap.size + 1, 0, none⟩ u1).setCell ⟨W.heap.size + 1, 1, none⟩ u2)) := fun u1 u2 => (hS8.fin (P := fun _ => False) (t := .leaf 0) (x := tv 0 none 0 0) (W.heap.size + 1) (by simp) ⟨none, 0, rfl⟩ u1 u2).2
                clear hS8 HS7 hr HRD3
                unfold tv
                go_wp2
                refine bodyPost_ret (v := .tuple #[tv 0 none 0 0, .bool false]) (by simp [results, Tryd.f77, go_sem, tv, y0, y1]) rfl ?_
                exact ⟨HFIN.out _ _, .inr ⟨HN.out, rfl⟩⟩
end Go.Proofs.YtflghlmikpfnpaaDoor.E
