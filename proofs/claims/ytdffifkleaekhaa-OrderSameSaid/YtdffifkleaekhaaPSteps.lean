/-
  What a pool is behind a write.
-/
import Derived.Test.YtdffifkleaekhaaPPool
namespace Go.Proofs.Ytdffifkleaekhaa.O
open Go.RowKit Go.Proofs.Ytdffifkleaekhaa.V
set_option linter.unusedVariables false
set_option linter.unusedSimpArgs false

theorem grown_but {w w' : World} {r : Nat} (h : w.grownBy w' (some r)) : But (fun k => k = r) w w' := (But.refl _ w).grown h fun k e => .inl (by injection e with e; exact e.symm)
theorem Pv.Out.to {p p' : Pv} {b : Nat} {w w' : World} {A : Option Addr} (h : p.Out b w A) (hown : ∀ k, p'.own b k → p.own b k ∨ w.heap.size ≤ k) (hs : w.heap.size ≤ w'.heap.size) : p'.Out b w' A := fun k hk => by
  obtain ⟨h1, h2⟩ := h k hk
  refine ⟨Nat.lt_of_lt_of_le h1 hs, fun ho => ?_⟩
  rcases hown k ho with h3 | h3
  · exact h2 h3
  · omega
theorem Pv.Out.apart {p : Pv} {b : Nat} {w : World} {A : Option Addr} (h : p.Out b w A) : Apart (p.own b) A := fun k hk => (h k hk).2
theorem Pv.At.new {p : Pv} {b : Nat} {w w' : World} (h : p.At w b) {A : Option Addr} (hl : Lies A w.heap.size w'.heap.size) : p.Out b w' A := fun k hk => by
  obtain ⟨h1, h2⟩ := hl k hk
  exact ⟨h2, fun ho => by have := (h.own_lt k ho).2; omega⟩
/-- A cell of the pool's own block written. -/
theorem box_but (w : World) (b i : Nat) (v : Value) (p : Pv) : But (p.own b) w (w.setCell ⟨b, i, none⟩ v) := (But.refl _ w).setCell (p := ⟨b, i, none⟩) (.inl (.inl rfl)) v
theorem box_same {w : World} {b i : Nat} (v : Value) {k : Nat} (hk : k ≠ b) : (w.setCell ⟨b, i, none⟩ v).heap[k]? = w.heap[k]? := Below.heap_setCell w ⟨b, i, none⟩ v k hk
theorem Pv.At.ne_b {p : Pv} {w : World} {b : Nat} (h : p.At w b) : (∀ k, blk p.Ad = some k → k ≠ b) ∧ (∀ k, blk p.Aw = some k → k ≠ b) ∧ ∀ k, p.M = some k → k ≠ b :=
  ⟨fun k hk e => h.apart.2.1 (by rw [hk, e]), fun k hk e => h.apart.2.2 (by rw [hk, e]), fun k hk => (h.apart.1 k hk).1⟩
/-- What a pool is in a world where but its own blocks lie as they lay, some of them said anew. -/
theorem Pv.At.again {p p' : Pv} {w w' : World} {b : Nat} (h : p.At w b) (hb : But (p.own b) w w')
    (hown : ∀ k, p'.own b k → p.own b k ∨ w.heap.size ≤ k)
    (box : B4 w' b (.map p'.M) (.slice p'.Ad p'.ds.length p'.cd) (.slice p'.Aw p'.ws.length p'.cw) (.slice p'.Ak p'.K.length p'.ck))
    (gd : GrD w' b p'.Ad p'.cd p'.ds) (gw : GrD w' b p'.Aw p'.cw p'.ws) (ne : ∀ k, blk p'.Ad = some k → blk p'.Aw ≠ some k)
    (k : (p'.Ak = p.Ak ∧ p'.ck = p.ck ∧ p'.K = p.K) ∨ (Vc.ok ⟨p'.Ak, p'.ck, p'.K⟩ w' w'.heap.size ∧ p'.Out b w' p'.Ak ∧ Fresh p'.Ak w.heap.size)) (mp : p'.map w' b)
    (ops : ∀ x ∈ p'.O, x ∈ p.O ∨ (x.ok w' w'.heap.size ∧ (p'.Out b w' x.A ∧ Fresh x.A w.heap.size) ∧ (p'.Out b w' x.A2 ∧ Fresh x.A2 w.heap.size))) : Step p w p' w' b := by
  refine ⟨⟨box, gd, gw, ne, ?_, ?_, mp, fun x hx => ?_⟩, hb, hown, ?_⟩
  · rcases k with ⟨e1, e2, e3⟩ | ⟨h1, _, _⟩
    · rw [e1, e2, e3]; exact hb.vc h.k h.kf.apart
    · exact h1
  · rcases k with ⟨e1, e2, e3⟩ | ⟨_, h1, _⟩
    · rw [e1]; exact h.kf.to hown hb.size
    · exact h1
  · rcases ops x hx with hx | ⟨h1, h2, h3⟩
    · obtain ⟨h1, h2, h3⟩ := h.ops x hx
      exact ⟨hb.ov h1 h2.apart h3.apart, h2.to hown hb.size, h3.to hown hb.size⟩
    · exact ⟨h1, h2.1, h3.1⟩
  · rintro j (hj | hj | ⟨x, hx, hj⟩)
    · rcases hown j hj with hj | hj
      · exact .inl (.inl hj)
      · exact .inr hj
    · rcases k with ⟨e1, e2, e3⟩ | ⟨_, _, h1⟩
      · rw [e1] at hj; exact .inl (.inr (.inl hj))
      · exact .inr (h1 j hj)
    · rcases ops x hx with hx | ⟨h1, h2, h3⟩
      · exact .inl (.inr (.inr ⟨x, hx, hj⟩))
      · rcases hj with hj | hj
        · exact .inr (h2.2 j hj)
        · exact .inr (h3.2 j hj)
theorem own_old {p p' : Pv} {b : Nat} (e1 : p'.M = p.M) (e2 : blk p'.Ad = blk p.Ad) (e3 : blk p'.Aw = blk p.Aw) {B : Nat} : ∀ k, p'.own b k → p.own b k ∨ B ≤ k := by
  rintro k (hk | hk | hk | hk)
  · exact .inl (.inl hk)
  · rw [e1] at hk; exact .inl (.inr (.inl hk))
  · rw [e2] at hk; exact .inl (.inr (.inr (.inl hk)))
  · rw [e3] at hk; exact .inl (.inr (.inr (.inr hk)))
/-- A map made where there was none. -/
theorem Pv.At.made {p : Pv} {w : World} {b : Nat} (h : p.At w b) (hM : p.M = none) :
    Step p w { p with M := some w.heap.size } ((w.alloc (.map #[] 0)).setCell ⟨b, 0, none⟩ (.map (some w.heap.size))) b := by
  have hb := h.own_lt b (.inl rfl)
  have hb1 : Below w.heap.size w (w.alloc (.map #[] 0)) := (Below.refl _ w).alloc (Nat.le_refl _) _
  have h1 := h.up hb1
  have hO : p.O = [] := by have := h.mp; unfold Pv.map at this; rw [hM] at this; exact this
  have hm := MapO.new w
  refine h.again ((But.of hb1).trans (box_but _ b 0 _ p)) ?_ (h1.box.set0 _) (grD_same h1.gd fun k hk => box_same _ (h1.ne_b.1 k hk)) (grD_same h1.gw fun k hk => box_same _ (h1.ne_b.2.1 k hk)) h.ne (.inl ⟨rfl, rfl, rfl⟩) ?_ (fun x hx => .inl hx)
  · rintro k (hk | hk | hk | hk)
    · exact .inl (.inl hk)
    · injection hk with hk; exact .inr (Nat.le_of_eq hk)
    · exact .inl (.inr (.inr (.inl hk)))
    · exact .inl (.inr (.inr (.inr hk)))
  · show _ ∧ _
    refine ⟨by omega, ?_⟩
    rw [hO]
    exact hm.same (box_same _ (by omega))
/-- An operation kept in the map. -/
theorem Pv.At.kept {p : Pv} {w wa wb : World} {b m : Nat} (h : p.At w b) (hM : p.M = some m) (hb : Below w.heap.size w wa) (hg : wa.grownBy wb (some m)) {y : Ov} (hy : y.ok wa wa.heap.size)
    (l1 : Lies y.A w.heap.size wa.heap.size) (l2 : Lies y.A2 w.heap.size wa.heap.size) (hmap : MapO wb m (p.O.length + 1) (y :: p.O)) : Step p w { p with O := y :: p.O } wb b := by
  have h1 := h.up hb
  have hbm := grown_but hg
  have hmm : ∀ k, blk p.Ad = some k → k ≠ m := fun k hk e => (h.apart.1 m hM).2.1 (by rw [hk, e])
  have hmw : ∀ k, blk p.Aw = some k → k ≠ m := fun k hk e => (h.apart.1 m hM).2.2 (by rw [hk, e])
  have hml := (h.own_lt m (.inr (.inl hM)))
  refine h.again ((But.of hb).trans (hbm.mono fun k _ hk => .inr (.inl (by rw [hk]; exact hM)))) (own_old rfl rfl rfl) (hbm.heap (fun e => (h.apart.1 m hM).1 e.symm) h1.box) (grD_same h1.gd fun k hk => hbm.block k (h1.gd.lt k hk).2 (hmm k hk)) (grD_same h1.gw fun k hk => hbm.block k (h1.gw.lt k hk).2 (hmw k hk)) h.ne (.inl ⟨rfl, rfl, rfl⟩) ?_ (fun x hx => ?_)
  · unfold Pv.map
    simp only [hM]
    exact ⟨hml.1, hmap⟩
  · rcases List.mem_cons.1 hx with rfl | hx
    · refine .inr ⟨hbm.ov hy (l1.fresh.apart fun k hk => by omega) (l2.fresh.apart fun k hk => by omega), ⟨fun k hk => ?_, l1.fresh⟩, ⟨fun k hk => ?_, l2.fresh⟩⟩
      · have := l1 k hk
        exact ⟨Nat.lt_of_lt_of_le this.2 hbm.size, fun ho => by have := (h.own_lt k ho).2; omega⟩
      · have := l2 k hk
        exact ⟨Nat.lt_of_lt_of_le this.2 hbm.size, fun ho => by have := (h.own_lt k ho).2; omega⟩
    · exact .inl hx
/-- What is known, said anew. -/
theorem Pv.At.knows {p : Pv} {w wa : World} {b : Nat} (h : p.At w b) (hb : Below w.heap.size w wa) {A : Option Addr} {c : Nat} {K : List D} (hk : Vc.ok ⟨A, c, K⟩ wa wa.heap.size) (hf : Lies A w.heap.size wa.heap.size) :
    Step p w { p with Ak := A, ck := c, K := K } (wa.setCell ⟨b, 3, none⟩ (.slice A K.length c)) b := by
  have h1 := h.up hb
  have hbl := (h.own_lt b (.inl rfl)).2
  have hbb : But (fun k => k = b) wa (wa.setCell ⟨b, 3, none⟩ (.slice A K.length c)) := (But.refl (fun k => k = b) wa).setCell (p := ⟨b, 3, none⟩) (.inl rfl) _
  refine h.again ((But.of hb).trans (box_but _ b 3 _ p)) (own_old rfl rfl rfl) (h1.box.set3 _) (grD_same h1.gd fun k hk => box_same _ (h1.ne_b.1 k hk)) (grD_same h1.gw fun k hk => box_same _ (h1.ne_b.2.1 k hk)) h.ne
    (.inr ⟨hbb.vc hk (hf.fresh.apart fun k hk => by omega), fun k hk => ?_, hf.fresh⟩) (h1.mp.same fun k hk => box_same _ (h1.ne_b.2.2 k hk)) (fun x hx => .inl hx)
  have := hf k hk
  exact ⟨Nat.lt_of_lt_of_le this.2 hbb.size, fun ho => by have := (h.own_lt k ho).2; omega⟩
/-- What was delivered, said anew. -/
theorem Pv.At.gives {p : Pv} {w wa : World} {b : Nat} (h : p.At w b) {A : Option Addr} {c : Nat} {l : List D} (hg : GrD wa b A c l) (hsame : ∀ k, k < w.heap.size → blk p.Ad ≠ some k → wa.heap[k]? = w.heap[k]?) (hs : Below b w wa)
    (hA : blk A = blk p.Ad ∨ ∃ k, blk A = some k ∧ w.heap.size ≤ k) : Step p w { p with Ad := A, cd := c, ds := l } (wa.setCell ⟨b, 1, none⟩ (.slice A l.length c)) b := by
  have hbut : But (fun k => blk p.Ad = some k) w wa := ⟨hs.os, hs.tape, hs.output, hs.size, fun k hk hx => hsame k hk hx⟩
  have hAb : ∀ k, blk A = some k → k ≠ b := fun k hk e => by
    rcases hA with hA | ⟨j, hA, hj⟩
    · rw [hA] at hk; exact h.ne_b.1 k hk e
    · rw [hA] at hk; injection hk with hk; have := (h.own_lt b (.inl rfl)).2; omega
  have hAw : ∀ k, blk A = some k → blk p.Aw ≠ some k := fun k hk e => by
    rcases hA with hA | ⟨j, hA, hj⟩
    · rw [hA] at hk; exact h.ne k hk e
    · rw [hA] at hk; injection hk with hk; have := (h.gw.lt k e).2; omega
  refine h.again ((hbut.mono fun k _ hk => .inr (.inr (.inl hk))).trans (box_but _ b 1 _ p)) ?_ (B4.set1 (hbut.heap (fun e => h.apart.2.1 e) h.box) _) (grD_same hg fun k hk => box_same _ (hAb k hk))
    (grD_same h.gw fun k hk => (box_same _ (h.ne_b.2.1 k hk)).trans (hsame k (h.gw.lt k hk).2 fun e => h.ne k e hk)) hAw (.inl ⟨rfl, rfl, rfl⟩) (h.mp.same fun k hk => (box_same _ (h.ne_b.2.2 k hk)).trans (hsame k (h.own_lt k (.inr (.inl hk))).2 (h.apart.1 k hk).2.1)) (fun x hx => .inl hx)
  rintro k (hk | hk | hk | hk)
  · exact .inl (.inl hk)
  · exact .inl (.inr (.inl hk))
  · simp only at hk
    rcases hA with hA | ⟨j, hA, hj⟩
    · rw [hA] at hk; exact .inl (.inr (.inr (.inl hk)))
    · rw [hA] at hk; injection hk with hk; exact .inr (by omega)
  · exact .inl (.inr (.inr (.inr hk)))
/-- What waits, said anew. -/
theorem Pv.At.waits {p : Pv} {w wa : World} {b : Nat} (h : p.At w b) {A : Option Addr} {c : Nat} {l : List D} (hg : GrD wa b A c l) (hsame : ∀ k, k < w.heap.size → blk p.Aw ≠ some k → wa.heap[k]? = w.heap[k]?) (hs : Below b w wa)
    (hA : blk A = blk p.Aw ∨ ∃ k, blk A = some k ∧ w.heap.size ≤ k) : Step p w { p with Aw := A, cw := c, ws := l } (wa.setCell ⟨b, 2, none⟩ (.slice A l.length c)) b := by
  have hbut : But (fun k => blk p.Aw = some k) w wa := ⟨hs.os, hs.tape, hs.output, hs.size, fun k hk hx => hsame k hk hx⟩
  have hAb : ∀ k, blk A = some k → k ≠ b := fun k hk e => by
    rcases hA with hA | ⟨j, hA, hj⟩
    · rw [hA] at hk; exact h.ne_b.2.1 k hk e
    · rw [hA] at hk; injection hk with hk; have := (h.own_lt b (.inl rfl)).2; omega
  have hAd : ∀ k, blk p.Ad = some k → blk A ≠ some k := fun k e hk => by
    rcases hA with hA | ⟨j, hA, hj⟩
    · rw [hA] at hk; exact h.ne k e hk
    · rw [hA] at hk; injection hk with hk; have := (h.gd.lt k e).2; omega
  refine h.again ((hbut.mono fun k _ hk => .inr (.inr (.inr hk))).trans (box_but _ b 2 _ p)) ?_ (B4.set2 (hbut.heap (fun e => h.apart.2.2 e) h.box) _) (grD_same h.gd fun k hk => (box_same _ (h.ne_b.1 k hk)).trans (hsame k (h.gd.lt k hk).2 fun e => h.ne k hk e)) (grD_same hg fun k hk => box_same _ (hAb k hk))
    hAd (.inl ⟨rfl, rfl, rfl⟩) (h.mp.same fun k hk => (box_same _ (h.ne_b.2.2 k hk)).trans (hsame k (h.own_lt k (.inr (.inl hk))).2 (h.apart.1 k hk).2.2)) (fun x hx => .inl hx)
  rintro k (hk | hk | hk | hk)
  · exact .inl (.inl hk)
  · exact .inl (.inr (.inl hk))
  · exact .inl (.inr (.inr (.inl hk)))
  · simp only at hk
    rcases hA with hA | ⟨j, hA, hj⟩
    · rw [hA] at hk; exact .inl (.inr (.inr (.inr hk)))
    · rw [hA] at hk; injection hk with hk; exact .inr (by omega)
end Go.Proofs.Ytdffifkleaekhaa.O
