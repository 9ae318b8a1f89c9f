/-
  Stamps: the function that makes fills.
-/
import Derived.Test.YtoaglkjpjolacaaGreatDoorVSFill3
namespace Go.Proofs.YtoaglkjpjolacaaGreatDoor.S
open Go.RowKit
/-- Every block but those of X lies as it lay, and all else of the world too. -/
structure KB (X : Nat → Prop) (W W' : World) : Prop where
  os : W'.os = W.os
  tape : W'.tape = W.tape
  output : W'.output = W.output
  size : W.heap.size ≤ W'.heap.size
  same : ∀ k, k < W.heap.size → ¬ X k → W'.heap[k]? = W.heap[k]?
theorem KB.refl (X : Nat → Prop) (W : World) : KB X W W := ⟨rfl, rfl, rfl, Nat.le_refl _, fun _ _ _ => rfl⟩
theorem KB.trans {X : Nat → Prop} {A B C : World} (h : KB X A B) (g : KB X B C) : KB X A C :=
  ⟨g.os.trans h.os, g.tape.trans h.tape, g.output.trans h.output, Nat.le_trans h.size g.size, fun k hk hx => (g.same k (Nat.lt_of_lt_of_le hk h.size) hx).trans (h.same k hk hx)⟩
theorem KB.mono {X Y : Nat → Prop} {A B : World} (h : KB X A B) (hxy : ∀ k, X k → Y k) : KB Y A B := ⟨h.os, h.tape, h.output, h.size, fun k hk hy => h.same k hk fun hx => hy (hxy k hx)⟩
theorem KB.below {X : Nat → Prop} {B : Nat} {W W' : World} (hb : Below B W W') (hB : W.heap.size ≤ B) : KB X W W' := ⟨hb.os, hb.tape, hb.output, hb.size, fun k hk _ => hb.block k (Nat.lt_of_lt_of_le hk hB)⟩
theorem KB.alloc {X : Nat → Prop} {A B : World} (h : KB X A B) (o : Obj) : KB X A (B.alloc o) := h.trans (KB.below ((Below.refl _ B).alloc (Nat.le_refl _) o) (Nat.le_refl _))
theorem KB.put {X : Nat → Prop} {A B : World} (h : KB X A B) {p : Addr} (hp : X p.block ∨ A.heap.size ≤ p.block) (u : Value) : KB X A (B.setCell p u) :=
  have hb := (Below.refl 0 B).setCell (p := p) (Nat.zero_le _) u
  ⟨hb.os.trans h.os, hb.tape.trans h.tape, hb.output.trans h.output, by simpa using h.size, fun k hk hx => (Below.heap_setCell B p u k (fun e => by rcases hp with hp | hp; exact hx (e ▸ hp); omega)).trans (h.same k hk hx)⟩
theorem KB.down {X : Nat → Prop} {W W' : World} {B : Nat} (h : KB X W W') (hB : B ≤ W.heap.size) (hx : ∀ k, k < B → ¬ X k) : Below B W W' := ⟨h.os, h.tape, h.output, h.size, fun k hk => h.same k (Nat.lt_of_lt_of_le hk hB) (hx k hk)⟩
theorem KB.cell {X : Nat → Prop} {W W' : World} (h : KB X W W') {p : Addr} {v : Value} (hx : ¬ X p.block) (hc : W.cell? p = some v) : W'.cell? p = some v := by
  have hl := World.block_lt_of_cell? W p hc
  have := h.same p.block hl hx
  rw [← hc]; unfold World.cell?; rw [this]

/-- A function that fills, whatever becomes of the blocks of X. -/
def FillX (X : Nat → Prop) (w : World) (i : I.Tr) (F : Value) : Prop :=
  ∃ (fn : Nat) (caps : Array Value), F = .func (.func fn) #[] caps ∧ (∀ args w, (callFunc fn args).run Tryz.prog w = .ok (.enter fn args) w) ∧
    ∀ (W : World) (e : E.Tr) (v : Value), KB X w W → ET W e v → E.okT e = true → Calls Tryz.prog fn (#[v] ++ caps) W (TreeI (fillT i e) W)
theorem FillX.now {X : Nat → Prop} {w W : World} {i : I.Tr} {F : Value} (h : FillX X w i F) (hk : KB X w W) : FillC W i F := by
  obtain ⟨fn, caps, e, hr, hc⟩ := h
  exact ⟨fn, caps, e, hr, fun W' t v hb ht ho => hc W' t v (hk.trans (KB.below hb (Nat.le_refl _))) ht ho⟩
theorem enter59 : ∀ (args : Array Value) (w : World), (callFunc 80 args).run Tryz.prog w = .ok (.enter 80 args) w := fun args w => by simp [go_sem]
/-- The closure of a node. -/
theorem fillX_node {l r : I.Tr} {w0 w : World} {B g0 g3 g4 b off c : Nat} {F1 F2 : Value} {W1 W2 : World} {X1 X2 : Nat → Prop}
    (hi : I.InT w0 B (.node l r) (I.tv false (some ⟨b, off, none⟩) 2 c)) (hB : B ≤ w0.heap.size) (hb : Below w0.heap.size w0 w)
    (n0 : w0.heap.size ≤ g0) (n3 : w0.heap.size ≤ g3) (n4 : w0.heap.size ≤ g4)
    (k0 : w.cell? ⟨g0, 0, none⟩ = some (.bool false)) (k1 : w.cell? ⟨g0, 1, none⟩ = some (.slice (some ⟨b, off, none⟩) 2 c))
    (k3 : w.cell? ⟨g3, 0, none⟩ = some F1) (k4 : w.cell? ⟨g4, 0, none⟩ = some F2)
    (h1 : FillX X1 W1 l F1) (q1 : KB X1 W1 w) (x1 : ∀ k, B ≤ k ∧ k < w0.heap.size → X1 k) (h2 : FillX X2 W2 r F2) (q2 : KB X2 W2 w) (x2 : ∀ k, B ≤ k ∧ k < w0.heap.size → X2 k) :
    FillX (fun k => B ≤ k ∧ k < w0.heap.size) w (.node l r) (.func (.func 80) #[] #[.pointer (some ⟨g0, 0, none⟩), .pointer (some ⟨g4, 0, none⟩), .pointer (some ⟨g3, 0, none⟩)]) := by
  refine ⟨80, _, rfl, enter59, fun W e v hk ht ho => ?_⟩
  show Calls Tryz.prog 80 #[v, .pointer (some ⟨g0, 0, none⟩), .pointer (some ⟨g4, 0, none⟩), .pointer (some ⟨g3, 0, none⟩)] W _
  cases e with
  | leaf n =>
    obtain ⟨A, c', rfl⟩ := ht
    rw [fill_leaf]
    exact fill3_leaf W
  | node n x y =>
    obtain ⟨b', off', c', rfl, hb', ⟨oa, Aa, na, ca, e0, e1, ex⟩, ⟨ob, Ab, nb, cb, e2, e3, ey⟩⟩ := ht
    obtain ⟨okx, oky, _, _⟩ := ok_kids ho
    have hB2 : Below B w0 W := (hb.mono hB).trans (hk.down (Nat.le_trans hB hb.size) (fun k h1 h2 => by omega))
    have hi' := hi.below hB2
    obtain ⟨b2, off2, c2, e, hbB, ⟨ol, Al, nl, cl, i2, i3, il⟩, ⟨or', Ar, nr, cr, i4, i5, ir⟩⟩ := hi'
    simp only [I.tv, Value.agg.injEq, Array.mk.injEq, List.cons.injEq, Value.slice.injEq, Option.some.injEq, Addr.mk.injEq, and_true, true_and] at e
    obtain ⟨⟨rfl, rfl⟩, rfl⟩ := e
    have hs : B ≤ W.heap.size := Nat.le_trans hB (Nat.le_trans hb.size hk.size)
    exact fill3_node W (hk.cell (by show ¬ (_ ≤ g0 ∧ g0 < _); omega) k0) (hk.cell (by show ¬ (_ ≤ g0 ∧ g0 < _); omega) k1) i2 i3 i4 i5 (il.more hs) (ir.more hs) (hk.cell (by show ¬ (_ ≤ g3 ∧ g3 < _); omega) k3) (hk.cell (by show ¬ (_ ≤ g4 ∧ g4 < _); omega) k4) (h1.now (q1.trans (hk.mono x1))) (h2.now (q2.trans (hk.mono x2))) e0 e1 e2 e3 ex ey okx oky

/-- What filler answers. -/
def FillA (B : Nat) (i : I.Tr) (w : World) (e : Ending) (w' : World) : Prop := ∃ F, e = .returned F ∧ FillX (fun k => B ≤ k ∧ k < w.heap.size) w' i F ∧ Below w.heap.size w w'
set_option maxRecDepth 100000 in
set_option maxHeartbeats 6400000 in
theorem filler_leaf (o : Bool) (A : Option Addr) (c : Nat) (w : World) (B : Nat) : Calls Tryz.prog 37 #[I.tv o A 0 c] w (FillA B (.leaf o) w) := by
  have hb0 : Below w.heap.size w (w.alloc (.cells #[.bool o, .slice A 0 c] 24)) := (Below.refl _ w).alloc (Nat.le_refl _) _
  have hz := szero_any (.leaf o) (I.tv o A 0 c) (w.alloc (.cells #[.bool o, .slice A 0 c] 24)) (B := 0) ⟨A, c, rfl⟩
  have f0 : (w.alloc (.cells #[.bool o, .slice A 0 c] 24)).cell? ⟨w.heap.size, 0, none⟩ = some (.bool o) := by simp [go_sem]
  have f1 : (w.alloc (.cells #[.bool o, .slice A 0 c] 24)).cell? ⟨w.heap.size, 1, none⟩ = some (.slice A 0 c) := by simp [go_sem]
  have hs0 : w.heap.size < (w.alloc (.cells #[.bool o, .slice A 0 c] 24)).heap.size := by simp
  cases o with
  | false =>
    rw [show zero (.leaf false) = true from rfl] at hz
    unfold I.tv at *
    go_enter Tryz.func37, Tryz.ntmps37
    go_wp2_with fail
    refine hz.mono ?_
    rintro e w1 ⟨rfl, hb1⟩
    have HB : Hid (Below w.heap.size w w1) := hb0.trans (hb1.mono hb0.size)
    clear hb1 hb0 hz f0 f1 hs0
    go_wp2
    go_ret
    exact ⟨_, rfl, ⟨76, #[], rfl, enter55, fun W e v _ ht _ => fill0_any e v W ht⟩, HB.out⟩
  | true =>
    rw [show zero (.leaf true) = false from rfl] at hz
    unfold I.tv at *
    go_enter Tryz.func37, Tryz.ntmps37
    go_wp2_with fail
    refine hz.mono ?_
    rintro e w1 ⟨rfl, hb1⟩
    have HB : Hid (Below w.heap.size w w1) := hb0.trans (hb1.mono hb0.size)
    have g0 := (hb1.cell hs0).trans f0
    have g1 := (hb1.cell hs0).trans f1
    have ho := sone_any (.leaf true) (I.tv true A 0 c) w1 (B := 0) ⟨A, c, rfl⟩
    rw [show one (.leaf true) = true from rfl] at ho
    unfold I.tv at ho
    clear hb1 hb0 hz f0 f1 hs0
    go_wp2_with fail
    refine ho.mono ?_
    rintro e w2 ⟨rfl, hb2⟩
    have HB2 : Hid (Below w.heap.size w w2) := HB.out.trans (hb2.mono HB.out.size)
    clear hb2 ho HB g0 g1
    go_wp2
    go_ret
    exact ⟨_, rfl, ⟨78, #[], rfl, enter57, fun W e v _ ht ho => fillI_any e v W ht ho⟩, HB2.out⟩

set_option maxRecDepth 100000 in
set_option maxHeartbeats 12800000 in
theorem filler_node {l r : I.Tr} (ihl : ∀ (v : Value) (w : World) (B : Nat), I.InT w B l v → B ≤ w.heap.size → Calls Tryz.prog 37 #[v] w (FillA B l w)) (ihr : ∀ (v : Value) (w : World) (B : Nat), I.InT w B r v → B ≤ w.heap.size → Calls Tryz.prog 37 #[v] w (FillA B r w))
    (v : Value) (w : World) (B : Nat) (hi : I.InT w B (.node l r) v) (hB : B ≤ w.heap.size) : Calls Tryz.prog 37 #[v] w (FillA B (.node l r) w) := by
  have hi0 := hi
  obtain ⟨b, off, c, rfl, hbB, ⟨ol, Al, nl, cl, i2, i3, il⟩, ⟨or', Ar, nr, cr, i4, i5, ir⟩⟩ := hi0
  have HX0 := Lib.hid ((SX.begin w).two (.bool false) (.slice (some ⟨b, off, none⟩) 2 c) 24)
  simp only [List.nil_append] at HX0
  have hz := szero_any (.node l r) (I.tv false (some ⟨b, off, none⟩) 2 c) (w.alloc (.cells #[.bool false, .slice (some ⟨b, off, none⟩) 2 c] 24)) (hi.below (HX0.out.bel.mono hB))
  rw [show zero (.node l r) = false from rfl] at hz
  have hs0 : w.heap.size < (w.alloc (.cells #[.bool false, .slice (some ⟨b, off, none⟩) 2 c] 24)).heap.size := by simp
  have lb : b < w.heap.size := by omega
  have HO : Hid (∀ W, Below w.heap.size w W → W.cell? ⟨b, off, none⟩ = some (.bool ol) ∧ W.cell? ⟨b, off + 1, none⟩ = some (.slice Al nl cl) ∧ W.cell? ⟨b, off + 2, none⟩ = some (.bool or') ∧ W.cell? ⟨b, off + 3, none⟩ = some (.slice Ar nr cr)) :=
    fun W hb => ⟨(hb.cell lb).trans i2, (hb.cell lb).trans i3, (hb.cell lb).trans i4, (hb.cell lb).trans i5⟩
  have HI := Lib.hid hi
  have IL := Lib.hid il
  have IR := Lib.hid ir
  have IHL := Lib.hid ihl
  have IHR := Lib.hid ihr
  clear hi i2 i3 i4 i5 il ir ihl ihr
  unfold I.tv at hz ⊢
  go_enter Tryz.func37, Tryz.ntmps37
  go_wp2_with fail
  refine hz.mono ?_
  rintro e w1 ⟨rfl, hb1⟩
  have HX1 := Lib.hid (HX0.out.next hb1)
  have s1 : w.heap.size < w1.heap.size := Nat.lt_of_lt_of_le hs0 hb1.size
  clear hb1 hz HX0 hs0
  have ho := sone_any (.node l r) (I.tv false (some ⟨b, off, none⟩) 2 c) w1 (HI.out.below (HX1.out.bel.mono hB))
  rw [show one (.node l r) = false from rfl] at ho
  unfold I.tv at ho
  have f := HX1.out.at0
  simp only [List.mem_cons, List.not_mem_nil, or_false, forall_eq_or_imp, forall_eq] at f
  obtain ⟨p0, p1⟩ := f
  go_wp2_with fail
  refine ho.mono ?_
  rintro e w2 ⟨rfl, hb2⟩
  have HX2 := Lib.hid (HX1.out.next hb2)
  have s2 : w.heap.size < w2.heap.size := Nat.lt_of_lt_of_le s1 hb2.size
  clear hb2 ho HX1 p0 p1 s1
  go_upto_region 5 with fail
  go_cut [3, 4] (fun s3 s4 wx => ∃ (g3 g4 : Nat) (F1 F2 : Value) (W1 W2 : World) (X1 X2 : Nat → Prop), s3 = .pointer (some ⟨g3, 0, none⟩) ∧ s4 = .pointer (some ⟨g4, 0, none⟩) ∧ w.heap.size ≤ g3 ∧ w.heap.size ≤ g4 ∧ SX w [(w.heap.size, 0, .bool false), (w.heap.size, 1, .slice (some ⟨b, off, none⟩) 2 c), (g3, 0, F1), (g4, 0, F2)] [(w.heap.size, 2)] [] [] wx ∧ FillX X1 W1 l F1 ∧ KB X1 W1 wx ∧ (∀ k, B ≤ k ∧ k < w.heap.size → X1 k) ∧ FillX X2 W2 r F2 ∧ KB X2 W2 wx ∧ (∀ k, B ≤ k ∧ k < w.heap.size → X2 k))
  case first =>
    refine wp_region_held_drew (S := fun W => SX w [(w.heap.size, 0, .bool false), (w.heap.size, 1, .slice (some ⟨b, off, none⟩) 2 c)] [(w.heap.size, 2)] [] [] W) (by kernel_rfl) ((HX2.out.drew).sub0 (by simp) (by simp)) (fun hS => ?_)
    have HXd := Lib.hid (HX2.out.drew)
    have sd : w.heap.size < w2.drew.heap.size := by simpa using s2
    clear HX2
    generalize w2.drew = wd at *
    refine wpAnyH_take (i := 0) (v := ?_) rfl (by kernel_rfl) (by kernel_rfl) (by kernel_rfl) (fun _ _ _ h => h) (Yields.yieldsIf (Or.inl ⟨by kernel_rfl, ?_⟩)) hS ?_
    rotate_left
    · first | (intro w; go_simp; done) | (intro w; go_simp; with_reducible rfl)
    refine wpAnyH_take (i := 1) (v := ?_) rfl (by kernel_rfl) (by kernel_rfl) (by kernel_rfl) (fun _ _ _ h => h) (Or.inl ⟨by kernel_rfl, fun W hW => ?_⟩) hS ?_
    rotate_left
    · obtain ⟨a0, a1, a2, a3⟩ := HO.out W hW.bel
      have f := hW.at0
      simp only [List.mem_cons, List.not_mem_nil, or_false, forall_eq_or_imp, forall_eq] at f
      obtain ⟨p0, p1⟩ := f
      first | (go_simp; done) | (go_simp; with_reducible rfl)
    refine wpAnyH_take (i := 2) (v := ?_) rfl (by kernel_rfl) (by kernel_rfl) (by kernel_rfl) (fun _ _ _ h => h) (Yields.yieldsIf (Or.inl ⟨by kernel_rfl, ?_⟩)) hS ?_
    rotate_left
    · first | (intro w; go_simp; done) | (intro w; go_simp; with_reducible rfl)
    refine wpAnyH_take (i := 3) (v := ?_) rfl (by kernel_rfl) (by kernel_rfl) (by kernel_rfl) (fun _ _ _ h => h) (Or.inl ⟨by kernel_rfl, fun W hW => ?_⟩) hS ?_
    rotate_left
    · obtain ⟨a0, a1, a2, a3⟩ := HO.out W hW.bel
      have f := hW.at0
      simp only [List.mem_cons, List.not_mem_nil, or_false, forall_eq_or_imp, forall_eq] at f
      obtain ⟨p0, p1⟩ := f
      first | (go_simp; done) | (go_simp; with_reducible rfl)
    refine wpAnyH_take (i := 5) (v := ?_) rfl (by kernel_rfl) (by kernel_rfl) (by kernel_rfl) (fun _ _ _ h => h) (Yields.yieldsIf (Or.inl ⟨by kernel_rfl, ?_⟩)) hS ?_
    rotate_left
    · first | (intro w; go_simp; done) | (intro w; go_simp; with_reducible rfl)
    refine wpAnyH_take (i := 6) (v := ?_) rfl (by kernel_rfl) (by kernel_rfl) (by kernel_rfl) (fun _ _ _ h => h) (Or.inl ⟨by kernel_rfl, fun W hW => ?_⟩) hS ?_
    rotate_left
    · obtain ⟨a0, a1, a2, a3⟩ := HO.out W hW.bel
      have f := hW.at0
      simp only [List.mem_cons, List.not_mem_nil, or_false, forall_eq_or_imp, forall_eq] at f
      obtain ⟨p0, p1⟩ := f
      first | (go_simp; done) | (go_simp; with_reducible rfl)
    refine wpAnyH_take (i := 7) (v := ?_) rfl (by kernel_rfl) (by kernel_rfl) (by kernel_rfl) (fun _ _ _ h => h) (Yields.yieldsIf (Or.inl ⟨by kernel_rfl, ?_⟩)) hS ?_
    rotate_left
    · first | (intro w; go_simp; done) | (intro w; go_simp; with_reducible rfl)
    refine wpAnyH_take (i := 8) (v := ?_) rfl (by kernel_rfl) (by kernel_rfl) (by kernel_rfl) (fun _ _ _ h => h) (Or.inl ⟨by kernel_rfl, fun W hW => ?_⟩) hS ?_
    rotate_left
    · obtain ⟨a0, a1, a2, a3⟩ := HO.out W hW.bel
      have f := hW.at0
      simp only [List.mem_cons, List.not_mem_nil, or_false, forall_eq_or_imp, forall_eq] at f
      obtain ⟨p0, p1⟩ := f
      first | (go_simp; done) | (go_simp; with_reducible rfl)
    refine wpAnyH_ready (rs := [4, 10, 11]) (by kernel_rfl) (by simp) ?_
    refine AllReadyH.cons rfl (fun K hK => ?_) (AllReadyH.cons rfl (fun K hK => ?_) (AllReadyH.cons rfl (fun K hK => ?_) AllReadyH.nil))
    · have hcall := IHL.out (I.tv ol Al nl cl) wd B (IL.out.below (HXd.out.bel.mono hB)) (Nat.le_trans hB HXd.out.bel.size)
      unfold I.tv at hcall
      go_simp
      go_wp2_with fail
      refine hcall.mono ?_
      rintro e wdx ⟨F1, rfl, hF1, hbx⟩
      obtain ⟨fn1, caps1, rfl, en1, cal1⟩ := hF1
      have hF1 : FillX (fun k => B ≤ k ∧ k < wd.heap.size) wdx l (.func (.func fn1) #[] caps1) := ⟨fn1, caps1, rfl, en1, cal1⟩
      clear en1 cal1
      have HXdx := Lib.hid (HXd.out.next hbx)
      have H1 := Lib.hid hF1
      have KK1 := Lib.hid (KB.refl (fun k => B ≤ k ∧ k < wd.heap.size) wdx)
      have szwdx : wd.heap.size ≤ wdx.heap.size := hbx.size
      clear hcall hF1 hbx HXd
      refine hK.out _ _ (HXdx.out.sub0 (by simp) (by simp)) (fun hS => ?_)
      clear hK K
      refine wpAnyH_ready (rs := [9, 10, 11]) (by kernel_rfl) (by simp) ?_
      refine AllReadyH.cons rfl (fun K hK => ?_) (AllReadyH.cons rfl (fun K hK => ?_) (AllReadyH.cons rfl (fun K hK => ?_) AllReadyH.nil))
      · have hcall := IHR.out (I.tv or' Ar nr cr) wdx B (IR.out.below (HXdx.out.bel.mono hB)) (Nat.le_trans hB HXdx.out.bel.size)
        unfold I.tv at hcall
        go_simp
        go_wp2_with fail
        refine hcall.mono ?_
        rintro e wdxx ⟨F2, rfl, hF2, hbx⟩
        obtain ⟨fn2, caps2, rfl, en2, cal2⟩ := hF2
        have hF2 : FillX (fun k => B ≤ k ∧ k < wdx.heap.size) wdxx r (.func (.func fn2) #[] caps2) := ⟨fn2, caps2, rfl, en2, cal2⟩
        clear en2 cal2
        have HXdxx := Lib.hid (HXdx.out.next hbx)
        have H2 := Lib.hid hF2
        have KK2 := Lib.hid (KB.refl (fun k => B ≤ k ∧ k < wdx.heap.size) wdxx)
        have KK1x := Lib.hid (KK1.out.trans (KB.below hbx (Nat.le_refl _)))
        clear KK1
        have szwdxx : wdx.heap.size ≤ wdxx.heap.size := hbx.size
        clear hcall hF2 hbx HXdx
        refine hK.out _ _ (HXdxx.out.sub0 (by simp) (by simp)) (fun hS => ?_)
        clear hK K
        refine wpAnyH_ready (rs := [10, 11]) (by kernel_rfl) (by simp) ?_
        refine AllReadyH.cons rfl (fun K hK => ?_) (AllReadyH.cons rfl (fun K hK => ?_) AllReadyH.nil)
        · go_simp
          go_wp2
          have HXdxxx' := HXdxx.out.one .nilFunc 54
          have HXdxxx := Lib.hid HXdxxx'
          clear HXdxxx' HXdxx
          simp only [List.nil_append, List.cons_append] at HXdxxx
          have KK1xx := Lib.hid (KK1x.out.alloc (.cells #[.nilFunc] 54))
          clear KK1x
          have KK2x := Lib.hid (KK2.out.alloc (.cells #[.nilFunc] 54))
          clear KK2
          refine hK.out _ _ (HXdxxx.out.sub0 (by simp) (by simp)) (fun hS => ?_)
          clear hK K
          have szwdxxx : wdxx.heap.size < (wdxx.alloc (.cells #[.nilFunc] 54)).heap.size := by simp
          generalize wdxx.alloc (.cells #[.nilFunc] 54) = wdxxx at *
          refine wpAnyH_ready (rs := [11]) (by kernel_rfl) (by simp) ?_
          refine AllReadyH.cons rfl (fun K hK => ?_) AllReadyH.nil
          go_simp
          go_wp2
          have HXdxxxx' := HXdxxx.out.one .nilFunc 54
          have HXdxxxx := Lib.hid HXdxxxx'
          clear HXdxxxx' HXdxxx
          simp only [List.nil_append, List.cons_append] at HXdxxxx
          have KK1xxx := Lib.hid (KK1xx.out.alloc (.cells #[.nilFunc] 54))
          clear KK1xx
          have KK2xx := Lib.hid (KK2x.out.alloc (.cells #[.nilFunc] 54))
          clear KK2x
          refine hK.out _ _ (HXdxxxx.out.sub0 (by simp) (by simp)) (fun hS => ?_)
          clear hK K
          have szwdxxxx : wdxxx.heap.size < (wdxxx.alloc (.cells #[.nilFunc] 54)).heap.size := by simp
          generalize wdxxx.alloc (.cells #[.nilFunc] 54) = wdxxxx at *
          refine wpAnyH_ready (rs := [12]) (by kernel_rfl) (by simp) ?_
          refine AllReadyH.cons rfl (fun K hK => ?_) AllReadyH.nil
          obtain ⟨y0, k0, k2⟩ := HXdxxxx.out.facts1 (wdxx.heap.size) (by simp)
          go_simp
          go_wp2
          have HXdxxxxx := Lib.hid ((HXdxxxx.out.sub0 (bs' := [(w.heap.size, 0, .bool false), (w.heap.size, 1, .slice (some ⟨b, off, none⟩) 2 c), (wdxxx.heap.size, 0, .nilFunc)]) (rs' := [(w.heap.size, 2), (wdxx.heap.size, 1), (wdxxx.heap.size, 1)]) (by simp) (by simp)).set1 (wdxx.heap.size) (.func (.func fn1) #[] caps1) (by simp) (by simp only [List.mem_cons, List.not_mem_nil, or_false, forall_eq_or_imp, forall_eq]; omega) (by simp; omega))
          clear k0 k2 HXdxxxx
          have KK1xxxx := Lib.hid (KK1xxx.out.put (p := ⟨wdxx.heap.size, 0, none⟩) (by show (_ ≤ wdxx.heap.size ∧ wdxx.heap.size < _) ∨ _ ≤ wdxx.heap.size; omega) (.func (.func fn1) #[] caps1))
          clear KK1xxx
          have KK2xxx := Lib.hid (KK2xx.out.put (p := ⟨wdxx.heap.size, 0, none⟩) (by show (_ ≤ wdxx.heap.size ∧ wdxx.heap.size < _) ∨ _ ≤ wdxx.heap.size; omega) (.func (.func fn1) #[] caps1))
          clear KK2xx
          refine hK.out _ _ (HXdxxxxx.out.sub0 (by simp) (by simp)) (fun hS => ?_)
          clear hK K
          generalize wdxxxx.setCell ⟨wdxx.heap.size, 0, none⟩ (.func (.func fn1) #[] caps1) = wdxxxxx at *
          refine wpAnyH_ready (rs := [13]) (by kernel_rfl) (by simp) ?_
          refine AllReadyH.cons rfl (fun K hK => ?_) AllReadyH.nil
          obtain ⟨y0, k0, k2⟩ := HXdxxxxx.out.facts1 (wdxxx.heap.size) (by simp)
          go_simp
          go_wp2
          have HXdxxxxxx := Lib.hid ((HXdxxxxx.out.sub0 (bs' := [(w.heap.size, 0, .bool false), (w.heap.size, 1, .slice (some ⟨b, off, none⟩) 2 c), (wdxx.heap.size, 0, (.func (.func fn1) #[] caps1))]) (rs' := [(w.heap.size, 2), (wdxx.heap.size, 1), (wdxxx.heap.size, 1)]) (by simp) (by simp)).set1 (wdxxx.heap.size) (.func (.func fn2) #[] caps2) (by simp) (by simp only [List.mem_cons, List.not_mem_nil, or_false, forall_eq_or_imp, forall_eq]; omega) (by simp; omega))
          clear k0 k2 HXdxxxxx
          have KK1xxxxx := Lib.hid (KK1xxxx.out.put (p := ⟨wdxxx.heap.size, 0, none⟩) (by show (_ ≤ wdxxx.heap.size ∧ wdxxx.heap.size < _) ∨ _ ≤ wdxxx.heap.size; omega) (.func (.func fn2) #[] caps2))
          clear KK1xxxx
          have KK2xxxx := Lib.hid (KK2xxx.out.put (p := ⟨wdxxx.heap.size, 0, none⟩) (by show (_ ≤ wdxxx.heap.size ∧ wdxxx.heap.size < _) ∨ _ ≤ wdxxx.heap.size; omega) (.func (.func fn2) #[] caps2))
          clear KK2xxx
          refine hK.out _ _ (HXdxxxxxx.out.sub0 (by simp) (by simp)) (fun hS => ?_)
          clear hK K
          generalize wdxxxxx.setCell ⟨wdxxx.heap.size, 0, none⟩ (.func (.func fn2) #[] caps2) = wdxxxxxx at *
          try go_simp
          refine wpAnyH_done (by kernel_rfl) ?_ _
          go_wp2_with fail
          go_meet
          exact ⟨wdxx.heap.size, wdxxx.heap.size, (.func (.func fn1) #[] caps1), (.func (.func fn2) #[] caps2), wdx, wdxx, _, _, rfl, rfl, by omega, by omega, HXdxxxxxx.out.sub0 (by simp) (by simp), H1.out, KK1xxxxx.out, fun k h => ⟨h.1, by omega⟩, H2.out, KK2xxxx.out, fun k h => ⟨h.1, by omega⟩⟩
        · go_simp
          go_wp2
          have HXdxxx' := HXdxx.out.one .nilFunc 54
          have HXdxxx := Lib.hid HXdxxx'
          clear HXdxxx' HXdxx
          simp only [List.nil_append, List.cons_append] at HXdxxx
          have KK1xx := Lib.hid (KK1x.out.alloc (.cells #[.nilFunc] 54))
          clear KK1x
          have KK2x := Lib.hid (KK2.out.alloc (.cells #[.nilFunc] 54))
          clear KK2
          refine hK.out _ _ (HXdxxx.out.sub0 (by simp) (by simp)) (fun hS => ?_)
          clear hK K
          have szwdxxx : wdxx.heap.size < (wdxx.alloc (.cells #[.nilFunc] 54)).heap.size := by simp
          generalize wdxx.alloc (.cells #[.nilFunc] 54) = wdxxx at *
          refine wpAnyH_ready (rs := [10]) (by kernel_rfl) (by simp) ?_
          refine AllReadyH.cons rfl (fun K hK => ?_) AllReadyH.nil
          go_simp
          go_wp2
          have HXdxxxx' := HXdxxx.out.one .nilFunc 54
          have HXdxxxx := Lib.hid HXdxxxx'
          clear HXdxxxx' HXdxxx
          simp only [List.nil_append, List.cons_append] at HXdxxxx
          have KK1xxx := Lib.hid (KK1xx.out.alloc (.cells #[.nilFunc] 54))
          clear KK1xx
          have KK2xx := Lib.hid (KK2x.out.alloc (.cells #[.nilFunc] 54))
          clear KK2x
          refine hK.out _ _ (HXdxxxx.out.sub0 (by simp) (by simp)) (fun hS => ?_)
          clear hK K
          have szwdxxxx : wdxxx.heap.size < (wdxxx.alloc (.cells #[.nilFunc] 54)).heap.size := by simp
          generalize wdxxx.alloc (.cells #[.nilFunc] 54) = wdxxxx at *
          refine wpAnyH_ready (rs := [12]) (by kernel_rfl) (by simp) ?_
          refine AllReadyH.cons rfl (fun K hK => ?_) AllReadyH.nil
          obtain ⟨y0, k0, k2⟩ := HXdxxxx.out.facts1 (wdxxx.heap.size) (by simp)
          go_simp
          go_wp2
          have HXdxxxxx := Lib.hid ((HXdxxxx.out.sub0 (bs' := [(w.heap.size, 0, .bool false), (w.heap.size, 1, .slice (some ⟨b, off, none⟩) 2 c), (wdxx.heap.size, 0, .nilFunc)]) (rs' := [(w.heap.size, 2), (wdxx.heap.size, 1), (wdxxx.heap.size, 1)]) (by simp) (by simp)).set1 (wdxxx.heap.size) (.func (.func fn1) #[] caps1) (by simp) (by simp only [List.mem_cons, List.not_mem_nil, or_false, forall_eq_or_imp, forall_eq]; omega) (by simp; omega))
          clear k0 k2 HXdxxxx
          have KK1xxxx := Lib.hid (KK1xxx.out.put (p := ⟨wdxxx.heap.size, 0, none⟩) (by show (_ ≤ wdxxx.heap.size ∧ wdxxx.heap.size < _) ∨ _ ≤ wdxxx.heap.size; omega) (.func (.func fn1) #[] caps1))
          clear KK1xxx
          have KK2xxx := Lib.hid (KK2xx.out.put (p := ⟨wdxxx.heap.size, 0, none⟩) (by show (_ ≤ wdxxx.heap.size ∧ wdxxx.heap.size < _) ∨ _ ≤ wdxxx.heap.size; omega) (.func (.func fn1) #[] caps1))
          clear KK2xx
          refine hK.out _ _ (HXdxxxxx.out.sub0 (by simp) (by simp)) (fun hS => ?_)
          clear hK K
          generalize wdxxxx.setCell ⟨wdxxx.heap.size, 0, none⟩ (.func (.func fn1) #[] caps1) = wdxxxxx at *
          refine wpAnyH_ready (rs := [13]) (by kernel_rfl) (by simp) ?_
          refine AllReadyH.cons rfl (fun K hK => ?_) AllReadyH.nil
          obtain ⟨y0, k0, k2⟩ := HXdxxxxx.out.facts1 (wdxx.heap.size) (by simp)
          go_simp
          go_wp2
          have HXdxxxxxx := Lib.hid ((HXdxxxxx.out.sub0 (bs' := [(w.heap.size, 0, .bool false), (w.heap.size, 1, .slice (some ⟨b, off, none⟩) 2 c), (wdxxx.heap.size, 0, (.func (.func fn1) #[] caps1))]) (rs' := [(w.heap.size, 2), (wdxx.heap.size, 1), (wdxxx.heap.size, 1)]) (by simp) (by simp)).set1 (wdxx.heap.size) (.func (.func fn2) #[] caps2) (by simp) (by simp only [List.mem_cons, List.not_mem_nil, or_false, forall_eq_or_imp, forall_eq]; omega) (by simp; omega))
          clear k0 k2 HXdxxxxx
          have KK1xxxxx := Lib.hid (KK1xxxx.out.put (p := ⟨wdxx.heap.size, 0, none⟩) (by show (_ ≤ wdxx.heap.size ∧ wdxx.heap.size < _) ∨ _ ≤ wdxx.heap.size; omega) (.func (.func fn2) #[] caps2))
          clear KK1xxxx
          have KK2xxxx := Lib.hid (KK2xxx.out.put (p := ⟨wdxx.heap.size, 0, none⟩) (by show (_ ≤ wdxx.heap.size ∧ wdxx.heap.size < _) ∨ _ ≤ wdxx.heap.size; omega) (.func (.func fn2) #[] caps2))
          clear KK2xxx
          refine hK.out _ _ (HXdxxxxxx.out.sub0 (by simp) (by simp)) (fun hS => ?_)
          clear hK K
          generalize wdxxxxx.setCell ⟨wdxx.heap.size, 0, none⟩ (.func (.func fn2) #[] caps2) = wdxxxxxx at *
          try go_simp
          refine wpAnyH_done (by kernel_rfl) ?_ _
          go_wp2_with fail
          go_meet
          exact ⟨wdxxx.heap.size, wdxx.heap.size, (.func (.func fn1) #[] caps1), (.func (.func fn2) #[] caps2), wdx, wdxx, _, _, rfl, rfl, by omega, by omega, HXdxxxxxx.out.sub0 (by simp) (by simp), H1.out, KK1xxxxx.out, fun k h => ⟨h.1, by omega⟩, H2.out, KK2xxxx.out, fun k h => ⟨h.1, by omega⟩⟩
      · go_simp
        go_wp2
        have HXdxx' := HXdx.out.one .nilFunc 54
        have HXdxx := Lib.hid HXdxx'
        clear HXdxx' HXdx
        simp only [List.nil_append, List.cons_append] at HXdxx
        have KK1x := Lib.hid (KK1.out.alloc (.cells #[.nilFunc] 54))
        clear KK1
        refine hK.out _ _ (HXdxx.out.sub0 (by simp) (by simp)) (fun hS => ?_)
        clear hK K
        have szwdxx : wdx.heap.size < (wdx.alloc (.cells #[.nilFunc] 54)).heap.size := by simp
        generalize wdx.alloc (.cells #[.nilFunc] 54) = wdxx at *
        refine wpAnyH_ready (rs := [9, 11]) (by kernel_rfl) (by simp) ?_
        refine AllReadyH.cons rfl (fun K hK => ?_) (AllReadyH.cons rfl (fun K hK => ?_) AllReadyH.nil)
        · have hcall := IHR.out (I.tv or' Ar nr cr) wdxx B (IR.out.below (HXdxx.out.bel.mono hB)) (Nat.le_trans hB HXdxx.out.bel.size)
          unfold I.tv at hcall
          go_simp
          go_wp2_with fail
          refine hcall.mono ?_
          rintro e wdxxx ⟨F2, rfl, hF2, hbx⟩
          obtain ⟨fn2, caps2, rfl, en2, cal2⟩ := hF2
          have hF2 : FillX (fun k => B ≤ k ∧ k < wdxx.heap.size) wdxxx r (.func (.func fn2) #[] caps2) := ⟨fn2, caps2, rfl, en2, cal2⟩
          clear en2 cal2
          have HXdxxx := Lib.hid (HXdxx.out.next hbx)
          have H2 := Lib.hid hF2
          have KK2 := Lib.hid (KB.refl (fun k => B ≤ k ∧ k < wdxx.heap.size) wdxxx)
          have KK1xx := Lib.hid (KK1x.out.trans (KB.below hbx (Nat.le_refl _)))
          clear KK1x
          have szwdxxx : wdxx.heap.size ≤ wdxxx.heap.size := hbx.size
          clear hcall hF2 hbx HXdxx
          refine hK.out _ _ (HXdxxx.out.sub0 (by simp) (by simp)) (fun hS => ?_)
          clear hK K
          refine wpAnyH_ready (rs := [11]) (by kernel_rfl) (by simp) ?_
          refine AllReadyH.cons rfl (fun K hK => ?_) AllReadyH.nil
          go_simp
          go_wp2
          have HXdxxxx' := HXdxxx.out.one .nilFunc 54
          have HXdxxxx := Lib.hid HXdxxxx'
          clear HXdxxxx' HXdxxx
          simp only [List.nil_append, List.cons_append] at HXdxxxx
          have KK1xxx := Lib.hid (KK1xx.out.alloc (.cells #[.nilFunc] 54))
          clear KK1xx
          have KK2x := Lib.hid (KK2.out.alloc (.cells #[.nilFunc] 54))
          clear KK2
          refine hK.out _ _ (HXdxxxx.out.sub0 (by simp) (by simp)) (fun hS => ?_)
          clear hK K
          have szwdxxxx : wdxxx.heap.size < (wdxxx.alloc (.cells #[.nilFunc] 54)).heap.size := by simp
          generalize wdxxx.alloc (.cells #[.nilFunc] 54) = wdxxxx at *
          refine wpAnyH_ready (rs := [12]) (by kernel_rfl) (by simp) ?_
          refine AllReadyH.cons rfl (fun K hK => ?_) AllReadyH.nil
          obtain ⟨y0, k0, k2⟩ := HXdxxxx.out.facts1 (wdx.heap.size) (by simp)
          go_simp
          go_wp2
          have HXdxxxxx := Lib.hid ((HXdxxxx.out.sub0 (bs' := [(w.heap.size, 0, .bool false), (w.heap.size, 1, .slice (some ⟨b, off, none⟩) 2 c), (wdxxx.heap.size, 0, .nilFunc)]) (rs' := [(w.heap.size, 2), (wdx.heap.size, 1), (wdxxx.heap.size, 1)]) (by simp) (by simp)).set1 (wdx.heap.size) (.func (.func fn1) #[] caps1) (by simp) (by simp only [List.mem_cons, List.not_mem_nil, or_false, forall_eq_or_imp, forall_eq]; omega) (by simp; omega))
          clear k0 k2 HXdxxxx
          have KK1xxxx := Lib.hid (KK1xxx.out.put (p := ⟨wdx.heap.size, 0, none⟩) (by show (_ ≤ wdx.heap.size ∧ wdx.heap.size < _) ∨ _ ≤ wdx.heap.size; omega) (.func (.func fn1) #[] caps1))
          clear KK1xxx
          have KK2xx := Lib.hid (KK2x.out.put (p := ⟨wdx.heap.size, 0, none⟩) (by show (_ ≤ wdx.heap.size ∧ wdx.heap.size < _) ∨ _ ≤ wdx.heap.size; omega) (.func (.func fn1) #[] caps1))
          clear KK2x
          refine hK.out _ _ (HXdxxxxx.out.sub0 (by simp) (by simp)) (fun hS => ?_)
          clear hK K
          generalize wdxxxx.setCell ⟨wdx.heap.size, 0, none⟩ (.func (.func fn1) #[] caps1) = wdxxxxx at *
          refine wpAnyH_ready (rs := [13]) (by kernel_rfl) (by simp) ?_
          refine AllReadyH.cons rfl (fun K hK => ?_) AllReadyH.nil
          obtain ⟨y0, k0, k2⟩ := HXdxxxxx.out.facts1 (wdxxx.heap.size) (by simp)
          go_simp
          go_wp2
          have HXdxxxxxx := Lib.hid ((HXdxxxxx.out.sub0 (bs' := [(w.heap.size, 0, .bool false), (w.heap.size, 1, .slice (some ⟨b, off, none⟩) 2 c), (wdx.heap.size, 0, (.func (.func fn1) #[] caps1))]) (rs' := [(w.heap.size, 2), (wdx.heap.size, 1), (wdxxx.heap.size, 1)]) (by simp) (by simp)).set1 (wdxxx.heap.size) (.func (.func fn2) #[] caps2) (by simp) (by simp only [List.mem_cons, List.not_mem_nil, or_false, forall_eq_or_imp, forall_eq]; omega) (by simp; omega))
          clear k0 k2 HXdxxxxx
          have KK1xxxxx := Lib.hid (KK1xxxx.out.put (p := ⟨wdxxx.heap.size, 0, none⟩) (by show (_ ≤ wdxxx.heap.size ∧ wdxxx.heap.size < _) ∨ _ ≤ wdxxx.heap.size; omega) (.func (.func fn2) #[] caps2))
          clear KK1xxxx
          have KK2xxx := Lib.hid (KK2xx.out.put (p := ⟨wdxxx.heap.size, 0, none⟩) (by show (_ ≤ wdxxx.heap.size ∧ wdxxx.heap.size < _) ∨ _ ≤ wdxxx.heap.size; omega) (.func (.func fn2) #[] caps2))
          clear KK2xx
          refine hK.out _ _ (HXdxxxxxx.out.sub0 (by simp) (by simp)) (fun hS => ?_)
          clear hK K
          generalize wdxxxxx.setCell ⟨wdxxx.heap.size, 0, none⟩ (.func (.func fn2) #[] caps2) = wdxxxxxx at *
          try go_simp
          refine wpAnyH_done (by kernel_rfl) ?_ _
          go_wp2_with fail
          go_meet
          exact ⟨wdx.heap.size, wdxxx.heap.size, (.func (.func fn1) #[] caps1), (.func (.func fn2) #[] caps2), wdx, wdxxx, _, _, rfl, rfl, by omega, by omega, HXdxxxxxx.out.sub0 (by simp) (by simp), H1.out, KK1xxxxx.out, fun k h => ⟨h.1, by omega⟩, H2.out, KK2xxx.out, fun k h => ⟨h.1, by omega⟩⟩
        · go_simp
          go_wp2
          have HXdxxx' := HXdxx.out.one .nilFunc 54
          have HXdxxx := Lib.hid HXdxxx'
          clear HXdxxx' HXdxx
          simp only [List.nil_append, List.cons_append] at HXdxxx
          have KK1xx := Lib.hid (KK1x.out.alloc (.cells #[.nilFunc] 54))
          clear KK1x
          refine hK.out _ _ (HXdxxx.out.sub0 (by simp) (by simp)) (fun hS => ?_)
          clear hK K
          have szwdxxx : wdxx.heap.size < (wdxx.alloc (.cells #[.nilFunc] 54)).heap.size := by simp
          generalize wdxx.alloc (.cells #[.nilFunc] 54) = wdxxx at *
          refine wpAnyH_ready (rs := [9]) (by kernel_rfl) (by simp) ?_
          refine AllReadyH.cons rfl (fun K hK => ?_) AllReadyH.nil
          have hcall := IHR.out (I.tv or' Ar nr cr) wdxxx B (IR.out.below (HXdxxx.out.bel.mono hB)) (Nat.le_trans hB HXdxxx.out.bel.size)
          unfold I.tv at hcall
          go_simp
          go_wp2_with fail
          refine hcall.mono ?_
          rintro e wdxxxx ⟨F2, rfl, hF2, hbx⟩
          obtain ⟨fn2, caps2, rfl, en2, cal2⟩ := hF2
          have hF2 : FillX (fun k => B ≤ k ∧ k < wdxxx.heap.size) wdxxxx r (.func (.func fn2) #[] caps2) := ⟨fn2, caps2, rfl, en2, cal2⟩
          clear en2 cal2
          have HXdxxxx := Lib.hid (HXdxxx.out.next hbx)
          have H2 := Lib.hid hF2
          have KK2 := Lib.hid (KB.refl (fun k => B ≤ k ∧ k < wdxxx.heap.size) wdxxxx)
          have KK1xxx := Lib.hid (KK1xx.out.trans (KB.below hbx (Nat.le_refl _)))
          clear KK1xx
          have szwdxxxx : wdxxx.heap.size ≤ wdxxxx.heap.size := hbx.size
          clear hcall hF2 hbx HXdxxx
          refine hK.out _ _ (HXdxxxx.out.sub0 (by simp) (by simp)) (fun hS => ?_)
          clear hK K
          refine wpAnyH_ready (rs := [12]) (by kernel_rfl) (by simp) ?_
          refine AllReadyH.cons rfl (fun K hK => ?_) AllReadyH.nil
          obtain ⟨y0, k0, k2⟩ := HXdxxxx.out.facts1 (wdx.heap.size) (by simp)
          go_simp
          go_wp2
          have HXdxxxxx := Lib.hid ((HXdxxxx.out.sub0 (bs' := [(w.heap.size, 0, .bool false), (w.heap.size, 1, .slice (some ⟨b, off, none⟩) 2 c), (wdxx.heap.size, 0, .nilFunc)]) (rs' := [(w.heap.size, 2), (wdx.heap.size, 1), (wdxx.heap.size, 1)]) (by simp) (by simp)).set1 (wdx.heap.size) (.func (.func fn1) #[] caps1) (by simp) (by simp only [List.mem_cons, List.not_mem_nil, or_false, forall_eq_or_imp, forall_eq]; omega) (by simp; omega))
          clear k0 k2 HXdxxxx
          have KK1xxxx := Lib.hid (KK1xxx.out.put (p := ⟨wdx.heap.size, 0, none⟩) (by show (_ ≤ wdx.heap.size ∧ wdx.heap.size < _) ∨ _ ≤ wdx.heap.size; omega) (.func (.func fn1) #[] caps1))
          clear KK1xxx
          have KK2x := Lib.hid (KK2.out.put (p := ⟨wdx.heap.size, 0, none⟩) (by show (_ ≤ wdx.heap.size ∧ wdx.heap.size < _) ∨ _ ≤ wdx.heap.size; omega) (.func (.func fn1) #[] caps1))
          clear KK2
          refine hK.out _ _ (HXdxxxxx.out.sub0 (by simp) (by simp)) (fun hS => ?_)
          clear hK K
          generalize wdxxxx.setCell ⟨wdx.heap.size, 0, none⟩ (.func (.func fn1) #[] caps1) = wdxxxxx at *
          refine wpAnyH_ready (rs := [13]) (by kernel_rfl) (by simp) ?_
          refine AllReadyH.cons rfl (fun K hK => ?_) AllReadyH.nil
          obtain ⟨y0, k0, k2⟩ := HXdxxxxx.out.facts1 (wdxx.heap.size) (by simp)
          go_simp
          go_wp2
          have HXdxxxxxx := Lib.hid ((HXdxxxxx.out.sub0 (bs' := [(w.heap.size, 0, .bool false), (w.heap.size, 1, .slice (some ⟨b, off, none⟩) 2 c), (wdx.heap.size, 0, (.func (.func fn1) #[] caps1))]) (rs' := [(w.heap.size, 2), (wdx.heap.size, 1), (wdxx.heap.size, 1)]) (by simp) (by simp)).set1 (wdxx.heap.size) (.func (.func fn2) #[] caps2) (by simp) (by simp only [List.mem_cons, List.not_mem_nil, or_false, forall_eq_or_imp, forall_eq]; omega) (by simp; omega))
          clear k0 k2 HXdxxxxx
          have KK1xxxxx := Lib.hid (KK1xxxx.out.put (p := ⟨wdxx.heap.size, 0, none⟩) (by show (_ ≤ wdxx.heap.size ∧ wdxx.heap.size < _) ∨ _ ≤ wdxx.heap.size; omega) (.func (.func fn2) #[] caps2))
          clear KK1xxxx
          have KK2xx := Lib.hid (KK2x.out.put (p := ⟨wdxx.heap.size, 0, none⟩) (by show (_ ≤ wdxx.heap.size ∧ wdxx.heap.size < _) ∨ _ ≤ wdxx.heap.size; omega) (.func (.func fn2) #[] caps2))
          clear KK2x
          refine hK.out _ _ (HXdxxxxxx.out.sub0 (by simp) (by simp)) (fun hS => ?_)
          clear hK K
          generalize wdxxxxx.setCell ⟨wdxx.heap.size, 0, none⟩ (.func (.func fn2) #[] caps2) = wdxxxxxx at *
          try go_simp
          refine wpAnyH_done (by kernel_rfl) ?_ _
          go_wp2_with fail
          go_meet
          exact ⟨wdx.heap.size, wdxx.heap.size, (.func (.func fn1) #[] caps1), (.func (.func fn2) #[] caps2), wdx, wdxxxx, _, _, rfl, rfl, by omega, by omega, HXdxxxxxx.out.sub0 (by simp) (by simp), H1.out, KK1xxxxx.out, fun k h => ⟨h.1, by omega⟩, H2.out, KK2xx.out, fun k h => ⟨h.1, by omega⟩⟩
      · go_simp
        go_wp2
        have HXdxx' := HXdx.out.one .nilFunc 54
        have HXdxx := Lib.hid HXdxx'
        clear HXdxx' HXdx
        simp only [List.nil_append, List.cons_append] at HXdxx
        have KK1x := Lib.hid (KK1.out.alloc (.cells #[.nilFunc] 54))
        clear KK1
        refine hK.out _ _ (HXdxx.out.sub0 (by simp) (by simp)) (fun hS => ?_)
        clear hK K
        have szwdxx : wdx.heap.size < (wdx.alloc (.cells #[.nilFunc] 54)).heap.size := by simp
        generalize wdx.alloc (.cells #[.nilFunc] 54) = wdxx at *
        refine wpAnyH_ready (rs := [9, 10]) (by kernel_rfl) (by simp) ?_
        refine AllReadyH.cons rfl (fun K hK => ?_) (AllReadyH.cons rfl (fun K hK => ?_) AllReadyH.nil)
        · have hcall := IHR.out (I.tv or' Ar nr cr) wdxx B (IR.out.below (HXdxx.out.bel.mono hB)) (Nat.le_trans hB HXdxx.out.bel.size)
          unfold I.tv at hcall
          go_simp
          go_wp2_with fail
          refine hcall.mono ?_
          rintro e wdxxx ⟨F2, rfl, hF2, hbx⟩
          obtain ⟨fn2, caps2, rfl, en2, cal2⟩ := hF2
          have hF2 : FillX (fun k => B ≤ k ∧ k < wdxx.heap.size) wdxxx r (.func (.func fn2) #[] caps2) := ⟨fn2, caps2, rfl, en2, cal2⟩
          clear en2 cal2
          have HXdxxx := Lib.hid (HXdxx.out.next hbx)
          have H2 := Lib.hid hF2
          have KK2 := Lib.hid (KB.refl (fun k => B ≤ k ∧ k < wdxx.heap.size) wdxxx)
          have KK1xx := Lib.hid (KK1x.out.trans (KB.below hbx (Nat.le_refl _)))
          clear KK1x
          have szwdxxx : wdxx.heap.size ≤ wdxxx.heap.size := hbx.size
          clear hcall hF2 hbx HXdxx
          refine hK.out _ _ (HXdxxx.out.sub0 (by simp) (by simp)) (fun hS => ?_)
          clear hK K
          refine wpAnyH_ready (rs := [10]) (by kernel_rfl) (by simp) ?_
          refine AllReadyH.cons rfl (fun K hK => ?_) AllReadyH.nil
          go_simp
          go_wp2
          have HXdxxxx' := HXdxxx.out.one .nilFunc 54
          have HXdxxxx := Lib.hid HXdxxxx'
          clear HXdxxxx' HXdxxx
          simp only [List.nil_append, List.cons_append] at HXdxxxx
          have KK1xxx := Lib.hid (KK1xx.out.alloc (.cells #[.nilFunc] 54))
          clear KK1xx
          have KK2x := Lib.hid (KK2.out.alloc (.cells #[.nilFunc] 54))
          clear KK2
          refine hK.out _ _ (HXdxxxx.out.sub0 (by simp) (by simp)) (fun hS => ?_)
          clear hK K
          have szwdxxxx : wdxxx.heap.size < (wdxxx.alloc (.cells #[.nilFunc] 54)).heap.size := by simp
          generalize wdxxx.alloc (.cells #[.nilFunc] 54) = wdxxxx at *
          refine wpAnyH_ready (rs := [12]) (by kernel_rfl) (by simp) ?_
          refine AllReadyH.cons rfl (fun K hK => ?_) AllReadyH.nil
          obtain ⟨y0, k0, k2⟩ := HXdxxxx.out.facts1 (wdxxx.heap.size) (by simp)
          go_simp
          go_wp2
          have HXdxxxxx := Lib.hid ((HXdxxxx.out.sub0 (bs' := [(w.heap.size, 0, .bool false), (w.heap.size, 1, .slice (some ⟨b, off, none⟩) 2 c), (wdx.heap.size, 0, .nilFunc)]) (rs' := [(w.heap.size, 2), (wdx.heap.size, 1), (wdxxx.heap.size, 1)]) (by simp) (by simp)).set1 (wdxxx.heap.size) (.func (.func fn1) #[] caps1) (by simp) (by simp only [List.mem_cons, List.not_mem_nil, or_false, forall_eq_or_imp, forall_eq]; omega) (by simp; omega))
          clear k0 k2 HXdxxxx
          have KK1xxxx := Lib.hid (KK1xxx.out.put (p := ⟨wdxxx.heap.size, 0, none⟩) (by show (_ ≤ wdxxx.heap.size ∧ wdxxx.heap.size < _) ∨ _ ≤ wdxxx.heap.size; omega) (.func (.func fn1) #[] caps1))
          clear KK1xxx
          have KK2xx := Lib.hid (KK2x.out.put (p := ⟨wdxxx.heap.size, 0, none⟩) (by show (_ ≤ wdxxx.heap.size ∧ wdxxx.heap.size < _) ∨ _ ≤ wdxxx.heap.size; omega) (.func (.func fn1) #[] caps1))
          clear KK2x
          refine hK.out _ _ (HXdxxxxx.out.sub0 (by simp) (by simp)) (fun hS => ?_)
          clear hK K
          generalize wdxxxx.setCell ⟨wdxxx.heap.size, 0, none⟩ (.func (.func fn1) #[] caps1) = wdxxxxx at *
          refine wpAnyH_ready (rs := [13]) (by kernel_rfl) (by simp) ?_
          refine AllReadyH.cons rfl (fun K hK => ?_) AllReadyH.nil
          obtain ⟨y0, k0, k2⟩ := HXdxxxxx.out.facts1 (wdx.heap.size) (by simp)
          go_simp
          go_wp2
          have HXdxxxxxx := Lib.hid ((HXdxxxxx.out.sub0 (bs' := [(w.heap.size, 0, .bool false), (w.heap.size, 1, .slice (some ⟨b, off, none⟩) 2 c), (wdxxx.heap.size, 0, (.func (.func fn1) #[] caps1))]) (rs' := [(w.heap.size, 2), (wdx.heap.size, 1), (wdxxx.heap.size, 1)]) (by simp) (by simp)).set1 (wdx.heap.size) (.func (.func fn2) #[] caps2) (by simp) (by simp only [List.mem_cons, List.not_mem_nil, or_false, forall_eq_or_imp, forall_eq]; omega) (by simp; omega))
          clear k0 k2 HXdxxxxx
          have KK1xxxxx := Lib.hid (KK1xxxx.out.put (p := ⟨wdx.heap.size, 0, none⟩) (by show (_ ≤ wdx.heap.size ∧ wdx.heap.size < _) ∨ _ ≤ wdx.heap.size; omega) (.func (.func fn2) #[] caps2))
          clear KK1xxxx
          have KK2xxx := Lib.hid (KK2xx.out.put (p := ⟨wdx.heap.size, 0, none⟩) (by show (_ ≤ wdx.heap.size ∧ wdx.heap.size < _) ∨ _ ≤ wdx.heap.size; omega) (.func (.func fn2) #[] caps2))
          clear KK2xx
          refine hK.out _ _ (HXdxxxxxx.out.sub0 (by simp) (by simp)) (fun hS => ?_)
          clear hK K
          generalize wdxxxxx.setCell ⟨wdx.heap.size, 0, none⟩ (.func (.func fn2) #[] caps2) = wdxxxxxx at *
          try go_simp
          refine wpAnyH_done (by kernel_rfl) ?_ _
          go_wp2_with fail
          go_meet
          exact ⟨wdxxx.heap.size, wdx.heap.size, (.func (.func fn1) #[] caps1), (.func (.func fn2) #[] caps2), wdx, wdxxx, _, _, rfl, rfl, by omega, by omega, HXdxxxxxx.out.sub0 (by simp) (by simp), H1.out, KK1xxxxx.out, fun k h => ⟨h.1, by omega⟩, H2.out, KK2xxx.out, fun k h => ⟨h.1, by omega⟩⟩
        · go_simp
          go_wp2
          have HXdxxx' := HXdxx.out.one .nilFunc 54
          have HXdxxx := Lib.hid HXdxxx'
          clear HXdxxx' HXdxx
          simp only [List.nil_append, List.cons_append] at HXdxxx
          have KK1xx := Lib.hid (KK1x.out.alloc (.cells #[.nilFunc] 54))
          clear KK1x
          refine hK.out _ _ (HXdxxx.out.sub0 (by simp) (by simp)) (fun hS => ?_)
          clear hK K
          have szwdxxx : wdxx.heap.size < (wdxx.alloc (.cells #[.nilFunc] 54)).heap.size := by simp
          generalize wdxx.alloc (.cells #[.nilFunc] 54) = wdxxx at *
          refine wpAnyH_ready (rs := [9]) (by kernel_rfl) (by simp) ?_
          refine AllReadyH.cons rfl (fun K hK => ?_) AllReadyH.nil
          have hcall := IHR.out (I.tv or' Ar nr cr) wdxxx B (IR.out.below (HXdxxx.out.bel.mono hB)) (Nat.le_trans hB HXdxxx.out.bel.size)
          unfold I.tv at hcall
          go_simp
          go_wp2_with fail
          refine hcall.mono ?_
          rintro e wdxxxx ⟨F2, rfl, hF2, hbx⟩
          obtain ⟨fn2, caps2, rfl, en2, cal2⟩ := hF2
          have hF2 : FillX (fun k => B ≤ k ∧ k < wdxxx.heap.size) wdxxxx r (.func (.func fn2) #[] caps2) := ⟨fn2, caps2, rfl, en2, cal2⟩
          clear en2 cal2
          have HXdxxxx := Lib.hid (HXdxxx.out.next hbx)
          have H2 := Lib.hid hF2
          have KK2 := Lib.hid (KB.refl (fun k => B ≤ k ∧ k < wdxxx.heap.size) wdxxxx)
          have KK1xxx := Lib.hid (KK1xx.out.trans (KB.below hbx (Nat.le_refl _)))
          clear KK1xx
          have szwdxxxx : wdxxx.heap.size ≤ wdxxxx.heap.size := hbx.size
          clear hcall hF2 hbx HXdxxx
          refine hK.out _ _ (HXdxxxx.out.sub0 (by simp) (by simp)) (fun hS => ?_)
          clear hK K
          refine wpAnyH_ready (rs := [12]) (by kernel_rfl) (by simp) ?_
          refine AllReadyH.cons rfl (fun K hK => ?_) AllReadyH.nil
          obtain ⟨y0, k0, k2⟩ := HXdxxxx.out.facts1 (wdxx.heap.size) (by simp)
          go_simp
          go_wp2
          have HXdxxxxx := Lib.hid ((HXdxxxx.out.sub0 (bs' := [(w.heap.size, 0, .bool false), (w.heap.size, 1, .slice (some ⟨b, off, none⟩) 2 c), (wdx.heap.size, 0, .nilFunc)]) (rs' := [(w.heap.size, 2), (wdx.heap.size, 1), (wdxx.heap.size, 1)]) (by simp) (by simp)).set1 (wdxx.heap.size) (.func (.func fn1) #[] caps1) (by simp) (by simp only [List.mem_cons, List.not_mem_nil, or_false, forall_eq_or_imp, forall_eq]; omega) (by simp; omega))
          clear k0 k2 HXdxxxx
          have KK1xxxx := Lib.hid (KK1xxx.out.put (p := ⟨wdxx.heap.size, 0, none⟩) (by show (_ ≤ wdxx.heap.size ∧ wdxx.heap.size < _) ∨ _ ≤ wdxx.heap.size; omega) (.func (.func fn1) #[] caps1))
          clear KK1xxx
          have KK2x := Lib.hid (KK2.out.put (p := ⟨wdxx.heap.size, 0, none⟩) (by show (_ ≤ wdxx.heap.size ∧ wdxx.heap.size < _) ∨ _ ≤ wdxx.heap.size; omega) (.func (.func fn1) #[] caps1))
          clear KK2
          refine hK.out _ _ (HXdxxxxx.out.sub0 (by simp) (by simp)) (fun hS => ?_)
          clear hK K
          generalize wdxxxx.setCell ⟨wdxx.heap.size, 0, none⟩ (.func (.func fn1) #[] caps1) = wdxxxxx at *
          refine wpAnyH_ready (rs := [13]) (by kernel_rfl) (by simp) ?_
          refine AllReadyH.cons rfl (fun K hK => ?_) AllReadyH.nil
          obtain ⟨y0, k0, k2⟩ := HXdxxxxx.out.facts1 (wdx.heap.size) (by simp)
          go_simp
          go_wp2
          have HXdxxxxxx := Lib.hid ((HXdxxxxx.out.sub0 (bs' := [(w.heap.size, 0, .bool false), (w.heap.size, 1, .slice (some ⟨b, off, none⟩) 2 c), (wdxx.heap.size, 0, (.func (.func fn1) #[] caps1))]) (rs' := [(w.heap.size, 2), (wdx.heap.size, 1), (wdxx.heap.size, 1)]) (by simp) (by simp)).set1 (wdx.heap.size) (.func (.func fn2) #[] caps2) (by simp) (by simp only [List.mem_cons, List.not_mem_nil, or_false, forall_eq_or_imp, forall_eq]; omega) (by simp; omega))
          clear k0 k2 HXdxxxxx
          have KK1xxxxx := Lib.hid (KK1xxxx.out.put (p := ⟨wdx.heap.size, 0, none⟩) (by show (_ ≤ wdx.heap.size ∧ wdx.heap.size < _) ∨ _ ≤ wdx.heap.size; omega) (.func (.func fn2) #[] caps2))
          clear KK1xxxx
          have KK2xx := Lib.hid (KK2x.out.put (p := ⟨wdx.heap.size, 0, none⟩) (by show (_ ≤ wdx.heap.size ∧ wdx.heap.size < _) ∨ _ ≤ wdx.heap.size; omega) (.func (.func fn2) #[] caps2))
          clear KK2x
          refine hK.out _ _ (HXdxxxxxx.out.sub0 (by simp) (by simp)) (fun hS => ?_)
          clear hK K
          generalize wdxxxxx.setCell ⟨wdx.heap.size, 0, none⟩ (.func (.func fn2) #[] caps2) = wdxxxxxx at *
          try go_simp
          refine wpAnyH_done (by kernel_rfl) ?_ _
          go_wp2_with fail
          go_meet
          exact ⟨wdxx.heap.size, wdx.heap.size, (.func (.func fn1) #[] caps1), (.func (.func fn2) #[] caps2), wdx, wdxxxx, _, _, rfl, rfl, by omega, by omega, HXdxxxxxx.out.sub0 (by simp) (by simp), H1.out, KK1xxxxx.out, fun k h => ⟨h.1, by omega⟩, H2.out, KK2xx.out, fun k h => ⟨h.1, by omega⟩⟩
    · go_simp
      go_wp2
      have HXdx' := HXd.out.one .nilFunc 54
      have HXdx := Lib.hid HXdx'
      clear HXdx' HXd
      simp only [List.nil_append, List.cons_append] at HXdx
      refine hK.out _ _ (HXdx.out.sub0 (by simp) (by simp)) (fun hS => ?_)
      clear hK K
      have szwdx : wd.heap.size < (wd.alloc (.cells #[.nilFunc] 54)).heap.size := by simp
      generalize wd.alloc (.cells #[.nilFunc] 54) = wdx at *
      refine wpAnyH_ready (rs := [4, 11]) (by kernel_rfl) (by simp) ?_
      refine AllReadyH.cons rfl (fun K hK => ?_) (AllReadyH.cons rfl (fun K hK => ?_) AllReadyH.nil)
      · have hcall := IHL.out (I.tv ol Al nl cl) wdx B (IL.out.below (HXdx.out.bel.mono hB)) (Nat.le_trans hB HXdx.out.bel.size)
        unfold I.tv at hcall
        go_simp
        go_wp2_with fail
        refine hcall.mono ?_
        rintro e wdxx ⟨F1, rfl, hF1, hbx⟩
        obtain ⟨fn1, caps1, rfl, en1, cal1⟩ := hF1
        have hF1 : FillX (fun k => B ≤ k ∧ k < wdx.heap.size) wdxx l (.func (.func fn1) #[] caps1) := ⟨fn1, caps1, rfl, en1, cal1⟩
        clear en1 cal1
        have HXdxx := Lib.hid (HXdx.out.next hbx)
        have H1 := Lib.hid hF1
        have KK1 := Lib.hid (KB.refl (fun k => B ≤ k ∧ k < wdx.heap.size) wdxx)
        have szwdxx : wdx.heap.size ≤ wdxx.heap.size := hbx.size
        clear hcall hF1 hbx HXdx
        refine hK.out _ _ (HXdxx.out.sub0 (by simp) (by simp)) (fun hS => ?_)
        clear hK K
        refine wpAnyH_ready (rs := [9, 11]) (by kernel_rfl) (by simp) ?_
        refine AllReadyH.cons rfl (fun K hK => ?_) (AllReadyH.cons rfl (fun K hK => ?_) AllReadyH.nil)
        · have hcall := IHR.out (I.tv or' Ar nr cr) wdxx B (IR.out.below (HXdxx.out.bel.mono hB)) (Nat.le_trans hB HXdxx.out.bel.size)
          unfold I.tv at hcall
          go_simp
          go_wp2_with fail
          refine hcall.mono ?_
          rintro e wdxxx ⟨F2, rfl, hF2, hbx⟩
          obtain ⟨fn2, caps2, rfl, en2, cal2⟩ := hF2
          have hF2 : FillX (fun k => B ≤ k ∧ k < wdxx.heap.size) wdxxx r (.func (.func fn2) #[] caps2) := ⟨fn2, caps2, rfl, en2, cal2⟩
          clear en2 cal2
          have HXdxxx := Lib.hid (HXdxx.out.next hbx)
          have H2 := Lib.hid hF2
          have KK2 := Lib.hid (KB.refl (fun k => B ≤ k ∧ k < wdxx.heap.size) wdxxx)
          have KK1x := Lib.hid (KK1.out.trans (KB.below hbx (Nat.le_refl _)))
          clear KK1
          have szwdxxx : wdxx.heap.size ≤ wdxxx.heap.size := hbx.size
          clear hcall hF2 hbx HXdxx
          refine hK.out _ _ (HXdxxx.out.sub0 (by simp) (by simp)) (fun hS => ?_)
          clear hK K
          refine wpAnyH_ready (rs := [11]) (by kernel_rfl) (by simp) ?_
          refine AllReadyH.cons rfl (fun K hK => ?_) AllReadyH.nil
          go_simp
          go_wp2
          have HXdxxxx' := HXdxxx.out.one .nilFunc 54
          have HXdxxxx := Lib.hid HXdxxxx'
          clear HXdxxxx' HXdxxx
          simp only [List.nil_append, List.cons_append] at HXdxxxx
          have KK1xx := Lib.hid (KK1x.out.alloc (.cells #[.nilFunc] 54))
          clear KK1x
          have KK2x := Lib.hid (KK2.out.alloc (.cells #[.nilFunc] 54))
          clear KK2
          refine hK.out _ _ (HXdxxxx.out.sub0 (by simp) (by simp)) (fun hS => ?_)
          clear hK K
          have szwdxxxx : wdxxx.heap.size < (wdxxx.alloc (.cells #[.nilFunc] 54)).heap.size := by simp
          generalize wdxxx.alloc (.cells #[.nilFunc] 54) = wdxxxx at *
          refine wpAnyH_ready (rs := [12]) (by kernel_rfl) (by simp) ?_
          refine AllReadyH.cons rfl (fun K hK => ?_) AllReadyH.nil
          obtain ⟨y0, k0, k2⟩ := HXdxxxx.out.facts1 (wd.heap.size) (by simp)
          go_simp
          go_wp2
          have HXdxxxxx := Lib.hid ((HXdxxxx.out.sub0 (bs' := [(w.heap.size, 0, .bool false), (w.heap.size, 1, .slice (some ⟨b, off, none⟩) 2 c), (wdxxx.heap.size, 0, .nilFunc)]) (rs' := [(w.heap.size, 2), (wd.heap.size, 1), (wdxxx.heap.size, 1)]) (by simp) (by simp)).set1 (wd.heap.size) (.func (.func fn1) #[] caps1) (by simp) (by simp only [List.mem_cons, List.not_mem_nil, or_false, forall_eq_or_imp, forall_eq]; omega) (by simp; omega))
          clear k0 k2 HXdxxxx
          have KK1xxx := Lib.hid (KK1xx.out.put (p := ⟨wd.heap.size, 0, none⟩) (by show (_ ≤ wd.heap.size ∧ wd.heap.size < _) ∨ _ ≤ wd.heap.size; omega) (.func (.func fn1) #[] caps1))
          clear KK1xx
          have KK2xx := Lib.hid (KK2x.out.put (p := ⟨wd.heap.size, 0, none⟩) (by show (_ ≤ wd.heap.size ∧ wd.heap.size < _) ∨ _ ≤ wd.heap.size; omega) (.func (.func fn1) #[] caps1))
          clear KK2x
          refine hK.out _ _ (HXdxxxxx.out.sub0 (by simp) (by simp)) (fun hS => ?_)
          clear hK K
          generalize wdxxxx.setCell ⟨wd.heap.size, 0, none⟩ (.func (.func fn1) #[] caps1) = wdxxxxx at *
          refine wpAnyH_ready (rs := [13]) (by kernel_rfl) (by simp) ?_
          refine AllReadyH.cons rfl (fun K hK => ?_) AllReadyH.nil
          obtain ⟨y0, k0, k2⟩ := HXdxxxxx.out.facts1 (wdxxx.heap.size) (by simp)
          go_simp
          go_wp2
          have HXdxxxxxx := Lib.hid ((HXdxxxxx.out.sub0 (bs' := [(w.heap.size, 0, .bool false), (w.heap.size, 1, .slice (some ⟨b, off, none⟩) 2 c), (wd.heap.size, 0, (.func (.func fn1) #[] caps1))]) (rs' := [(w.heap.size, 2), (wd.heap.size, 1), (wdxxx.heap.size, 1)]) (by simp) (by simp)).set1 (wdxxx.heap.size) (.func (.func fn2) #[] caps2) (by simp) (by simp only [List.mem_cons, List.not_mem_nil, or_false, forall_eq_or_imp, forall_eq]; omega) (by simp; omega))
          clear k0 k2 HXdxxxxx
          have KK1xxxx := Lib.hid (KK1xxx.out.put (p := ⟨wdxxx.heap.size, 0, none⟩) (by show (_ ≤ wdxxx.heap.size ∧ wdxxx.heap.size < _) ∨ _ ≤ wdxxx.heap.size; omega) (.func (.func fn2) #[] caps2))
          clear KK1xxx
          have KK2xxx := Lib.hid (KK2xx.out.put (p := ⟨wdxxx.heap.size, 0, none⟩) (by show (_ ≤ wdxxx.heap.size ∧ wdxxx.heap.size < _) ∨ _ ≤ wdxxx.heap.size; omega) (.func (.func fn2) #[] caps2))
          clear KK2xx
          refine hK.out _ _ (HXdxxxxxx.out.sub0 (by simp) (by simp)) (fun hS => ?_)
          clear hK K
          generalize wdxxxxx.setCell ⟨wdxxx.heap.size, 0, none⟩ (.func (.func fn2) #[] caps2) = wdxxxxxx at *
          try go_simp
          refine wpAnyH_done (by kernel_rfl) ?_ _
          go_wp2_with fail
          go_meet
          exact ⟨wd.heap.size, wdxxx.heap.size, (.func (.func fn1) #[] caps1), (.func (.func fn2) #[] caps2), wdxx, wdxxx, _, _, rfl, rfl, by omega, by omega, HXdxxxxxx.out.sub0 (by simp) (by simp), H1.out, KK1xxxx.out, fun k h => ⟨h.1, by omega⟩, H2.out, KK2xxx.out, fun k h => ⟨h.1, by omega⟩⟩
        · go_simp
          go_wp2
          have HXdxxx' := HXdxx.out.one .nilFunc 54
          have HXdxxx := Lib.hid HXdxxx'
          clear HXdxxx' HXdxx
          simp only [List.nil_append, List.cons_append] at HXdxxx
          have KK1x := Lib.hid (KK1.out.alloc (.cells #[.nilFunc] 54))
          clear KK1
          refine hK.out _ _ (HXdxxx.out.sub0 (by simp) (by simp)) (fun hS => ?_)
          clear hK K
          have szwdxxx : wdxx.heap.size < (wdxx.alloc (.cells #[.nilFunc] 54)).heap.size := by simp
          generalize wdxx.alloc (.cells #[.nilFunc] 54) = wdxxx at *
          refine wpAnyH_ready (rs := [9]) (by kernel_rfl) (by simp) ?_
          refine AllReadyH.cons rfl (fun K hK => ?_) AllReadyH.nil
          have hcall := IHR.out (I.tv or' Ar nr cr) wdxxx B (IR.out.below (HXdxxx.out.bel.mono hB)) (Nat.le_trans hB HXdxxx.out.bel.size)
          unfold I.tv at hcall
          go_simp
          go_wp2_with fail
          refine hcall.mono ?_
          rintro e wdxxxx ⟨F2, rfl, hF2, hbx⟩
          obtain ⟨fn2, caps2, rfl, en2, cal2⟩ := hF2
          have hF2 : FillX (fun k => B ≤ k ∧ k < wdxxx.heap.size) wdxxxx r (.func (.func fn2) #[] caps2) := ⟨fn2, caps2, rfl, en2, cal2⟩
          clear en2 cal2
          have HXdxxxx := Lib.hid (HXdxxx.out.next hbx)
          have H2 := Lib.hid hF2
          have KK2 := Lib.hid (KB.refl (fun k => B ≤ k ∧ k < wdxxx.heap.size) wdxxxx)
          have KK1xx := Lib.hid (KK1x.out.trans (KB.below hbx (Nat.le_refl _)))
          clear KK1x
          have szwdxxxx : wdxxx.heap.size ≤ wdxxxx.heap.size := hbx.size
          clear hcall hF2 hbx HXdxxx
          refine hK.out _ _ (HXdxxxx.out.sub0 (by simp) (by simp)) (fun hS => ?_)
          clear hK K
          refine wpAnyH_ready (rs := [12]) (by kernel_rfl) (by simp) ?_
          refine AllReadyH.cons rfl (fun K hK => ?_) AllReadyH.nil
          obtain ⟨y0, k0, k2⟩ := HXdxxxx.out.facts1 (wd.heap.size) (by simp)
          go_simp
          go_wp2
          have HXdxxxxx := Lib.hid ((HXdxxxx.out.sub0 (bs' := [(w.heap.size, 0, .bool false), (w.heap.size, 1, .slice (some ⟨b, off, none⟩) 2 c), (wdxx.heap.size, 0, .nilFunc)]) (rs' := [(w.heap.size, 2), (wd.heap.size, 1), (wdxx.heap.size, 1)]) (by simp) (by simp)).set1 (wd.heap.size) (.func (.func fn1) #[] caps1) (by simp) (by simp only [List.mem_cons, List.not_mem_nil, or_false, forall_eq_or_imp, forall_eq]; omega) (by simp; omega))
          clear k0 k2 HXdxxxx
          have KK1xxx := Lib.hid (KK1xx.out.put (p := ⟨wd.heap.size, 0, none⟩) (by show (_ ≤ wd.heap.size ∧ wd.heap.size < _) ∨ _ ≤ wd.heap.size; omega) (.func (.func fn1) #[] caps1))
          clear KK1xx
          have KK2x := Lib.hid (KK2.out.put (p := ⟨wd.heap.size, 0, none⟩) (by show (_ ≤ wd.heap.size ∧ wd.heap.size < _) ∨ _ ≤ wd.heap.size; omega) (.func (.func fn1) #[] caps1))
          clear KK2
          refine hK.out _ _ (HXdxxxxx.out.sub0 (by simp) (by simp)) (fun hS => ?_)
          clear hK K
          generalize wdxxxx.setCell ⟨wd.heap.size, 0, none⟩ (.func (.func fn1) #[] caps1) = wdxxxxx at *
          refine wpAnyH_ready (rs := [13]) (by kernel_rfl) (by simp) ?_
          refine AllReadyH.cons rfl (fun K hK => ?_) AllReadyH.nil
          obtain ⟨y0, k0, k2⟩ := HXdxxxxx.out.facts1 (wdxx.heap.size) (by simp)
          go_simp
          go_wp2
          have HXdxxxxxx := Lib.hid ((HXdxxxxx.out.sub0 (bs' := [(w.heap.size, 0, .bool false), (w.heap.size, 1, .slice (some ⟨b, off, none⟩) 2 c), (wd.heap.size, 0, (.func (.func fn1) #[] caps1))]) (rs' := [(w.heap.size, 2), (wd.heap.size, 1), (wdxx.heap.size, 1)]) (by simp) (by simp)).set1 (wdxx.heap.size) (.func (.func fn2) #[] caps2) (by simp) (by simp only [List.mem_cons, List.not_mem_nil, or_false, forall_eq_or_imp, forall_eq]; omega) (by simp; omega))
          clear k0 k2 HXdxxxxx
          have KK1xxxx := Lib.hid (KK1xxx.out.put (p := ⟨wdxx.heap.size, 0, none⟩) (by show (_ ≤ wdxx.heap.size ∧ wdxx.heap.size < _) ∨ _ ≤ wdxx.heap.size; omega) (.func (.func fn2) #[] caps2))
          clear KK1xxx
          have KK2xx := Lib.hid (KK2x.out.put (p := ⟨wdxx.heap.size, 0, none⟩) (by show (_ ≤ wdxx.heap.size ∧ wdxx.heap.size < _) ∨ _ ≤ wdxx.heap.size; omega) (.func (.func fn2) #[] caps2))
          clear KK2x
          refine hK.out _ _ (HXdxxxxxx.out.sub0 (by simp) (by simp)) (fun hS => ?_)
          clear hK K
          generalize wdxxxxx.setCell ⟨wdxx.heap.size, 0, none⟩ (.func (.func fn2) #[] caps2) = wdxxxxxx at *
          try go_simp
          refine wpAnyH_done (by kernel_rfl) ?_ _
          go_wp2_with fail
          go_meet
          exact ⟨wd.heap.size, wdxx.heap.size, (.func (.func fn1) #[] caps1), (.func (.func fn2) #[] caps2), wdxx, wdxxxx, _, _, rfl, rfl, by omega, by omega, HXdxxxxxx.out.sub0 (by simp) (by simp), H1.out, KK1xxxx.out, fun k h => ⟨h.1, by omega⟩, H2.out, KK2xx.out, fun k h => ⟨h.1, by omega⟩⟩
      · go_simp
        go_wp2
        have HXdxx' := HXdx.out.one .nilFunc 54
        have HXdxx := Lib.hid HXdxx'
        clear HXdxx' HXdx
        simp only [List.nil_append, List.cons_append] at HXdxx
        refine hK.out _ _ (HXdxx.out.sub0 (by simp) (by simp)) (fun hS => ?_)
        clear hK K
        have szwdxx : wdx.heap.size < (wdx.alloc (.cells #[.nilFunc] 54)).heap.size := by simp
        generalize wdx.alloc (.cells #[.nilFunc] 54) = wdxx at *
        refine wpAnyH_ready (rs := [4]) (by kernel_rfl) (by simp) ?_
        refine AllReadyH.cons rfl (fun K hK => ?_) AllReadyH.nil
        have hcall := IHL.out (I.tv ol Al nl cl) wdxx B (IL.out.below (HXdxx.out.bel.mono hB)) (Nat.le_trans hB HXdxx.out.bel.size)
        unfold I.tv at hcall
        go_simp
        go_wp2_with fail
        refine hcall.mono ?_
        rintro e wdxxx ⟨F1, rfl, hF1, hbx⟩
        obtain ⟨fn1, caps1, rfl, en1, cal1⟩ := hF1
        have hF1 : FillX (fun k => B ≤ k ∧ k < wdxx.heap.size) wdxxx l (.func (.func fn1) #[] caps1) := ⟨fn1, caps1, rfl, en1, cal1⟩
        clear en1 cal1
        have HXdxxx := Lib.hid (HXdxx.out.next hbx)
        have H1 := Lib.hid hF1
        have KK1 := Lib.hid (KB.refl (fun k => B ≤ k ∧ k < wdxx.heap.size) wdxxx)
        have szwdxxx : wdxx.heap.size ≤ wdxxx.heap.size := hbx.size
        clear hcall hF1 hbx HXdxx
        refine hK.out _ _ (HXdxxx.out.sub0 (by simp) (by simp)) (fun hS => ?_)
        clear hK K
        refine wpAnyH_ready (rs := [9]) (by kernel_rfl) (by simp) ?_
        refine AllReadyH.cons rfl (fun K hK => ?_) AllReadyH.nil
        have hcall := IHR.out (I.tv or' Ar nr cr) wdxxx B (IR.out.below (HXdxxx.out.bel.mono hB)) (Nat.le_trans hB HXdxxx.out.bel.size)
        unfold I.tv at hcall
        go_simp
        go_wp2_with fail
        refine hcall.mono ?_
        rintro e wdxxxx ⟨F2, rfl, hF2, hbx⟩
        obtain ⟨fn2, caps2, rfl, en2, cal2⟩ := hF2
        have hF2 : FillX (fun k => B ≤ k ∧ k < wdxxx.heap.size) wdxxxx r (.func (.func fn2) #[] caps2) := ⟨fn2, caps2, rfl, en2, cal2⟩
        clear en2 cal2
        have HXdxxxx := Lib.hid (HXdxxx.out.next hbx)
        have H2 := Lib.hid hF2
        have KK2 := Lib.hid (KB.refl (fun k => B ≤ k ∧ k < wdxxx.heap.size) wdxxxx)
        have KK1x := Lib.hid (KK1.out.trans (KB.below hbx (Nat.le_refl _)))
        clear KK1
        have szwdxxxx : wdxxx.heap.size ≤ wdxxxx.heap.size := hbx.size
        clear hcall hF2 hbx HXdxxx
        refine hK.out _ _ (HXdxxxx.out.sub0 (by simp) (by simp)) (fun hS => ?_)
        clear hK K
        refine wpAnyH_ready (rs := [12]) (by kernel_rfl) (by simp) ?_
        refine AllReadyH.cons rfl (fun K hK => ?_) AllReadyH.nil
        obtain ⟨y0, k0, k2⟩ := HXdxxxx.out.facts1 (wd.heap.size) (by simp)
        go_simp
        go_wp2
        have HXdxxxxx := Lib.hid ((HXdxxxx.out.sub0 (bs' := [(w.heap.size, 0, .bool false), (w.heap.size, 1, .slice (some ⟨b, off, none⟩) 2 c), (wdx.heap.size, 0, .nilFunc)]) (rs' := [(w.heap.size, 2), (wd.heap.size, 1), (wdx.heap.size, 1)]) (by simp) (by simp)).set1 (wd.heap.size) (.func (.func fn1) #[] caps1) (by simp) (by simp only [List.mem_cons, List.not_mem_nil, or_false, forall_eq_or_imp, forall_eq]; omega) (by simp; omega))
        clear k0 k2 HXdxxxx
        have KK1xx := Lib.hid (KK1x.out.put (p := ⟨wd.heap.size, 0, none⟩) (by show (_ ≤ wd.heap.size ∧ wd.heap.size < _) ∨ _ ≤ wd.heap.size; omega) (.func (.func fn1) #[] caps1))
        clear KK1x
        have KK2x := Lib.hid (KK2.out.put (p := ⟨wd.heap.size, 0, none⟩) (by show (_ ≤ wd.heap.size ∧ wd.heap.size < _) ∨ _ ≤ wd.heap.size; omega) (.func (.func fn1) #[] caps1))
        clear KK2
        refine hK.out _ _ (HXdxxxxx.out.sub0 (by simp) (by simp)) (fun hS => ?_)
        clear hK K
        generalize wdxxxx.setCell ⟨wd.heap.size, 0, none⟩ (.func (.func fn1) #[] caps1) = wdxxxxx at *
        refine wpAnyH_ready (rs := [13]) (by kernel_rfl) (by simp) ?_
        refine AllReadyH.cons rfl (fun K hK => ?_) AllReadyH.nil
        obtain ⟨y0, k0, k2⟩ := HXdxxxxx.out.facts1 (wdx.heap.size) (by simp)
        go_simp
        go_wp2
        have HXdxxxxxx := Lib.hid ((HXdxxxxx.out.sub0 (bs' := [(w.heap.size, 0, .bool false), (w.heap.size, 1, .slice (some ⟨b, off, none⟩) 2 c), (wd.heap.size, 0, (.func (.func fn1) #[] caps1))]) (rs' := [(w.heap.size, 2), (wd.heap.size, 1), (wdx.heap.size, 1)]) (by simp) (by simp)).set1 (wdx.heap.size) (.func (.func fn2) #[] caps2) (by simp) (by simp only [List.mem_cons, List.not_mem_nil, or_false, forall_eq_or_imp, forall_eq]; omega) (by simp; omega))
        clear k0 k2 HXdxxxxx
        have KK1xxx := Lib.hid (KK1xx.out.put (p := ⟨wdx.heap.size, 0, none⟩) (by show (_ ≤ wdx.heap.size ∧ wdx.heap.size < _) ∨ _ ≤ wdx.heap.size; omega) (.func (.func fn2) #[] caps2))
        clear KK1xx
        have KK2xx := Lib.hid (KK2x.out.put (p := ⟨wdx.heap.size, 0, none⟩) (by show (_ ≤ wdx.heap.size ∧ wdx.heap.size < _) ∨ _ ≤ wdx.heap.size; omega) (.func (.func fn2) #[] caps2))
        clear KK2x
        refine hK.out _ _ (HXdxxxxxx.out.sub0 (by simp) (by simp)) (fun hS => ?_)
        clear hK K
        generalize wdxxxxx.setCell ⟨wdx.heap.size, 0, none⟩ (.func (.func fn2) #[] caps2) = wdxxxxxx at *
        try go_simp
        refine wpAnyH_done (by kernel_rfl) ?_ _
        go_wp2_with fail
        go_meet
        exact ⟨wd.heap.size, wdx.heap.size, (.func (.func fn1) #[] caps1), (.func (.func fn2) #[] caps2), wdxxx, wdxxxx, _, _, rfl, rfl, by omega, by omega, HXdxxxxxx.out.sub0 (by simp) (by simp), H1.out, KK1xxx.out, fun k h => ⟨h.1, by omega⟩, H2.out, KK2xx.out, fun k h => ⟨h.1, by omega⟩⟩
    · go_simp
      go_wp2
      have HXdx' := HXd.out.one .nilFunc 54
      have HXdx := Lib.hid HXdx'
      clear HXdx' HXd
      simp only [List.nil_append, List.cons_append] at HXdx
      refine hK.out _ _ (HXdx.out.sub0 (by simp) (by simp)) (fun hS => ?_)
      clear hK K
      have szwdx : wd.heap.size < (wd.alloc (.cells #[.nilFunc] 54)).heap.size := by simp
      generalize wd.alloc (.cells #[.nilFunc] 54) = wdx at *
      refine wpAnyH_ready (rs := [4, 10]) (by kernel_rfl) (by simp) ?_
      refine AllReadyH.cons rfl (fun K hK => ?_) (AllReadyH.cons rfl (fun K hK => ?_) AllReadyH.nil)
      · have hcall := IHL.out (I.tv ol Al nl cl) wdx B (IL.out.below (HXdx.out.bel.mono hB)) (Nat.le_trans hB HXdx.out.bel.size)
        unfold I.tv at hcall
        go_simp
        go_wp2_with fail
        refine hcall.mono ?_
        rintro e wdxx ⟨F1, rfl, hF1, hbx⟩
        obtain ⟨fn1, caps1, rfl, en1, cal1⟩ := hF1
        have hF1 : FillX (fun k => B ≤ k ∧ k < wdx.heap.size) wdxx l (.func (.func fn1) #[] caps1) := ⟨fn1, caps1, rfl, en1, cal1⟩
        clear en1 cal1
        have HXdxx := Lib.hid (HXdx.out.next hbx)
        have H1 := Lib.hid hF1
        have KK1 := Lib.hid (KB.refl (fun k => B ≤ k ∧ k < wdx.heap.size) wdxx)
        have szwdxx : wdx.heap.size ≤ wdxx.heap.size := hbx.size
        clear hcall hF1 hbx HXdx
        refine hK.out _ _ (HXdxx.out.sub0 (by simp) (by simp)) (fun hS => ?_)
        clear hK K
        refine wpAnyH_ready (rs := [9, 10]) (by kernel_rfl) (by simp) ?_
        refine AllReadyH.cons rfl (fun K hK => ?_) (AllReadyH.cons rfl (fun K hK => ?_) AllReadyH.nil)
        · have hcall := IHR.out (I.tv or' Ar nr cr) wdxx B (IR.out.below (HXdxx.out.bel.mono hB)) (Nat.le_trans hB HXdxx.out.bel.size)
          unfold I.tv at hcall
          go_simp
          go_wp2_with fail
          refine hcall.mono ?_
          rintro e wdxxx ⟨F2, rfl, hF2, hbx⟩
          obtain ⟨fn2, caps2, rfl, en2, cal2⟩ := hF2
          have hF2 : FillX (fun k => B ≤ k ∧ k < wdxx.heap.size) wdxxx r (.func (.func fn2) #[] caps2) := ⟨fn2, caps2, rfl, en2, cal2⟩
          clear en2 cal2
          have HXdxxx := Lib.hid (HXdxx.out.next hbx)
          have H2 := Lib.hid hF2
          have KK2 := Lib.hid (KB.refl (fun k => B ≤ k ∧ k < wdxx.heap.size) wdxxx)
          have KK1x := Lib.hid (KK1.out.trans (KB.below hbx (Nat.le_refl _)))
          clear KK1
          have szwdxxx : wdxx.heap.size ≤ wdxxx.heap.size := hbx.size
          clear hcall hF2 hbx HXdxx
          refine hK.out _ _ (HXdxxx.out.sub0 (by simp) (by simp)) (fun hS => ?_)
          clear hK K
          refine wpAnyH_ready (rs := [10]) (by kernel_rfl) (by simp) ?_
          refine AllReadyH.cons rfl (fun K hK => ?_) AllReadyH.nil
          go_simp
          go_wp2
          have HXdxxxx' := HXdxxx.out.one .nilFunc 54
          have HXdxxxx := Lib.hid HXdxxxx'
          clear HXdxxxx' HXdxxx
          simp only [List.nil_append, List.cons_append] at HXdxxxx
          have KK1xx := Lib.hid (KK1x.out.alloc (.cells #[.nilFunc] 54))
          clear KK1x
          have KK2x := Lib.hid (KK2.out.alloc (.cells #[.nilFunc] 54))
          clear KK2
          refine hK.out _ _ (HXdxxxx.out.sub0 (by simp) (by simp)) (fun hS => ?_)
          clear hK K
          have szwdxxxx : wdxxx.heap.size < (wdxxx.alloc (.cells #[.nilFunc] 54)).heap.size := by simp
          generalize wdxxx.alloc (.cells #[.nilFunc] 54) = wdxxxx at *
          refine wpAnyH_ready (rs := [12]) (by kernel_rfl) (by simp) ?_
          refine AllReadyH.cons rfl (fun K hK => ?_) AllReadyH.nil
          obtain ⟨y0, k0, k2⟩ := HXdxxxx.out.facts1 (wdxxx.heap.size) (by simp)
          go_simp
          go_wp2
          have HXdxxxxx := Lib.hid ((HXdxxxx.out.sub0 (bs' := [(w.heap.size, 0, .bool false), (w.heap.size, 1, .slice (some ⟨b, off, none⟩) 2 c), (wd.heap.size, 0, .nilFunc)]) (rs' := [(w.heap.size, 2), (wd.heap.size, 1), (wdxxx.heap.size, 1)]) (by simp) (by simp)).set1 (wdxxx.heap.size) (.func (.func fn1) #[] caps1) (by simp) (by simp only [List.mem_cons, List.not_mem_nil, or_false, forall_eq_or_imp, forall_eq]; omega) (by simp; omega))
          clear k0 k2 HXdxxxx
          have KK1xxx := Lib.hid (KK1xx.out.put (p := ⟨wdxxx.heap.size, 0, none⟩) (by show (_ ≤ wdxxx.heap.size ∧ wdxxx.heap.size < _) ∨ _ ≤ wdxxx.heap.size; omega) (.func (.func fn1) #[] caps1))
          clear KK1xx
          have KK2xx := Lib.hid (KK2x.out.put (p := ⟨wdxxx.heap.size, 0, none⟩) (by show (_ ≤ wdxxx.heap.size ∧ wdxxx.heap.size < _) ∨ _ ≤ wdxxx.heap.size; omega) (.func (.func fn1) #[] caps1))
          clear KK2x
          refine hK.out _ _ (HXdxxxxx.out.sub0 (by simp) (by simp)) (fun hS => ?_)
          clear hK K
          generalize wdxxxx.setCell ⟨wdxxx.heap.size, 0, none⟩ (.func (.func fn1) #[] caps1) = wdxxxxx at *
          refine wpAnyH_ready (rs := [13]) (by kernel_rfl) (by simp) ?_
          refine AllReadyH.cons rfl (fun K hK => ?_) AllReadyH.nil
          obtain ⟨y0, k0, k2⟩ := HXdxxxxx.out.facts1 (wd.heap.size) (by simp)
          go_simp
          go_wp2
          have HXdxxxxxx := Lib.hid ((HXdxxxxx.out.sub0 (bs' := [(w.heap.size, 0, .bool false), (w.heap.size, 1, .slice (some ⟨b, off, none⟩) 2 c), (wdxxx.heap.size, 0, (.func (.func fn1) #[] caps1))]) (rs' := [(w.heap.size, 2), (wd.heap.size, 1), (wdxxx.heap.size, 1)]) (by simp) (by simp)).set1 (wd.heap.size) (.func (.func fn2) #[] caps2) (by simp) (by simp only [List.mem_cons, List.not_mem_nil, or_false, forall_eq_or_imp, forall_eq]; omega) (by simp; omega))
          clear k0 k2 HXdxxxxx
          have KK1xxxx := Lib.hid (KK1xxx.out.put (p := ⟨wd.heap.size, 0, none⟩) (by show (_ ≤ wd.heap.size ∧ wd.heap.size < _) ∨ _ ≤ wd.heap.size; omega) (.func (.func fn2) #[] caps2))
          clear KK1xxx
          have KK2xxx := Lib.hid (KK2xx.out.put (p := ⟨wd.heap.size, 0, none⟩) (by show (_ ≤ wd.heap.size ∧ wd.heap.size < _) ∨ _ ≤ wd.heap.size; omega) (.func (.func fn2) #[] caps2))
          clear KK2xx
          refine hK.out _ _ (HXdxxxxxx.out.sub0 (by simp) (by simp)) (fun hS => ?_)
          clear hK K
          generalize wdxxxxx.setCell ⟨wd.heap.size, 0, none⟩ (.func (.func fn2) #[] caps2) = wdxxxxxx at *
          try go_simp
          refine wpAnyH_done (by kernel_rfl) ?_ _
          go_wp2_with fail
          go_meet
          exact ⟨wdxxx.heap.size, wd.heap.size, (.func (.func fn1) #[] caps1), (.func (.func fn2) #[] caps2), wdxx, wdxxx, _, _, rfl, rfl, by omega, by omega, HXdxxxxxx.out.sub0 (by simp) (by simp), H1.out, KK1xxxx.out, fun k h => ⟨h.1, by omega⟩, H2.out, KK2xxx.out, fun k h => ⟨h.1, by omega⟩⟩
        · go_simp
          go_wp2
          have HXdxxx' := HXdxx.out.one .nilFunc 54
          have HXdxxx := Lib.hid HXdxxx'
          clear HXdxxx' HXdxx
          simp only [List.nil_append, List.cons_append] at HXdxxx
          have KK1x := Lib.hid (KK1.out.alloc (.cells #[.nilFunc] 54))
          clear KK1
          refine hK.out _ _ (HXdxxx.out.sub0 (by simp) (by simp)) (fun hS => ?_)
          clear hK K
          have szwdxxx : wdxx.heap.size < (wdxx.alloc (.cells #[.nilFunc] 54)).heap.size := by simp
          generalize wdxx.alloc (.cells #[.nilFunc] 54) = wdxxx at *
          refine wpAnyH_ready (rs := [9]) (by kernel_rfl) (by simp) ?_
          refine AllReadyH.cons rfl (fun K hK => ?_) AllReadyH.nil
          have hcall := IHR.out (I.tv or' Ar nr cr) wdxxx B (IR.out.below (HXdxxx.out.bel.mono hB)) (Nat.le_trans hB HXdxxx.out.bel.size)
          unfold I.tv at hcall
          go_simp
          go_wp2_with fail
          refine hcall.mono ?_
          rintro e wdxxxx ⟨F2, rfl, hF2, hbx⟩
          obtain ⟨fn2, caps2, rfl, en2, cal2⟩ := hF2
          have hF2 : FillX (fun k => B ≤ k ∧ k < wdxxx.heap.size) wdxxxx r (.func (.func fn2) #[] caps2) := ⟨fn2, caps2, rfl, en2, cal2⟩
          clear en2 cal2
          have HXdxxxx := Lib.hid (HXdxxx.out.next hbx)
          have H2 := Lib.hid hF2
          have KK2 := Lib.hid (KB.refl (fun k => B ≤ k ∧ k < wdxxx.heap.size) wdxxxx)
          have KK1xx := Lib.hid (KK1x.out.trans (KB.below hbx (Nat.le_refl _)))
          clear KK1x
          have szwdxxxx : wdxxx.heap.size ≤ wdxxxx.heap.size := hbx.size
          clear hcall hF2 hbx HXdxxx
          refine hK.out _ _ (HXdxxxx.out.sub0 (by simp) (by simp)) (fun hS => ?_)
          clear hK K
          refine wpAnyH_ready (rs := [12]) (by kernel_rfl) (by simp) ?_
          refine AllReadyH.cons rfl (fun K hK => ?_) AllReadyH.nil
          obtain ⟨y0, k0, k2⟩ := HXdxxxx.out.facts1 (wdxx.heap.size) (by simp)
          go_simp
          go_wp2
          have HXdxxxxx := Lib.hid ((HXdxxxx.out.sub0 (bs' := [(w.heap.size, 0, .bool false), (w.heap.size, 1, .slice (some ⟨b, off, none⟩) 2 c), (wd.heap.size, 0, .nilFunc)]) (rs' := [(w.heap.size, 2), (wd.heap.size, 1), (wdxx.heap.size, 1)]) (by simp) (by simp)).set1 (wdxx.heap.size) (.func (.func fn1) #[] caps1) (by simp) (by simp only [List.mem_cons, List.not_mem_nil, or_false, forall_eq_or_imp, forall_eq]; omega) (by simp; omega))
          clear k0 k2 HXdxxxx
          have KK1xxx := Lib.hid (KK1xx.out.put (p := ⟨wdxx.heap.size, 0, none⟩) (by show (_ ≤ wdxx.heap.size ∧ wdxx.heap.size < _) ∨ _ ≤ wdxx.heap.size; omega) (.func (.func fn1) #[] caps1))
          clear KK1xx
          have KK2x := Lib.hid (KK2.out.put (p := ⟨wdxx.heap.size, 0, none⟩) (by show (_ ≤ wdxx.heap.size ∧ wdxx.heap.size < _) ∨ _ ≤ wdxx.heap.size; omega) (.func (.func fn1) #[] caps1))
          clear KK2
          refine hK.out _ _ (HXdxxxxx.out.sub0 (by simp) (by simp)) (fun hS => ?_)
          clear hK K
          generalize wdxxxx.setCell ⟨wdxx.heap.size, 0, none⟩ (.func (.func fn1) #[] caps1) = wdxxxxx at *
          refine wpAnyH_ready (rs := [13]) (by kernel_rfl) (by simp) ?_
          refine AllReadyH.cons rfl (fun K hK => ?_) AllReadyH.nil
          obtain ⟨y0, k0, k2⟩ := HXdxxxxx.out.facts1 (wd.heap.size) (by simp)
          go_simp
          go_wp2
          have HXdxxxxxx := Lib.hid ((HXdxxxxx.out.sub0 (bs' := [(w.heap.size, 0, .bool false), (w.heap.size, 1, .slice (some ⟨b, off, none⟩) 2 c), (wdxx.heap.size, 0, (.func (.func fn1) #[] caps1))]) (rs' := [(w.heap.size, 2), (wd.heap.size, 1), (wdxx.heap.size, 1)]) (by simp) (by simp)).set1 (wd.heap.size) (.func (.func fn2) #[] caps2) (by simp) (by simp only [List.mem_cons, List.not_mem_nil, or_false, forall_eq_or_imp, forall_eq]; omega) (by simp; omega))
          clear k0 k2 HXdxxxxx
          have KK1xxxx := Lib.hid (KK1xxx.out.put (p := ⟨wd.heap.size, 0, none⟩) (by show (_ ≤ wd.heap.size ∧ wd.heap.size < _) ∨ _ ≤ wd.heap.size; omega) (.func (.func fn2) #[] caps2))
          clear KK1xxx
          have KK2xx := Lib.hid (KK2x.out.put (p := ⟨wd.heap.size, 0, none⟩) (by show (_ ≤ wd.heap.size ∧ wd.heap.size < _) ∨ _ ≤ wd.heap.size; omega) (.func (.func fn2) #[] caps2))
          clear KK2x
          refine hK.out _ _ (HXdxxxxxx.out.sub0 (by simp) (by simp)) (fun hS => ?_)
          clear hK K
          generalize wdxxxxx.setCell ⟨wd.heap.size, 0, none⟩ (.func (.func fn2) #[] caps2) = wdxxxxxx at *
          try go_simp
          refine wpAnyH_done (by kernel_rfl) ?_ _
          go_wp2_with fail
          go_meet
          exact ⟨wdxx.heap.size, wd.heap.size, (.func (.func fn1) #[] caps1), (.func (.func fn2) #[] caps2), wdxx, wdxxxx, _, _, rfl, rfl, by omega, by omega, HXdxxxxxx.out.sub0 (by simp) (by simp), H1.out, KK1xxxx.out, fun k h => ⟨h.1, by omega⟩, H2.out, KK2xx.out, fun k h => ⟨h.1, by omega⟩⟩
      · go_simp
        go_wp2
        have HXdxx' := HXdx.out.one .nilFunc 54
        have HXdxx := Lib.hid HXdxx'
        clear HXdxx' HXdx
        simp only [List.nil_append, List.cons_append] at HXdxx
        refine hK.out _ _ (HXdxx.out.sub0 (by simp) (by simp)) (fun hS => ?_)
        clear hK K
        have szwdxx : wdx.heap.size < (wdx.alloc (.cells #[.nilFunc] 54)).heap.size := by simp
        generalize wdx.alloc (.cells #[.nilFunc] 54) = wdxx at *
        refine wpAnyH_ready (rs := [4]) (by kernel_rfl) (by simp) ?_
        refine AllReadyH.cons rfl (fun K hK => ?_) AllReadyH.nil
        have hcall := IHL.out (I.tv ol Al nl cl) wdxx B (IL.out.below (HXdxx.out.bel.mono hB)) (Nat.le_trans hB HXdxx.out.bel.size)
        unfold I.tv at hcall
        go_simp
        go_wp2_with fail
        refine hcall.mono ?_
        rintro e wdxxx ⟨F1, rfl, hF1, hbx⟩
        obtain ⟨fn1, caps1, rfl, en1, cal1⟩ := hF1
        have hF1 : FillX (fun k => B ≤ k ∧ k < wdxx.heap.size) wdxxx l (.func (.func fn1) #[] caps1) := ⟨fn1, caps1, rfl, en1, cal1⟩
        clear en1 cal1
        have HXdxxx := Lib.hid (HXdxx.out.next hbx)
        have H1 := Lib.hid hF1
        have KK1 := Lib.hid (KB.refl (fun k => B ≤ k ∧ k < wdxx.heap.size) wdxxx)
        have szwdxxx : wdxx.heap.size ≤ wdxxx.heap.size := hbx.size
        clear hcall hF1 hbx HXdxx
        refine hK.out _ _ (HXdxxx.out.sub0 (by simp) (by simp)) (fun hS => ?_)
        clear hK K
        refine wpAnyH_ready (rs := [9]) (by kernel_rfl) (by simp) ?_
        refine AllReadyH.cons rfl (fun K hK => ?_) AllReadyH.nil
        have hcall := IHR.out (I.tv or' Ar nr cr) wdxxx B (IR.out.below (HXdxxx.out.bel.mono hB)) (Nat.le_trans hB HXdxxx.out.bel.size)
        unfold I.tv at hcall
        go_simp
        go_wp2_with fail
        refine hcall.mono ?_
        rintro e wdxxxx ⟨F2, rfl, hF2, hbx⟩
        obtain ⟨fn2, caps2, rfl, en2, cal2⟩ := hF2
        have hF2 : FillX (fun k => B ≤ k ∧ k < wdxxx.heap.size) wdxxxx r (.func (.func fn2) #[] caps2) := ⟨fn2, caps2, rfl, en2, cal2⟩
        clear en2 cal2
        have HXdxxxx := Lib.hid (HXdxxx.out.next hbx)
        have H2 := Lib.hid hF2
        have KK2 := Lib.hid (KB.refl (fun k => B ≤ k ∧ k < wdxxx.heap.size) wdxxxx)
        have KK1x := Lib.hid (KK1.out.trans (KB.below hbx (Nat.le_refl _)))
        clear KK1
        have szwdxxxx : wdxxx.heap.size ≤ wdxxxx.heap.size := hbx.size
        clear hcall hF2 hbx HXdxxx
        refine hK.out _ _ (HXdxxxx.out.sub0 (by simp) (by simp)) (fun hS => ?_)
        clear hK K
        refine wpAnyH_ready (rs := [12]) (by kernel_rfl) (by simp) ?_
        refine AllReadyH.cons rfl (fun K hK => ?_) AllReadyH.nil
        obtain ⟨y0, k0, k2⟩ := HXdxxxx.out.facts1 (wdx.heap.size) (by simp)
        go_simp
        go_wp2
        have HXdxxxxx := Lib.hid ((HXdxxxx.out.sub0 (bs' := [(w.heap.size, 0, .bool false), (w.heap.size, 1, .slice (some ⟨b, off, none⟩) 2 c), (wd.heap.size, 0, .nilFunc)]) (rs' := [(w.heap.size, 2), (wd.heap.size, 1), (wdx.heap.size, 1)]) (by simp) (by simp)).set1 (wdx.heap.size) (.func (.func fn1) #[] caps1) (by simp) (by simp only [List.mem_cons, List.not_mem_nil, or_false, forall_eq_or_imp, forall_eq]; omega) (by simp; omega))
        clear k0 k2 HXdxxxx
        have KK1xx := Lib.hid (KK1x.out.put (p := ⟨wdx.heap.size, 0, none⟩) (by show (_ ≤ wdx.heap.size ∧ wdx.heap.size < _) ∨ _ ≤ wdx.heap.size; omega) (.func (.func fn1) #[] caps1))
        clear KK1x
        have KK2x := Lib.hid (KK2.out.put (p := ⟨wdx.heap.size, 0, none⟩) (by show (_ ≤ wdx.heap.size ∧ wdx.heap.size < _) ∨ _ ≤ wdx.heap.size; omega) (.func (.func fn1) #[] caps1))
        clear KK2
        refine hK.out _ _ (HXdxxxxx.out.sub0 (by simp) (by simp)) (fun hS => ?_)
        clear hK K
        generalize wdxxxx.setCell ⟨wdx.heap.size, 0, none⟩ (.func (.func fn1) #[] caps1) = wdxxxxx at *
        refine wpAnyH_ready (rs := [13]) (by kernel_rfl) (by simp) ?_
        refine AllReadyH.cons rfl (fun K hK => ?_) AllReadyH.nil
        obtain ⟨y0, k0, k2⟩ := HXdxxxxx.out.facts1 (wd.heap.size) (by simp)
        go_simp
        go_wp2
        have HXdxxxxxx := Lib.hid ((HXdxxxxx.out.sub0 (bs' := [(w.heap.size, 0, .bool false), (w.heap.size, 1, .slice (some ⟨b, off, none⟩) 2 c), (wdx.heap.size, 0, (.func (.func fn1) #[] caps1))]) (rs' := [(w.heap.size, 2), (wd.heap.size, 1), (wdx.heap.size, 1)]) (by simp) (by simp)).set1 (wd.heap.size) (.func (.func fn2) #[] caps2) (by simp) (by simp only [List.mem_cons, List.not_mem_nil, or_false, forall_eq_or_imp, forall_eq]; omega) (by simp; omega))
        clear k0 k2 HXdxxxxx
        have KK1xxx := Lib.hid (KK1xx.out.put (p := ⟨wd.heap.size, 0, none⟩) (by show (_ ≤ wd.heap.size ∧ wd.heap.size < _) ∨ _ ≤ wd.heap.size; omega) (.func (.func fn2) #[] caps2))
        clear KK1xx
        have KK2xx := Lib.hid (KK2x.out.put (p := ⟨wd.heap.size, 0, none⟩) (by show (_ ≤ wd.heap.size ∧ wd.heap.size < _) ∨ _ ≤ wd.heap.size; omega) (.func (.func fn2) #[] caps2))
        clear KK2x
        refine hK.out _ _ (HXdxxxxxx.out.sub0 (by simp) (by simp)) (fun hS => ?_)
        clear hK K
        generalize wdxxxxx.setCell ⟨wd.heap.size, 0, none⟩ (.func (.func fn2) #[] caps2) = wdxxxxxx at *
        try go_simp
        refine wpAnyH_done (by kernel_rfl) ?_ _
        go_wp2_with fail
        go_meet
        exact ⟨wdx.heap.size, wd.heap.size, (.func (.func fn1) #[] caps1), (.func (.func fn2) #[] caps2), wdxxx, wdxxxx, _, _, rfl, rfl, by omega, by omega, HXdxxxxxx.out.sub0 (by simp) (by simp), H1.out, KK1xxx.out, fun k h => ⟨h.1, by omega⟩, H2.out, KK2xx.out, fun k h => ⟨h.1, by omega⟩⟩
  case rest =>
  obtain ⟨g3, g4, F1, F2, W1, W2, X1, X2, rfl, rfl, n3, n4, hX, h1, q1, x1, h2, q2, x2⟩ := hcut
  have f := hX.at0
  simp only [List.mem_cons, List.not_mem_nil, or_false, forall_eq_or_imp, forall_eq] at f
  obtain ⟨p0, p1, p2, p3⟩ := f
  have HF := Lib.hid (fillX_node HI.out hB hX.bel (Nat.le_refl _) n3 n4 p0 p1 p2 p3 h1 q1 x1 h2 q2 x2)
  have HB := Lib.hid hX.bel
  clear hX h1 q1 x1 h2 q2 x2 p0 p1 p2 p3 HX2
  go_wp2
  go_ret
  exact ⟨_, rfl, HF.out, HB.out⟩
theorem filler_any : ∀ (i : I.Tr) (v : Value) (w : World) (B : Nat), I.InT w B i v → B ≤ w.heap.size → Calls Tryz.prog 37 #[v] w (FillA B i w)
  | .leaf o, v, w, B, h, _ => by
    obtain ⟨A, c, rfl⟩ := h
    exact filler_leaf o A c w B
  | .node l r, v, w, B, h, hB => filler_node (fun v w B => filler_any l v w B) (fun v w B => filler_any r v w B) v w B h hB
end Go.Proofs.YtoaglkjpjolacaaGreatDoor.S
