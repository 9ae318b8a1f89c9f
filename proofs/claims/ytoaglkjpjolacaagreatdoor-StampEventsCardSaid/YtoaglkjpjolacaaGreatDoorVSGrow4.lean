/-
  Stamps: the functions that make growths.
-/
import Derived.Test.YtoaglkjpjolacaaGreatDoorVSGrow1
import Derived.Test.YtoaglkjpjolacaaGreatDoorVSG
import Derived.Test.YtoaglkjpjolacaaGreatDoorVSGrow3
namespace Go.Proofs.YtoaglkjpjolacaaGreatDoor.S
open Go.RowKit
/-- Counts that no sum of which is too great. -/
def okN (e : E.Tr) : Prop := e.okc E.mc = true
theorem okc_up : ∀ (t : E.Tr) (m m' : Int), m ≤ m' → t.okc m = true → t.okc m' = true := by
  intro t
  induction t with
  | leaf k => intro m m' hm h; simp only [E.Tr.okc, decide_eq_true_eq] at h ⊢; omega
  | node k x y ihx ihy =>
    intro m m' hm h
    simp only [E.Tr.okc, Bool.and_eq_true, decide_eq_true_eq] at h ⊢
    exact ⟨by omega, ihx _ _ (by omega) h.2.1, ihy _ _ (by omega) h.2.2⟩
theorem okN_kids {n : Int} {a b : E.Tr} (h : okN (.node n a b)) : okN a ∧ okN b ∧ 0 ≤ n ∧ n ≤ 4611686018427387904 := by
  unfold okN at h ⊢
  simp only [E.Tr.okc, Bool.and_eq_true, decide_eq_true_eq] at h
  obtain ⟨hn, ha, hb⟩ := h
  refine ⟨okc_up a _ _ (by omega) ha, okc_up b _ _ (by omega) hb, hn.1, ?_⟩
  have := hn.2; unfold E.mc at this; exact this
theorem okN_N {e : E.Tr} (h : okN e) : 0 ≤ e.N ∧ e.N ≤ 4611686018427387904 := by
  cases e with
  | leaf n => unfold okN at h; simp only [E.Tr.okc, decide_eq_true_eq] at h; simp only [E.Tr.N]; unfold E.mc at h; exact h
  | node n a b => exact (okN_kids h).2.2
theorem okN_open {n : Int} (h : okN (.leaf n)) : okN (.node n (.leaf 0) (.leaf 0)) := by
  unfold okN at h ⊢
  simp only [E.Tr.okc, Bool.and_eq_true, decide_eq_true_eq] at h ⊢
  omega
def okD (e : E.Tr) : Prop := okN e ∧ ∃ n a b, e = .node n a b
def innF (l r : I.Tr) : E.Tr → E.Tr × Cost
  | .node n a b => innT l r n a b
  | .leaf n => (.leaf n, (0, 0))
def at0F (f : E.Tr → E.Tr × Cost) : E.Tr → E.Tr × Cost
  | .node n a b => (.node n (f a).1 b, ((f a).2.1, (f a).2.2 + 1))
  | .leaf n => (.leaf n, (0, 0))
def at1F (f : E.Tr → E.Tr × Cost) : E.Tr → E.Tr × Cost
  | .node n a b => (.node n a (f b).1, ((f b).2.1, (f b).2.2 + 1))
  | .leaf n => (.leaf n, (0, 0))
theorem inn_second {l r : I.Tr} (h : zero l = true) : ∀ e, okD e → innF l r e = at1F (growT r) e := by
  rintro e ⟨_, n, a, b, rfl⟩
  simp only [innF, at1F]; rw [innT]; simp only [h, if_true]
theorem inn_first {l r : I.Tr} (h : zero l = false) (h2 : zero r = true) : ∀ e, okD e → innF l r e = at0F (growT l) e := by
  rintro e ⟨_, n, a, b, rfl⟩
  simp only [innF, at0F]; rw [innT]; simp only [h, h2, if_true, Bool.false_eq_true, if_false]
theorem inn_cheap {l r : I.Tr} (h : zero l = false) (h2 : zero r = false) : ∀ e, okD e → innF l r e = cheap (at0F (growT l) e) (at1F (growT r) e) := by
  rintro e ⟨_, n, a, b, rfl⟩
  simp only [innF, at0F, at1F, cheap]; rw [innT]; simp only [h, h2, Bool.false_eq_true, if_false]; first | done | rfl | (split <;> rfl)
theorem RunX.congr {X : Nat → Prop} {w : World} {D : E.Tr → Prop} {f f' : E.Tr → E.Tr × Cost} {F : Value} (h : RunX X w D f F) (hf : ∀ e, D e → f' e = f e) : RunX X w D f' F := by
  obtain ⟨fn, caps, e, hr, hc⟩ := h
  exact ⟨fn, caps, e, hr, fun W t v hk ht hd => by rw [hf t hd]; exact hc W t v hk ht hd⟩
/-- The closure of a growth in one kid. -/
theorem runX_at0 {f : E.Tr → E.Tr × Cost} {X X1 : Nat → Prop} {W1 w : World} {F : Value} {gG gK : Nat} (h : RunX X1 W1 okN f F) (q : KB X1 W1 w) (hx : ∀ k, X k → X1 k)
    (k0 : w.cell? ⟨gG, 0, none⟩ = some F) (k1 : w.cell? ⟨gK, 0, none⟩ = some (.int .i64 0)) (n0 : ¬ X gG) (n1 : ¬ X gK) (hb : ∀ e, (f e).2.2 ≤ 1000000) :
    RunX X w okD (at0F f) (.func (.func 162) #[] #[.pointer (some ⟨gG, 0, none⟩), .pointer (some ⟨gK, 0, none⟩)]) := by
  refine ⟨162, _, rfl, enter110, fun W e v hk ht hd => ?_⟩
  show Calls Tryz.prog 162 #[v, .pointer (some ⟨gG, 0, none⟩), .pointer (some ⟨gK, 0, none⟩)] W _
  obtain ⟨ho, n, a, b, rfl⟩ := hd
  obtain ⟨b', off', c', rfl, hb', ⟨oa, Aa, na, ca, e0, e1, ex⟩, ⟨ob, Ab, nb, cb, e2, e3, ey⟩⟩ := ht
  obtain ⟨oka, okb, _, _⟩ := okN_kids ho
  exact at0_any W (hk.cell n0 k0) (hk.cell n1 k1) (h.now (q.trans (hk.mono hx))) e0 e1 e2 e3 ex ey oka (hb a)
theorem runX_at1 {f : E.Tr → E.Tr × Cost} {X X1 : Nat → Prop} {W1 w : World} {F : Value} {gG gK : Nat} (h : RunX X1 W1 okN f F) (q : KB X1 W1 w) (hx : ∀ k, X k → X1 k)
    (k0 : w.cell? ⟨gG, 0, none⟩ = some F) (k1 : w.cell? ⟨gK, 0, none⟩ = some (.int .i64 1)) (n0 : ¬ X gG) (n1 : ¬ X gK) (hb : ∀ e, (f e).2.2 ≤ 1000000) :
    RunX X w okD (at1F f) (.func (.func 162) #[] #[.pointer (some ⟨gG, 0, none⟩), .pointer (some ⟨gK, 0, none⟩)]) := by
  refine ⟨162, _, rfl, enter110, fun W e v hk ht hd => ?_⟩
  show Calls Tryz.prog 162 #[v, .pointer (some ⟨gG, 0, none⟩), .pointer (some ⟨gK, 0, none⟩)] W _
  obtain ⟨ho, n, a, b, rfl⟩ := hd
  obtain ⟨b', off', c', rfl, hb', ⟨oa, Aa, na, ca, e0, e1, ex⟩, ⟨ob, Ab, nb, cb, e2, e3, ey⟩⟩ := ht
  obtain ⟨oka, okb, _, _⟩ := okN_kids ho
  exact at1_any W (hk.cell n0 k0) (hk.cell n1 k1) (h.now (q.trans (hk.mono hx))) e0 e1 e2 e3 ex ey okb (hb b)
theorem runX_cheap {f1 f2 : E.Tr → E.Tr × Cost} {X X1 X2 : Nat → Prop} {W1 W2 w : World} {F1 F2 : Value} {g1 g2 : Nat} (h1 : RunX X1 W1 okD f1 F1) (q1 : KB X1 W1 w) (x1 : ∀ k, X k → X1 k) (h2 : RunX X2 W2 okD f2 F2) (q2 : KB X2 W2 w) (x2 : ∀ k, X k → X2 k)
    (k0 : w.cell? ⟨g1, 0, none⟩ = some F1) (k1 : w.cell? ⟨g2, 0, none⟩ = some F2) (n0 : ¬ X g1) (n1 : ¬ X g2) :
    RunX X w okD (fun e => cheap (f1 e) (f2 e)) (.func (.func 163) #[] #[.pointer (some ⟨g1, 0, none⟩), .pointer (some ⟨g2, 0, none⟩)]) := by
  refine ⟨163, _, rfl, enter111, fun W e v hk ht hd => ?_⟩
  show Calls Tryz.prog 163 #[v, .pointer (some ⟨g1, 0, none⟩), .pointer (some ⟨g2, 0, none⟩)] W _
  exact cheaper_any e v W (hk.cell n0 k0) (hk.cell n1 k1) (h1.now (q1.trans (hk.mono x1))) (h2.now (q2.trans (hk.mono x2))) ht hd hd
theorem grow_node (l r : I.Tr) (n : Int) (a b : E.Tr) : growT (.node l r) (.node n a b) = innF l r (.node n a b) := by rw [growT]; rfl
theorem grow_leaf (l r : I.Tr) (n : Int) : growT (.node l r) (.leaf n) = ((innF l r (.node n (.leaf 0) (.leaf 0))).1, ((innF l r (.node n (.leaf 0) (.leaf 0))).2.1 + 1, (innF l r (.node n (.leaf 0) (.leaf 0))).2.2)) := by rw [growT]; rfl
theorem runX_grow {l r : I.Tr} {X X1 : Nat → Prop} {W1 w : World} {F : Value} {g : Nat} (h : RunX X1 W1 okD (innF l r) F) (q : KB X1 W1 w) (hx : ∀ k, X k → X1 k)
    (k0 : w.cell? ⟨g, 0, none⟩ = some F) (n0 : ¬ X g) (hb : ∀ e, (growT (.node l r) e).2.1 ≤ 1000000) : RunX X w okN (growT (.node l r)) (.func (.func 86) #[] #[.pointer (some ⟨g, 0, none⟩)]) := by
  refine ⟨86, _, rfl, enter65, fun W e v hk ht ho => ?_⟩
  show Calls Tryz.prog 86 #[v, .pointer (some ⟨g, 0, none⟩)] W _
  cases e with
  | leaf n =>
    obtain ⟨A, c, rfl⟩ := ht
    rw [grow_leaf]
    have hb' := hb (.leaf n)
    rw [grow_leaf] at hb'
    exact grow2_leaf W (hk.cell n0 k0) (h.now (q.trans (hk.mono hx))) ⟨okN_open ho, _, _, _, rfl⟩ (by simp only at hb'; omega)
  | node n a b =>
    rw [grow_node]
    have ht0 := ht
    obtain ⟨b', off', c', rfl, _⟩ := ht0
    exact grow2_node W (hk.cell n0 k0) (h.now (q.trans (hk.mono hx))) ht ⟨ho, n, a, b, rfl⟩

set_option maxHeartbeats 800000 in
theorem mkat_any (K : Int) (fn : Nat) (caps : Array Value) (w : World) : Calls Tryz.prog 140 #[.int .i64 K, .func (.func fn) #[] caps] w fun e w' =>
    ∃ gG gK : Nat, e = .returned (.func (.func 162) #[] #[.pointer (some ⟨gG, 0, none⟩), .pointer (some ⟨gK, 0, none⟩)]) ∧ w'.cell? ⟨gG, 0, none⟩ = some (.func (.func fn) #[] caps) ∧ w'.cell? ⟨gK, 0, none⟩ = some (.int .i64 K) ∧ w.heap.size ≤ gG ∧ w.heap.size ≤ gK ∧ Below w.heap.size w w' := by
  go_enter Tryz.func140, Tryz.ntmps140
  go_wp2
  go_ret
  exact ⟨w.heap.size + 1, w.heap.size, rfl, by simp [go_sem], by simp [go_sem], by omega, Nat.le_refl _, ((Below.refl _ w).alloc (Nat.le_refl _) _).alloc (by simp) _⟩
set_option maxHeartbeats 800000 in
theorem mkcheap_any (fn1 : Nat) (caps1 : Array Value) (fn2 : Nat) (caps2 : Array Value) (w : World) : Calls Tryz.prog 141 #[.func (.func fn1) #[] caps1, .func (.func fn2) #[] caps2] w fun e w' =>
    ∃ g1 g2 : Nat, e = .returned (.func (.func 163) #[] #[.pointer (some ⟨g1, 0, none⟩), .pointer (some ⟨g2, 0, none⟩)]) ∧ w'.cell? ⟨g1, 0, none⟩ = some (.func (.func fn1) #[] caps1) ∧ w'.cell? ⟨g2, 0, none⟩ = some (.func (.func fn2) #[] caps2) ∧ w.heap.size ≤ g1 ∧ w.heap.size ≤ g2 ∧ Below w.heap.size w w' := by
  go_enter Tryz.func141, Tryz.ntmps141
  go_wp2
  go_ret
  exact ⟨w.heap.size, w.heap.size + 1, rfl, by simp [go_sem], by simp [go_sem], Nat.le_refl _, by omega, ((Below.refl _ w).alloc (Nat.le_refl _) _).alloc (by simp) _⟩

/-- What a maker of growths answers. -/
def RunA (B : Nat) (D : E.Tr → Prop) (f : E.Tr → E.Tr × Cost) (w : World) (e : Ending) (w' : World) : Prop := ∃ F, e = .returned F ∧ RunX (fun k => B ≤ k ∧ k < w.heap.size) w' D f F ∧ Below w.heap.size w w'
def GrowerOk (i : I.Tr) : Prop := ∀ (v : Value) (w : World) (B : Nat), I.InT w B i v → B ≤ w.heap.size → Calls Tryz.prog 38 #[v] w (RunA B okN (growT i) w)
set_option maxRecDepth 100000 in
set_option maxHeartbeats 6400000 in
theorem inner_any {l r : I.Tr} (ihl : zero l = false → GrowerOk l) (ihr : zero r = false → GrowerOk r) (hz : ¬ (zero l = true ∧ zero r = true)) (hcl : ∀ e, (growT l e).2.2 ≤ 1000000) (hcr : ∀ e, (growT r e).2.2 ≤ 1000000)
    (u v : Value) (w : World) (B : Nat) (hl : I.InT w B l u) (hr : I.InT w B r v) (hB : B ≤ w.heap.size) : Calls Tryz.prog 85 #[u, v] w (RunA B okD (innF l r) w) := by
  obtain ⟨ol, Al, nl, cl, rfl⟩ := hl.form
  obtain ⟨or', Ar, nr, cr, rfl⟩ := hr.form
  have HX0 := Lib.hid (((SX.begin w).two (.bool ol) (.slice Al nl cl) 24).two (.bool or') (.slice Ar nr cr) 24)
  simp only [List.nil_append, List.cons_append, World.size_alloc] at HX0
  have HL := Lib.hid hl
  have HR := Lib.hid hr
  have IHL := Lib.hid ihl
  have IHR := Lib.hid ihr
  have HCL := Lib.hid hcl
  have HCR := Lib.hid hcr
  have HZ := Lib.hid hz
  have hc := szero_any l _ _ (HL.out.below (HX0.out.bel.mono hB))
  have s0 : w.heap.size ≤ (((w.alloc (.cells #[.bool ol, .slice Al nl cl] 24)).alloc (.cells #[.bool or', .slice Ar nr cr] 24))).heap.size := by simp; omega
  clear hl hr ihl ihr hcl hcr hz
  unfold I.tv at hc ⊢
  go_enter Tryz.func85, Tryz.ntmps85
  go_wp2_with fail
  refine hc.mono ?_
  rintro e w1 ⟨rfl, hb1⟩
  have HX1 := Lib.hid (HX0.out.next hb1)
  have s1 : w.heap.size ≤ w1.heap.size := Nat.le_trans s0 hb1.size
  clear hc hb1 HX0 s0
  have f := HX1.out.at0
  simp only [List.mem_cons, List.not_mem_nil, or_false, forall_eq_or_imp, forall_eq] at f
  obtain ⟨p0, p1, p2, p3⟩ := f
  by_cases zl : zero l = true
  · rw [zl]
    have zr : zero r = false := by
      by_cases h : zero r = true
      · exact absurd ⟨zl, h⟩ HZ.out
      · simpa using h
    have hg := IHR.out zr (I.tv or' Ar nr cr) w1 B (HR.out.below (HX1.out.bel.mono hB)) (Nat.le_trans hB s1)
    have HEQ := Lib.hid (inn_second (r := r) zl)
    clear zl zr
    unfold I.tv at hg
    go_wp2_with fail
    refine hg.mono ?_
    rintro e w2 ⟨F, rfl, hF, hb2⟩
    obtain ⟨fn, caps, rfl, en, cal⟩ := hF
    have HF : Hid (RunX (fun k => B ≤ k ∧ k < w1.heap.size) w2 okN (growT r) (.func (.func fn) #[] caps)) := ⟨fn, caps, rfl, en, cal⟩
    have HX2 := Lib.hid (HX1.out.next hb2)
    have s2 : w.heap.size ≤ w2.heap.size := Nat.le_trans s1 hb2.size
    clear hg hb2 en cal HX1 p0 p1 p2 p3
    go_wp2_with fail
    refine (mkat_any 1 fn caps w2).mono ?_
    rintro e w3 ⟨gG, gK, rfl, k0, k1, n0, n1, hb3⟩
    have HR3 := Lib.hid ((runX_at1 (X := fun k => B ≤ k ∧ k < w.heap.size) HF.out (KB.below hb3 (Nat.le_refl _)) (fun k h => ⟨h.1, by omega⟩) k0 k1 (by omega) (by omega) HCR.out).congr HEQ.out)
    have HB3 := Lib.hid (HX2.out.next hb3).bel
    clear k0 k1 n0 n1 hb3 HX2 HF
    go_wp2
    go_ret
    exact ⟨_, rfl, HR3.out, HB3.out⟩
  · have zl' : zero l = false := by simpa using zl
    clear zl
    rw [zl']
    have hc := szero_any r (I.tv or' Ar nr cr) w1 (HR.out.below (HX1.out.bel.mono hB))
    unfold I.tv at hc
    go_wp2_with fail
    refine hc.mono ?_
    rintro e w2 ⟨rfl, hb2⟩
    have HX2 := Lib.hid (HX1.out.next hb2)
    have s2 : w.heap.size ≤ w2.heap.size := Nat.le_trans s1 hb2.size
    clear hc hb2 HX1 p0 p1 p2 p3
    by_cases zr : zero r = true
    · rw [zr]
      have hg := IHL.out zl' (I.tv ol Al nl cl) w2 B (HL.out.below (HX2.out.bel.mono hB)) (Nat.le_trans hB s2)
      have HEQ := Lib.hid (inn_first zl' zr)
      clear zl' zr
      have f := HX2.out.at0
      simp only [List.mem_cons, List.not_mem_nil, or_false, forall_eq_or_imp, forall_eq] at f
      obtain ⟨p0, p1, p2, p3⟩ := f
      unfold I.tv at hg
      go_wp2_with fail
      refine hg.mono ?_
      rintro e w3 ⟨F, rfl, hF, hb3⟩
      obtain ⟨fn, caps, rfl, en, cal⟩ := hF
      have HF : Hid (RunX (fun k => B ≤ k ∧ k < w2.heap.size) w3 okN (growT l) (.func (.func fn) #[] caps)) := ⟨fn, caps, rfl, en, cal⟩
      have HX3 := Lib.hid (HX2.out.next hb3)
      have s3 : w.heap.size ≤ w3.heap.size := Nat.le_trans s2 hb3.size
      clear hg hb3 en cal HX2 p0 p1 p2 p3
      go_wp2_with fail
      refine (mkat_any 0 fn caps w3).mono ?_
      rintro e w4 ⟨gG, gK, rfl, k0, k1, n0, n1, hb4⟩
      have HR3 := Lib.hid ((runX_at0 (X := fun k => B ≤ k ∧ k < w.heap.size) HF.out (KB.below hb4 (Nat.le_refl _)) (fun k h => ⟨h.1, by omega⟩) k0 k1 (by omega) (by omega) HCL.out).congr HEQ.out)
      have HB3 := Lib.hid (HX3.out.next hb4).bel
      clear k0 k1 n0 n1 hb4 HX3 HF
      go_wp2
      go_ret
      exact ⟨_, rfl, HR3.out, HB3.out⟩
    · have zr' : zero r = false := by simpa using zr
      clear zr
      rw [zr']
      have HEQ := Lib.hid (inn_cheap zl' zr')
      have IL' := Lib.hid (IHL.out zl')
      have IR' := Lib.hid (IHR.out zr')
      clear zl' zr'
      go_upto_region 5 with fail
      refine wp_region_held_drew (S := fun W => SX w [(w.heap.size, 0, .bool ol), (w.heap.size, 1, .slice Al nl cl), (w.heap.size + 1, 0, .bool or'), (w.heap.size + 1, 1, .slice Ar nr cr)] [(w.heap.size, 2), (w.heap.size + 1, 2)] [] [] W) (by kernel_rfl) ((HX2.out.drew).sub0 (by simp) (by simp)) (fun hS => ?_)
      have HXd := Lib.hid (HX2.out.drew)
      have sd : w.heap.size ≤ w2.drew.heap.size := by simpa using s2
      clear HX2
      generalize w2.drew = wd at *
      refine wpAnyH_take (i := 0) (v := ?_) rfl (by kernel_rfl) (by kernel_rfl) (by kernel_rfl) (fun _ _ _ h => h) (Or.inl ⟨by kernel_rfl, fun W hW => ?_⟩) hS ?_
      rotate_left
      · have f := hW.at0
        simp only [List.mem_cons, List.not_mem_nil, or_false, forall_eq_or_imp, forall_eq] at f
        obtain ⟨p0, p1, p2, p3⟩ := f
        first | (go_simp; done) | (go_simp; with_reducible rfl)
      refine wpAnyH_take (i := 3) (v := ?_) rfl (by kernel_rfl) (by kernel_rfl) (by kernel_rfl) (fun _ _ _ h => h) (Or.inl ⟨by kernel_rfl, fun W hW => ?_⟩) hS ?_
      rotate_left
      · have f := hW.at0
        simp only [List.mem_cons, List.not_mem_nil, or_false, forall_eq_or_imp, forall_eq] at f
        obtain ⟨p0, p1, p2, p3⟩ := f
        first | (go_simp; done) | (go_simp; with_reducible rfl)
      refine wpAnyH_ready (rs := [1]) (by kernel_rfl) (by simp) ?_
      refine AllReadyH.cons rfl (fun K hK => ?_) AllReadyH.nil
      have hcall := IL'.out (I.tv ol Al nl cl) wd B (HL.out.below (HXd.out.bel.mono hB)) (Nat.le_trans hB HXd.out.bel.size)
      unfold I.tv at hcall
      go_simp
      go_wp2_with fail
      refine hcall.mono ?_
      rintro e wdx ⟨F, rfl, hF, hbx⟩
      obtain ⟨fn1, caps1, rfl, en, cal⟩ := hF
      have HF1 : Hid (RunX (fun k => B ≤ k ∧ k < wd.heap.size) wdx okN (growT l) (.func (.func fn1) #[] caps1)) := ⟨fn1, caps1, rfl, en, cal⟩
      clear hcall en cal
      have HXdx := Lib.hid (HXd.out.next hbx)
      have swdx : w.heap.size ≤ wdx.heap.size := HXdx.out.bel.size
      clear hbx HXd
      refine hK.out _ _ (HXdx.out) (fun hS => ?_)
      clear hK K
      refine wpAnyH_ready (rs := [2]) (by kernel_rfl) (by simp) ?_
      refine AllReadyH.cons rfl (fun K hK => ?_) AllReadyH.nil
      go_simp
      go_wp2_with fail
      refine (mkat_any 0 fn1 caps1 wdx).mono ?_
      rintro e wdxx ⟨gA, gA2, rfl, k0, k1, n0, n1, hbx⟩
      have RA := Lib.hid (runX_at0 (X := fun k => B ≤ k ∧ k < w.heap.size) HF1.out (KB.below hbx (Nat.le_refl _)) (fun k h => ⟨h.1, by omega⟩) k0 k1 (by omega) (by omega) HCL.out)
      have KA := Lib.hid (KB.refl (fun k => B ≤ k ∧ k < w.heap.size) wdxx)
      clear k0 k1 HF1 n0 n1
      have HXdxx := Lib.hid (HXdx.out.next hbx)
      have swdxx : w.heap.size ≤ wdxx.heap.size := HXdxx.out.bel.size
      clear hbx HXdx
      refine hK.out _ _ (HXdxx.out) (fun hS => ?_)
      clear hK K
      refine wpAnyH_ready (rs := [4]) (by kernel_rfl) (by simp) ?_
      refine AllReadyH.cons rfl (fun K hK => ?_) AllReadyH.nil
      have hcall := IR'.out (I.tv or' Ar nr cr) wdxx B (HR.out.below (HXdxx.out.bel.mono hB)) (Nat.le_trans hB HXdxx.out.bel.size)
      unfold I.tv at hcall
      go_simp
      go_wp2_with fail
      refine hcall.mono ?_
      rintro e wdxxx ⟨F, rfl, hF, hbx⟩
      obtain ⟨fn2, caps2, rfl, en, cal⟩ := hF
      have HF2 : Hid (RunX (fun k => B ≤ k ∧ k < wdxx.heap.size) wdxxx okN (growT r) (.func (.func fn2) #[] caps2)) := ⟨fn2, caps2, rfl, en, cal⟩
      clear hcall en cal
      have HXdxxx := Lib.hid (HXdxx.out.next hbx)
      have swdxxx : w.heap.size ≤ wdxxx.heap.size := HXdxxx.out.bel.size
      have KAx := Lib.hid (KA.out.trans (KB.below hbx (Nat.le_refl _)))
      clear KA
      clear hbx HXdxx
      refine hK.out _ _ (HXdxxx.out) (fun hS => ?_)
      clear hK K
      refine wpAnyH_ready (rs := [5]) (by kernel_rfl) (by simp) ?_
      refine AllReadyH.cons rfl (fun K hK => ?_) AllReadyH.nil
      go_simp
      go_wp2_with fail
      refine (mkat_any 1 fn2 caps2 wdxxx).mono ?_
      rintro e wdxxxx ⟨gB, gB2, rfl, k0, k1, n0, n1, hbx⟩
      have RB := Lib.hid (runX_at1 (X := fun k => B ≤ k ∧ k < w.heap.size) HF2.out (KB.below hbx (Nat.le_refl _)) (fun k h => ⟨h.1, by omega⟩) k0 k1 (by omega) (by omega) HCR.out)
      have KBh := Lib.hid (KB.refl (fun k => B ≤ k ∧ k < w.heap.size) wdxxxx)
      clear k0 k1 HF2 n0 n1
      have HXdxxxx := Lib.hid (HXdxxx.out.next hbx)
      have swdxxxx : w.heap.size ≤ wdxxxx.heap.size := HXdxxxx.out.bel.size
      have KAxx := Lib.hid (KAx.out.trans (KB.below hbx (Nat.le_refl _)))
      clear KAx
      clear hbx HXdxxx
      refine hK.out _ _ (HXdxxxx.out) (fun hS => ?_)
      clear hK K
      refine wpAnyH_ready (rs := [6]) (by kernel_rfl) (by simp) ?_
      refine AllReadyH.cons rfl (fun K hK => ?_) AllReadyH.nil
      go_simp
      go_wp2_with fail
      refine (mkcheap_any 162 _ 162 _ wdxxxx).mono ?_
      rintro e wdxxxxx ⟨g1, g2, rfl, k0, k1, n0, n1, hbx⟩
      have RC := Lib.hid ((runX_cheap (X := fun k => B ≤ k ∧ k < w.heap.size) RA.out (KAxx.out.trans (KB.below hbx (Nat.le_refl _))) (fun _ h => h) RB.out (KBh.out.trans (KB.below hbx (Nat.le_refl _))) (fun _ h => h) k0 k1 (by omega) (by omega)).congr HEQ.out)
      clear k0 k1 n0 n1 RA RB KAxx KBh
      have HXdxxxxx := Lib.hid (HXdxxxx.out.next hbx)
      have swdxxxxx : w.heap.size ≤ wdxxxxx.heap.size := HXdxxxxx.out.bel.size
      clear hbx HXdxxxx
      refine hK.out _ _ (HXdxxxxx.out) (fun hS => ?_)
      clear hK K
      refine wpAnyH_take (i := 7) (v := ?_) rfl (by kernel_rfl) (by kernel_rfl) (by kernel_rfl) (fun _ _ _ h => h) (Yields.yieldsIf (Or.inl ⟨by kernel_rfl, ?_⟩)) hS ?_
      rotate_left
      · first | (intro w; go_simp; done) | (intro w; go_simp; with_reducible rfl)
      try go_simp
      refine wpAnyH_done (by kernel_rfl) ?_ _
      go_wp2
      go_ret
      exact ⟨_, rfl, RC.out, HXdxxxxx.out.bel⟩

set_option maxRecDepth 100000 in
set_option maxHeartbeats 6400000 in
theorem grower_leaf (A : Option Addr) (c : Nat) (w : World) (B : Nat) : Calls Tryz.prog 38 #[I.tv true A 0 c] w (RunA B okN (growT (.leaf true)) w) := by
  have hb0 : Below w.heap.size w (w.alloc (.cells #[.bool true, .slice A 0 c] 24)) := (Below.refl _ w).alloc (Nat.le_refl _) _
  have ho := sone_any (.leaf true) (I.tv true A 0 c) (w.alloc (.cells #[.bool true, .slice A 0 c] 24)) (B := 0) ⟨A, c, rfl⟩
  rw [show one (.leaf true) = true from rfl] at ho
  unfold I.tv at *
  go_enter Tryz.func38, Tryz.ntmps38
  go_wp2_with fail
  refine ho.mono ?_
  rintro e w1 ⟨rfl, hb1⟩
  have HB : Hid (Below w.heap.size w w1) := hb0.trans (hb1.mono hb0.size)
  clear hb1 hb0 ho
  go_wp2
  go_ret
  refine ⟨_, rfl, ⟨84, #[], rfl, enter63, fun W e v _ ht ho => ?_⟩, HB.out⟩
  rw [growT]
  exact growI_any e v W ht (okN_N ho).1 (okN_N ho).2
set_option maxRecDepth 100000 in
set_option maxHeartbeats 6400000 in
theorem grower_node {l r : I.Tr} (ihl : zero l = false → GrowerOk l) (ihr : zero r = false → GrowerOk r) (hz : ¬ (zero l = true ∧ zero r = true)) (hd : (I.Tr.node l r).depth ≤ 1000000) : GrowerOk (.node l r) := by
  intro v w B hi hB
  have hcl : ∀ e, (growT l e).2.2 ≤ 1000000 := fun e => by have := (grow_cost _ l e (Nat.le_refl _)).2; simp only [I.Tr.depth] at hd; omega
  have hcr : ∀ e, (growT r e).2.2 ≤ 1000000 := fun e => by have := (grow_cost _ r e (Nat.le_refl _)).2; simp only [I.Tr.depth] at hd; omega
  have hcn : ∀ e, (growT (.node l r) e).2.1 ≤ 1000000 := fun e => by have := (grow_cost _ (.node l r) e (Nat.le_refl _)).1; omega
  have hi0 := hi
  obtain ⟨b, off, c, rfl, hbB, ⟨ol, Al, nl, cl, i2, i3, il⟩, ⟨or', Ar, nr, cr, i4, i5, ir⟩⟩ := hi0
  have HX0 := Lib.hid ((SX.begin w).two (.bool false) (.slice (some ⟨b, off, none⟩) 2 c) 24)
  simp only [List.nil_append] at HX0
  have ho := sone_any (.node l r) (I.tv false (some ⟨b, off, none⟩) 2 c) (w.alloc (.cells #[.bool false, .slice (some ⟨b, off, none⟩) 2 c] 24)) (hi.below (HX0.out.bel.mono hB))
  rw [show one (.node l r) = false from rfl] at ho
  have hs0 : w.heap.size < (w.alloc (.cells #[.bool false, .slice (some ⟨b, off, none⟩) 2 c] 24)).heap.size := by simp
  have lb : b < w.heap.size := by omega
  have HO : Hid (∀ W, Below w.heap.size w W → W.cell? ⟨b, off, none⟩ = some (.bool ol) ∧ W.cell? ⟨b, off + 1, none⟩ = some (.slice Al nl cl) ∧ W.cell? ⟨b, off + 2, none⟩ = some (.bool or') ∧ W.cell? ⟨b, off + 3, none⟩ = some (.slice Ar nr cr)) :=
    fun W hb => ⟨(hb.cell lb).trans i2, (hb.cell lb).trans i3, (hb.cell lb).trans i4, (hb.cell lb).trans i5⟩
  have IL := Lib.hid il
  have IR := Lib.hid ir
  have HIN := Lib.hid (fun u v w B => inner_any ihl ihr hz hcl hcr u v w B)
  have HCN := Lib.hid hcn
  clear hi i2 i3 i4 i5 il ir ihl ihr hz hcl hcr hcn hd
  unfold I.tv at ho ⊢
  go_enter Tryz.func38, Tryz.ntmps38
  go_wp2_with fail
  refine ho.mono ?_
  rintro e w1 ⟨rfl, hb1⟩
  have HX1 := Lib.hid (HX0.out.next hb1)
  have s1 : w.heap.size < w1.heap.size := Nat.lt_of_lt_of_le hs0 hb1.size
  clear hb1 ho HX0 hs0
  go_upto_region 3 with fail
  go_cut [3] (fun s3 wx => ∃ (g : Nat) (F : Value) (W1 : World) (X1 : Nat → Prop), s3 = .pointer (some ⟨g, 0, none⟩) ∧ w.heap.size ≤ g ∧ wx.cell? ⟨g, 0, none⟩ = some F ∧ RunX X1 W1 okD (innF l r) F ∧ KB X1 W1 wx ∧ (∀ k, B ≤ k ∧ k < w.heap.size → X1 k) ∧ Below w.heap.size w wx)
  case first =>
    refine wp_region_held_drew (S := fun W => SX w [(w.heap.size, 0, .bool false), (w.heap.size, 1, .slice (some ⟨b, off, none⟩) 2 c)] [(w.heap.size, 2)] [] [] W) (by kernel_rfl) ((HX1.out.drew).sub0 (by simp) (by simp)) (fun hS => ?_)
    have HXd := Lib.hid (HX1.out.drew)
    have sd : w.heap.size < w1.drew.heap.size := by simpa using s1
    clear HX1
    generalize w1.drew = wd at *
    refine wpAnyH_take (i := 0) (v := ?_) rfl (by kernel_rfl) (by kernel_rfl) (by kernel_rfl) (fun _ _ _ h => h) (Yields.yieldsIf (Or.inl ⟨by kernel_rfl, ?_⟩)) hS ?_
    rotate_left
    · first | (intro w; go_simp; done) | (intro w; go_simp; with_reducible rfl)
    refine wpAnyH_take (i := 1) (v := ?_) rfl (by kernel_rfl) (by kernel_rfl) (by kernel_rfl) (fun _ _ _ h => h) (Or.inl ⟨by kernel_rfl, fun W hW => ?_⟩) hS ?_
    rotate_left
    · obtain ⟨a0, a1, a2, a3⟩ := HO.out W hW.bel
      have f := hW.at0
      simp only [List.mem_cons, List.not_mem_nil, or_false, forall_eq_or_imp, forall_eq] at f
      obtain ⟨p0, p1⟩ := f
      first | (go_simp; done) | (go_simp; with_reducible rfl)
    refine wpAnyH_take (i := 2) (v := ?_) rfl (by kernel_rfl) (by kernel_rfl) (by kernel_rfl) (fun _ _ _ h => h) (Yields.yieldsIf (Or.inl ⟨by kernel_rfl, ?_⟩)) hS ?_
    rotate_left
    · first | (intro w; go_simp; done) | (intro w; go_simp; with_reducible rfl)
    refine wpAnyH_take (i := 3) (v := ?_) rfl (by kernel_rfl) (by kernel_rfl) (by kernel_rfl) (fun _ _ _ h => h) (Or.inl ⟨by kernel_rfl, fun W hW => ?_⟩) hS ?_
    rotate_left
    · obtain ⟨a0, a1, a2, a3⟩ := HO.out W hW.bel
      have f := hW.at0
      simp only [List.mem_cons, List.not_mem_nil, or_false, forall_eq_or_imp, forall_eq] at f
      obtain ⟨p0, p1⟩ := f
      first | (go_simp; done) | (go_simp; with_reducible rfl)
    refine wpAnyH_take (i := 4) (v := ?_) rfl (by kernel_rfl) (by kernel_rfl) (by kernel_rfl) (fun _ _ _ h => h) (Yields.yieldsIf (Or.inl ⟨by kernel_rfl, ?_⟩)) hS ?_
    rotate_left
    · first | (intro w; go_simp; done) | (intro w; go_simp; with_reducible rfl)
    refine wpAnyH_take (i := 5) (v := ?_) rfl (by kernel_rfl) (by kernel_rfl) (by kernel_rfl) (fun _ _ _ h => h) (Or.inl ⟨by kernel_rfl, fun W hW => ?_⟩) hS ?_
    rotate_left
    · obtain ⟨a0, a1, a2, a3⟩ := HO.out W hW.bel
      have f := hW.at0
      simp only [List.mem_cons, List.not_mem_nil, or_false, forall_eq_or_imp, forall_eq] at f
      obtain ⟨p0, p1⟩ := f
      first | (go_simp; done) | (go_simp; with_reducible rfl)
    refine wpAnyH_take (i := 6) (v := ?_) rfl (by kernel_rfl) (by kernel_rfl) (by kernel_rfl) (fun _ _ _ h => h) (Yields.yieldsIf (Or.inl ⟨by kernel_rfl, ?_⟩)) hS ?_
    rotate_left
    · first | (intro w; go_simp; done) | (intro w; go_simp; with_reducible rfl)
    refine wpAnyH_take (i := 7) (v := ?_) rfl (by kernel_rfl) (by kernel_rfl) (by kernel_rfl) (fun _ _ _ h => h) (Or.inl ⟨by kernel_rfl, fun W hW => ?_⟩) hS ?_
    rotate_left
    · obtain ⟨a0, a1, a2, a3⟩ := HO.out W hW.bel
      have f := hW.at0
      simp only [List.mem_cons, List.not_mem_nil, or_false, forall_eq_or_imp, forall_eq] at f
      obtain ⟨p0, p1⟩ := f
      first | (go_simp; done) | (go_simp; with_reducible rfl)
    refine wpAnyH_ready (rs := [8, 9]) (by kernel_rfl) (by simp) ?_
    refine AllReadyH.cons rfl (fun K hK => ?_) (AllReadyH.cons rfl (fun K hK => ?_) AllReadyH.nil)
    · have hcall := HIN.out (I.tv ol Al nl cl) (I.tv or' Ar nr cr) wd B (IL.out.below (HXd.out.bel.mono hB)) (IR.out.below (HXd.out.bel.mono hB)) (Nat.le_trans hB HXd.out.bel.size)
      unfold I.tv at hcall
      go_simp
      go_wp2_with fail
      refine hcall.mono ?_
      rintro e wdx ⟨F, rfl, hF, hbx⟩
      obtain ⟨fn, caps, rfl, en, cal⟩ := hF
      have HF : Hid (RunX (fun k => B ≤ k ∧ k < wd.heap.size) wdx okD (innF l r) (.func (.func fn) #[] caps)) := ⟨fn, caps, rfl, en, cal⟩
      have KK := Lib.hid (KB.refl (fun k => B ≤ k ∧ k < wd.heap.size) wdx)
      have HXdx := Lib.hid (HXd.out.next hbx)
      have szwdx : wd.heap.size ≤ wdx.heap.size := hbx.size
      clear hcall en cal hbx HXd
      refine hK.out _ _ (HXdx.out.sub0 (by simp) (by simp)) (fun hS => ?_)
      clear hK K
      refine wpAnyH_ready (rs := [9]) (by kernel_rfl) (by simp) ?_
      refine AllReadyH.cons rfl (fun K hK => ?_) AllReadyH.nil
      go_simp
      go_wp2
      have HXdxx' := HXdx.out.one .nilFunc 60
      have HXdxx := Lib.hid HXdxx'
      clear HXdxx' HXdx
      simp only [List.nil_append, List.cons_append] at HXdxx
      have KKx := Lib.hid (KK.out.alloc (.cells #[.nilFunc] 60))
      clear KK
      refine hK.out _ _ (HXdxx.out.sub0 (by simp) (by simp)) (fun hS => ?_)
      clear hK K
      have szwdxx : wdx.heap.size < (wdx.alloc (.cells #[.nilFunc] 60)).heap.size := by simp
      generalize wdx.alloc (.cells #[.nilFunc] 60) = wdxx at *
      refine wpAnyH_ready (rs := [10]) (by kernel_rfl) (by simp) ?_
      refine AllReadyH.cons rfl (fun K hK => ?_) AllReadyH.nil
      obtain ⟨y0, k0, k2⟩ := HXdxx.out.facts1 (wdx.heap.size) (by simp)
      go_simp
      go_wp2
      have HXdxxx := Lib.hid ((HXdxx.out.sub0 (bs' := [(w.heap.size, 0, .bool false), (w.heap.size, 1, .slice (some ⟨b, off, none⟩) 2 c)]) (rs' := [(w.heap.size, 2), (wdx.heap.size, 1)]) (by simp) (by simp)).set1 (wdx.heap.size) (.func (.func fn) #[] caps) (by simp) (by simp only [List.mem_cons, List.not_mem_nil, or_false, forall_eq_or_imp, forall_eq]; omega) (by simp; omega))
      have KZ := Lib.hid (KKx.out.put (p := ⟨wdx.heap.size, 0, none⟩) (by show (_ ≤ wdx.heap.size ∧ wdx.heap.size < _) ∨ _ ≤ wdx.heap.size; omega) (.func (.func fn) #[] caps))
      clear k0 k2 HXdxx KKx
      refine hK.out _ _ (HXdxxx.out.sub0 (by simp) (by simp)) (fun hS => ?_)
      clear hK K
      generalize wdxx.setCell ⟨wdx.heap.size, 0, none⟩ (.func (.func fn) #[] caps) = wdxxx at *
      try go_simp
      refine wpAnyH_done (by kernel_rfl) ?_ _
      go_wp2_with fail
      go_meet
      exact ⟨wdx.heap.size, (.func (.func fn) #[] caps), _, _, rfl, by omega, HXdxxx.out.get (by simp), HF.out, KZ.out, fun k h => ⟨h.1, by omega⟩, HXdxxx.out.bel⟩
    · go_simp
      go_wp2
      have HXdx' := HXd.out.one .nilFunc 60
      have HXdx := Lib.hid HXdx'
      clear HXdx' HXd
      simp only [List.nil_append, List.cons_append] at HXdx
      refine hK.out _ _ (HXdx.out.sub0 (by simp) (by simp)) (fun hS => ?_)
      clear hK K
      have szwdx : wd.heap.size < (wd.alloc (.cells #[.nilFunc] 60)).heap.size := by simp
      generalize wd.alloc (.cells #[.nilFunc] 60) = wdx at *
      refine wpAnyH_ready (rs := [8]) (by kernel_rfl) (by simp) ?_
      refine AllReadyH.cons rfl (fun K hK => ?_) AllReadyH.nil
      have hcall := HIN.out (I.tv ol Al nl cl) (I.tv or' Ar nr cr) wdx B (IL.out.below (HXdx.out.bel.mono hB)) (IR.out.below (HXdx.out.bel.mono hB)) (Nat.le_trans hB HXdx.out.bel.size)
      unfold I.tv at hcall
      go_simp
      go_wp2_with fail
      refine hcall.mono ?_
      rintro e wdxx ⟨F, rfl, hF, hbx⟩
      obtain ⟨fn, caps, rfl, en, cal⟩ := hF
      have HF : Hid (RunX (fun k => B ≤ k ∧ k < wdx.heap.size) wdxx okD (innF l r) (.func (.func fn) #[] caps)) := ⟨fn, caps, rfl, en, cal⟩
      have KK := Lib.hid (KB.refl (fun k => B ≤ k ∧ k < wdx.heap.size) wdxx)
      have HXdxx := Lib.hid (HXdx.out.next hbx)
      have szwdxx : wdx.heap.size ≤ wdxx.heap.size := hbx.size
      clear hcall en cal hbx HXdx
      refine hK.out _ _ (HXdxx.out.sub0 (by simp) (by simp)) (fun hS => ?_)
      clear hK K
      refine wpAnyH_ready (rs := [10]) (by kernel_rfl) (by simp) ?_
      refine AllReadyH.cons rfl (fun K hK => ?_) AllReadyH.nil
      obtain ⟨y0, k0, k2⟩ := HXdxx.out.facts1 (wd.heap.size) (by simp)
      go_simp
      go_wp2
      have HXdxxx := Lib.hid ((HXdxx.out.sub0 (bs' := [(w.heap.size, 0, .bool false), (w.heap.size, 1, .slice (some ⟨b, off, none⟩) 2 c)]) (rs' := [(w.heap.size, 2), (wd.heap.size, 1)]) (by simp) (by simp)).set1 (wd.heap.size) (.func (.func fn) #[] caps) (by simp) (by simp only [List.mem_cons, List.not_mem_nil, or_false, forall_eq_or_imp, forall_eq]; omega) (by simp; omega))
      have KZ := Lib.hid (KK.out.put (p := ⟨wd.heap.size, 0, none⟩) (by show (_ ≤ wd.heap.size ∧ wd.heap.size < _) ∨ _ ≤ wd.heap.size; omega) (.func (.func fn) #[] caps))
      clear k0 k2 HXdxx KK
      refine hK.out _ _ (HXdxxx.out.sub0 (by simp) (by simp)) (fun hS => ?_)
      clear hK K
      generalize wdxx.setCell ⟨wd.heap.size, 0, none⟩ (.func (.func fn) #[] caps) = wdxxx at *
      try go_simp
      refine wpAnyH_done (by kernel_rfl) ?_ _
      go_wp2_with fail
      go_meet
      exact ⟨wd.heap.size, (.func (.func fn) #[] caps), _, _, rfl, by omega, HXdxxx.out.get (by simp), HF.out, KZ.out, fun k h => ⟨h.1, by omega⟩, HXdxxx.out.bel⟩
  case rest =>
  obtain ⟨g, F, W1, X1, rfl, ng, k0, hF, hK, hx, hb⟩ := hcut
  have HR := Lib.hid (runX_grow (X := fun k => B ≤ k ∧ k < w.heap.size) hF hK hx k0 (by omega) HCN.out)
  have HB := Lib.hid hb
  clear hF hK hx hb k0 HX1
  go_wp2
  go_ret
  exact ⟨_, rfl, HR.out, HB.out⟩
theorem grower_any : ∀ (i : I.Tr), i.depth ≤ 1000000 → Nz i → zero i = false → GrowerOk i
  | .leaf true, _, _, _ => fun v w B h _ => by
    obtain ⟨A, c, rfl⟩ := h
    exact grower_leaf A c w B
  | .leaf false, _, _, h => by simp [zero] at h
  | .node l r, hd, hz, _ => grower_node (fun h => grower_any l (by simp only [I.Tr.depth] at hd; omega) hz.1 h) (fun h => grower_any r (by simp only [I.Tr.depth] at hd; omega) hz.2.1 h) hz.2.2 hd
end Go.Proofs.YtoaglkjpjolacaaGreatDoor.S
