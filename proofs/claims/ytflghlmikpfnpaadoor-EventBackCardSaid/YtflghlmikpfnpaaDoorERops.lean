/-
  The reference's Norm, Ends, Leq, Join, Same of trees that are handed in.
-/
import Derived.Test.YtflghlmikpfnpaaDoorERTree
import Derived.Test.YtflghlmikpfnpaaDoorEBoth
import Derived.Test.YtflghlmikpfnpaaDoorEEqual
import Derived.Test.YtflghlmikpfnpaaDoorEOps
namespace Go.Proofs.YtflghlmikpfnpaaDoor.E
open Go.RowKit

/-- What a right tree's steps are. -/
structure Mean (t : Tr) (l : List St) : Prop where
  seg : Seg 0 l 4294967296
  cov : Tr.Cov (cnt l) t 32 0 0
  inb : InB l
  len : l.length ≤ 2047
theorem mean_of {t : Tr} (h : okT t = true) : Mean t (stepsT t 0 4294967296 0) := by
  obtain ⟨h1, h2, h3⟩ := (okT_iff t).1 h
  refine ⟨?_, ?_, ?_, Nat.le_trans (steps_len t 0 4294967296 0) h3⟩
  · have := steps_seg t 32 0 0 h1
    simpa using this
  · exact steps_cov t 32 0 0 h1
  · exact steps_in t 0 4294967296 0 (by omega) h2
theorem sea_val : ∀ {a e : Nat} {l : List St}, Sea a l e → ∀ r ∈ l, r.1 ≤ e
  | _, _, [], _, r, hr => by cases hr
  | a, e, (t, c) :: l, h, r, hr => by
    rcases List.mem_cons.1 hr with rfl | hr
    · exact h.2.le
    · exact sea_val h.2 r hr
theorem Mean.val {t : Tr} {l : List St} (h : Mean t l) : ∀ r ∈ l, r.1 ≤ 1000000000000 := fun r hr => by have := sea_val h.seg.sea r hr; omega
theorem Mean.hd {t : Tr} {l : List St} (h : Mean t l) : ∃ c0, l[0]? = some c0 := by
  cases l with
  | nil => have : (0 : Nat) = 4294967296 := h.seg; omega
  | cons c r => exact ⟨c, rfl⟩
theorem Mean.norm {t : Tr} {l : List St} (h : Mean t l) : Tr.bld (cnt l) 32 0 = t.norm := by
  rw [Tr.bld_norm t 32 0 0 h.cov, Tr.add_zero]
theorem cov_ends {f : Nat → Int} : ∀ (t : Tr) (k a : Nat) (s : Int), Tr.Cov f t k a s → Tr.lo f k a = s + low t ∧ Tr.hi f k a = s + high t
  | .leaf n, k, a, s, h => by
    obtain ⟨p, h1, h2, h3⟩ := Tr.lo_at f k a
    obtain ⟨q, g1, g2, g3⟩ := Tr.hi_at f k a
    rw [← h3, ← g3, h p h1 h2, h q g1 g2]; exact ⟨rfl, rfl⟩
  | .node _ _ _, 0, _, _, h => h.elim
  | .node n l r, k + 1, a, s, ⟨h1, h2⟩ => by
    have i1 := cov_ends l k a _ h1
    have i2 := cov_ends r k _ _ h2
    simp only [Tr.lo, Tr.hi, low, high]
    omega
theorem Mean.ends {t : Tr} {l : List St} (h : Mean t l) {c0 : St} (h0 : l[0]? = some c0) : minL l c0.2 = low t ∧ maxL l c0.2 = high t := by
  have hs : Seg 0 l (0 + 2 ^ 32) := by simpa using h.seg
  obtain ⟨e1, e2⟩ := seg_ends hs h0
  obtain ⟨e3, e4⟩ := cov_ends t 32 0 0 h.cov
  omega
theorem Mean.ta {t : Tr} {l : List St} (h : Mean t l) {w : World} {A : Option Addr} (hr : RowR w w.heap.size A l) : TA w 32 A l 0 4294967296 4294967296 :=
  ⟨rfl, by omega, hr, by have := h.len; omega, h.seg.sea, by omega, h.val, h.inb⟩
theorem cov_leq {f g : Nat → Int} : ∀ (k s : Nat) (a b : Tr) (x y : Int), Tr.Cov f a k s x → Tr.Cov g b k s y → (leqT a b x y = true ↔ ∀ p, s ≤ p → p < s + 2 ^ k → f p ≤ g p) := by
  intro k
  induction k with
  | zero =>
    intro s a b x y ha hb
    cases a with
    | node _ _ _ => exact ha.elim
    | leaf n =>
      cases b with
      | node _ _ _ => exact hb.elim
      | leaf m =>
        simp only [Tr.Cov] at ha hb
        show decide (x + n ≤ y + m) = true ↔ _
        rw [decide_eq_true_iff]
        constructor
        · intro h p h1 h2; rw [ha p h1 h2, hb p h1 h2]; exact h
        · intro h; have := h s (Nat.le_refl _) (by simp); rw [ha s (Nat.le_refl _) (by simp), hb s (Nat.le_refl _) (by simp)] at this; exact this
  | succ k ih =>
    intro s a b x y ha hb
    have hp := Nat.two_pow_pos k
    cases a with
    | leaf n =>
      have hlo := (cov_ends b (k + 1) s y hb).1
      simp only [Tr.Cov] at ha
      simp only [leqT, decide_eq_true_eq]
      rw [← hlo]
      constructor
      · intro h p h1 h2; rw [ha p h1 h2]; have := Tr.lo_le g (k + 1) s p h1 h2; omega
      · intro h; obtain ⟨p, h1, h2, h3⟩ := Tr.lo_at g (k + 1) s; have := h p h1 h2; rw [ha p h1 h2] at this; omega
    | node n l r =>
      cases b with
      | leaf m =>
        have hhi := (cov_ends (.node n l r) (k + 1) s x ha).2
        simp only [Tr.Cov] at hb
        simp only [leqT, decide_eq_true_eq]
        rw [← hhi]
        constructor
        · intro h p h1 h2; rw [hb p h1 h2]; have := Tr.le_hi f (k + 1) s p h1 h2; omega
        · intro h; obtain ⟨p, h1, h2, h3⟩ := Tr.hi_at f (k + 1) s; have := h p h1 h2; rw [hb p h1 h2] at this; omega
      | node m c d =>
        rw [leqT, Bool.and_eq_true_iff, ih s l c _ _ ha.1 hb.1, ih (s + 2 ^ k) r d _ _ ha.2 hb.2, Nat.pow_succ]
        constructor
        · rintro ⟨h1, h2⟩ p p1 p2
          by_cases hq : p < s + 2 ^ k
          · exact h1 p p1 hq
          · exact h2 p (by omega) (by omega)
        · intro h
          exact ⟨fun p p1 p2 => h p p1 (by omega), fun p p1 p2 => h p (by omega) (by omega)⟩
/-- Two trees' steps together. -/
structure Both (a b : Tr) (l m : List St) : Prop where
  seg : Seg 0 (bothS l m) 4294967296
  bld : Tr.bld (cnt (bothS l m)) 32 0 = Tr.join a b 0 0
  leq : bothL l m true = leqT a b 0 0
  inb : InB (bothS l m)
  len : (bothS l m).length ≤ 4094
theorem both_of {a b : Tr} {l m : List St} (ha : Mean a l) (hb : Mean b m) : Both a b l m := by
  obtain ⟨h1, h2, h3⟩ := both_seg (l.length + m.length + 1) l m 0 4294967296 (by omega) ha.seg hb.seg
  obtain ⟨h4, h5⟩ := both_mem (l.length + m.length + 1) l m (by omega) ha.inb hb.inb
  refine ⟨h1, ?_, ?_, h4, by have := ha.len; have := hb.len; omega⟩
  · rw [← Tr.bld_join 32 0 a b 0 0 ha.cov hb.cov]
    exact Tr.bld_congr 32 0 fun p p1 p2 => h2 p p1 (by simpa using p2)
  · rw [Bool.eq_iff_iff, h3, cov_leq 32 0 a b 0 0 ha.cov hb.cov]
    constructor
    · rintro ⟨_, h⟩ p p1 p2; exact h p p1 (by simpa using p2)
    · intro h; exact ⟨rfl, fun p p1 p2 => h p p1 (by simpa using p2)⟩
theorem Both.ta {a b : Tr} {l m : List St} (h : Both a b l m) {w : World} {A : Option Addr} (hr : RowR w w.heap.size A (bothS l m)) : TA w 32 A (bothS l m) 0 4294967296 4294967296 :=
  ⟨rfl, by omega, hr, by have := h.len; omega, h.seg.sea, by omega, (fun r hr => by have := sea_val h.seg.sea r hr; omega), h.inb⟩

set_option maxRecDepth 100000 in
set_option maxHeartbeats 1600000 in
theorem rnorm_arg {w : World} {T : Option Tr} {v : Value} (h : Arg w T v) : Calls Tryd.prog 13 #[v] w (Ans (normR T) w) := by
  obtain ⟨o, A, n, c, rfl⟩ := h.form
  have HA := Lib.hid h
  have HX := Lib.hid (((XS.begin w).boxed (.int .i64 o) (.slice A n c) 24).fresh (.int .i64 0) (.slice none 0 0) 24)
  simp only [List.nil_append, List.cons_append, World.size_alloc] at HX
  have hc1 := rright_arg (h.up HX.out.bel)
  unfold tv at *
  clear h
  cases T with
  | none =>
    go_enter Tryd.func13, Tryd.ntmps13
    go_wp2_with fail
    refine hc1.mono ?_
    rintro e w1 ⟨rfl, hb1⟩
    have HX1 := Lib.hid (HX.out.next hb1)
    clear hb1 hc1 HX
    obtain ⟨u0, u1, ⟨c0, c1'⟩, f0, f1⟩ := HX1.out.facts (w.heap.size + 1) (by simp)
    have HFIN : Hid (∀ u1 u2, InP (fun _ => False) ((w1.setCell ⟨w.heap.size + 1, 0, none⟩ u1).setCell ⟨w.heap.size + 1, 1, none⟩ u2) (.leaf 0) (tv 0 none 0 0) ∧ Below w.heap.size w ((w1.setCell ⟨w.heap.size + 1, 0, none⟩ u1).setCell ⟨w.heap.size + 1, 1, none⟩ u2)) := fun u1 u2 => HX1.out.fin (P := fun _ => False) (t := .leaf 0) (x := tv 0 none 0 0) _ (by simp) ⟨none, 0, rfl⟩ _ _
    clear HX1
    go_wp2
    refine bodyPost_ret (v := .tuple #[tv 0 none 0 0, .int .i64 2]) (by simp [results, Tryd.f13, go_sem, tv, c0, c1']) rfl ?_
    exact ⟨_, rfl, (HFIN.out _ _).1.more fun _ h => h.elim, (HFIN.out _ _).2⟩
  | some t =>
    have hok := HA.out.inT.2
    have hme := mean_of hok
    go_enter Tryd.func13, Tryd.ntmps13
    go_wp2_with fail
    refine hc1.mono ?_
    rintro e w1 ⟨rfl, hb1⟩
    have HX1 := Lib.hid (HX.out.next hb1)
    clear hb1 hc1 HX
    have f := HX1.out.at0
    simp only [List.mem_cons, List.not_mem_nil, or_false, forall_eq_or_imp, forall_eq] at f
    obtain ⟨p0, p1⟩ := f
    have hc2 := means_any t _ w1 hok (HA.out.up HX1.out.bel).inT.1
    obtain ⟨l, hl⟩ : ∃ l, stepsT t 0 4294967296 0 = l := ⟨_, rfl⟩
    rw [hl] at hc2 hme
    have HM := Lib.hid hme
    clear hok hl hme
    go_wp2_with fail
    refine hc2.mono ?_
    rintro e w2 ⟨A2, c2, rfl, hg2, hb2, _⟩
    have HX2 := Lib.hid (HX1.out.next hb2)
    have hc3 := tree_any 32 A2 c2 l 0 4294967296 4294967296 0 w2 (HM.out.ta hg2.row) (by omega) (by omega)
    rw [HM.out.norm] at hc3
    simp only [Int.neg_zero, Tr.add_zero, Int.natCast_zero] at hc3
    clear hc2 hb2 hg2 HX1 p0 p1
    go_wp2_with fail
    refine hc3.mono ?_
    rintro e w3 ⟨v3, rfl, ht3, hb3⟩
    obtain ⟨A3, n3, c3, rfl⟩ := ht3.form
    have HX3 := Lib.hid (HX2.out.next hb3)
    have HT3 : Hid (InP (New w w3) w3 t.norm (tv t.norm.N A3 n3 c3)) := ht3.more fun b hb => ⟨Nat.le_trans HX2.out.bel.size hb.1, hb.2⟩
    have HNR : Hid (normR (some t) = (t.norm, 0)) := rfl
    obtain ⟨z, hz⟩ : ∃ z, t.norm.N = z := ⟨_, rfl⟩
    rw [hz] at HT3 ⊢
    clear hb3 ht3 hc3 HX2 hz
    obtain ⟨u0, u1, ⟨c0, c1'⟩, f0, f1⟩ := HX3.out.facts (w.heap.size + 1) (by simp)
    have HFIN : Hid (∀ u1 u2, InP (New w w3) ((w3.setCell ⟨w.heap.size + 1, 0, none⟩ u1).setCell ⟨w.heap.size + 1, 1, none⟩ u2) t.norm (tv z A3 n3 c3) ∧ Below w.heap.size w ((w3.setCell ⟨w.heap.size + 1, 0, none⟩ u1).setCell ⟨w.heap.size + 1, 1, none⟩ u2)) := fun u1 u2 => HX3.out.fin (w.heap.size + 1) (by simp) HT3.out _ _
    clear HX3 HT3
    unfold tv
    go_wp2
    refine bodyPost_ret (v := .tuple #[tv z A3 n3 c3, .int .i64 0]) (by simp [results, Tryd.f13, go_sem, tv, c0, c1']) rfl ?_
    rw [HNR.out]
    exact ⟨_, rfl, (HFIN.out _ _).1.more fun b hb => ⟨hb.1, by rw [size_set, size_set]; exact hb.2⟩, (HFIN.out _ _).2⟩

set_option maxRecDepth 100000 in
set_option maxHeartbeats 1600000 in
theorem rends_arg {w : World} {T : Option Tr} {v : Value} (h : Arg w T v) : Calls Tryd.prog 15 #[v] w fun e w' => e = .returned (endsR T) ∧ Below w.heap.size w w' := by
  obtain ⟨o, A, n, c, rfl⟩ := h.form
  have HA := Lib.hid h
  have HX := Lib.hid ((XS.begin w).boxed (.int .i64 o) (.slice A n c) 24)
  simp only [List.nil_append] at HX
  have hc1 := rright_arg (h.up HX.out.bel)
  unfold tv at *
  clear h
  cases T with
  | none =>
    go_enter Tryd.func15, Tryd.ntmps15
    go_wp2_with fail
    refine hc1.mono ?_
    rintro e w1 ⟨rfl, hb1⟩
    have HX1 := Lib.hid (HX.out.next hb1)
    clear hb1 hc1 HX
    go_wp2
    refine bodyPost_ret (results_tmp3 rfl _ _ _) rfl ?_
    exact ⟨rfl, HX1.out.bel⟩
  | some t =>
    have hok := HA.out.inT.2
    have hme := mean_of hok
    go_enter Tryd.func15, Tryd.ntmps15
    go_wp2_with fail
    refine hc1.mono ?_
    rintro e w1 ⟨rfl, hb1⟩
    have HX1 := Lib.hid (HX.out.next hb1)
    clear hb1 hc1 HX
    have f := HX1.out.at0
    simp only [List.mem_cons, List.not_mem_nil, or_false, forall_eq_or_imp, forall_eq] at f
    obtain ⟨p0, p1⟩ := f
    have hc2 := means_any t _ w1 hok (HA.out.up HX1.out.bel).inT.1
    obtain ⟨l, hl⟩ : ∃ l, stepsT t 0 4294967296 0 = l := ⟨_, rfl⟩
    rw [hl] at hc2 hme
    obtain ⟨c0, hc0⟩ := hme.hd
    have hen := hme.ends hc0
    have hll := hme.len
    have HE : Hid (endsR (some t) = .tuple #[.int .i64 (low t), .int .i64 (high t), .int .i64 0]) := rfl
    clear hok hl hme
    go_wp2_with fail
    refine hc2.mono ?_
    rintro e w2 ⟨A2, c2, rfl, hg2, hb2, _⟩
    have HX2 := Lib.hid (HX1.out.next hb2)
    have hc3 := least_any A2 c2 l c0 w2 hg2.row (by omega) hc0
    have hc4 := greatest_any A2 c2 l c0 w2 hg2.row (by omega) hc0
    rw [hen.1] at hc3
    rw [hen.2] at hc4
    generalize low t = L at *
    generalize high t = M at *
    clear hc2 hb2 hg2 HX1 p0 p1 hen hc0
    go_wp2_with fail
    refine hc3.mono ?_
    rintro e w3 ⟨rfl, rfl⟩
    go_wp2_with fail
    refine hc4.mono ?_
    rintro e w3 ⟨rfl, rfl⟩
    clear hc3 hc4
    go_wp2
    refine bodyPost_ret (results_tmp3 rfl _ _ _) rfl ?_
    exact ⟨by rw [HE.out]; rfl, HX2.out.bel⟩

set_option maxRecDepth 100000 in
set_option maxHeartbeats 3200000 in
theorem rleq_arg {w : World} {S T : Option Tr} {u v : Value} (hu : Arg w S u) (hv : Arg w T v) : Calls Tryd.prog 22 #[u, v] w fun e w' => e = .returned (.bool (leqO S T)) ∧ Below w.heap.size w w' := by
  obtain ⟨o1, A1, n1, c1, rfl⟩ := hu.form
  obtain ⟨o2, A2, n2, c2, rfl⟩ := hv.form
  have HA := Lib.hid hu
  have HB := Lib.hid hv
  have HX := Lib.hid (((XS.begin w).boxed (.int .i64 o1) (.slice A1 n1 c1) 24).boxed (.int .i64 o2) (.slice A2 n2 c2) 24)
  simp only [List.nil_append, List.cons_append, World.size_alloc] at HX
  have hc1 := rright_arg (hu.up HX.out.bel)
  unfold tv at *
  clear hu hv
  go_enter Tryd.func22, Tryd.ntmps22
  go_wp2_with fail
  refine hc1.mono ?_
  rintro e w1 ⟨rfl, hb1⟩
  have HX1 := Lib.hid (HX.out.next hb1)
  clear hb1 hc1 HX
  have f := HX1.out.at0
  simp only [List.mem_cons, List.not_mem_nil, or_false, forall_eq_or_imp, forall_eq] at f
  obtain ⟨p0, p1, p2, p3⟩ := f
  have hc2 := rright_arg (HB.out.up HX1.out.bel)
  go_wp2_with fail
  refine hc2.mono ?_
  rintro e w2 ⟨rfl, hb2⟩
  have HX2 := Lib.hid (HX1.out.next hb2)
  clear hb2 hc2 HX1 p0 p1 p2 p3
  have f := HX2.out.at0
  simp only [List.mem_cons, List.not_mem_nil, or_false, forall_eq_or_imp, forall_eq] at f
  obtain ⟨p0, p1, p2, p3⟩ := f
  cases S with
  | none =>
    go_wp2
    go_ret
    exact ⟨rfl, HX2.out.bel⟩
  | some a =>
    cases T with
    | none =>
      go_wp2
      go_ret
      exact ⟨rfl, HX2.out.bel⟩
    | some b =>
      have hoa := HA.out.inT.2
      have hob := HB.out.inT.2
      have hma := mean_of hoa
      have hmb := mean_of hob
      obtain ⟨la, hla⟩ : ∃ l, stepsT a 0 4294967296 0 = l := ⟨_, rfl⟩
      obtain ⟨lb, hlb⟩ : ∃ l, stepsT b 0 4294967296 0 = l := ⟨_, rfl⟩
      rw [hla] at hma
      rw [hlb] at hmb
      have HF : Hid (∀ W, XS w [(w.heap.size, 0, .int .i64 o1), (w.heap.size, 1, .slice A1 n1 c1), (w.heap.size + 1, 0, .int .i64 o2), (w.heap.size + 1, 1, .slice A2 n2 c2)] [w.heap.size, w.heap.size + 1] W → W.cell? ⟨w.heap.size, 0, none⟩ = some (.int .i64 o1) ∧ W.cell? ⟨w.heap.size, 1, none⟩ = some (.slice A1 n1 c1) ∧ W.cell? ⟨w.heap.size + 1, 0, none⟩ = some (.int .i64 o2) ∧ W.cell? ⟨w.heap.size + 1, 1, none⟩ = some (.slice A2 n2 c2)) := fun W hW => ⟨hW.get (by simp), hW.get (by simp), hW.get (by simp), hW.get (by simp)⟩
      have HCA : Hid (∀ W, Below w.heap.size w W → Calls Tryd.prog 37 #[.agg #[.int .i64 o1, .slice A1 n1 c1]] W (LaysR la W.heap.size W)) := fun W hW => by rw [← hla]; exact means_any a _ W hoa (HA.out.up hW).inT.1
      have HCB : Hid (∀ W, Below w.heap.size w W → Calls Tryd.prog 37 #[.agg #[.int .i64 o2, .slice A2 n2 c2]] W (LaysR lb W.heap.size W)) := fun W hW => by rw [← hlb]; exact means_any b _ W hob (HB.out.up hW).inT.1
      have HCO : Hid (∀ W A3 d3 A4 d4, RowR W W.heap.size A3 la → RowR W W.heap.size A4 lb → Calls Tryd.prog 46 #[.slice A3 la.length d3, .slice A4 lb.length d4] W fun e w' => ∃ A' c', e = .returned (.tuple #[.slice A' (bothS la lb).length c', .bool (bothL la lb true)]) ∧ GrR w' W.heap.size A' c' (bothS la lb) ∧ Below W.heap.size W w') := fun W A3 d3 A4 d4 h3 h4 => both_any A3 d3 la A4 d4 lb W h3 h4 (by have := hma.len; omega) (by have := hmb.len; omega) hma.val hmb.val
      have HBO := Lib.hid (both_of hma hmb)
      have hXD := HX2.out.drew
      clear hla hlb hma hmb hoa hob p0 p1 p2 p3 HX2
      go_wp2
      refine wp_region_held_drew (S := fun W => XS w [(w.heap.size, 0, .int .i64 o1), (w.heap.size, 1, .slice A1 n1 c1), (w.heap.size + 1, 0, .int .i64 o2), (w.heap.size + 1, 1, .slice A2 n2 c2)] [w.heap.size, w.heap.size + 1] W) (by kernel_rfl) hXD (fun hS => ?_)
      clear hXD
      generalize w2.drew = wd at hS ⊢
      refine wpAnyH_take (i := 0) (v := ?_) rfl (by kernel_rfl) (by kernel_rfl) (by kernel_rfl) (fun _ _ _ h => h) (Or.inl ⟨by kernel_rfl, fun W hW => ?_⟩) hS ?_
      rotate_left
      · obtain ⟨f0, f1, f2, f3⟩ := HF.out W hW
        first | (go_simp; done) | (go_simp; with_reducible rfl)
      refine wpAnyH_take (i := 2) (v := ?_) rfl (by kernel_rfl) (by kernel_rfl) (by kernel_rfl) (fun _ _ _ h => h) (Or.inl ⟨by kernel_rfl, fun W hW => ?_⟩) hS ?_
      rotate_left
      · obtain ⟨f0, f1, f2, f3⟩ := HF.out W hW
        first | (go_simp; done) | (go_simp; with_reducible rfl)
      refine wpAnyH_ready (rs := [1]) (by kernel_rfl) (by simp) ?_
      refine AllReadyH.cons rfl (fun K hK => ?_) AllReadyH.nil
      go_simp
      go_wp2_with (go_at_call 37; refine (HCA.out _ hS.bel).mono ?_; rintro e w3 ⟨B3, d3, rfl, hg3, hb3, _⟩)
      have hS3 := hS.next hb3
      have HR3 := Lib.hid hg3.row
      clear hb3 hg3 hS HCA
      refine hK.out _ _ hS3 (fun hS => ?_)
      clear hK K hS3
      refine wpAnyH_ready (rs := [3]) (by kernel_rfl) (by simp) ?_
      refine AllReadyH.cons rfl (fun K hK => ?_) AllReadyH.nil
      go_simp
      go_wp2_with (go_at_call 37; refine (HCB.out _ hS.bel).mono ?_; rintro e w4 ⟨B4, d4, rfl, hg4, hb4, _⟩)
      have hS3 := hS.next hb4
      have HR3b := Lib.hid (HR3.out.up hb4)
      have HR4 := Lib.hid hg4.row
      clear hb4 hg4 hS HCB HR3
      refine hK.out _ _ hS3 (fun hS => ?_)
      clear hK K hS3
      refine wpAnyH_ready (rs := [4]) (by kernel_rfl) (by simp) ?_
      refine AllReadyH.cons rfl (fun K hK => ?_) AllReadyH.nil
      go_simp
      go_wp2_with (go_at_call 46; refine (HCO.out _ _ _ _ _ HR3b.out HR4.out).mono ?_; rintro e w5 ⟨B5, d5, rfl, hg5, hb5⟩)
      have hS3 := hS.next hb5
      have HR5 := Lib.hid hg5.row
      clear hb5 hg5 hS HCO HR3b HR4
      refine hK.out _ _ hS3 (fun hS => ?_)
      clear hK K hS3
      refine wpAnyH_take (i := 5) (v := ?_) rfl (by kernel_rfl) (by kernel_rfl) (by kernel_rfl) (fun _ _ _ h => h) (Yields.yieldsIf (Or.inl ⟨by kernel_rfl, ?_⟩)) hS ?_
      rotate_left
      · first | (intro w; go_simp; done) | (intro w; go_simp; with_reducible rfl)
      refine wpAnyH_take (i := 6) (v := ?_) rfl (by kernel_rfl) (by kernel_rfl) (by kernel_rfl) (fun _ _ _ h => h) (Yields.yieldsIf (Or.inl ⟨by kernel_rfl, ?_⟩)) hS ?_
      rotate_left
      · first | (intro w; go_simp; done) | (intro w; go_simp; with_reducible rfl)
      refine wpAnyH_take (i := 7) (v := ?_) rfl (by kernel_rfl) (by kernel_rfl) (by kernel_rfl) (fun _ _ _ h => h) (Yields.yieldsIf (Or.inl ⟨by kernel_rfl, ?_⟩)) hS ?_
      rotate_left
      · first | (intro w; go_simp; done) | (intro w; go_simp; with_reducible rfl)
      refine wpAnyH_take (i := 8) (v := ?_) rfl (by kernel_rfl) (by kernel_rfl) (by kernel_rfl) (fun _ _ _ h => h) (Yields.yieldsIf (Or.inl ⟨by kernel_rfl, ?_⟩)) hS ?_
      rotate_left
      · first | (intro w; go_simp; done) | (intro w; go_simp; with_reducible rfl)
      refine wpAnyH_take (i := 9) (v := ?_) rfl (by kernel_rfl) (by kernel_rfl) (by kernel_rfl) (fun _ _ _ h => h) (Yields.yieldsIf (Or.inl ⟨by kernel_rfl, ?_⟩)) hS ?_
      rotate_left
      · first | (intro w; go_simp; done) | (intro w; go_simp; with_reducible rfl)
      refine wpAnyH_done (by kernel_rfl) ?_ _
      have HL : Hid (leqO (some a) (some b) = bothL la lb true) := HBO.out.leq.symm
      generalize bothL la lb true = r at *
      clear HBO HR5 HF
      go_wp2
      go_ret
      exact ⟨ret_bool (by rw [HL.out]), hS.bel⟩

set_option maxRecDepth 100000 in
set_option maxHeartbeats 3200000 in
theorem rjoin_arg {w : World} {S T : Option Tr} {u v : Value} (hu : Arg w S u) (hv : Arg w T v) : Calls Tryd.prog 20 #[u, v] w (Ans (joinR S T) w) := by
  obtain ⟨o1, A1, n1, c1, rfl⟩ := hu.form
  obtain ⟨o2, A2, n2, c2, rfl⟩ := hv.form
  have HA := Lib.hid hu
  have HB := Lib.hid hv
  have HX := Lib.hid ((((XS.begin w).boxed (.int .i64 o1) (.slice A1 n1 c1) 24).boxed (.int .i64 o2) (.slice A2 n2 c2) 24).fresh (.int .i64 0) (.slice none 0 0) 24)
  simp only [List.nil_append, List.cons_append, World.size_alloc] at HX
  have hc1 := rright_arg (hu.up HX.out.bel)
  unfold tv at *
  clear hu hv
  go_enter Tryd.func20, Tryd.ntmps20
  go_wp2_with fail
  refine hc1.mono ?_
  rintro e w1 ⟨rfl, hb1⟩
  have HX1 := Lib.hid (HX.out.next hb1)
  clear hb1 hc1 HX
  have f := HX1.out.at0
  simp only [List.mem_cons, List.not_mem_nil, or_false, forall_eq_or_imp, forall_eq] at f
  obtain ⟨p0, p1, p2, p3⟩ := f
  have hc2 := rright_arg (HB.out.up HX1.out.bel)
  go_wp2_with fail
  refine hc2.mono ?_
  rintro e w2 ⟨rfl, hb2⟩
  have HX2 := Lib.hid (HX1.out.next hb2)
  clear hb2 hc2 HX1 p0 p1 p2 p3
  have f := HX2.out.at0
  simp only [List.mem_cons, List.not_mem_nil, or_false, forall_eq_or_imp, forall_eq] at f
  obtain ⟨p0, p1, p2, p3⟩ := f
  cases S with
  | none =>
    obtain ⟨u0, u1, ⟨c0, c1'⟩, f0, f1⟩ := HX2.out.facts (w.heap.size + 1 + 1) (by simp)
    have HFIN : Hid (∀ u1 u2, InP (fun _ => False) ((w2.setCell ⟨w.heap.size + 1 + 1, 0, none⟩ u1).setCell ⟨w.heap.size + 1 + 1, 1, none⟩ u2) (.leaf 0) (tv 0 none 0 0) ∧ Below w.heap.size w ((w2.setCell ⟨w.heap.size + 1 + 1, 0, none⟩ u1).setCell ⟨w.heap.size + 1 + 1, 1, none⟩ u2)) := fun u1 u2 => HX2.out.fin (P := fun _ => False) (t := .leaf 0) (x := tv 0 none 0 0) _ (by simp) ⟨none, 0, rfl⟩ _ _
    clear HX2
    go_wp2
    refine bodyPost_ret (v := .tuple #[tv 0 none 0 0, .int .i64 2]) (by simp [results, Tryd.f20, go_sem, tv, c0, c1']) rfl ?_
    exact ⟨_, rfl, (HFIN.out _ _).1.more fun _ h => h.elim, (HFIN.out _ _).2⟩
  | some a =>
    cases T with
    | none =>
      obtain ⟨u0, u1, ⟨c0, c1'⟩, f0, f1⟩ := HX2.out.facts (w.heap.size + 1 + 1) (by simp)
      have HFIN : Hid (∀ u1 u2, InP (fun _ => False) ((w2.setCell ⟨w.heap.size + 1 + 1, 0, none⟩ u1).setCell ⟨w.heap.size + 1 + 1, 1, none⟩ u2) (.leaf 0) (tv 0 none 0 0) ∧ Below w.heap.size w ((w2.setCell ⟨w.heap.size + 1 + 1, 0, none⟩ u1).setCell ⟨w.heap.size + 1 + 1, 1, none⟩ u2)) := fun u1 u2 => HX2.out.fin (P := fun _ => False) (t := .leaf 0) (x := tv 0 none 0 0) _ (by simp) ⟨none, 0, rfl⟩ _ _
      clear HX2
      go_wp2
      refine bodyPost_ret (v := .tuple #[tv 0 none 0 0, .int .i64 2]) (by simp [results, Tryd.f20, go_sem, tv, c0, c1']) rfl ?_
      exact ⟨_, rfl, (HFIN.out _ _).1.more fun _ h => h.elim, (HFIN.out _ _).2⟩
    | some b =>
      have hoa := HA.out.inT.2
      have hob := HB.out.inT.2
      have hma := mean_of hoa
      have hmb := mean_of hob
      obtain ⟨la, hla⟩ : ∃ l, stepsT a 0 4294967296 0 = l := ⟨_, rfl⟩
      obtain ⟨lb, hlb⟩ : ∃ l, stepsT b 0 4294967296 0 = l := ⟨_, rfl⟩
      rw [hla] at hma
      rw [hlb] at hmb
      have HF : Hid (∀ W, XS w [(w.heap.size, 0, .int .i64 o1), (w.heap.size, 1, .slice A1 n1 c1), (w.heap.size + 1, 0, .int .i64 o2), (w.heap.size + 1, 1, .slice A2 n2 c2)] [w.heap.size, w.heap.size + 1, w.heap.size + 1 + 1] W → W.cell? ⟨w.heap.size, 0, none⟩ = some (.int .i64 o1) ∧ W.cell? ⟨w.heap.size, 1, none⟩ = some (.slice A1 n1 c1) ∧ W.cell? ⟨w.heap.size + 1, 0, none⟩ = some (.int .i64 o2) ∧ W.cell? ⟨w.heap.size + 1, 1, none⟩ = some (.slice A2 n2 c2)) := fun W hW => ⟨hW.get (by simp), hW.get (by simp), hW.get (by simp), hW.get (by simp)⟩
      have HCA : Hid (∀ W, Below w.heap.size w W → Calls Tryd.prog 37 #[.agg #[.int .i64 o1, .slice A1 n1 c1]] W (LaysR la W.heap.size W)) := fun W hW => by rw [← hla]; exact means_any a _ W hoa (HA.out.up hW).inT.1
      have HCB : Hid (∀ W, Below w.heap.size w W → Calls Tryd.prog 37 #[.agg #[.int .i64 o2, .slice A2 n2 c2]] W (LaysR lb W.heap.size W)) := fun W hW => by rw [← hlb]; exact means_any b _ W hob (HB.out.up hW).inT.1
      have HCO : Hid (∀ W A3 d3 A4 d4, RowR W W.heap.size A3 la → RowR W W.heap.size A4 lb → Calls Tryd.prog 46 #[.slice A3 la.length d3, .slice A4 lb.length d4] W fun e w' => ∃ A' c', e = .returned (.tuple #[.slice A' (bothS la lb).length c', .bool (bothL la lb true)]) ∧ GrR w' W.heap.size A' c' (bothS la lb) ∧ Below W.heap.size W w') := fun W A3 d3 A4 d4 h3 h4 => both_any A3 d3 la A4 d4 lb W h3 h4 (by have := hma.len; omega) (by have := hmb.len; omega) hma.val hmb.val
      have HBO := Lib.hid (both_of hma hmb)
      have hXD := HX2.out.drew
      clear hla hlb hma hmb hoa hob p0 p1 p2 p3 HX2
      go_wp2
      refine wp_region_held_drew (S := fun W => XS w [(w.heap.size, 0, .int .i64 o1), (w.heap.size, 1, .slice A1 n1 c1), (w.heap.size + 1, 0, .int .i64 o2), (w.heap.size + 1, 1, .slice A2 n2 c2)] [w.heap.size, w.heap.size + 1, w.heap.size + 1 + 1] W) (by kernel_rfl) hXD (fun hS => ?_)
      clear hXD
      generalize w2.drew = wd at hS ⊢
      refine wpAnyH_take (i := 0) (v := ?_) rfl (by kernel_rfl) (by kernel_rfl) (by kernel_rfl) (fun _ _ _ h => h) (Or.inl ⟨by kernel_rfl, fun W hW => ?_⟩) hS ?_
      rotate_left
      · obtain ⟨f0, f1, f2, f3⟩ := HF.out W hW
        first | (go_simp; done) | (go_simp; with_reducible rfl)
      refine wpAnyH_take (i := 2) (v := ?_) rfl (by kernel_rfl) (by kernel_rfl) (by kernel_rfl) (fun _ _ _ h => h) (Or.inl ⟨by kernel_rfl, fun W hW => ?_⟩) hS ?_
      rotate_left
      · obtain ⟨f0, f1, f2, f3⟩ := HF.out W hW
        first | (go_simp; done) | (go_simp; with_reducible rfl)
      refine wpAnyH_ready (rs := [1]) (by kernel_rfl) (by simp) ?_
      refine AllReadyH.cons rfl (fun K hK => ?_) AllReadyH.nil
      go_simp
      go_wp2_with (go_at_call 37; refine (HCA.out _ hS.bel).mono ?_; rintro e w3 ⟨B3, d3, rfl, hg3, hb3, _⟩)
      have hS3 := hS.next hb3
      have HR3 := Lib.hid hg3.row
      clear hb3 hg3 hS HCA
      refine hK.out _ _ hS3 (fun hS => ?_)
      clear hK K hS3
      refine wpAnyH_ready (rs := [3]) (by kernel_rfl) (by simp) ?_
      refine AllReadyH.cons rfl (fun K hK => ?_) AllReadyH.nil
      go_simp
      go_wp2_with (go_at_call 37; refine (HCB.out _ hS.bel).mono ?_; rintro e w4 ⟨B4, d4, rfl, hg4, hb4, _⟩)
      have hS3 := hS.next hb4
      have HR3b := Lib.hid (HR3.out.up hb4)
      have HR4 := Lib.hid hg4.row
      clear hb4 hg4 hS HCB HR3
      refine hK.out _ _ hS3 (fun hS => ?_)
      clear hK K hS3
      refine wpAnyH_ready (rs := [4]) (by kernel_rfl) (by simp) ?_
      refine AllReadyH.cons rfl (fun K hK => ?_) AllReadyH.nil
      go_simp
      go_wp2_with (go_at_call 46; refine (HCO.out _ _ _ _ _ HR3b.out HR4.out).mono ?_; rintro e w5 ⟨B5, d5, rfl, hg5, hb5⟩)
      have hS3 := hS.next hb5
      have HR5 := Lib.hid hg5.row
      clear hb5 hg5 hS HCO HR3b HR4
      refine hK.out _ _ hS3 (fun hS => ?_)
      clear hK K hS3
      refine wpAnyH_take (i := 5) (v := ?_) rfl (by kernel_rfl) (by kernel_rfl) (by kernel_rfl) (fun _ _ _ h => h) (Yields.yieldsIf (Or.inl ⟨by kernel_rfl, ?_⟩)) hS ?_
      rotate_left
      · first | (intro w; go_simp; done) | (intro w; go_simp; with_reducible rfl)
      refine wpAnyH_take (i := 6) (v := ?_) rfl (by kernel_rfl) (by kernel_rfl) (by kernel_rfl) (fun _ _ _ h => h) (Yields.yieldsIf (Or.inl ⟨by kernel_rfl, ?_⟩)) hS ?_
      rotate_left
      · first | (intro w; go_simp; done) | (intro w; go_simp; with_reducible rfl)
      refine wpAnyH_take (i := 7) (v := ?_) rfl (by kernel_rfl) (by kernel_rfl) (by kernel_rfl) (fun _ _ _ h => h) (Yields.yieldsIf (Or.inl ⟨by kernel_rfl, ?_⟩)) hS ?_
      rotate_left
      · first | (intro w; go_simp; done) | (intro w; go_simp; with_reducible rfl)
      refine wpAnyH_take (i := 8) (v := ?_) rfl (by kernel_rfl) (by kernel_rfl) (by kernel_rfl) (fun _ _ _ h => h) (Yields.yieldsIf (Or.inl ⟨by kernel_rfl, ?_⟩)) hS ?_
      rotate_left
      · first | (intro w; go_simp; done) | (intro w; go_simp; with_reducible rfl)
      refine wpAnyH_take (i := 9) (v := ?_) rfl (by kernel_rfl) (by kernel_rfl) (by kernel_rfl) (fun _ _ _ h => h) (Yields.yieldsIf (Or.inl ⟨by kernel_rfl, ?_⟩)) hS ?_
      rotate_left
      · first | (intro w; go_simp; done) | (intro w; go_simp; with_reducible rfl)
      refine wpAnyH_done (by kernel_rfl) ?_ _
      have hc6 := tree_any 32 B5 d5 (bothS la lb) 0 4294967296 4294967296 0 w5 (HBO.out.ta HR5.out) (by omega) (by omega)
      rw [HBO.out.bld] at hc6
      simp only [Int.neg_zero, Tr.add_zero, Int.natCast_zero] at hc6
      have HL : Hid (joinR (some a) (some b) = if okT (Tr.join a b 0 0) = true then (Tr.join a b 0 0, 0) else (.leaf 0, 2)) := rfl
      have HX5 := Lib.hid hS
      generalize Tr.join a b 0 0 = J at *
      generalize bothL la lb true = r0 at *
      clear HBO HR5 HF hS
      go_wp2_with fail
      refine hc6.mono ?_
      rintro e w6 ⟨v6, rfl, ht6, hb6⟩
      obtain ⟨A6, n6, c6, rfl⟩ := ht6.form
      have hx6 := HX5.out.next hb6
      have hbx : Below w6.heap.size w6 (w6.alloc (.cells #[.int .i64 J.N, .slice A6 n6 c6] 24)) := (Below.refl _ w6).alloc (Nat.le_refl _) _
      have HX6 := Lib.hid (hx6.boxed (.int .i64 J.N) (.slice A6 n6 c6) 24)
      have HT6 : Hid (InP (New w w6) (w6.alloc (.cells #[.int .i64 J.N, .slice A6 n6 c6] 24)) J (tv J.N A6 n6 c6)) := (ht6.more fun b hb => ⟨Nat.le_trans HX5.out.bel.size hb.1, hb.2⟩).stay hbx
      have hc4 := rright_arg (arg_of (ht6.old.up hbx))
      rw [fit_some] at hc4
      simp only [List.nil_append, List.cons_append] at HX6
      clear hb6 ht6 hc6 HX5 hx6 hbx
      obtain ⟨z, hz⟩ : ∃ z, J.N = z := ⟨_, rfl⟩
      rw [hz] at HX6 HT6 hc4 ⊢
      obtain ⟨r, hr⟩ : ∃ r, okT J = r := ⟨_, rfl⟩
      rw [hr] at hc4 HL
      clear hz hr
      unfold tv at hc4 ⊢
      go_wp2_with fail
      refine hc4.mono ?_
      rintro e w4 ⟨rfl, hb4⟩
      have HX4 := Lib.hid (HX6.out.next hb4)
      have HT4 : Hid (InP (New w w4) w4 J (tv z A6 n6 c6)) := (HT6.out.stay hb4).more fun b hb => ⟨hb.1, by have := hb4.size; have := hb.2; simp at *; omega⟩
      clear hb4 hc4 HX6 HT6
      have f := HX4.out.at0
      simp only [List.mem_cons, List.not_mem_nil, or_false, forall_eq_or_imp, forall_eq] at f
      obtain ⟨p0, p1, p2, p3, p4, p5⟩ := f
      cases r with
      | false =>
        obtain ⟨u0, u1, ⟨c0, c1'⟩, f0, f1⟩ := HX4.out.facts (w.heap.size + 1 + 1) (by simp)
        have HFIN : Hid (∀ u1 u2, InP (fun _ => False) ((w4.setCell ⟨w.heap.size + 1 + 1, 0, none⟩ u1).setCell ⟨w.heap.size + 1 + 1, 1, none⟩ u2) (.leaf 0) (tv 0 none 0 0) ∧ Below w.heap.size w ((w4.setCell ⟨w.heap.size + 1 + 1, 0, none⟩ u1).setCell ⟨w.heap.size + 1 + 1, 1, none⟩ u2)) := fun u1 u2 => HX4.out.fin (P := fun _ => False) (t := .leaf 0) (x := tv 0 none 0 0) _ (by simp) ⟨none, 0, rfl⟩ _ _
        clear HX4
        go_wp2
        refine bodyPost_ret (v := .tuple #[tv 0 none 0 0, .int .i64 2]) (by simp [results, Tryd.f20, go_sem, tv, c0, c1']) rfl ?_
        rw [HL.out]
        exact ⟨_, rfl, (HFIN.out _ _).1.more fun _ h => h.elim, (HFIN.out _ _).2⟩
      | true =>
        clear p0 p1 p2 p3
        obtain ⟨u0, u1, ⟨c0, c1'⟩, f0, f1⟩ := HX4.out.facts (w.heap.size + 1 + 1) (by simp)
        have HFIN : Hid (∀ u1 u2, InP (New w w4) ((w4.setCell ⟨w.heap.size + 1 + 1, 0, none⟩ u1).setCell ⟨w.heap.size + 1 + 1, 1, none⟩ u2) J (tv z A6 n6 c6) ∧ Below w.heap.size w ((w4.setCell ⟨w.heap.size + 1 + 1, 0, none⟩ u1).setCell ⟨w.heap.size + 1 + 1, 1, none⟩ u2)) := fun u1 u2 => HX4.out.fin (w.heap.size + 1 + 1) (by simp) HT4.out _ _
        clear HX4 HT4
        go_wp2
        refine bodyPost_ret (v := .tuple #[tv z A6 n6 c6, .int .i64 0]) (by simp [results, Tryd.f20, go_sem, tv, c0, c1']) rfl ?_
        rw [HL.out]
        exact ⟨_, rfl, (HFIN.out _ _).1.more fun b hb => ⟨hb.1, by rw [size_set, size_set]; exact hb.2⟩, (HFIN.out _ _).2⟩

theorem same_norm (a b : Tr) : eqT a.norm b.norm = (leqT a b 0 0 && leqT b a 0 0) := by
  rw [Bool.eq_iff_iff, eqT_iff, norm_iff_den, Bool.and_eq_true_iff, leqT_iff, leqT_iff]
  constructor
  · intro h; exact ⟨fun f => by rw [h f]; omega, fun f => by rw [h f]; omega⟩
  · rintro ⟨h1, h2⟩ f; have := h1 f; have := h2 f; omega

set_option maxRecDepth 100000 in
set_option maxHeartbeats 3200000 in
theorem rsame_arg {w : World} {S T : Option Tr} {u v : Value} (hu : Arg w S u) (hv : Arg w T v) : Calls Tryd.prog 24 #[u, v] w fun e w' => e = .returned (.bool (sameO S T)) ∧ Below w.heap.size w w' := by
  obtain ⟨o1, A1, n1, c1, rfl⟩ := hu.form
  obtain ⟨o2, A2, n2, c2, rfl⟩ := hv.form
  have HB := Lib.hid hv
  have HX := Lib.hid (((XS.begin w).boxed (.int .i64 o1) (.slice A1 n1 c1) 24).boxed (.int .i64 o2) (.slice A2 n2 c2) 24)
  simp only [List.nil_append, List.cons_append, World.size_alloc] at HX
  have hc1 := rnorm_arg (hu.up HX.out.bel)
  unfold tv at *
  clear hu hv
  go_enter Tryd.func24, Tryd.ntmps24
  go_wp2_with fail
  refine hc1.mono ?_
  rintro e w1 ⟨v1, rfl, ht1, hb1⟩
  obtain ⟨A3, n3, c3, rfl⟩ := ht1.form
  have hx1 := HX.out.next hb1
  have HX1 := Lib.hid (hx1.boxed (.int .i64 (normR S).1.N) (.slice A3 n3 c3) 24)
  have hbx : Below w1.heap.size w1 (w1.alloc (.cells #[.int .i64 (normR S).1.N, .slice A3 n3 c3] 24)) := (Below.refl _ w1).alloc (Nat.le_refl _) _
  have HT1 := Lib.hid (ht1.old.up hbx)
  simp only [List.nil_append, List.cons_append] at HX1
  have f := HX1.out.at0
  simp only [List.mem_cons, List.not_mem_nil, or_false, forall_eq_or_imp, forall_eq] at f
  obtain ⟨p0, p1, p2, p3, p4, p5⟩ := f
  have hc2 := rnorm_arg (HB.out.up HX1.out.bel)
  generalize (normR S).1.N = o3 at *
  clear hc1 hb1 ht1 HX hx1 hbx HB
  unfold tv at *
  go_wp2_with fail
  refine hc2.mono ?_
  rintro e w2 ⟨v2, rfl, ht2, hb2⟩
  obtain ⟨A4, n4, c4, rfl⟩ := ht2.form
  have hx2 := HX1.out.next hb2
  have HX2 := Lib.hid (hx2.boxed (.int .i64 (normR T).1.N) (.slice A4 n4 c4) 24)
  have hbx : Below w2.heap.size w2 (w2.alloc (.cells #[.int .i64 (normR T).1.N, .slice A4 n4 c4] 24)) := (Below.refl _ w2).alloc (Nat.le_refl _) _
  have HT2 := Lib.hid (ht2.old.up hbx)
  have HT3 := Lib.hid ((HT1.out.up hb2).up hbx)
  simp only [List.nil_append, List.cons_append] at HX2
  clear p0 p1 p2 p3 p4 p5
  have f := HX2.out.at0
  simp only [List.mem_cons, List.not_mem_nil, or_false, forall_eq_or_imp, forall_eq] at f
  obtain ⟨p0, p1, p2, p3, p4, p5, p6, p7⟩ := f
  have hc3 := equal_any _ _ _ _ _ _ _ HT3.out HT2.out
  generalize (normR T).1.N = o4 at *
  clear hc2 hb2 ht2 HX1 hx2 hbx HT1 HT2 HT3
  unfold tv at *
  cases S with
  | none =>
    have HN : Hid ((normR none).2 = 2) := rfl
    rw [HN.out]
    go_wp2
    go_ret
    exact ⟨rfl, HX2.out.bel⟩
  | some a =>
    have HN : Hid ((normR (some a)).2 = 0) := rfl
    rw [HN.out]
    cases T with
    | none =>
      have HN2 : Hid ((normR none).2 = 2) := rfl
      rw [HN2.out]
      clear hc3
      go_wp2
      go_ret
      exact ⟨rfl, HX2.out.bel⟩
    | some b =>
      have HN2 : Hid ((normR (some b)).2 = 0) := rfl
      rw [HN2.out]
      have HE : Hid (eqT (normR (some a)).1 (normR (some b)).1 = sameO (some a) (some b)) := same_norm a b
      generalize eqT (normR (some a)).1 (normR (some b)).1 = r at *
      go_wp2_with fail
      refine hc3.mono ?_
      rintro e w3 ⟨rfl, hb3⟩
      have HX3 := Lib.hid (HX2.out.next hb3)
      clear hc3 hb3 HX2 p0 p1 p2 p3 p4 p5 p6 p7
      go_wp2
      go_ret
      exact ⟨ret_bool HE.out, HX3.out.bel⟩
end Go.Proofs.YtflghlmikpfnpaaDoor.E
