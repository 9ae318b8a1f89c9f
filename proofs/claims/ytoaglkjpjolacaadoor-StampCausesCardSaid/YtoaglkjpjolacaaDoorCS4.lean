/-
  Stamps, plainly: within which shape trees stay.
-/
import Derived.Test.YtoaglkjpjolacaaDoorCSGrow4
import Derived.Test.YtoaglkjpjolacaaDoorCS3
import Derived.Test.YtoaglkjpjolacaaDoorCG1
import Derived.Test.YtoaglkjpjolacaaDoorCS1
import Derived.Test.YtoaglkjpjolacaaDoorCI4
import Derived.Test.YtoaglkjpjolacaaDoorCE3
import Derived.Test.YtoaglkjpjolacaaDoorCI5
namespace Go.Proofs.YtoaglkjpjolacaaDoor.S
open Go.RowKit
set_option linter.unusedVariables false
set_option linter.unusedSimpArgs false
/-- Each inner node of the one is an inner node of the shape. -/
def subI : I.Tr → I.Tr → Prop
  | .leaf _, _ => True
  | .node a b, .node x y => subI a x ∧ subI b y
  | .node _ _, .leaf _ => False
def subE : E.Tr → I.Tr → Prop
  | .leaf _, _ => True
  | .node _ a b, .node x y => subE a x ∧ subE b y
  | .node _ _ _, .leaf _ => False
theorem subI.leaf (o : Bool) (T : I.Tr) : subI (.leaf o) T := by cases T <;> trivial
theorem subE.leaf (n : Int) (T : I.Tr) : subE (.leaf n) T := by cases T <;> trivial
theorem subI.small : ∀ {t T : I.Tr}, subI t T → t.depth ≤ T.depth ∧ t.nodes ≤ T.nodes
  | .leaf _, T, _ => ⟨Nat.zero_le _, I.Tr.nodes_pos T⟩
  | .node a b, .node x y, h => by
    have h1 := h.1.small; have h2 := h.2.small
    simp only [I.Tr.depth, I.Tr.nodes]; omega
  | .node _ _, .leaf _, h => h.elim
theorem subE.small : ∀ {t : E.Tr} {T : I.Tr}, subE t T → t.depth ≤ T.depth ∧ t.nodes ≤ T.nodes
  | .leaf _, T, _ => ⟨Nat.zero_le _, I.Tr.nodes_pos T⟩
  | .node _ a b, .node x y, h => by
    have h1 := h.1.small; have h2 := h.2.small
    simp only [I.Tr.depth, I.Tr.nodes, E.Tr.depth, E.Tr.nodes]; omega
  | .node _ _ _, .leaf _, h => h.elim
theorem subI.trans : ∀ {t T T' : I.Tr}, subI t T → subI T T' → subI t T'
  | .leaf o, _, T', _, _ => subI.leaf o T'
  | .node a b, .node x y, .node u v, h, g => ⟨h.1.trans g.1, h.2.trans g.2⟩
  | .node _ _, .leaf _, _, h, _ => h.elim
  | .node _ _, .node _ _, .leaf _, _, g => g.elim
theorem subE.trans : ∀ {t : E.Tr} {T T' : I.Tr}, subE t T → subI T T' → subE t T'
  | .leaf n, _, T', _, _ => subE.leaf n T'
  | .node _ a b, .node x y, .node u v, h, g => ⟨h.1.trans g.1, h.2.trans g.2⟩
  | .node _ _ _, .leaf _, _, h, _ => h.elim
  | .node _ _ _, .node _ _, .leaf _, _, g => g.elim
theorem subI.refl : ∀ t : I.Tr, subI t t
  | .leaf _ => trivial
  | .node a b => ⟨subI.refl a, subI.refl b⟩
theorem subI.mk2 {a b T : I.Tr} (h : subI (.node a b) T) : subI (I.Tr.mk2 a b) T := by
  cases a with
  | leaf x => cases b with
    | leaf y =>
      simp only [I.Tr.mk2]
      split
      · exact subI.leaf _ _
      · exact h
    | node _ _ => exact h
  | node _ _ => cases b <;> exact h
theorem subI.norm : ∀ {t T : I.Tr}, subI t T → subI t.norm T
  | .leaf _, _, h => h
  | .node a b, .node x y, h => subI.mk2 ⟨h.1.norm, h.2.norm⟩
  | .node _ _, .leaf _, h => h.elim
theorem subI.sum : ∀ {a b T : I.Tr}, subI a T → subI b T → subI (I.sumT a b) T
  | .leaf false, _, _, _, h => h
  | .leaf true, _, T, _, _ => subI.leaf _ T
  | .node _ _, .leaf false, _, h, _ => h
  | .node _ _, .leaf true, T, _, _ => subI.leaf _ T
  | .node _ _, .node _ _, .node _ _, h, g => ⟨h.1.sum g.1, h.2.sum g.2⟩
  | .node _ _, .node _ _, .leaf _, h, _ => h.elim
theorem subE.add {t : E.Tr} {T : I.Tr} (h : subE t T) (d : Int) : subE (t.add d) T := by
  cases t with
  | leaf n => exact subE.leaf _ T
  | node n a b => cases T with
    | leaf _ => exact h
    | node _ _ => exact h
theorem subE.raise {n : Int} {a b : E.Tr} {x y : I.Tr} (h : subE a x) (g : subE b y) : subE (E.Tr.raise n a b) (.node x y) := by
  unfold E.Tr.raise
  split
  · exact subE.leaf _ _
  · exact ⟨h.add _, g.add _⟩
theorem subE.norm : ∀ {t : E.Tr} {T : I.Tr}, subE t T → subE t.norm T
  | .leaf _, _, h => h
  | .node _ a b, .node x y, h => subE.raise h.1.norm h.2.norm
  | .node _ _ _, .leaf _, h => h.elim
theorem subE.join : ∀ {T : I.Tr} {a b : E.Tr} (x y : Int), subE a T → subE b T → subE (E.Tr.join a b x y) T
  | T, .leaf n, .leaf m, x, y, _, _ => by rw [E.Tr.join]; exact subE.leaf _ T
  | .leaf _, .leaf _, .node _ _ _, _, _, _, g => g.elim
  | .leaf _, .node _ _ _, _, _, _, h, _ => h.elim
  | .node p q, .leaf n, .node m c d, x, y, _, g => by rw [E.Tr.join]; exact subE.raise (subE.join _ _ (subE.leaf 0 p) g.1) (subE.join _ _ (subE.leaf 0 q) g.2)
  | .node p q, .node n l r, .leaf m, x, y, h, _ => by rw [E.Tr.join]; exact subE.raise (subE.join _ _ h.1 (subE.leaf 0 p)) (subE.join _ _ h.2 (subE.leaf 0 q))
  | .node p q, .node n l r, .node m c d, x, y, h, g => by rw [E.Tr.join]; exact subE.raise (subE.join _ _ h.1 g.1) (subE.join _ _ h.2 g.2)
theorem subE.fill : ∀ (i : I.Tr) {e : E.Tr} {T : I.Tr}, subE e T → subE (fillT i e) T
  | .leaf false, _, _, h => h
  | .leaf true, _, T, _ => subE.leaf _ T
  | .node _ _, .leaf n, _, h => by rw [fill_leaf]; exact h
  | .node l r, .node n a b, .node x y, h => by
    by_cases k1 : one l = true
    · rw [fill_l k1]; exact ⟨subE.leaf _ x, subE.fill r h.2⟩
    · have k1' : one l = false := by simpa using k1
      by_cases k2 : one r = true
      · rw [fill_r k1' k2]; exact ⟨subE.fill l h.1, subE.leaf _ y⟩
      · rw [fill_b k1' (by simpa using k2)]; exact ⟨subE.fill l h.1, subE.fill r h.2⟩
  | .node _ _, .node _ _ _, .leaf _, h => h.elim
theorem subE.grow : ∀ (k : Nat) (i : I.Tr) (e : E.Tr) (T : I.Tr), i.nodes ≤ k → subI i T → subE e T → subE (growT i e).1 T := by
  intro k
  induction k with
  | zero => intro i e T h; have := I.Tr.nodes_pos i; omega
  | succ k ih =>
    intro i e T h hi he
    cases i with
    | leaf o => rw [growT]; exact subE.leaf _ T
    | node l r =>
      cases T with
      | leaf _ => exact hi.elim
      | node x y =>
        simp only [I.Tr.nodes] at h
        have inn : ∀ (n : Int) (a b : E.Tr), subE a x → subE b y → subE (innT l r n a b).1 (.node x y) := by
          intro n a b ha hb
          have h1 := ih l a x (by have := I.Tr.nodes_pos r; omega) hi.1 ha
          have h2 := ih r b y (by have := I.Tr.nodes_pos l; omega) hi.2 hb
          rw [innT]
          simp only
          split
          · exact ⟨ha, h2⟩
          · split
            · exact ⟨h1, hb⟩
            · split
              · exact ⟨ha, h2⟩
              · exact ⟨h1, hb⟩
        cases e with
        | leaf n => rw [growT]; exact inn n _ _ (subE.leaf 0 x) (subE.leaf 0 y)
        | node n a b => rw [growT]; exact inn n a b he.1 he.2
theorem grow_okc : ∀ (k : Nat) (i : I.Tr) (e : E.Tr) (m : Int), i.nodes ≤ k → e.okc m = true → (growT i e).1.okc (m + 1) = true := by
  intro k
  induction k with
  | zero => intro i e m h; have := I.Tr.nodes_pos i; omega
  | succ k ih =>
    intro i e m h he
    cases i with
    | leaf o =>
      have := E.okc_N e m he
      rw [growT]; simp only [E.Tr.okc, decide_eq_true_eq]; omega
    | node l r =>
      simp only [I.Tr.nodes] at h
      have inn : ∀ (n : Int) (a b : E.Tr), 0 ≤ n → n ≤ m → a.okc (m - n) = true → b.okc (m - n) = true → (innT l r n a b).1.okc (m + 1) = true := by
        intro n a b h0 h1 ha hb
        have g1 := ih l a (m - n) (by have := I.Tr.nodes_pos r; omega) ha
        have g2 := ih r b (m - n) (by have := I.Tr.nodes_pos l; omega) hb
        have e1 : m - n + 1 = m + 1 - n := by omega
        rw [e1] at g1 g2
        have ha' := okc_up a _ (m + 1 - n) (by omega) ha
        have hb' := okc_up b _ (m + 1 - n) (by omega) hb
        have hn : 0 ≤ n ∧ n ≤ m + 1 := ⟨h0, by omega⟩
        rw [innT]
        simp only
        split
        · simp only [E.Tr.okc, Bool.and_eq_true, decide_eq_true_eq]; exact ⟨hn, ha', g2⟩
        · split
          · simp only [E.Tr.okc, Bool.and_eq_true, decide_eq_true_eq]; exact ⟨hn, g1, hb'⟩
          · split
            · simp only [E.Tr.okc, Bool.and_eq_true, decide_eq_true_eq]; exact ⟨hn, ha', g2⟩
            · simp only [E.Tr.okc, Bool.and_eq_true, decide_eq_true_eq]; exact ⟨hn, g1, hb'⟩
      cases e with
      | leaf n =>
        simp only [E.Tr.okc, decide_eq_true_eq] at he
        have z : (E.Tr.leaf 0).okc (m - n) = true := by simp only [E.Tr.okc, decide_eq_true_eq]; omega
        rw [growT]; exact inn n _ _ he.1 he.2 z z
      | node n a b =>
        simp only [E.Tr.okc, Bool.and_eq_true, decide_eq_true_eq] at he
        rw [growT]; exact inn n a b he.1.1 he.1.2 he.2.1 he.2.2
/-- The shape behind a split. -/
def open1 : I.Tr → I.Tr → I.Tr
  | .leaf true, .leaf _ => .node (.leaf false) (.leaf false)
  | .leaf true, .node x y => .node x y
  | .leaf false, T => T
  | .node _ _, .leaf o => .leaf o
  | .node a b, .node x y => if zero a = true then .node x (open1 b y) else if zero b = true then .node (open1 a x) y else .node x y
theorem open1_does : ∀ (i T : I.Tr), subI i T → subI T (open1 i T) ∧ subI (I.splitT i).1 (open1 i T) ∧ subI (I.splitT i).2 (open1 i T) ∧ (open1 i T).nodes ≤ T.nodes + 2 ∧ (open1 i T).depth ≤ max T.depth (I.splitT i).1.depth
  | .leaf true, .leaf o, _ => ⟨subI.leaf _ _, ⟨trivial, trivial⟩, ⟨trivial, trivial⟩, by simp [open1, I.Tr.nodes], by simp [open1, I.splitT, I.Tr.depth]⟩
  | .leaf true, .node x y, _ => ⟨subI.refl _, ⟨subI.leaf _ x, subI.leaf _ y⟩, ⟨subI.leaf _ x, subI.leaf _ y⟩, by simp [open1], by simp only [open1]; omega⟩
  | .leaf false, T, _ => ⟨by rw [open1]; exact subI.refl T, by rw [open1]; exact subI.leaf _ T, by rw [open1]; exact subI.leaf _ T, by rw [open1]; omega, by rw [open1]; omega⟩
  | .node a b, .node x y, h => by
    have hz : ∀ t : I.Tr, t ≠ .leaf false → zero t = false := fun t ht => by
      cases hq : zero t with
      | false => rfl
      | true => exact absurd (zero_iff.1 hq) ht
    rcases I.split_cases a b with ⟨rfl, e⟩ | ⟨ha, rfl, e⟩ | ⟨ha, hb, e⟩
    · obtain ⟨h1, h2, h3, h4, h5⟩ := open1_does b y h.2
      rw [e, show open1 (.node (.leaf false) b) (.node x y) = .node x (open1 b y) by simp [open1, zero]]
      exact ⟨⟨subI.refl x, h1⟩, ⟨subI.leaf _ x, h2⟩, ⟨subI.leaf _ x, h3⟩, by simp only [I.Tr.nodes]; omega, by simp only [I.Tr.depth]; omega⟩
    · obtain ⟨h1, h2, h3, h4, h5⟩ := open1_does a x h.1
      rw [e, show open1 (.node a (.leaf false)) (.node x y) = .node (open1 a x) y by simp [open1, zero, hz a ha]]
      exact ⟨⟨h1, subI.refl y⟩, ⟨h2, subI.leaf _ y⟩, ⟨h3, subI.leaf _ y⟩, by simp only [I.Tr.nodes]; omega, by simp only [I.Tr.depth]; omega⟩
    · rw [e, show open1 (.node a b) (.node x y) = .node x y by simp [open1, hz a ha, hz b hb]]
      exact ⟨subI.refl _, ⟨h.1, subI.leaf _ y⟩, ⟨subI.leaf _ x, h.2⟩, by omega, by omega⟩
  | .node _ _, .leaf _, h => h.elim
end Go.Proofs.YtoaglkjpjolacaaDoor.S
namespace Go.Proofs.YtoaglkjpjolacaaDoor.S
open Go.RowKit
/-- What an event does to the counts: nowhere less, the same outside the identity, somewhere more. -/
theorem after_does {i : I.Tr} {x : E.Tr} (hi : i.norm = i) (hz : zero i = false) (hx : E.Nf x) : (∀ f, E.den x f ≤ E.den (afterT i x) f) ∧ (∀ f, I.den i f = false → E.den (afterT i x) f = E.den x f) ∧ (∃ f, I.den i f = true ∧ E.den x f < E.den (afterT i x) f) := by
  have hup := (fill_high i x).2
  unfold afterT
  split
  · rename_i h
    simp only [Bool.and_eq_true, E.leqT_iff] at h
    have heq : ∀ f, E.den (fillT i x) f = E.den x f := fun f => by have := h.1 f; have := h.2 f; omega
    obtain ⟨g, _⟩ := grow_does _ i x (Nat.le_refl _) (nz_norm i hi) hz (flat_of_fill i x hx heq)
    exact ⟨g.up, g.off, g.gain⟩
  · rename_i h
    refine ⟨fun f => (hup f).1, fun f => (hup f).2, ?_⟩
    have h2 : E.leqT x (fillT i x) 0 0 = true := (E.leqT_iff _ _ _ _).2 fun f => by have := (hup f).1; omega
    rw [h2, Bool.and_true] at h
    have h3 : ¬ ∀ f, (0 : Int) + E.den (fillT i x) f ≤ 0 + E.den x f := fun hf => h ((E.leqT_iff _ _ _ _).2 hf)
    obtain ⟨f, hf⟩ := Classical.not_forall.1 h3
    refine ⟨f, ?_, by omega⟩
    cases hd : I.den i f with
    | true => rfl
    | false => have := (hup f).2 hd; omega
end Go.Proofs.YtoaglkjpjolacaaDoor.S
namespace Go.Proofs.YtoaglkjpjolacaaDoor.S
open Go.RowKit
def joinS (S : Option I.Tr) (T : Option E.Tr) (S' : Option I.Tr) (T' : Option E.Tr) : (I.Tr × E.Tr) × Int :=
  if (I.sumR S S').2 = 0 then (if (E.joinR T T').2 = 0 then (((I.sumR S S').1, (E.joinR T T').1), 0) else (zeroS, (E.joinR T T').2)) else (zeroS, (I.sumR S S').2)
set_option maxRecDepth 100000 in
set_option maxHeartbeats 6400000 in
theorem join_any {w : World} {S S' : Option I.Tr} {T T' : Option E.Tr} {u v : Value} (h : SArg w S T u) (k : SArg w S' T' v) : Calls Tryd.prog 19 #[u, v] w (AnsS (joinS S T S' T') w) := by
  obtain ⟨o, A, n, c, z, A', n', c', rfl, h1, h2⟩ := h
  obtain ⟨p, B, m, d, t, B', m', d', rfl, k1, k2⟩ := k
  have HX0 := Lib.hid ((((SX.begin w).four o (.slice A n c) z (.slice A' n' c') 29).four p (.slice B m d) t (.slice B' m' d') 29).four false (.slice none 0 0) 0 (.slice none 0 0) 29)
  simp only [List.nil_append, List.cons_append, World.size_alloc] at HX0
  have H2 := Lib.hid h2
  have K2 := Lib.hid k2
  have hc := I.sum_arg (h1.up HX0.out.bel) (k1.up HX0.out.bel)
  obtain ⟨r1, hr1⟩ : ∃ r, I.sumR S S' = r := ⟨_, rfl⟩
  rw [hr1] at hc
  obtain ⟨s, e1⟩ := r1
  have HR1 := Lib.hid hr1
  clear h1 h2 k1 k2 hr1
  unfold I.tv at hc
  unfold sv
  go_enter Tryd.func19, Tryd.ntmps19
  go_wp2_with fail
  refine hc.mono ?_
  rintro e w1 ⟨v1, rfl, ht1, hb1⟩
  simp only at ht1 ⊢
  obtain ⟨o1, A1, n1, c1, rfl⟩ := ht1.form
  have HX1 := Lib.hid (((HX0.out.next hb1).i ht1).two (.bool o1) (.slice A1 n1 c1) 24)
  simp only [List.nil_append, List.cons_append] at HX1
  have sz1 : w.heap.size + 3 ≤ w1.heap.size := by
    have h1 := hb1.size
    have h2 := (HX0.out.box (w.heap.size + 1 + 1, 4) (by simp)).1.lt
    omega
  clear hc hb1 ht1 HX0
  unfold I.tv
  go_upto_region 2 with fail
  generalize w1.alloc (.cells #[.bool o1, .slice A1 n1 c1] 24) = w2 at *
  by_cases he1 : e1 = 0
  · subst he1
    have f := HX1.out.at0
    simp only [List.mem_cons, List.not_mem_nil, or_false, forall_eq_or_imp, forall_eq] at f
    obtain ⟨p0, p1, p2, p3, p4, p5, p6, p7, p8, p9, p10, p11, p12, p13⟩ := f
    have hc := E.join_arg (H2.out.up HX1.out.bel) (K2.out.up HX1.out.bel)
    obtain ⟨r2, hr2⟩ : ∃ r, E.joinR T T' = r := ⟨_, rfl⟩
    rw [hr2] at hc
    obtain ⟨x, e2⟩ := r2
    have HR2 := Lib.hid hr2
    clear hr2
    unfold E.tv at hc
    go_wp2_with fail
    refine hc.mono ?_
    rintro e w3 ⟨v3, rfl, ht3, hb3⟩
    obtain ⟨A3, n3, c3, rfl⟩ := E.InP.form ht3
    simp only at ht3 ⊢
    have ht3' := E.InP.old ht3
    obtain ⟨z3, hz3⟩ : ∃ z3, x.N = z3 := ⟨_, rfl⟩
    rw [hz3] at ht3' ⊢
    have HZ3 := Lib.hid hz3
    have HX3 := Lib.hid (((HX1.out.next hb3).e ht3').two (.int .i64 z3) (.slice A3 n3 c3) 27)
    simp only [List.nil_append, List.cons_append] at HX3
    clear hc hb3 ht3 ht3' hz3 HX1
    clear p0 p1 p2 p3 p4 p5 p6 p7 p8 p9 p10 p11 p12 p13
    unfold E.tv
    go_upto_region 5 with fail
    generalize w3.alloc (.cells #[.int .i64 z3, .slice A3 n3 c3] 27) = w4 at *
    by_cases he2 : e2 = 0
    · subst he2
      have f := HX3.out.at0
      simp only [List.mem_cons, List.not_mem_nil, or_false, forall_eq_or_imp, forall_eq] at f
      obtain ⟨p0, p1, p2, p3, p4, p5, p6, p7, p8, p9, p10, p11, p12, p13, p14, p15⟩ := f
      obtain ⟨y0, y1, y2, y3, ⟨q0, q1, q2, q3⟩, r0, r1, r2, r3⟩ := HX3.out.facts4 (w.heap.size + 1 + 1) (by simp)
      have HX4 := Lib.hid ((HX3.out.sub (bs' := []) (rs' := [(w.heap.size + 1 + 1, 4)]) (is' := [(s, I.tv o1 A1 n1 c1)]) (es' := [(x, E.tv z3 A3 n3 c3)]) (by simp) (by simp) (by simp) (by simp)).set4 (w.heap.size + 1 + 1) o1 (.slice A1 n1 c1) z3 (.slice A3 n3 c3) (by simp) (by simp) (by simp))
      clear HX3
      go_wp2
      have f := HX4.out.at0
      simp only [List.mem_cons, List.not_mem_nil, or_false, forall_eq_or_imp, forall_eq] at f
      obtain ⟨f0, f1, f2, f3⟩ := f
      refine bodyPost_ret (v := .tuple #[sv o1 A1 n1 c1 z3 A3 n3 c3, .int .i64 0]) (by simp [results, Tryd.f19, go_sem, sv, f0, f1, f2, f3]) rfl ?_
      have HPN : joinS S T S' T' = ((s, x), 0) := by simp [joinS, HR1.out, HR2.out]
      rw [HPN]
      exact ⟨_, rfl, ⟨o1, A1, n1, c1, A3, n3, c3, by simp only; rw [HZ3.out], HX4.out.iget (by simp), by simp only; rw [HZ3.out]; exact HX4.out.eget (by simp)⟩, HX4.out.bel⟩
    · have heb : (e2 != 0) = true := by simpa using he2
      have hec : (e2 == 0) = false := beq_eq_false_iff_ne.2 he2
      have HPN : Hid (joinS S T S' T' = (zeroS, e2)) := Lib.hid (by simp [joinS, HR1.out, HR2.out, he2])
      clear he2
      have f := HX3.out.at0
      simp only [List.mem_cons, List.not_mem_nil, or_false, forall_eq_or_imp, forall_eq] at f
      obtain ⟨p0, p1, p2, p3, p4, p5, p6, p7, p8, p9, p10, p11, p12, p13, p14, p15⟩ := f
      obtain ⟨y0, y1, y2, y3, ⟨q0, q1, q2, q3⟩, r0, r1, r2, r3⟩ := HX3.out.facts4 (w.heap.size + 1 + 1) (by simp)
      have HX9 := Lib.hid ((HX3.out.sub0 (bs' := []) (rs' := [(w.heap.size + 1 + 1, 4)]) (by simp) (by simp)).set4 (w.heap.size + 1 + 1) false (.slice none 0 0) 0 (.slice none 0 0) (by simp) (by simp) (by simp))
      clear HX3
      go_wp2
      have f := HX9.out.at0
      simp only [List.mem_cons, List.not_mem_nil, or_false, forall_eq_or_imp, forall_eq] at f
      obtain ⟨f0, f1, f2, f3⟩ := f
      refine bodyPost_ret (v := .tuple #[sv false none 0 0 0 none 0 0, .int .i64 e2]) (by simp [results, Tryd.f19, go_sem, sv, f0, f1, f2, f3]) rfl ?_
      rw [HPN.out]
      exact ⟨_, rfl, SIn.zero _, HX9.out.bel⟩
  · have heb : (e1 != 0) = true := by simpa using he1
    have hec : (e1 == 0) = false := beq_eq_false_iff_ne.2 he1
    have HPN : Hid (joinS S T S' T' = (zeroS, e1)) := Lib.hid (by simp [joinS, HR1.out, he1])
    clear he1
    have f := HX1.out.at0
    simp only [List.mem_cons, List.not_mem_nil, or_false, forall_eq_or_imp, forall_eq] at f
    obtain ⟨p0, p1, p2, p3, p4, p5, p6, p7, p8, p9, p10, p11, p12, p13⟩ := f
    obtain ⟨y0, y1, y2, y3, ⟨q0, q1, q2, q3⟩, r0, r1, r2, r3⟩ := HX1.out.facts4 (w.heap.size + 1 + 1) (by simp)
    have HX9 := Lib.hid ((HX1.out.sub0 (bs' := []) (rs' := [(w.heap.size + 1 + 1, 4)]) (by simp) (by simp)).set4 (w.heap.size + 1 + 1) false (.slice none 0 0) 0 (.slice none 0 0) (by simp) (by simp) (by simp))
    clear HX1
    go_wp2
    have f := HX9.out.at0
    simp only [List.mem_cons, List.not_mem_nil, or_false, forall_eq_or_imp, forall_eq] at f
    obtain ⟨f0, f1, f2, f3⟩ := f
    refine bodyPost_ret (v := .tuple #[sv false none 0 0 0 none 0 0, .int .i64 e1]) (by simp [results, Tryd.f19, go_sem, sv, f0, f1, f2, f3]) rfl ?_
    rw [HPN.out]
    exact ⟨_, rfl, SIn.zero _, HX9.out.bel⟩
end Go.Proofs.YtoaglkjpjolacaaDoor.S
namespace Go.Proofs.YtoaglkjpjolacaaDoor.S
open Go.RowKit
set_option linter.unusedVariables false
/-- Has it been seen? -/
def sees (l : List Bool) (n : Nat) : Bool := l[n]?.getD false
/-- An identity, an event tree, what was seen. -/
abbrev St3 := I.Tr × E.Tr × List Bool
/-- An event's tree, and a place where it rose. -/
abbrev Evt := E.Tr × (Nat → Bool)
structure Inv (Q : List St3) (evs : List Evt) (T : I.Tr) (F : Nat) : Prop where
  shp : ∀ q ∈ Q, subI q.1 T ∧ subE q.2.1 T
  sml : T.depth ≤ 32 ∧ T.nodes ≤ 1 + 2 * F
  nfs : ∀ q ∈ Q, q.1.norm = q.1 ∧ E.Nf q.2.1 ∧ zero q.1 = false
  cnt : ∀ q ∈ Q, q.2.1.okc (evs.length : Int) = true
  one : ∀ f, I.cnt (Q.map (·.1)) f = 1
  top : ∀ f, ∀ q ∈ Q, ∀ p ∈ Q, I.den q.1 f = true → E.den p.2.1 f ≤ E.den q.2.1 f
  le : ∀ q ∈ Q, ∀ n ev, evs[n]? = some ev → sees q.2.2 n = true → ∀ f, E.den ev.1 f ≤ E.den q.2.1 f
  sup : ∀ q ∈ Q, ∀ f, E.den q.2.1 f = 0 ∨ ∃ n ev, evs[n]? = some ev ∧ sees q.2.2 n = true ∧ E.den q.2.1 f = E.den ev.1 f
  wit : ∀ q ∈ Q, ∀ n ev, evs[n]? = some ev → sees q.2.2 n = false → E.den q.2.1 ev.2 < E.den ev.1 ev.2
  own : ∀ q ∈ Q, ∀ n ev, evs[n]? = some ev → I.den q.1 ev.2 = true → sees q.2.2 n = true
  fut : ∀ q ∈ Q, ∀ n, sees q.2.2 n = true → n < evs.length
theorem cnt_perm {L M : List I.Tr} (h : L.Perm M) (f : Nat → Bool) : I.cnt L f = I.cnt M f := by
  induction h with
  | nil => rfl
  | cons x _ ih => simp only [I.cnt, ih]
  | swap x y l => simp only [I.cnt]; omega
  | trans _ _ h1 h2 => exact h1.trans h2
theorem Inv.perm {Q Q' : List St3} {evs : List Evt} {T : I.Tr} {F : Nat} (h : Inv Q evs T F) (hp : Q.Perm Q') : Inv Q' evs T F where
  shp q hq := h.shp q (hp.mem_iff.2 hq)
  sml := h.sml
  nfs q hq := h.nfs q (hp.mem_iff.2 hq)
  cnt q hq := h.cnt q (hp.mem_iff.2 hq)
  one f := (cnt_perm (hp.map _) f).symm.trans (h.one f)
  top f q hq p hp' := h.top f q (hp.mem_iff.2 hq) p (hp.mem_iff.2 hp')
  le q hq := h.le q (hp.mem_iff.2 hq)
  sup q hq := h.sup q (hp.mem_iff.2 hq)
  wit q hq := h.wit q (hp.mem_iff.2 hq)
  own q hq := h.own q (hp.mem_iff.2 hq)
  fut q hq := h.fut q (hp.mem_iff.2 hq)
/-- One stamp is below another one just if that has seen all that it has. -/
theorem Inv.stands {Q : List St3} {evs : List Evt} {T : I.Tr} {F : Nat} (h : Inv Q evs T F) {q p : St3} (hq : q ∈ Q) (hp : p ∈ Q) : E.leqT q.2.1 p.2.1 0 0 = true ↔ ∀ n, sees q.2.2 n = true → sees p.2.2 n = true := by
  rw [E.leqT_iff]
  constructor
  · intro hl n hn
    have hlt := h.fut q hq n hn
    have he : evs[n]? = some evs[n] := List.getElem?_eq_getElem hlt
    cases hs : sees p.2.2 n with
    | true => rfl
    | false =>
      have h1 := h.wit p hp n _ he hs
      have h2 := h.le q hq n _ he hn evs[n].2
      have h3 := hl evs[n].2
      omega
  · intro hs f
    have h0 : 0 ≤ E.den p.2.1 f := (E.okc_den _ _ (h.cnt p hp) f).1
    rcases h.sup q hq f with e | ⟨n, ev, he, hn, e⟩
    · omega
    · have := h.le p hp n ev he (hs n hn) f
      omega
theorem own_one {q : St3} {R : List St3} {f : Nat → Bool} (h : I.cnt ((q :: R).map (·.1)) f = 1) (hq : I.den q.1 f = true) : ∀ p ∈ R, I.den p.1 f = false := by
  intro p hp
  cases hd : I.den p.1 f with
  | false => rfl
  | true =>
    have : 0 < I.cnt (R.map (·.1)) f := (I.cnt_pos _ f).2 ⟨p.1, List.mem_map.2 ⟨p, hp, rfl⟩, hd⟩
    simp only [List.map_cons, I.cnt, hq, if_true] at h
    omega
theorem get_old {evs : List Evt} {ev e' : Evt} {n : Nat} (h : (evs ++ [ev])[n]? = some e') : (n < evs.length ∧ evs[n]? = some e') ∨ (n = evs.length ∧ e' = ev) := by
  by_cases hn : n < evs.length
  · exact .inl ⟨hn, by rwa [List.getElem?_append_left hn] at h⟩
  · rw [List.getElem?_append_right (by omega)] at h
    by_cases h2 : n = evs.length
    · subst h2; simp at h; exact .inr ⟨rfl, h.symm⟩
    · rw [List.getElem?_eq_none (by simp; omega)] at h; cases h
theorem get_more {evs : List Evt} {ev e' : Evt} {n : Nat} (h : evs[n]? = some e') : (evs ++ [ev])[n]? = some e' := by
  rw [List.getElem?_append_left (List.getElem?_eq_some_iff.1 h).1]; exact h
theorem after_okc {i : I.Tr} {e : E.Tr} {m : Int} (h : e.okc m = true) : (afterT i e).okc (m + 1) = true := by
  unfold afterT
  split
  · exact grow_okc _ i e m (Nat.le_refl _) h
  · exact okc_up _ _ _ (by omega) (fill_okc i e m h)
theorem after_sub {i T : I.Tr} {e : E.Tr} (hi : subI i T) (h : subE e T) : subE (afterT i e) T := by
  unfold afterT
  split
  · exact subE.grow _ i e T (Nat.le_refl _) hi h
  · exact subE.fill i h
/-- An event. -/
theorem Inv.event {q : St3} {R : List St3} {evs : List Evt} {T : I.Tr} {F : Nat} (h : Inv (q :: R) evs T F) {l' : List Bool} (hl : ∀ n, sees l' n = (sees q.2.2 n || decide (n = evs.length))) :
    ∃ x, Inv ((q.1, (afterT q.1 q.2.1).norm, l') :: R) (evs ++ [((afterT q.1 q.2.1).norm, x)]) T F := by
  obtain ⟨i, e, l⟩ := q
  simp only at hl ⊢
  have hq : (i, e, l) ∈ (i, e, l) :: R := List.mem_cons_self ..
  have hR : ∀ p ∈ R, p ∈ (i, e, l) :: R := fun p hp => List.mem_cons_of_mem _ hp
  obtain ⟨hni, hne, hz⟩ := h.nfs _ hq
  simp only at hni hne hz
  obtain ⟨up, off, x, hx, gain⟩ := after_does hni hz hne
  have dn : ∀ f, E.den (afterT i e).norm f = E.den (afterT i e) f := E.den_norm _
  refine ⟨x, ?_⟩
  have notI : ∀ f, ∀ p ∈ R, I.den p.1 f = true → I.den i f = false := by
    intro f p hp hd
    cases hi : I.den i f with
    | false => rfl
    | true => have := own_one (h.one f) hi p hp; rw [hd] at this; cases this
  exact {
    shp := by
      intro p hp
      rcases List.mem_cons.1 hp with rfl | hp
      · exact ⟨(h.shp _ hq).1, (after_sub (h.shp _ hq).1 (h.shp _ hq).2).norm⟩
      · exact h.shp p (hR p hp)
    sml := h.sml
    nfs := by
      intro p hp
      rcases List.mem_cons.1 hp with rfl | hp
      · exact ⟨hni, E.nf_norm _, hz⟩
      · exact h.nfs p (hR p hp)
    cnt := by
      intro p hp
      have e1 : (((evs ++ [((afterT i e).norm, x)]).length : Nat) : Int) = (evs.length : Int) + 1 := by simp
      rw [e1]
      rcases List.mem_cons.1 hp with rfl | hp
      · exact E.okc_norm (after_okc (h.cnt _ hq))
      · exact okc_up _ _ _ (by omega) (h.cnt p (hR p hp))
    one := h.one
    top := by
      intro f p hp p' hp' hd
      rcases List.mem_cons.1 hp with rfl | hp
      · rcases List.mem_cons.1 hp' with rfl | hp'
        · exact Int.le_refl _
        · have h1 := h.top f _ hq p' (hR p' hp') hd
          have h2 := up f
          simp only at h1 ⊢
          rw [dn]; omega
      · rcases List.mem_cons.1 hp' with rfl | hp'
        · have h1 := h.top f p (hR p hp) _ hq hd
          simp only at h1 ⊢
          rw [dn, off f (notI f p hp hd)]; exact h1
        · exact h.top f p (hR p hp) p' (hR p' hp') hd
    le := by
      intro p hp n ev he hs f
      rcases List.mem_cons.1 hp with rfl | hp
      · rcases get_old he with ⟨hn, he⟩ | ⟨rfl, rfl⟩
        · simp only at hs ⊢
          rw [hl, decide_eq_false (by omega), Bool.or_false] at hs
          have h1 := h.le _ hq n ev he hs f
          have h2 := up f
          simp only at h1
          rw [dn]; omega
        · exact Int.le_refl _
      · have hn := h.fut p (hR p hp) n hs
        rcases get_old he with ⟨_, he⟩ | ⟨rfl, _⟩
        · exact h.le p (hR p hp) n ev he hs f
        · omega
    sup := by
      intro p hp f
      rcases List.mem_cons.1 hp with rfl | hp
      · exact .inr ⟨evs.length, ((afterT i e).norm, x), by simp, by simp only; rw [hl]; simp, rfl⟩
      · rcases h.sup p (hR p hp) f with e0 | ⟨n, ev, he, hn, e0⟩
        · exact .inl e0
        · exact .inr ⟨n, ev, get_more he, hn, e0⟩
    wit := by
      intro p hp n ev he hs
      rcases List.mem_cons.1 hp with rfl | hp
      · simp only at hs ⊢
        rw [hl] at hs
        simp only [Bool.or_eq_false_iff, decide_eq_false_iff_not] at hs
        rcases get_old he with ⟨_, he⟩ | ⟨rfl, _⟩
        · have h1 := h.wit _ hq n ev he hs.1
          simp only at h1
          have h2 : I.den i ev.2 = false := by
            cases hd : I.den i ev.2 with
            | false => rfl
            | true => have := h.own _ hq n ev he hd; simp only at this; rw [hs.1] at this; cases this
          rw [dn, off _ h2]; exact h1
        · exact absurd rfl hs.2
      · rcases get_old he with ⟨_, he⟩ | ⟨rfl, rfl⟩
        · exact h.wit p (hR p hp) n ev he hs
        · have h1 := h.top x _ hq p (hR p hp) hx
          simp only at h1 ⊢
          rw [dn]; omega
    own := by
      intro p hp n ev he hd
      rcases List.mem_cons.1 hp with rfl | hp
      · simp only at hd ⊢
        rw [hl]
        rcases get_old he with ⟨_, he⟩ | ⟨rfl, rfl⟩
        · have := h.own _ hq n ev he hd; simp only at this; rw [this]; rfl
        · simp
      · rcases get_old he with ⟨_, he⟩ | ⟨rfl, rfl⟩
        · exact h.own p (hR p hp) n ev he hd
        · have := notI x p hp hd; rw [hx] at this; cases this
    fut := by
      intro p hp n hs
      simp only [List.length_append, List.length_singleton]
      rcases List.mem_cons.1 hp with rfl | hp
      · simp only at hs
        rw [hl, Bool.or_eq_true, decide_eq_true_eq] at hs
        rcases hs with hs | hs
        · have := h.fut _ hq n hs; omega
        · omega
      · have := h.fut p (hR p hp) n hs; omega }
theorem split_norm : ∀ t : I.Tr, t.norm = t → (I.splitT t).1.norm = (I.splitT t).1 ∧ (I.splitT t).2.norm = (I.splitT t).2
  | .leaf false, _ => ⟨rfl, rfl⟩
  | .leaf true, _ => ⟨rfl, rfl⟩
  | .node x y, h => by
    have hk := I.norm_kids h
    have keep : ∀ a b : I.Tr, a.norm = a → b.norm = b → ¬ (a = .leaf false ∧ b = .leaf false) → ¬ (a = .leaf true ∧ b = .leaf true) → (I.Tr.node a b).norm = .node a b := by
      intro a b ha hb h0 h1
      show I.Tr.mk2 a.norm b.norm = _
      rw [ha, hb]
      cases a with
      | leaf o => cases b with
        | leaf p => cases o <;> cases p <;> simp [I.Tr.mk2] at h0 h1 ⊢
        | node _ _ => rfl
      | node _ _ => cases b <;> rfl
    have nz : ¬ (x = .leaf false ∧ y = .leaf false) := by rintro ⟨rfl, rfl⟩; exact absurd h (by simp [I.Tr.norm, I.Tr.mk2])
    rcases I.split_cases x y with ⟨rfl, e⟩ | ⟨hx, rfl, e⟩ | ⟨hx, hy, e⟩
    · obtain ⟨h1, h2⟩ := split_norm y hk.2
      have hy : y ≠ .leaf false := fun e => nz ⟨rfl, e⟩
      have hs := I.split_none y hk.2
      rw [h1, h2] at hs
      rw [e]
      exact ⟨keep _ _ rfl h1 (fun c => hy (hs.1.1 c.2)) (fun c => by cases c.1), keep _ _ rfl h2 (fun c => hy (hs.2.1 c.2)) (fun c => by cases c.1)⟩
    · obtain ⟨h1, h2⟩ := split_norm x hk.1
      have hs := I.split_none x hk.1
      rw [h1, h2] at hs
      rw [e]
      exact ⟨keep _ _ h1 rfl (fun c => hx (hs.1.1 c.1)) (fun c => by cases c.2), keep _ _ h2 rfl (fun c => hx (hs.2.1 c.1)) (fun c => by cases c.2)⟩
    · rw [e]
      exact ⟨keep _ _ hk.1 rfl (fun c => hx c.1) (fun c => by cases c.2), keep _ _ rfl hk.2 (fun c => hy c.2) (fun c => by cases c.1)⟩
theorem zero_ne {t : I.Tr} : zero t = false ↔ t ≠ .leaf false := by
  constructor
  · rintro h rfl; cases h
  · intro h
    cases hq : zero t with
    | false => rfl
    | true => exact absurd (zero_iff.1 hq) h
/-- A fork. -/
theorem Inv.fork {q : St3} {R : List St3} {evs : List Evt} {T : I.Tr} {F : Nat} (h : Inv (q :: R) evs T F) (hd : (I.splitT q.1).1.depth ≤ 32) :
    Inv (((I.splitT q.1).1, q.2.1, q.2.2) :: ((I.splitT q.1).2, q.2.1, q.2.2) :: R) evs (open1 q.1 T) (F + 1) := by
  obtain ⟨i, e, l⟩ := q
  simp only at hd ⊢
  have hq : (i, e, l) ∈ (i, e, l) :: R := List.mem_cons_self ..
  have hR : ∀ p ∈ R, p ∈ (i, e, l) :: R := fun p hp => List.mem_cons_of_mem _ hp
  obtain ⟨hni, hne, hz⟩ := h.nfs _ hq
  simp only at hni hne hz
  obtain ⟨o1, o2, o3, o4, o5⟩ := open1_does i T (h.shp _ hq).1
  obtain ⟨n1, n2⟩ := split_norm i hni
  have hs := I.split_none i hni
  rw [n1, n2] at hs
  have hso := I.split_or i
  have d1 : ∀ f, I.den (I.splitT i).1 f = true → I.den i f = true := fun f hf => by have := (hso f).1; rw [hf] at this; simpa using this.symm
  have d2 : ∀ f, I.den (I.splitT i).2 f = true → I.den i f = true := fun f hf => by have := (hso f).1; rw [hf] at this; simpa using this.symm
  exact {
    shp := by
      intro p hp
      simp only [List.mem_cons] at hp
      rcases hp with rfl | rfl | hp
      · exact ⟨o2, (h.shp _ hq).2.trans o1⟩
      · exact ⟨o3, (h.shp _ hq).2.trans o1⟩
      · exact ⟨(h.shp p (hR p hp)).1.trans o1, (h.shp p (hR p hp)).2.trans o1⟩
    sml := by have := h.sml; omega
    nfs := by
      intro p hp
      simp only [List.mem_cons] at hp
      rcases hp with rfl | rfl | hp
      · exact ⟨n1, hne, zero_ne.2 fun c => zero_ne.1 hz (hs.1.1 c)⟩
      · exact ⟨n2, hne, zero_ne.2 fun c => zero_ne.1 hz (hs.2.1 c)⟩
      · exact h.nfs p (hR p hp)
    cnt := by
      intro p hp
      simp only [List.mem_cons] at hp
      rcases hp with rfl | rfl | hp
      · exact h.cnt (i, e, l) hq
      · exact h.cnt (i, e, l) hq
      · exact h.cnt p (hR p hp)
    one := by
      intro f
      have h1 := h.one f
      have h2 := hso f
      simp only [List.map_cons, I.cnt] at h1 ⊢
      cases ha : I.den (I.splitT i).1 f with
      | false => cases hb : I.den (I.splitT i).2 f with
        | false =>
          have h3 : I.den i f = false := by simpa [ha, hb] using h2.1.symm
          rw [h3] at h1; simpa using h1
        | true =>
          have h3 : I.den i f = true := by simpa [ha, hb] using h2.1.symm
          rw [h3] at h1; simpa using h1
      | true => cases hb : I.den (I.splitT i).2 f with
        | false =>
          have h3 : I.den i f = true := by simpa [ha, hb] using h2.1.symm
          rw [h3] at h1; simpa using h1
        | true => rw [ha, hb] at h2; exact absurd h2.2 (by decide)
    top := by
      intro f p hp p' hp' hdn
      have e1 : ∀ p', p' ∈ ((I.splitT i).1, e, l) :: ((I.splitT i).2, e, l) :: R → ∃ p'' ∈ (i, e, l) :: R, p''.2.1 = p'.2.1 := by
        intro p' hp'
        simp only [List.mem_cons] at hp'
        rcases hp' with rfl | rfl | hp'
        · exact ⟨_, hq, rfl⟩
        · exact ⟨_, hq, rfl⟩
        · exact ⟨p', hR p' hp', rfl⟩
      obtain ⟨p'', hp'', e2⟩ := e1 p' hp'
      rw [← e2]
      simp only [List.mem_cons] at hp
      rcases hp with rfl | rfl | hp
      · exact h.top f _ hq p'' hp'' (d1 f hdn)
      · exact h.top f _ hq p'' hp'' (d2 f hdn)
      · exact h.top f p (hR p hp) p'' hp'' hdn
    le := by
      intro p hp
      simp only [List.mem_cons] at hp
      rcases hp with rfl | rfl | hp
      · exact h.le (i, e, l) hq
      · exact h.le (i, e, l) hq
      · exact h.le p (hR p hp)
    sup := by
      intro p hp
      simp only [List.mem_cons] at hp
      rcases hp with rfl | rfl | hp
      · exact h.sup (i, e, l) hq
      · exact h.sup (i, e, l) hq
      · exact h.sup p (hR p hp)
    wit := by
      intro p hp
      simp only [List.mem_cons] at hp
      rcases hp with rfl | rfl | hp
      · exact h.wit (i, e, l) hq
      · exact h.wit (i, e, l) hq
      · exact h.wit p (hR p hp)
    own := by
      intro p hp n ev he hdn
      simp only [List.mem_cons] at hp
      rcases hp with rfl | rfl | hp
      · exact h.own _ hq n ev he (d1 _ hdn)
      · exact h.own _ hq n ev he (d2 _ hdn)
      · exact h.own p (hR p hp) n ev he hdn
    fut := by
      intro p hp
      simp only [List.mem_cons] at hp
      rcases hp with rfl | rfl | hp
      · exact h.fut (i, e, l) hq
      · exact h.fut (i, e, l) hq
      · exact h.fut p (hR p hp) }
theorem sum_den (a b : I.Tr) (f : Nat → Bool) : I.den (I.sumT a b).norm f = (I.den a f || I.den b f) := by rw [I.den_norm, I.den_sum]
theorem join_den (a b : E.Tr) (f : Nat → Bool) : E.den (E.Tr.join a b 0 0) f = max (E.den a f) (E.den b f) := by rw [E.den_join, Int.zero_add, Int.zero_add]
theorem sum_nz {a b : I.Tr} (ha : a.norm = a) (hz : zero a = false) : zero (I.sumT a b).norm = false := by
  apply zero_ne.2
  intro h
  have h1 := (I.den_all (I.sumT a b) false).2 h
  have h2 : ∀ f, I.den a f = false := fun f => by have := h1 f; rw [I.den_sum, Bool.or_eq_false_iff] at this; exact this.1
  have h3 := (I.den_all a false).1 h2
  rw [ha] at h3
  exact zero_ne.1 hz h3
/-- Two are one. -/
theorem Inv.join {q p : St3} {R : List St3} {evs : List Evt} {T : I.Tr} {F : Nat} (h : Inv (q :: p :: R) evs T F) {l' : List Bool} (hl : ∀ n, sees l' n = (sees q.2.2 n || sees p.2.2 n)) :
    Inv (((I.sumT q.1 p.1).norm, E.Tr.join q.2.1 p.2.1 0 0, l') :: R) evs T F := by
  obtain ⟨i, e, l⟩ := q
  obtain ⟨j, d, m⟩ := p
  simp only at hl ⊢
  have hq : (i, e, l) ∈ (i, e, l) :: (j, d, m) :: R := List.mem_cons_self ..
  have hp : (j, d, m) ∈ (i, e, l) :: (j, d, m) :: R := List.mem_cons_of_mem _ (List.mem_cons_self ..)
  have hR : ∀ r ∈ R, r ∈ (i, e, l) :: (j, d, m) :: R := fun r hr => List.mem_cons_of_mem _ (List.mem_cons_of_mem _ hr)
  have jd := join_den e d
  have sd := sum_den i j
  exact {
    shp := by
      intro r hr
      rcases List.mem_cons.1 hr with rfl | hr
      · exact ⟨((h.shp _ hq).1.sum (h.shp _ hp).1).norm, subE.join 0 0 (h.shp _ hq).2 (h.shp _ hp).2⟩
      · exact h.shp r (hR r hr)
    sml := h.sml
    nfs := by
      intro r hr
      rcases List.mem_cons.1 hr with rfl | hr
      · exact ⟨I.norm_norm _, E.nf_join _ _ _ _, sum_nz (h.nfs _ hq).1 (h.nfs _ hq).2.2⟩
      · exact h.nfs r (hR r hr)
    cnt := by
      intro r hr
      rcases List.mem_cons.1 hr with rfl | hr
      · exact E.okc_join (h.cnt _ hq) (h.cnt _ hp)
      · exact h.cnt r (hR r hr)
    one := by
      intro f
      have h1 := h.one f
      simp only [List.map_cons, I.cnt] at h1 ⊢
      rw [sd]
      cases ha : I.den i f <;> cases hb : I.den j f <;> rw [ha, hb] at h1 <;> simp at h1 ⊢ <;> omega
    top := by
      intro f r hr s hs hd
      rcases List.mem_cons.1 hr with rfl | hr
      · rcases List.mem_cons.1 hs with rfl | hs
        · exact Int.le_refl _
        · simp only at hd ⊢
          rw [sd, Bool.or_eq_true] at hd
          rw [jd]
          rcases hd with hd | hd
          · have := h.top f _ hq s (hR s hs) hd; simp only at this; omega
          · have := h.top f _ hp s (hR s hs) hd; simp only at this; omega
      · rcases List.mem_cons.1 hs with rfl | hs
        · have h1 := h.top f r (hR r hr) _ hq hd
          have h2 := h.top f r (hR r hr) _ hp hd
          simp only at h1 h2 ⊢
          rw [jd]; omega
        · exact h.top f r (hR r hr) s (hR s hs) hd
    le := by
      intro r hr n ev he hs f
      rcases List.mem_cons.1 hr with rfl | hr
      · simp only at hs ⊢
        rw [hl, Bool.or_eq_true] at hs
        rw [jd]
        rcases hs with hs | hs
        · have := h.le _ hq n ev he hs f; simp only at this; omega
        · have := h.le _ hp n ev he hs f; simp only at this; omega
      · exact h.le r (hR r hr) n ev he hs f
    sup := by
      intro r hr f
      rcases List.mem_cons.1 hr with rfl | hr
      · simp only
        rw [jd]
        have p1 := (E.okc_den _ _ (h.cnt _ hq) f).1
        have p2 := (E.okc_den _ _ (h.cnt _ hp) f).1
        simp only at p1 p2
        by_cases hle : E.den e f ≤ E.den d f
        · rw [Int.max_eq_right hle]
          rcases h.sup _ hp f with e0 | ⟨n, ev, he, hn, e0⟩
          · exact .inl e0
          · exact .inr ⟨n, ev, he, by rw [hl]; simp only at hn; rw [hn, Bool.or_true], e0⟩
        · rw [Int.max_eq_left (by omega)]
          rcases h.sup _ hq f with e0 | ⟨n, ev, he, hn, e0⟩
          · exact .inl e0
          · exact .inr ⟨n, ev, he, by rw [hl]; simp only at hn; rw [hn, Bool.true_or], e0⟩
      · exact h.sup r (hR r hr) f
    wit := by
      intro r hr n ev he hs
      rcases List.mem_cons.1 hr with rfl | hr
      · simp only at hs ⊢
        rw [hl, Bool.or_eq_false_iff] at hs
        have h1 := h.wit _ hq n ev he hs.1
        have h2 := h.wit _ hp n ev he hs.2
        simp only at h1 h2
        rw [jd]; omega
      · exact h.wit r (hR r hr) n ev he hs
    own := by
      intro r hr n ev he hd
      rcases List.mem_cons.1 hr with rfl | hr
      · simp only at hd ⊢
        rw [sd, Bool.or_eq_true] at hd
        rw [hl, Bool.or_eq_true]
        rcases hd with hd | hd
        · exact .inl (h.own _ hq n ev he hd)
        · exact .inr (h.own _ hp n ev he hd)
      · exact h.own r (hR r hr) n ev he hd
    fut := by
      intro r hr n hs
      rcases List.mem_cons.1 hr with rfl | hr
      · simp only at hs
        rw [hl, Bool.or_eq_true] at hs
        rcases hs with hs | hs
        · exact h.fut _ hq n hs
        · exact h.fut _ hp n hs
      · exact h.fut r (hR r hr) n hs }
/-- One takes in what another one has seen. -/
theorem Inv.peek {q p : St3} {R : List St3} {evs : List Evt} {T : I.Tr} {F : Nat} (h : Inv (q :: p :: R) evs T F) {l' : List Bool} (hl : ∀ n, sees l' n = (sees q.2.2 n || sees p.2.2 n)) :
    Inv ((q.1, E.Tr.join q.2.1 p.2.1 0 0, l') :: p :: R) evs T F := by
  obtain ⟨i, e, l⟩ := q
  obtain ⟨j, d, m⟩ := p
  simp only at hl ⊢
  have hq : (i, e, l) ∈ (i, e, l) :: (j, d, m) :: R := List.mem_cons_self ..
  have hp : (j, d, m) ∈ (i, e, l) :: (j, d, m) :: R := List.mem_cons_of_mem _ (List.mem_cons_self ..)
  have hR : ∀ r ∈ (j, d, m) :: R, r ∈ (i, e, l) :: (j, d, m) :: R := fun r hr => List.mem_cons_of_mem _ hr
  have jd := join_den e d
  exact {
    shp := by
      intro r hr
      rcases List.mem_cons.1 hr with rfl | hr
      · exact ⟨(h.shp _ hq).1, subE.join 0 0 (h.shp _ hq).2 (h.shp _ hp).2⟩
      · exact h.shp r (hR r hr)
    sml := h.sml
    nfs := by
      intro r hr
      rcases List.mem_cons.1 hr with rfl | hr
      · exact ⟨(h.nfs _ hq).1, E.nf_join _ _ _ _, (h.nfs _ hq).2.2⟩
      · exact h.nfs r (hR r hr)
    cnt := by
      intro r hr
      rcases List.mem_cons.1 hr with rfl | hr
      · exact E.okc_join (h.cnt _ hq) (h.cnt _ hp)
      · exact h.cnt r (hR r hr)
    one := h.one
    top := by
      intro f r hr s hs hd
      rcases List.mem_cons.1 hr with rfl | hr
      · rcases List.mem_cons.1 hs with rfl | hs
        · exact Int.le_refl _
        · have := h.top f _ hq s (hR s hs) hd
          simp only at this ⊢
          rw [jd]; omega
      · rcases List.mem_cons.1 hs with rfl | hs
        · have h1 := h.top f r (hR r hr) _ hq hd
          have h2 := h.top f r (hR r hr) _ hp hd
          simp only at h1 h2 ⊢
          rw [jd]; omega
        · exact h.top f r (hR r hr) s (hR s hs) hd
    le := by
      intro r hr n ev he hs f
      rcases List.mem_cons.1 hr with rfl | hr
      · simp only at hs ⊢
        rw [hl, Bool.or_eq_true] at hs
        rw [jd]
        rcases hs with hs | hs
        · have := h.le _ hq n ev he hs f; simp only at this; omega
        · have := h.le _ hp n ev he hs f; simp only at this; omega
      · exact h.le r (hR r hr) n ev he hs f
    sup := by
      intro r hr f
      rcases List.mem_cons.1 hr with rfl | hr
      · simp only
        rw [jd]
        have p1 := (E.okc_den _ _ (h.cnt _ hq) f).1
        have p2 := (E.okc_den _ _ (h.cnt _ hp) f).1
        simp only at p1 p2
        by_cases hle : E.den e f ≤ E.den d f
        · rw [Int.max_eq_right hle]
          rcases h.sup _ hp f with e0 | ⟨n, ev, he, hn, e0⟩
          · exact .inl e0
          · exact .inr ⟨n, ev, he, by rw [hl]; simp only at hn; rw [hn, Bool.or_true], e0⟩
        · rw [Int.max_eq_left (by omega)]
          rcases h.sup _ hq f with e0 | ⟨n, ev, he, hn, e0⟩
          · exact .inl e0
          · exact .inr ⟨n, ev, he, by rw [hl]; simp only at hn; rw [hn, Bool.true_or], e0⟩
      · exact h.sup r (hR r hr) f
    wit := by
      intro r hr n ev he hs
      rcases List.mem_cons.1 hr with rfl | hr
      · simp only at hs ⊢
        rw [hl, Bool.or_eq_false_iff] at hs
        have h1 := h.wit _ hq n ev he hs.1
        have h2 := h.wit _ hp n ev he hs.2
        simp only at h1 h2
        rw [jd]; omega
      · exact h.wit r (hR r hr) n ev he hs
    own := by
      intro r hr n ev he hd
      rcases List.mem_cons.1 hr with rfl | hr
      · simp only at hd ⊢
        rw [hl, Bool.or_eq_true]
        exact .inl (h.own _ hq n ev he hd)
      · exact h.own r (hR r hr) n ev he hd
    fut := by
      intro r hr n hs
      rcases List.mem_cons.1 hr with rfl | hr
      · simp only at hs
        rw [hl, Bool.or_eq_true] at hs
        rcases hs with hs | hs
        · exact h.fut _ hq n hs
        · exact h.fut _ hp n hs
      · exact h.fut r (hR r hr) n hs }
/-- The beginning. -/
theorem inv_seed : Inv [(.leaf true, .leaf 0, [])] [] (.leaf false) 0 where
  shp q hq := by simp only [List.mem_singleton] at hq; subst hq; exact ⟨trivial, trivial⟩
  sml := by decide
  nfs q hq := by simp only [List.mem_singleton] at hq; subst hq; exact ⟨rfl, trivial, rfl⟩
  cnt q hq := by simp only [List.mem_singleton] at hq; subst hq; rfl
  one f := rfl
  top f q hq p hp _ := by simp only [List.mem_singleton] at hq hp; subst hq; subst hp; exact Int.le_refl _
  le q hq n ev he := by simp at he
  sup q hq f := by simp only [List.mem_singleton] at hq; subst hq; exact .inl rfl
  wit q hq n ev he := by simp at he
  own q hq n ev he := by simp at he
  fut q hq n hs := by simp only [List.mem_singleton] at hq; subst hq; simp [sees] at hs
/-- What lies in a state fits. -/
theorem Inv.fits {Q : List St3} {evs : List Evt} {T : I.Tr} {F : Nat} (h : Inv Q evs T F) (hF : F ≤ 1000) (hE : evs.length ≤ 1000000) {q : St3} (hq : q ∈ Q) : I.fit q.1 = some q.1 ∧ E.okT q.2.1 = true := by
  have h1 := (h.shp q hq).1.small
  have h2 := (h.shp q hq).2.small
  have h3 := h.sml
  refine ⟨I.fit_of (by omega) (by omega), (E.okT_iff _).2 ⟨by omega, okc_up _ _ _ ?_ (h.cnt q hq), by omega⟩⟩
  unfold E.mc; omega
/-- Whatever is done is answered. -/
theorem Inv.event_ok {q : St3} {R : List St3} {evs : List Evt} {T : I.Tr} {F : Nat} (h : Inv (q :: R) evs T F) (hF : F ≤ 1000) (hE : evs.length ≤ 1000000) : eventR (some q.1) (some q.2.1) = ((q.1, (afterT q.1 q.2.1).norm), 0) := by
  have hq : q ∈ q :: R := List.mem_cons_self ..
  obtain ⟨n1, n2, n3⟩ := h.nfs q hq
  have h2 := (after_sub (h.shp q hq).1 (h.shp q hq).2).small
  have h3 := h.sml
  have h4 := after_okc (i := q.1) (h.cnt q hq)
  have hok : E.okT (afterT q.1 q.2.1) = true := (E.okT_iff _).2 ⟨by omega, okc_up _ _ _ (by unfold E.mc; omega) h4, by omega⟩
  simp only [eventR, n1, E.norm_nf n2, n3, hok, Bool.false_eq_true, if_false, if_true]
theorem Inv.join_ok {q p : St3} {R : List St3} {evs : List Evt} {T : I.Tr} {F : Nat} (h : Inv (q :: p :: R) evs T F) (hF : F ≤ 1000) (hE : evs.length ≤ 1000000) : joinS (some q.1) (some q.2.1) (some p.1) (some p.2.1) = (((I.sumT q.1 p.1).norm, E.Tr.join q.2.1 p.2.1 0 0), 0) := by
  have hq : q ∈ q :: p :: R := List.mem_cons_self ..
  have hp : p ∈ q :: p :: R := List.mem_cons_of_mem _ (List.mem_cons_self ..)
  have hb : I.bothT q.1 p.1 = false := (I.both_false _ _).2 fun f hf => own_one (h.one f) hf p (List.mem_cons_self ..)
  have h1 := ((h.shp _ hq).1.sum (h.shp _ hp).1).norm.small
  have h2 := (subE.join 0 0 (h.shp _ hq).2 (h.shp _ hp).2).small
  have h3 := h.sml
  have hf : I.fit (I.sumT q.1 p.1).norm = some (I.sumT q.1 p.1).norm := I.fit_of (by omega) (by omega)
  have hok : E.okT (E.Tr.join q.2.1 p.2.1 0 0) = true := (E.okT_iff _).2 ⟨by omega, okc_up _ _ _ (by unfold E.mc; omega) (E.okc_join (h.cnt _ hq) (h.cnt _ hp)), by omega⟩
  have e1 : I.sumR (some q.1) (some p.1) = ((I.sumT q.1 p.1).norm, 0) := by simp only [I.sumR, hb, hf, Bool.false_eq_true, if_false, Option.isSome_some, if_true]
  have e2 : E.joinR (some q.2.1) (some p.2.1) = (E.Tr.join q.2.1 p.2.1 0 0, 0) := by simp only [E.joinR, hok, if_true]
  simp [joinS, e1, e2]
theorem Inv.peek_ok {q p : St3} {R : List St3} {evs : List Evt} {T : I.Tr} {F : Nat} (h : Inv (q :: p :: R) evs T F) (hF : F ≤ 1000) (hE : evs.length ≤ 1000000) : joinS (some q.1) (some q.2.1) (some (.leaf false)) (some p.2.1) = ((q.1, E.Tr.join q.2.1 p.2.1 0 0), 0) := by
  have hq : q ∈ q :: p :: R := List.mem_cons_self ..
  have hp : p ∈ q :: p :: R := List.mem_cons_of_mem _ (List.mem_cons_self ..)
  have h2 := (subE.join 0 0 (h.shp _ hq).2 (h.shp _ hp).2).small
  have h3 := h.sml
  have hok : E.okT (E.Tr.join q.2.1 p.2.1 0 0) = true := (E.okT_iff _).2 ⟨by omega, okc_up _ _ _ (by unfold E.mc; omega) (E.okc_join (h.cnt _ hq) (h.cnt _ hp)), by omega⟩
  have hb : I.bothT q.1 (.leaf false) = false := (I.both_false _ _).2 fun _ _ => rfl
  have hs : (I.sumT q.1 (.leaf false)).norm = q.1 := by
    have : (I.sumT q.1 (.leaf false)).norm = q.1.norm := (I.norm_iff_den _ _).2 fun f => by rw [I.den_sum]; simp [I.den]
    rw [this, (h.nfs _ hq).1]
  have e1 : I.sumR (some q.1) (some (.leaf false)) = (q.1, 0) := by simp only [I.sumR, hb, hs, (h.fits hF hE hq).1, Bool.false_eq_true, if_false, Option.isSome_some, if_true]
  have e2 : E.joinR (some q.2.1) (some p.2.1) = (E.Tr.join q.2.1 p.2.1 0 0, 0) := by simp only [E.joinR, hok, if_true]
  simp [joinS, e1, e2]
end Go.Proofs.YtoaglkjpjolacaaDoor.S
