/-
  A region that draws its order inside an iterator, at the wide fence: what only looks at a part of the world that the others leave alone may be looked at first.
-/
import Derived.Test.YtdffifkleaekhaaPRight
import Derived.Test.YtdffifkleaekhaaPDelete
import Derived.OrdersIn
import Derived.OrdersHeld
import Derived.RangeFuncCalls
namespace Go.Proofs.Ytdffifkleaekhaa.O
open Go
set_option linter.unusedVariables false
set_option linter.unusedSimpArgs false

section
variable {n : Nat} {P : Program} {ops : Array Oper} {Q : Exit → Act → World → Prop} {md : Region.Mode} {S : World → Prop}

/-- Operation j, and what then holds. -/
abbrev stepW (n : Nat) (P : Program) (ops : Array Oper) (Q : Exit → Act → World → Prop) (j : Nat) (K : Act → World → Prop) (a : Act) (w : World) : Prop := Go.wpOpIn Fence.wide n P ops Q j K a w
/-- An operation that yields wherever S holds, done now. -/
theorem stepW_now {i : Nat} {o : Oper} {v : Value} {a : Act} {w : World} {K : Act → World → Prop} (ho : ops[i]? = some o) (hy : YieldsIf P ops S o v a) (hS : S w) (hK : K (a.put o.dst v) w) : stepW n P ops Q i K a w := by
  show Go.wpOpIn _ _ _ _ _ _ _ _ _
  unfold Go.wpOpIn
  rw [ho]
  simp only
  rcases hy with ⟨hw, hv⟩ | ⟨hw, rfl⟩
  · rw [if_pos hw]
    refine ⟨fun _ _ => trivial, ?_⟩
    rw [show Fence.wide.round = none from rfl, Oper.semAt_none, hv w hS]
    exact hK
  · rw [if_neg (by rw [hw]; simp)]
    exact ⟨fun _ _ => trivial, hK⟩
/-- .. or put off behind another one that is apart from it. -/
theorem stepW_later {j : Nat} {oi oj : Oper} {v : Value} {a : Act} {w : World} {K : Act → World → Prop} (hj : ops[j]? = some oj) (hap : oi.apart ops oj = true) (hsel : ∀ (k : Nat) (o : Oper) cs b, ops[k]? = some o → o.op ≠ .select cs b) (hsi : ∀ cs b, oi.op ≠ .select cs b)
    (hQ : ∀ c a w, Q (.panic c) (a.put oi.dst v) w → Q (.panic c) a w) (hy : YieldsIf P ops S oi v a) (h : stepW n P ops Q j K (a.put oi.dst v) w) :
    stepW n P ops Q j (fun a' w' => YieldsIf P ops S oi v a' ∧ K (a'.put oi.dst v) w') a w := by
  obtain ⟨q1, q2, q3⟩ := Oper.apart_spec hap
  have hsj := fun cs b => hsel j oj cs b hj
  have hold : ∀ {b : Act}, YieldsIf P ops S oi v b → ∀ u, YieldsIf P ops S oi v (b.put oj.dst u) := fun {b} hb u => hb.of_same (execOp_put oi hsi b oj.dst u q3) (wanted_put oi b oj.dst u q3)
  have both : ∀ u w', K ((a.put oi.dst v).put oj.dst u) w' → YieldsIf P ops S oi v (a.put oj.dst u) ∧ K ((a.put oj.dst u).put oi.dst v) w' := fun u w' hk => ⟨hold hy u, by rw [← Act.put_comm a v u q2]; exact hk⟩
  show Go.wpOpIn _ _ _ _ _ _ _ _ _
  have h0 : Go.wpOpIn Fence.wide n P ops Q j K (a.put oi.dst v) w := h
  unfold Go.wpOpIn at h0 ⊢
  rw [hj] at h0 ⊢
  simp only at h0 ⊢
  rw [wanted_put oj a oi.dst v q1] at h0
  by_cases hw : Region.wanted oj (yielded ops a.tmps) = true
  · rw [if_pos hw] at h0 ⊢
    refine ⟨fun _ _ => trivial, ?_⟩
    have h1 := h0.2
    rw [show Fence.wide.round = none from rfl, Oper.semAt_none, execOp_put oj hsj a oi.dst v q1] at h1
    rw [show Fence.wide.round = none from rfl, Oper.semAt_none]
    cases hr : (execOp a.eval oj).run P w with
    | halt x w' =>
      rw [hr] at h1
      cases x <;> first | exact h1 | exact hQ _ _ _ h1
    | ok x w' =>
      rw [hr] at h1
      cases x with
      | value u => exact both u w' h1
      | skip => exact both undef w' h1
      | defer d => exact ⟨hold (hy.of_same rfl rfl : YieldsIf P ops S oi v { a with defers := d :: a.defers }) _, by rw [← Act.put_comm _ v undef q2, ← Act.put_defers]; exact h1⟩
      | enter f args =>
        refine ⟨h1.1, h1.2.mono fun e w2 he => ?_⟩
        cases e with
        | returned u => exact both u w2 he
        | panicked c => exact hQ _ _ _ he
        | outgrown => exact he
      | row row args => exact ⟨h1.1, h1.2.mono fun u w2 he => both u w2 he⟩
      | round l f tmps assign body =>
        refine ⟨h1.1, h1.2.mono fun e w2 he => ?_⟩
        cases e with
        | returned u => exact both u w2 he
        | panicked c => exact hQ _ _ _ he
        | outgrown => exact he
      | _ => exact h1
  · rw [if_neg hw] at h0 ⊢
    exact ⟨fun _ _ => trivial, both undef w h0.2⟩
/-- Whichever order; S holds behind each operation. -/
def anyW (n : Nat) (P : Program) (md : Region.Mode) (ops : Array Oper) (Q : Exit → Act → World → Prop) (S : World → Prop) : Nat → Array Bool → Act → World → Prop
  | 0, l, a, w => Region.ready md ops l = [] ∧ Q .normal a w
  | k + 1, l, a, w => (Region.ready md ops l = [] → Q .normal a w) ∧ ∀ i ∈ Region.ready md ops l, stepW n P ops Q i (fun a' w' => S w' ∧ anyW n P md ops Q S k (l.setIfInBounds i true) a' w') a w
theorem anyW_in : ∀ (k : Nat) (l : Array Bool) (a : Act) (w : World), anyW n P md ops Q S k l a w → wpAnyIn Fence.wide n P md ops Q k l a w
  | 0, _, _, _, h => h
  | k + 1, _, _, _, h => ⟨h.1, fun i hi => wpOpIn_mono (fun a' w' h' => anyW_in k _ a' w' h'.2) (h.2 i hi)⟩
theorem anyW_first {i : Nat} {oi : Oper} {v : Value} (hi : ops[i]? = some oi) (hsel : ∀ (k : Nat) (o : Oper) cs b, ops[k]? = some o → o.op ≠ .select cs b) (hQ : ∀ c a w, Q (.panic c) (a.put oi.dst v) w → Q (.panic c) a w) :
    ∀ (k : Nat) (l : Array Bool) (a : Act) (w : World), (∀ j oj, ops[j]? = some oj → j ≠ i → l.getD j true = false → (∀ e ∈ oj.after, Region.binds md e = true → e.on ≠ i) → oi.apart ops oj = true) → i ∈ Region.ready md ops l →
      YieldsIf P ops S oi v a → S w → anyW n P md ops Q S k (l.setIfInBounds i true) (a.put oi.dst v) w → anyW n P md ops Q S (k + 1) l a w
  | 0, l, a, w, hf, hr, hy, hS, H => by
    refine ⟨fun h => (by rw [h] at hr; cases hr), fun j hj => ?_⟩
    by_cases e : j = i
    · subst e; exact stepW_now hi hy hS ⟨hS, H⟩
    · have := ready_mono hj e
      rw [H.1] at this; cases this
  | k + 1, l, a, w, hf, hr, hy, hS, H => by
    refine ⟨fun h => (by rw [h] at hr; cases hr), fun j hj => ?_⟩
    by_cases e : j = i
    · subst e; exact stepW_now hi hy hS ⟨hS, H⟩
    · obtain ⟨hun, oj, hoj, hall⟩ := mem_ready.1 hj
      have hno : ∀ x ∈ oj.after, Region.binds md x = true → x.on ≠ i := fun x hx hb he => by
        have h1 := hall x hx hb
        have h0 := (mem_ready.1 hr).1
        rw [he] at h1
        rcases Nat.lt_or_ge i l.size with h' | h'
        · simp [h'] at h0 h1; rw [h0] at h1; cases h1
        · simp [Array.getElem?_eq_none h'] at h1
      refine wpOpIn_mono (fun a' w' g => ⟨g.2.1, ?_⟩) (stepW_later hoj (hf j oj hoj e hun hno) hsel (fun cs b => hsel i oi cs b hi) hQ hy (H.2 j (ready_mono hj e)))
      refine anyW_first hi hsel hQ k _ a' w' (fun m om hm hmi hmu hmn => hf m om hm hmi ?_ hmn) (ready_mono hr (Ne.symm e)) g.1 g.2.1 ?_
      · by_cases hjm : j = m
        · subst hjm; exact hun
        · rw [getD_set_ne true hjm] at hmu; exact hmu
      · rw [Array.setIfInBounds_comm _ _ e]
        exact g.2.2
theorem anyW_take {i : Nat} {oi : Oper} {v : Value} {k : Nat} {l : Array Bool} {a : Act} {w : World} (hi : ops[i]? = some oi) (hs : Region.noSelect ops = true) (hf : Region.free md ops l i = true) (hr : (Region.ready md ops l).contains i = true)
    (hQ : ∀ c a w, Q (.panic c) (a.put oi.dst v) w → Q (.panic c) a w) (hy : YieldsIf P ops S oi v a) (hS : S w) (h : anyW n P md ops Q S k (l.setIfInBounds i true) (a.put oi.dst v) w) : anyW n P md ops Q S (k + 1) l a w :=
  anyW_first hi (Region.noSelect_spec hs) hQ k l a w (Region.free_spec hi hf) (by simpa using hr) hy hS h
theorem anyW_one {i : Nat} {o : Oper} {k : Nat} {l : Array Bool} {a : Act} {w : World} (hr : Region.ready md ops l = [i]) (ho : ops[i]? = some o)
    (h : ∀ K : Act → World → Prop, RowKit.Hid (∀ a' w', S w' → (S w' → anyW n P md ops Q S k (l.setIfInBounds i true) a' w') → K a' w') → if Region.wanted o (yielded ops a.tmps) = true then Oper.wpIn Fence.wide n P o a w K Q else (∀ f, o.about P w a.eval = some f → Fence.wide.fn f) ∧ K (a.put o.dst undef) w) :
    anyW n P md ops Q S (k + 1) l a w := by
  refine ⟨fun h0 => (by rw [h0] at hr; cases hr), fun j hj => ?_⟩
  rw [hr] at hj
  obtain rfl : j = i := by simpa using hj
  show Go.wpOpIn _ _ _ _ _ _ _ _ _
  unfold Go.wpOpIn
  rw [ho]
  exact h _ fun a' w' hS hk => ⟨hS, hk hS⟩
theorem anyW_done {l : Array Bool} {a : Act} {w : World} (hr : Region.ready md ops l = []) (h : Q .normal a w) : ∀ k, anyW n P md ops Q S k l a w
  | 0 => ⟨hr, h⟩
  | _ + 1 => ⟨fun _ => h, by rw [hr]; simp⟩
/-- The beginning. -/
theorem region_heldW {id : Nat} {a : Act} {w : World} (S : World → Prop) (hm : P.follows .mixedOrders = true) (h : anyW n P .any ops Q S ops.size (Array.replicate ops.size false) a w.drew) : (Code.region id ops true).wpIn Fence.wide n P Q a w :=
  wpIn_region_any hm (anyW_in _ _ _ _ h)
end
end Go.Proofs.Ytdffifkleaekhaa.O
