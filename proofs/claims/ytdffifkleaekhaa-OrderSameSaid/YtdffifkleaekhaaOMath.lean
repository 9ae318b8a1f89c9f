/-
  Operations and pools, plainly.
-/
import Derived.Test.YtdffifkleaekhaaVLawMath
namespace Go.Proofs.Ytdffifkleaekhaa.O
open Go.Proofs.Ytdffifkleaekhaa.V
set_option linter.unusedVariables false
set_option linter.unusedSimpArgs false

structure Op where
  dot : D
  deps : List D
  cart : ByteArray
  kind : Int
  item : ByteArray
  qty : Int
  seen : List D
deriving DecidableEq

def aheadB (a b : D) : Bool := ltA a.1 b.1 || (decide (a.1 = b.1) && decide (a.2 < b.2))
/-- Seen: each one had, in order. -/
def seenB (deps : List D) : List D → Bool
  | [] => true
  | [d] => hasB deps d
  | d :: e :: t => hasB deps d && aheadB d e && seenB deps (e :: t)
def kindB (o : Op) : Bool :=
  (decide (o.kind = 1) && (decide (1 ≤ o.qty) && decide (o.qty ≤ 9999)) && decide (o.seen.length = 0)) ||
  (decide (o.kind = 2) && (decide (1 ≤ o.qty) && decide (o.qty ≤ 9999))) || (decide (o.kind = 3) && decide (o.qty = 0))
def sizeB (s : ByteArray) : Bool := decide (1 ≤ s.size) && decide (s.size ≤ 32)
def rightO (o : Op) : Bool :=
  dotB o.dot && rightB o.deps && decide (at' o.deps o.dot.1 = o.dot.2 - 1) && decide (o.seen.length ≤ 128) && sizeB o.cart && sizeB o.item && seenB o.deps o.seen && kindB o
structure RightO (o : Op) : Prop where
  dot : dotB o.dot = true
  deps : rightB o.deps = true
  at_ : at' o.deps o.dot.1 = o.dot.2 - 1
theorem rightO_iff {o : Op} (h : rightO o = true) : RightO o := by
  unfold rightO at h
  simp only [Bool.and_eq_true, decide_eq_true_eq] at h
  exact ⟨h.1.1.1.1.1.1.1, h.1.1.1.1.1.1.2, h.1.1.1.1.1.2⟩

structure Pool where
  L : List Op
  K : List D
  W : List Op
def none_ : Pool := ⟨[], [], []⟩
def find (l : List Op) (d : D) : Option Op := l.find? fun o => decide (o.dot = d)
def ready (K : List D) (o : Op) : Bool := decide ((withO K o.dot).2 = 0) && leqB o.deps K
def hand (p : Pool) (o : Op) : Pool := ⟨p.L ++ [o], (withO p.K o.dot).1, p.W⟩
def drain : Nat → Pool → Pool × Int
  | 0, p => (p, 0)
  | k + 1, p => match p.W.findIdx? (ready p.K) with
    | none => (p, 0)
    | some i => match p.W[i]? with
      | none => (p, 0)
      | some o => let r := drain k ⟨p.L ++ [o], (withO p.K o.dot).1, p.W.eraseIdx i⟩; (r.1, r.2 + 1)
/-- Put, plainly: the pool behind it, how many were handed on, the error. -/
def putP (p : Pool) (o : Op) : Pool × Int × Int :=
  if rightO o = true then
    (if (∃ x, find p.L o.dot = some x ∧ x ≠ o) ∨ (∃ x, find p.W o.dot = some x ∧ x ≠ o) then (p, 0, 81)
    else if (find p.L o.dot).isSome = true ∨ (find p.W o.dot).isSome = true then (p, 0, 0)
    else if at' p.K o.dot.1 = 0 ∧ 64 ≤ p.K.length then (p, 0, 70)
    else if leqB o.deps p.K = true then (let r := drain p.W.length (hand p o); (r.1, r.2 + 1, 0))
    else if 256 ≤ p.W.length then (p, 0, 82) else (⟨p.L, p.K, p.W ++ [o]⟩, 0, 0))
  else (p, 0, 2)
/-- What was handed on, one behind the other, and what is known of it. -/
inductive Ch : List Op → List D → Prop
  | nil : Ch [] []
  | snoc {L : List Op} {K K' : List D} {o : Op} : Ch L K → leqB o.deps K = true → withO K o.dot = (K', 0) → Ch (L ++ [o]) K'
theorem find_some {l : List Op} {d : D} {x : Op} (h : find l d = some x) : x ∈ l ∧ x.dot = d := by
  unfold find at h
  exact ⟨List.mem_of_find?_eq_some h, by simpa using List.find?_some h⟩
theorem find_none {l : List Op} {d : D} (h : find l d = none) : ∀ x ∈ l, x.dot ≠ d := by
  unfold find at h
  intro x hx
  have := (List.find?_eq_none.1 h) x hx
  simpa using this
/-- All but that none that waits is ready. -/
structure Inv (p : Pool) : Prop where
  rk : rightB p.K = true
  ro : ∀ o ∈ p.L ++ p.W, rightO o = true
  nd : ((p.L ++ p.W).map fun o => o.dot).Nodup
  kn : ∀ w n, (1 ≤ n ∧ n ≤ at' p.K w) ↔ ∃ o ∈ p.L, o.dot = (w, n)
  ch : Ch p.L p.K
theorem inv_none : Inv none_ := by
  refine ⟨by decide, by simp [none_], by simp [none_], fun w n => ?_, Ch.nil⟩
  simp [none_, at']
  omega
theorem putV_same_len {v : List D} (sv : srt ordA v) (pv : pos v) {w : ByteArray} (n : Int) (h : 0 < at' v w) : (putV ordA v w n).length = v.length := by
  induction v with
  | nil => simp [at'] at h
  | cons d t ih =>
    simp only [putV]
    by_cases hl : ordA.lt d.1 w = true
    · rw [if_pos hl]
      have hne : d.1 ≠ w := lt_ne ordA hl
      have ht : 0 < at' t w := by
        have e : at' (d :: t) w = if d.1 = w then d.2 else at' t w := rfl
        rw [e, if_neg hne] at h; exact h
      simp only [List.length_cons, ih sv.2 (fun x hx => pv x (List.mem_cons_of_mem _ hx)) ht]
    · rw [if_neg hl]
      have hdw : d.1 = w := by
        by_cases hd : d.1 = w
        · exact hd
        · have e : at' (d :: t) w = if d.1 = w then d.2 else at' t w := rfl
          rw [e, if_neg hd] at h
          obtain ⟨m, hm, _⟩ := at_gt (fun x hx => pv x (List.mem_cons_of_mem _ hx)) h
          exact absurd (sv.1 _ hm) hl
      have hft : (d :: t).filter (fun e => decide (e.1 ≠ w)) = t := by
        rw [List.filter_cons, if_neg (by simp [hdw])]
        refine List.filter_eq_self.2 fun x hx => ?_
        have := lt_ne ordA (sv.1 x hx)
        rw [hdw] at this
        simpa using this.symm
      rw [hft]; simp
/-- The next dot of one, put to what is known. -/
theorem with_ok {K : List D} {w : ByteArray} {n : Int} (rk : rightB K = true) (hd : dotB (w, n) = true) (hn : n = at' K w + 1) (hroom : 0 < at' K w ∨ K.length < 64) :
    withO K (w, n) = (putV ordA K w n, 0) ∧ rightB (putV ordA K w n) = true ∧ ∀ x, at' (putV ordA K w n) x = if x = w then n else at' K x := by
  have h0 := right_at rk w
  obtain ⟨hname, h1, h2⟩ := dotB_iff.1 hd
  simp only at hname h1 h2
  have hlen : (putV ordA K w n).length ≤ 64 := by
    rcases hroom with h | h
    · rw [putV_same_len (right_srt rk) (right_pos rk) n h]; exact right_len rk
    · have := putV_len K w n; omega
  have hat := fun x => putV_at ordA (v := K) w n x
  refine ⟨?_, right_of (putV_srt ordA (right_srt rk) w n) (putV_pos ordA (right_pos rk) (by omega)) hlen fun x hx => ?_, hat⟩
  · rw [with_eq, if_pos (by rw [rk, hd]; rfl), if_pos ⟨by omega, hlen⟩]
  · rw [hat] at hx ⊢
    split
    · rename_i e; subst e; exact ⟨hname, by omega⟩
    · rename_i e
      rw [if_neg e] at hx
      exact ⟨name_of rk hx, right_le rk x⟩
theorem with_zero {K : List D} {d : D} (h : (withO K d).2 = 0) : rightB K = true ∧ dotB d = true ∧ d.2 = at' K d.1 + 1 ∧ (putV ordA K d.1 d.2).length ≤ 64 ∧ withO K d = (putV ordA K d.1 d.2, 0) := by
  obtain ⟨w, n⟩ := d
  have e := with_eq K w n
  by_cases h1 : (rightB K && dotB (w, n)) = true
  · rw [if_pos h1] at e
    by_cases h2 : n - 1 = at' K w ∧ (putV ordA K w n).length ≤ 64
    · rw [if_pos h2] at e
      obtain ⟨a, b⟩ := Bool.and_eq_true_iff.1 h1
      exact ⟨a, b, by simp only; omega, h2.2, e⟩
    · rw [if_neg h2] at e; rw [e] at h; cases h
  · rw [if_neg h1] at e; rw [e] at h; cases h
theorem put_right {K : List D} {w : ByteArray} {n : Int} (rk : rightB K = true) (hd : dotB (w, n) = true) (hlen : (putV ordA K w n).length ≤ 64) :
    rightB (putV ordA K w n) = true ∧ ∀ x, at' (putV ordA K w n) x = if x = w then n else at' K x := by
  obtain ⟨hname, h1, h2⟩ := dotB_iff.1 hd
  simp only at hname h1 h2
  have hat := fun x => putV_at ordA (v := K) w n x
  refine ⟨right_of (putV_srt ordA (right_srt rk) w n) (putV_pos ordA (right_pos rk) (by omega)) hlen fun x hx => ?_, hat⟩
  rw [hat] at hx ⊢
  split
  · rename_i e; subst e; exact ⟨hname, by omega⟩
  · rename_i e
    rw [if_neg e] at hx
    exact ⟨name_of rk hx, right_le rk x⟩
/-- One is handed on. -/
theorem inv_hand {p : Pool} {o : Op} {W' : List Op} (h : Inv p) (ho : rightO o = true) (hr : ready p.K o = true) (hnd : ((p.L ++ [o] ++ W').map fun o => o.dot).Nodup) (hW : ∀ x ∈ W', x ∈ p.W) :
    Inv ⟨p.L ++ [o], (withO p.K o.dot).1, W'⟩ := by
  unfold ready at hr
  obtain ⟨h1, h2⟩ := Bool.and_eq_true_iff.1 hr
  obtain ⟨a, b, c, d, e⟩ := with_zero (of_decide_eq_true h1)
  obtain ⟨⟨w, n⟩, hd⟩ : ∃ d, o.dot = d := ⟨_, rfl⟩
  rw [hd] at b c d e
  simp only at c d e
  obtain ⟨rk', hat⟩ := put_right a b d
  have hK : (withO p.K o.dot).1 = putV ordA p.K w n := by rw [hd, e]
  have h1n := (dotB_iff.1 b).2.1
  simp only at h1n
  rw [hK]
  refine ⟨rk', fun x hx => ?_, hnd, fun w' n' => ?_, Ch.snoc h.ch h2 (by rw [hd]; exact e)⟩
  · rcases List.mem_append.1 hx with hx | hx
    · rcases List.mem_append.1 hx with hx | hx
      · exact h.ro x (List.mem_append.2 (.inl hx))
      · simp at hx; subst hx; exact ho
    · exact h.ro x (List.mem_append.2 (.inr (hW x hx)))
  · simp only
    rw [hat]
    constructor
    · rintro ⟨g1, g2⟩
      by_cases hw : w' = w
      · subst hw
        rw [if_pos rfl] at g2
        by_cases hn : n' = n
        · subst hn; exact ⟨o, by simp, hd⟩
        · obtain ⟨x, hx, hxd⟩ := (h.kn w' n').1 ⟨g1, by omega⟩
          exact ⟨x, List.mem_append.2 (.inl hx), hxd⟩
      · rw [if_neg hw] at g2
        obtain ⟨x, hx, hxd⟩ := (h.kn w' n').1 ⟨g1, g2⟩
        exact ⟨x, List.mem_append.2 (.inl hx), hxd⟩
    · rintro ⟨x, hx, hxd⟩
      rcases List.mem_append.1 hx with hx | hx
      · obtain ⟨g1, g2⟩ := (h.kn w' n').2 ⟨x, hx, hxd⟩
        refine ⟨g1, ?_⟩
        split
        · rename_i e; subst e; omega
        · exact g2
      · simp at hx
        subst hx
        rw [hd] at hxd
        obtain ⟨rfl, rfl⟩ := Prod.mk.inj hxd
        rw [if_pos rfl]
        exact ⟨h1n, Int.le_refl _⟩
theorem perm_erase {α : Type} : ∀ (W : List α) (i : Nat) (x : α), W[i]? = some x → (x :: W.eraseIdx i).Perm W
  | [], i, x, h => by simp at h
  | a :: t, 0, x, h => by simp at h; subst h; exact List.Perm.refl _
  | a :: t, i + 1, x, h => by
    have ih := perm_erase t i x (by simpa using h)
    exact (List.Perm.swap a x _).trans (ih.cons a)
theorem mem_erase {α : Type} {W : List α} {i : Nat} {x : α} (h : W[i]? = some x) (y : α) : y ∈ W ↔ y = x ∨ y ∈ W.eraseIdx i := by
  rw [← (perm_erase W i x h).mem_iff, List.mem_cons]
/-- All that waits and is ready is handed on. -/
structure Quiet (p : Pool) : Prop extends Inv p where
  qu : ∀ o ∈ p.W, ready p.K o = false
theorem drain_does : ∀ (k : Nat) (p : Pool), Inv p → p.W.length ≤ k → Quiet (drain k p).1 ∧ (∀ o, o ∈ (drain k p).1.L ++ (drain k p).1.W ↔ o ∈ p.L ++ p.W) ∧ (drain k p).2 = ((drain k p).1.L.length : Int) - p.L.length
  | 0, p, h, hk => by
    have hW : p.W = [] := List.eq_nil_of_length_eq_zero (by omega)
    refine ⟨⟨h, fun o ho => ?_⟩, fun o => Iff.rfl, by simp [drain]⟩
    simp only [drain] at ho
    rw [hW] at ho; cases ho
  | k + 1, p, h, hk => by
    unfold drain
    cases hf : p.W.findIdx? (ready p.K) with
    | none =>
      simp only
      refine ⟨⟨h, fun o ho => ?_⟩, fun o => by trivial, by omega⟩
      have := (List.findIdx?_eq_none_iff.1 hf) o ho
      simpa using this
    | some i =>
      simp only
      obtain ⟨hi, hp, _⟩ := List.findIdx?_eq_some_iff_getElem.1 hf
      have hg : p.W[i]? = some p.W[i] := List.getElem?_eq_getElem hi
      rw [hg]
      simp only
      obtain ⟨o, ho⟩ : ∃ o, p.W[i] = o := ⟨_, rfl⟩
      rw [ho] at hg hp ⊢
      have hmem := mem_erase hg
      have hperm : ((p.L ++ [o] ++ p.W.eraseIdx i)).Perm (p.L ++ p.W) := by
        rw [List.append_assoc]
        exact (perm_erase p.W i o hg).append_left p.L
      have hin := inv_hand (W' := p.W.eraseIdx i) h (h.ro o (List.mem_append.2 (.inr ((hmem o).2 (.inl rfl))))) hp ((hperm.map _).nodup_iff.2 h.nd) fun x hx => (hmem x).2 (.inr hx)
      have hlen : (p.W.eraseIdx i).length ≤ k := by rw [List.length_eraseIdx, if_pos hi]; omega
      obtain ⟨q1, q2, q3⟩ := drain_does k ⟨p.L ++ [o], (withO p.K o.dot).1, p.W.eraseIdx i⟩ hin hlen
      refine ⟨q1, fun x => ?_, ?_⟩
      · rw [q2]
        simp only
        exact hperm.mem_iff
      · rw [q3]
        simp only [List.length_append, List.length_cons, List.length_nil]
        omega
theorem ready_of {p : Pool} {o : Op} (h : Inv p) (ho : rightO o = true) (hf : find p.L o.dot = none) (hroom : ¬ (at' p.K o.dot.1 = 0 ∧ 64 ≤ p.K.length)) (hl : leqB o.deps p.K = true) : ready p.K o = true := by
  have r := rightO_iff ho
  obtain ⟨⟨w, n⟩, hd⟩ : ∃ d, o.dot = d := ⟨_, rfl⟩
  have hat := r.at_
  have hdot := r.dot
  rw [hd] at hat hroom hdot
  simp only at hat hroom
  have hle := (leqB_iff r.deps h.rk).1 hl w
  have h0 := right_at h.rk w
  have h1n := (dotB_iff.1 hdot).2.1
  simp only at h1n
  have hn : n = at' p.K w + 1 := by
    by_cases hge : n ≤ at' p.K w
    · obtain ⟨x, hx, hxd⟩ := (h.kn w n).1 ⟨h1n, hge⟩
      exact absurd (hxd.trans hd.symm) (find_none hf x hx)
    · omega
  obtain ⟨e, _, _⟩ := with_ok h.rk hdot hn (by omega)
  unfold ready
  rw [hd, e, hl]; rfl
/-- What Put does to a quiet pool. -/
theorem put_does {p : Pool} (h : Quiet p) (o : Op) : Quiet (putP p o).1 ∧ ((putP p o).2.2 = 0 → ∀ x, x ∈ (putP p o).1.L ++ (putP p o).1.W ↔ x ∈ p.L ++ p.W ∨ x = o) ∧ ((putP p o).2.2 ≠ 0 → (putP p o).1 = p ∧ (putP p o).2.1 = 0) := by
  unfold putP
  by_cases ho : rightO o = true
  · rw [if_pos ho]
    by_cases hc : (∃ x, find p.L o.dot = some x ∧ x ≠ o) ∨ (∃ x, find p.W o.dot = some x ∧ x ≠ o)
    · rw [if_pos hc]
      exact ⟨h, fun e => by simp at e, fun _ => ⟨rfl, rfl⟩⟩
    · rw [if_neg hc]
      by_cases hs : (find p.L o.dot).isSome = true ∨ (find p.W o.dot).isSome = true
      · rw [if_pos hs]
        refine ⟨h, fun _ x => ⟨fun hx => .inl hx, fun hx => ?_⟩, fun e => by simp at e⟩
        rcases hx with hx | rfl
        · exact hx
        · rcases hs with hs | hs
          · obtain ⟨y, hy⟩ := Option.isSome_iff_exists.1 hs
            by_cases hyx : y = x
            · subst hyx; exact List.mem_append.2 (.inl (find_some hy).1)
            · exact absurd (.inl ⟨y, hy, hyx⟩) hc
          · obtain ⟨y, hy⟩ := Option.isSome_iff_exists.1 hs
            by_cases hyx : y = x
            · subst hyx; exact List.mem_append.2 (.inr (find_some hy).1)
            · exact absurd (.inr ⟨y, hy, hyx⟩) hc
      · rw [if_neg hs]
        have fL : find p.L o.dot = none := by
          cases hq : find p.L o.dot with
          | none => rfl
          | some x => exact absurd (.inl (by rw [hq]; rfl)) hs
        have fW : find p.W o.dot = none := by
          cases hq : find p.W o.dot with
          | none => rfl
          | some x => exact absurd (.inr (by rw [hq]; rfl)) hs
        have hne : ∀ x ∈ p.L ++ p.W, x.dot ≠ o.dot := fun x hx => by
          rcases List.mem_append.1 hx with hx | hx
          · exact find_none fL x hx
          · exact find_none fW x hx
        by_cases hroom : at' p.K o.dot.1 = 0 ∧ 64 ≤ p.K.length
        · rw [if_pos hroom]
          exact ⟨h, fun e => by simp at e, fun _ => ⟨rfl, rfl⟩⟩
        · rw [if_neg hroom]
          by_cases hl : leqB o.deps p.K = true
          · rw [if_pos hl]
            have hr := ready_of h.toInv ho fL hroom hl
            have hnd : ((p.L ++ [o] ++ p.W).map fun o => o.dot).Nodup := by
              have hp : (p.L ++ [o] ++ p.W).Perm (o :: (p.L ++ p.W)) := by
                rw [List.append_assoc]; exact List.perm_middle
              rw [(hp.map _).nodup_iff, List.map_cons, List.nodup_cons]
              refine ⟨fun hm => ?_, h.nd⟩
              obtain ⟨x, hx, he⟩ := List.mem_map.1 hm
              exact hne x hx he
            have hin := inv_hand (W' := p.W) h.toInv ho hr hnd fun x hx => hx
            obtain ⟨q1, q2, q3⟩ := drain_does p.W.length (hand p o) hin (Nat.le_refl _)
            refine ⟨q1, fun _ x => ?_, fun e => by simp at e⟩
            simp only
            rw [q2]
            unfold hand
            simp only [List.mem_append, List.mem_singleton]
            constructor
            · rintro ((h | h) | h)
              · exact .inl (.inl h)
              · exact .inr h
              · exact .inl (.inr h)
            · rintro ((h | h) | h)
              · exact .inl (.inl h)
              · exact .inr h
              · exact .inl (.inr h)
          · rw [if_neg hl]
            by_cases hw : 256 ≤ p.W.length
            · rw [if_pos hw]
              exact ⟨h, fun e => by simp at e, fun _ => ⟨rfl, rfl⟩⟩
            · rw [if_neg hw]
              have hperm : (p.L ++ (p.W ++ [o])).Perm (o :: (p.L ++ p.W)) := by
                rw [← List.append_assoc]
                exact List.perm_append_singleton o (p.L ++ p.W)
              refine ⟨⟨⟨h.rk, fun x hx => ?_, ?_, h.kn, h.ch⟩, fun x hx => ?_⟩, fun _ x => ?_, fun e => by simp at e⟩
              · rcases List.mem_cons.1 (hperm.mem_iff.1 hx) with rfl | hx
                · exact ho
                · exact h.ro x hx
              · rw [(hperm.map _).nodup_iff, List.map_cons, List.nodup_cons]
                refine ⟨fun hm => ?_, h.nd⟩
                obtain ⟨x, hx, he⟩ := List.mem_map.1 hm
                exact hne x hx he
              · simp only at hx ⊢
                rcases List.mem_append.1 hx with hx | hx
                · exact h.qu x hx
                · simp at hx; subst hx
                  unfold ready
                  rw [show leqB x.deps p.K = false by simpa using hl, Bool.and_false]
              · simp only
                rw [hperm.mem_iff, List.mem_cons]
                exact Or.comm
  · rw [if_neg ho]
    exact ⟨h, fun e => by simp at e, fun _ => ⟨rfl, rfl⟩⟩
end Go.Proofs.Ytdffifkleaekhaa.O
