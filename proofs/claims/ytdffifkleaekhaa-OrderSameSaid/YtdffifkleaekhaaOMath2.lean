/-
  Operations that come in any order, and once more, plainly.
-/
import Derived.Test.YtdffifkleaekhaaOMath
namespace Go.Proofs.Ytdffifkleaekhaa.O
open Go.Proofs.Ytdffifkleaekhaa.V
set_option linter.unusedVariables false
set_option linter.unusedSimpArgs false

theorem quiet_none : Quiet none_ := ⟨inv_none, by simp [none_]⟩
/-- A pool with operations; false: one was refused. -/
def runP : List Op → Pool → Pool × Bool
  | [], p => (p, true)
  | o :: t, p => if (putP p o).2.2 = 0 then runP t (putP p o).1 else ((putP p o).1, false)
theorem run_quiet : ∀ (l : List Op) {p : Pool}, Quiet p → Quiet (runP l p).1
  | [], p, h => h
  | o :: t, p, h => by
    unfold runP
    split
    · exact run_quiet t (put_does h o).1
    · exact (put_does h o).1
theorem run_mem : ∀ (l : List Op) {p : Pool}, Quiet p → (runP l p).2 = true → ∀ x, x ∈ (runP l p).1.L ++ (runP l p).1.W ↔ x ∈ p.L ++ p.W ∨ x ∈ l
  | [], p, h, hr, x => by simp [runP]
  | o :: t, p, h, hr, x => by
    unfold runP at hr ⊢
    by_cases he : (putP p o).2.2 = 0
    · rw [if_pos he] at hr ⊢
      rw [run_mem t (put_does h o).1 hr x, (put_does h o).2.1 he x, List.mem_cons, or_assoc]
    · rw [if_neg he] at hr; cases hr
/-- Prefixes of what was handed on. -/
theorem ch_kn {L : List Op} {K : List D} (h : Ch L K) : rightB K = true ∧ ∀ w n, 1 ≤ n → n ≤ at' K w → ∃ o ∈ L, o.dot = (w, n) := by
  induction h with
  | nil => exact ⟨by decide, fun w n h1 h2 => by simp [at'] at h2; omega⟩
  | @snoc L K K' o hc hl hw ih =>
    obtain ⟨⟨w, n⟩, hd⟩ : ∃ d, o.dot = d := ⟨_, rfl⟩
    rw [hd] at hw
    obtain ⟨a, b, c, d, e⟩ := with_zero (K := K) (d := (w, n)) (by rw [hw])
    simp only at c d e
    obtain ⟨rk', hat⟩ := put_right a b d
    have hK : K' = putV ordA K w n := by rw [hw] at e; exact congrArg Prod.fst e
    subst hK
    refine ⟨rk', fun w' n' g1 g2 => ?_⟩
    rw [hat] at g2
    by_cases hw' : w' = w
    · subst hw'
      rw [if_pos rfl] at g2
      by_cases hn : n' = n
      · subst hn; exact ⟨o, by simp, hd⟩
      · obtain ⟨x, hx, hxd⟩ := ih.2 w' n' g1 (by omega)
        exact ⟨x, by simp [hx], hxd⟩
    · rw [if_neg hw'] at g2
      obtain ⟨x, hx, hxd⟩ := ih.2 w' n' g1 g2
      exact ⟨x, by simp [hx], hxd⟩
theorem nodup_room {K : List D} (sk : srt ordA K) (w : ByteArray) (h0 : ∀ d ∈ K, d.1 ≠ w) (M : List ByteArray) (hM : ∀ d ∈ K, d.1 ∈ M) (hw : w ∈ M) : K.length + 1 ≤ M.length := by
  have hnd : (w :: K.map fun d => d.1).Nodup := by
    rw [List.nodup_cons]
    refine ⟨fun hm => ?_, ?_⟩
    · obtain ⟨d, hd, e⟩ := List.mem_map.1 hm
      exact h0 d hd e
    · clear hM h0 hw
      induction K with
      | nil => simp
      | cons d t ih =>
        rw [List.map_cons, List.nodup_cons]
        refine ⟨fun hm => ?_, ih sk.2⟩
        obtain ⟨x, hx, e⟩ := List.mem_map.1 hm
        exact (lt_ne ordA (sk.1 x hx)) e.symm
  have hs : (w :: K.map fun d => d.1) ⊆ M := by
    intro x hx
    rcases List.mem_cons.1 hx with rfl | hx
    · exact hw
    · obtain ⟨d, hd, e⟩ := List.mem_map.1 hx
      exact e ▸ hM d hd
  have := hnd.length_le_of_subset hs
  simpa using this
/-- A waiting one whose deps are known, and whose maker has room, is ready. -/
theorem ready_room {q : Pool} (h : Quiet q) {o : Op} (ho : o ∈ q.W) (hl : leqB o.deps q.K = true) {M : List ByteArray} (hm : ∀ x ∈ q.L ++ q.W, x.dot.1 ∈ M) (hM : M.length ≤ 64) : False := by
  have hr := h.ro o (List.mem_append.2 (.inr ho))
  have hnd := h.nd
  rw [List.map_append, List.nodup_append] at hnd
  have hne : ∀ x ∈ q.L, x.dot ≠ o.dot := fun x hx e =>
    hnd.2.2 _ (List.mem_map_of_mem (f := fun o => o.dot) hx) _ (List.mem_map_of_mem (f := fun o => o.dot) ho) e
  have hf : find q.L o.dot = none := by
    unfold find
    rw [List.find?_eq_none]
    intro x hx
    simpa using hne x hx
  have hroom : ¬ (at' q.K o.dot.1 = 0 ∧ 64 ≤ q.K.length) := by
    rintro ⟨h0, h1⟩
    have hK : ∀ d ∈ q.K, d.1 ∈ M := by
      intro d hd
      have e := at_mem ordA (right_srt h.rk) hd
      have p := right_pos h.rk d hd
      obtain ⟨x, hx, hxd⟩ := (h.kn d.1 1).1 ⟨by omega, by omega⟩
      have := hm x (List.mem_append.2 (.inl hx))
      rw [hxd] at this; exact this
    have := nodup_room (right_srt h.rk) o.dot.1 (at_zero (right_pos h.rk) h0) M hK (hm o (List.mem_append.2 (.inr ho)))
    omega
  have := ready_of h.toInv hr hf hroom hl
  rw [h.qu o ho] at this; cases this
theorem sub_of {p q : Pool} (hp : Quiet p) (hq : Quiet q) (hs : ∀ x, x ∈ p.L ++ p.W → x ∈ q.L ++ q.W) {M : List ByteArray} (hm : ∀ x ∈ q.L ++ q.W, x.dot.1 ∈ M) (hM : M.length ≤ 64) : ∀ x ∈ p.L, x ∈ q.L := by
  have key : ∀ {L : List Op} {K : List D}, Ch L K → (∀ x ∈ L, x ∈ q.L ++ q.W) → ∀ x ∈ L, x ∈ q.L := by
    intro L K hc
    induction hc with
    | nil => intro _ x hx; cases hx
    | @snoc L K K' o hc hl hw ih =>
      intro hs x hx
      have ih' := ih fun x hx => hs x (by simp [hx])
      rcases List.mem_append.1 hx with hx | hx
      · exact ih' x hx
      · simp at hx; subst hx
        rcases List.mem_append.1 (hs x (by simp)) with h | h
        · exact h
        · refine (ready_room hq h ?_ hm hM).elim
          obtain ⟨rk, kn⟩ := ch_kn hc
          have r := rightO_iff (hq.ro x (List.mem_append.2 (.inr h)))
          rw [leqB_iff r.deps hq.rk]
          intro w
          have h1 := (leqB_iff r.deps rk).1 hl w
          by_cases hz : at' K w ≤ 0
          · have := right_at hq.rk w; omega
          · obtain ⟨y, hy, hyd⟩ := kn w (at' K w) (by omega) (Int.le_refl _)
            have := ((hq.kn w (at' K w)).2 ⟨y, ih' y hy, hyd⟩).2
            omega
  exact key hp.ch fun x hx => hs x (List.mem_append.2 (.inl hx))
theorem nodup_of_map {α β : Type} (f : α → β) : ∀ {l : List α}, (l.map f).Nodup → l.Nodup
  | [], _ => List.nodup_nil
  | a :: t, h => by
    rw [List.map_cons, List.nodup_cons] at h
    rw [List.nodup_cons]
    exact ⟨fun hm => h.1 (List.mem_map_of_mem hm), nodup_of_map f h.2⟩
theorem nodup_len {α : Type} {a b : List α} (ha : a.Nodup) (hb : b.Nodup) (h : ∀ x, x ∈ a ↔ x ∈ b) : a.length = b.length :=
  Nat.le_antisymm (ha.length_le_of_subset fun x hx => (h x).1 hx) (hb.length_le_of_subset fun x hx => (h x).2 hx)
/-- Two pools that hold the same. -/
theorem same_of {p q : Pool} (hp : Quiet p) (hq : Quiet q) (hs : ∀ x, x ∈ p.L ++ p.W ↔ x ∈ q.L ++ q.W) {M : List ByteArray} (hm : ∀ x ∈ p.L ++ p.W, x.dot.1 ∈ M) (hM : M.length ≤ 64) :
    p.L.length = q.L.length ∧ p.W.length = q.W.length ∧ p.K = q.K ∧ ∀ x ∈ p.L, x ∈ q.L := by
  have h1 := sub_of hp hq (fun x => (hs x).1) (fun x hx => hm x ((hs x).2 hx)) hM
  have h2 := sub_of hq hp (fun x => (hs x).2) hm hM
  have np := nodup_of_map _ hp.nd
  have nq := nodup_of_map _ hq.nd
  have e1 : p.L.length = q.L.length := nodup_len (List.nodup_append.1 np).1 (List.nodup_append.1 nq).1 fun x => ⟨h1 x, h2 x⟩
  have e2 := nodup_len np nq hs
  rw [List.length_append, List.length_append] at e2
  refine ⟨e1, by omega, vec_ext hp.rk hq.rk fun w => ?_, h1⟩
  have hle : ∀ {p q : Pool}, Quiet p → Quiet q → (∀ x ∈ p.L, x ∈ q.L) → at' p.K w ≤ at' q.K w := by
    intro p q hp hq h
    by_cases hz : at' p.K w ≤ 0
    · have := right_at hq.rk w; omega
    · obtain ⟨y, hy, hyd⟩ := (hp.kn w (at' p.K w)).1 ⟨by omega, Int.le_refl _⟩
      exact ((hq.kn w (at' p.K w)).2 ⟨y, h y hy, hyd⟩).2
  exact Int.le_antisymm (hle hp hq h1) (hle hq hp h2)
/-- How many makers there are. -/
def metB (M : List ByteArray) (w : ByteArray) : Bool := M.any fun x => decide (x = w)
theorem metB_iff {M : List ByteArray} {w : ByteArray} : metB M w = true ↔ w ∈ M := by
  unfold metB
  rw [List.any_eq_true]
  exact ⟨fun ⟨x, hx, e⟩ => (of_decide_eq_true e) ▸ hx, fun h => ⟨w, h, decide_eq_true rfl⟩⟩
def mks : List Op → List ByteArray → List ByteArray
  | [], M => M
  | o :: t, M => mks t (if metB M o.dot.1 = true then M else M ++ [o.dot.1])
theorem mks_snoc : ∀ (l : List Op) (o : Op) (M : List ByteArray), mks (l ++ [o]) M = if metB (mks l M) o.dot.1 = true then mks l M else mks l M ++ [o.dot.1]
  | [], o, M => rfl
  | x :: t, o, M => mks_snoc t o _
theorem mks_mem : ∀ (l : List Op) (M : List ByteArray) (w : ByteArray), w ∈ mks l M ↔ w ∈ M ∨ ∃ o ∈ l, o.dot.1 = w
  | [], M, w => by simp [mks]
  | o :: t, M, w => by
    unfold mks
    rw [mks_mem t _ w]
    by_cases h : metB M o.dot.1 = true
    · rw [if_pos h]
      rw [metB_iff] at h
      constructor
      · rintro (h1 | ⟨x, hx, e⟩)
        · exact .inl h1
        · exact .inr ⟨x, List.mem_cons_of_mem _ hx, e⟩
      · rintro (h1 | ⟨x, hx, e⟩)
        · exact .inl h1
        · rcases List.mem_cons.1 hx with rfl | hx
          · exact .inl (e ▸ h)
          · exact .inr ⟨x, hx, e⟩
    · rw [if_neg h]
      constructor
      · rintro (h1 | ⟨x, hx, e⟩)
        · rcases List.mem_append.1 h1 with h1 | h1
          · exact .inl h1
          · exact .inr ⟨o, List.mem_cons_self .., (List.mem_singleton.1 h1).symm⟩
        · exact .inr ⟨x, List.mem_cons_of_mem _ hx, e⟩
      · rintro (h1 | ⟨x, hx, e⟩)
        · exact .inl (List.mem_append.2 (.inl h1))
        · rcases List.mem_cons.1 hx with rfl | hx
          · exact .inl (List.mem_append.2 (.inr (by simp [e])))
          · exact .inr ⟨x, hx, e⟩
/-- The statement: turned round and each twice. -/
theorem same_back {l back : List Op} (hb : ∀ x, x ∈ back ↔ x ∈ l) (hM : (mks l []).length ≤ 64) (h1 : (runP l none_).2 = true) (h2 : (runP back none_).2 = true) :
    (runP l none_).1.L.length = (runP back none_).1.L.length ∧ (runP l none_).1.W.length = (runP back none_).1.W.length ∧ (runP l none_).1.K = (runP back none_).1.K ∧ ∀ x ∈ (runP l none_).1.L, x ∈ (runP back none_).1.L := by
  have m1 := run_mem l quiet_none h1
  have m2 := run_mem back quiet_none h2
  refine same_of (run_quiet l quiet_none) (run_quiet back quiet_none) (fun x => ?_) (M := mks l []) (fun x hx => ?_) hM
  · rw [m1, m2, hb]
  · rw [mks_mem]
    rcases (m1 x).1 hx with h | h
    · simp [none_] at h
    · exact .inr ⟨x, h, rfl⟩
/-- One that is there already. -/
theorem put_there {p : Pool} (h : Quiet p) {o : Op} (ho : o ∈ p.L ++ p.W) : putP p o = (p, 0, 0) := by
  have hr := h.ro o ho
  have huniq : ∀ x ∈ p.L ++ p.W, x.dot = o.dot → x = o := by
    have key : ∀ {l : List Op}, (l.map fun o => o.dot).Nodup → o ∈ l → ∀ x ∈ l, x.dot = o.dot → x = o := by
      intro l
      induction l with
      | nil => intro _ h; cases h
      | cons a t ih =>
        intro hn ho x hx e
        rw [List.map_cons, List.nodup_cons] at hn
        rcases List.mem_cons.1 ho with rfl | ho2
        · rcases List.mem_cons.1 hx with rfl | hx
          · rfl
          · exact absurd (e ▸ List.mem_map_of_mem (f := fun o => o.dot) hx) hn.1
        · rcases List.mem_cons.1 hx with rfl | hx
          · have hm := List.mem_map_of_mem (f := fun o : Op => o.dot) ho2
            rw [← e] at hm
            exact absurd hm hn.1
          · exact ih hn.2 ho2 x hx e
    exact key h.nd ho
  have hc : ¬ ((∃ x, find p.L o.dot = some x ∧ x ≠ o) ∨ (∃ x, find p.W o.dot = some x ∧ x ≠ o)) := by
    rintro (⟨x, hx, hne⟩ | ⟨x, hx, hne⟩)
    · exact hne (huniq x (List.mem_append.2 (.inl (find_some hx).1)) (find_some hx).2)
    · exact hne (huniq x (List.mem_append.2 (.inr (find_some hx).1)) (find_some hx).2)
  have hs : (find p.L o.dot).isSome = true ∨ (find p.W o.dot).isSome = true := by
    rcases List.mem_append.1 ho with h | h
    · left
      unfold find; rw [List.find?_isSome]
      exact ⟨o, h, by simp⟩
    · right
      unfold find; rw [List.find?_isSome]
      exact ⟨o, h, by simp⟩
  unfold putP
  rw [if_pos hr, if_neg hc, if_pos hs]
/-- Once more the same. -/
theorem put_twice {p : Pool} (h : Quiet p) (o : Op) : putP (putP p o).1 o = ((putP p o).1, 0, (putP p o).2.2) := by
  by_cases he : (putP p o).2.2 = 0
  · rw [put_there (put_does h o).1 (((put_does h o).2.1 he o).2 (.inr rfl)), he]
  · obtain ⟨e1, e2⟩ := (put_does h o).2.2 he
    rw [e1]
    exact Prod.ext e1 (Prod.ext e2 rfl)
/-- What is known behind what was handed on. -/
def knO : List Op → List D → List D
  | [], K => K
  | o :: t, K => knO t (withO K o.dot).1
theorem knO_snoc : ∀ (l : List Op) (o : Op) (K : List D), knO (l ++ [o]) K = (withO (knO l K) o.dot).1
  | [], o, K => rfl
  | x :: t, o, K => knO_snoc t o _
theorem ch_knO {L : List Op} {K : List D} (h : Ch L K) : K = knO L [] := by
  induction h with
  | nil => rfl
  | @snoc L K K' o hc hl hw ih => rw [knO_snoc, ← ih, hw]
theorem ch_at {L : List Op} {K : List D} (h : Ch L K) : ∀ (i : Nat) (hi : i < L.length), rightB (knO (L.take i) []) = true ∧ leqB L[i].deps (knO (L.take i) []) = true ∧ withO (knO (L.take i) []) L[i].dot = (knO (L.take (i + 1)) [], 0) := by
  induction h with
  | nil => intro i hi; cases hi
  | @snoc L K K' o hc hl hw ih =>
    intro i hi
    by_cases hlt : i < L.length
    · obtain ⟨a, b, c⟩ := ih i hlt
      rw [List.getElem_append_left hlt, List.take_append_of_le_length (by omega), List.take_append_of_le_length (by omega)]
      exact ⟨a, b, c⟩
    · have hil : i = L.length := by simp at hi; omega
      subst hil
      have e : K = knO L [] := ch_knO hc
      have e2 : K' = knO (L ++ [o]) [] := ch_knO (Ch.snoc hc hl hw)
      rw [List.getElem_append_right (Nat.le_refl _)]
      have t1 : (L ++ [o]).take L.length = L := by simp
      have t2 : (L ++ [o]).take (L.length + 1) = L ++ [o] := by rw [List.take_of_length_le (by simp)]
      rw [t1, t2, ← e, ← e2]
      simp only [Nat.sub_self, List.getElem_cons_zero]
      exact ⟨(ch_kn hc).1, hl, hw⟩
end Go.Proofs.Ytdffifkleaekhaa.O
