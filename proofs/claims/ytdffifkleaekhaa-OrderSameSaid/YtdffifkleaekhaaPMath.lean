/-
  Operations and pools as the program asks of them, plainly.
-/
import Derived.Test.YtdffifkleaekhaaOMath2
namespace Go.Proofs.Ytdffifkleaekhaa.O
open Go.Proofs.Ytdffifkleaekhaa.V
set_option linter.unusedVariables false
set_option linter.unusedSimpArgs false

def placeB (o : Op) : Bool := rightB [o.dot] && rightB o.deps && decide (at' o.deps o.dot.1 = o.dot.2 - 1)
def qtyB (o : Op) : Bool := if o.kind = 1 ∨ o.kind = 2 then decide (1 ≤ o.qty) && decide (o.qty ≤ 9999) else if o.kind = 3 then decide (o.qty = 0) else false
def prevB (p : Option D) (d : D) : Bool := match p with | none => true | some q => aheadB q d
def chkS (deps : List D) : Option D → List D → Bool
  | _, [] => true
  | p, d :: t => prevB p d && (decide (1 ≤ d.2) && decide (d.2 ≤ at' deps d.1)) && chkS deps (some d) t
def seenP (o : Op) : Bool := if o.kind = 1 then decide (o.seen.length = 0) else decide (o.seen.length ≤ 128) && chkS o.deps none o.seen
theorem rightB_one (d : D) : rightB [d] = dotB d := by
  unfold rightB chkR chkR
  cases h : dotB d with
  | false => simp
  | true => simp [lt_empty (nameB_pos (dotB_iff.1 h).1).1]
theorem hasB_le {v : List D} (h : rightB v = true) (d : D) : hasB v d = (decide (1 ≤ d.2) && decide (d.2 ≤ at' v d.1)) := by
  unfold hasB
  rw [h]
  by_cases h1 : 1 ≤ d.2
  · by_cases h2 : d.2 ≤ at' v d.1
    · have hn : nameB d.1 = true := name_of h (by omega)
      have hd : dotB d = true := dotB_iff.2 ⟨hn, h1, by have := right_le h d.1; omega⟩
      simp [hd, h1, h2]
    · simp [h2]
  · have hd : dotB d = false := by
      cases hq : dotB d with
      | false => rfl
      | true => exact absurd (dotB_iff.1 hq).2.1 h1
    simp [hd, h1]
theorem chk_seen' {deps : List D} (h : rightB deps = true) : ∀ (l : List D) (q : D), hasB deps q = true → (seenB deps (q :: l) = chkS deps (some q) l)
  | [], q, hq => by simp [seenB, chkS, hq]
  | e :: t, q, hq => by
    have e1 : seenB deps (q :: e :: t) = (hasB deps q && aheadB q e && seenB deps (e :: t)) := rfl
    have e2 : chkS deps (some q) (e :: t) = (aheadB q e && (decide (1 ≤ e.2) && decide (e.2 ≤ at' deps e.1)) && chkS deps (some e) t) := rfl
    rw [e1, e2, hq, ← hasB_le h]
    cases hh : hasB deps e with
    | true => rw [chk_seen' h t e hh]; simp
    | false =>
      have : seenB deps (e :: t) = false := by
        cases t with
        | nil => exact hh
        | cons f r => show (hasB deps e && _ && _) = false; rw [hh]; rfl
      rw [this]; simp
theorem chk_seen {deps : List D} (h : rightB deps = true) : ∀ (l : List D), seenB deps l = chkS deps none l
  | [] => rfl
  | q :: l => by
    have e2 : chkS deps none (q :: l) = (true && (decide (1 ≤ q.2) && decide (q.2 ≤ at' deps q.1)) && chkS deps (some q) l) := rfl
    rw [e2, ← hasB_le h]
    cases hh : hasB deps q with
    | true => rw [chk_seen' h l q hh]; simp
    | false =>
      have : seenB deps (q :: l) = false := by
        cases l with
        | nil => exact hh
        | cons f r => show (hasB deps q && _ && _) = false; rw [hh]; rfl
      rw [this]; simp
theorem rightO_prog (o : Op) : rightO o = (placeB o && (sizeB o.cart && (sizeB o.item && (qtyB o && seenP o)))) := by
  unfold rightO placeB
  rw [rightB_one]
  cases h1 : dotB o.dot with
  | false => simp
  | true =>
    cases h2 : rightB o.deps with
    | false => simp
    | true =>
      rw [chk_seen h2]
      unfold kindB qtyB seenP
      by_cases k1 : o.kind = 1
      · simp only [k1]
        by_cases hs : o.seen.length = 0
        · have hs' := List.eq_nil_of_length_eq_zero hs
          simp [hs', chkS]
          cases decide (at' o.deps o.dot.1 = o.dot.2 - 1) <;> cases sizeB o.cart <;> cases sizeB o.item <;> simp
        · have : o.seen ≠ [] := fun e => hs (by rw [e]; rfl)
          simp [this]
      · by_cases k2 : o.kind = 2
        · simp only [k2]
          simp
          cases decide (at' o.deps o.dot.1 = o.dot.2 - 1) <;> cases sizeB o.cart <;> cases sizeB o.item <;> simp [Bool.and_comm, Bool.and_left_comm, Bool.and_assoc]
        · by_cases k3 : o.kind = 3
          · simp only [k3]
            simp
            cases decide (at' o.deps o.dot.1 = o.dot.2 - 1) <;> cases sizeB o.cart <;> cases sizeB o.item <;> simp [Bool.and_comm, Bool.and_left_comm, Bool.and_assoc]
          · simp [k1, k2, k3]

theorem putV_new_len {w : ByteArray} (n : Int) : ∀ {v : List D}, (∀ d ∈ v, d.1 ≠ w) → (putV ordA v w n).length = v.length + 1
  | [], _ => rfl
  | d :: t, h => by
    simp only [putV]
    by_cases hl : ordA.lt d.1 w = true
    · rw [if_pos hl]
      simp only [List.length_cons, putV_new_len n fun x hx => h x (List.mem_cons_of_mem _ hx)]
    · rw [if_neg hl]
      have hft : (d :: t).filter (fun e => decide (e.1 ≠ w)) = d :: t := List.filter_eq_self.2 fun x hx => by simpa using h x hx
      rw [hft]; simp
theorem at_zero {v : List D} (pv : pos v) {w : ByteArray} (h : at' v w = 0) : ∀ d ∈ v, d.1 ≠ w := by
  induction v with
  | nil => intro d hd; cases hd
  | cons e t ih =>
    have he : at' (e :: t) w = if e.1 = w then e.2 else at' t w := rfl
    rw [he] at h
    have hp := pv e (List.mem_cons_self ..)
    by_cases hw : e.1 = w
    · rw [if_pos hw] at h; omega
    · rw [if_neg hw] at h
      intro d hd
      rcases List.mem_cons.1 hd with rfl | hd
      · exact hw
      · exact ih (fun x hx => pv x (List.mem_cons_of_mem _ hx)) h d hd
def roomB (K : List D) (d : D) : Bool := decide (K.length < 64) || decide (0 < at' K d.1)
theorem room_iff {K : List D} (rk : rightB K = true) (d : D) : roomB K d = true ↔ ¬ (at' K d.1 = 0 ∧ 64 ≤ K.length) := by
  have := right_at rk d.1
  unfold roomB
  simp only [Bool.or_eq_true, decide_eq_true_eq]
  omega
theorem find_app (l m : List Op) (d : D) : find (l ++ m) d = match find l d with | some x => some x | none => find m d := by
  unfold find
  rw [List.find?_append]
  cases List.find? (fun o => decide (o.dot = d)) l <;> rfl
theorem ready_room' {p : Pool} (h : Inv p) {o : Op} (ho : o ∈ p.W) : ready p.K o = (roomB p.K o.dot && leqB o.deps p.K) := by
  have hro := h.ro o (List.mem_append.2 (.inr ho))
  have hfn : find p.L o.dot = none := by
    cases hq : find p.L o.dot with
    | none => rfl
    | some x =>
      obtain ⟨hx, hd⟩ := find_some hq
      have hnd := h.nd
      rw [List.map_append, List.nodup_append] at hnd
      exact absurd hd (hnd.2.2 _ (List.mem_map.2 ⟨x, hx, rfl⟩) _ (List.mem_map.2 ⟨o, ho, rfl⟩))
  cases hl : leqB o.deps p.K with
  | false => unfold ready; rw [hl]; simp
  | true =>
    cases hr : roomB p.K o.dot with
    | true => exact ready_of h hro hfn ((room_iff h.rk _).1 hr) hl
    | false =>
      have hno : at' p.K o.dot.1 = 0 ∧ 64 ≤ p.K.length := by
        by_cases hh : at' p.K o.dot.1 = 0 ∧ 64 ≤ p.K.length
        · exact hh
        · have := (room_iff h.rk o.dot).2 hh; rw [hr] at this; cases this
      unfold ready
      cases hw : decide ((withO p.K o.dot).2 = 0) with
      | false => rfl
      | true =>
        exfalso
        obtain ⟨a, b, c, d, e⟩ := with_zero (of_decide_eq_true hw)
        have := putV_new_len (w := o.dot.1) o.dot.2 (at_zero (right_pos h.rk) hno.1)
        omega
/-- Put, as the program goes about it. -/
def putQ (p : Pool) (o : Op) : Pool × Int × Int :=
  if rightO o = true then
    (match find (p.L ++ p.W) o.dot with
      | some x => (p, 0, if x = o then 0 else 81)
      | none => if roomB p.K o.dot = true then
          (if leqB o.deps p.K = true then (let r := drain p.W.length (hand p o); (r.1, r.2 + 1, 0))
           else if 256 ≤ p.W.length then (p, 0, 82) else (⟨p.L, p.K, p.W ++ [o]⟩, 0, 0))
        else (p, 0, 70))
  else (p, 0, 2)
theorem putQ_eq {p : Pool} (h : Inv p) (o : Op) : putQ p o = putP p o := by
  unfold putQ putP
  by_cases ho : rightO o = true
  · rw [if_pos ho, if_pos ho, find_app]
    have hsome : ∀ {x : Op}, find p.L o.dot = some x → find p.W o.dot = none := fun {x} hx => by
      cases hq : find p.W o.dot with
      | none => rfl
      | some y =>
        obtain ⟨hx1, hx2⟩ := find_some hx
        obtain ⟨hy1, hy2⟩ := find_some hq
        have hnd := h.nd
        rw [List.map_append, List.nodup_append] at hnd
        exact absurd (hx2.trans hy2.symm) (hnd.2.2 _ (List.mem_map.2 ⟨x, hx1, rfl⟩) _ (List.mem_map.2 ⟨y, hy1, rfl⟩))
    cases h1 : find p.L o.dot with
    | some x =>
      have h2 := hsome h1
      simp only [h2]
      by_cases e : x = o
      · rw [if_pos e, if_neg (by simp [e]), if_pos (by simp)]
      · rw [if_neg e, if_pos (by simp [e])]
    | none =>
      simp only
      cases h2 : find p.W o.dot with
      | some y =>
        simp only
        by_cases e : y = o
        · rw [if_pos e, if_neg (by simp [e]), if_pos (by simp)]
        · rw [if_neg e, if_pos (by simp [e])]
      | none =>
        simp only
        have n1 : ¬ ((∃ x, (none : Option Op) = some x ∧ x ≠ o) ∨ ∃ x, (none : Option Op) = some x ∧ x ≠ o) := by simp
        have n2 : ¬ ((none : Option Op).isSome = true ∨ (none : Option Op).isSome = true) := by simp
        rw [if_neg n1, if_neg n2]
        by_cases hr : roomB p.K o.dot = true
        · rw [if_pos hr, if_neg ((room_iff h.rk _).1 hr)]
        · rw [if_neg hr, if_pos (by
            by_cases hh : at' p.K o.dot.1 = 0 ∧ 64 ≤ p.K.length
            · exact hh
            · exact absurd ((room_iff h.rk o.dot).2 hh) hr)]
  · rw [if_neg ho, if_neg ho]
theorem drain_none {k : Nat} {p : Pool} (h : p.W.findIdx? (ready p.K) = none) : drain k p = (p, 0) := by
  cases k with
  | zero => rfl
  | succ k => unfold drain; rw [h]
theorem drain_some {k i : Nat} {p : Pool} {o : Op} (h : p.W.findIdx? (ready p.K) = some i) (ho : p.W[i]? = some o) :
    drain (k + 1) p = ((drain k ⟨p.L ++ [o], (withO p.K o.dot).1, p.W.eraseIdx i⟩).1, (drain k ⟨p.L ++ [o], (withO p.K o.dot).1, p.W.eraseIdx i⟩).2 + 1) := by
  rw [drain, h]
  simp only [ho]
theorem drain_count : ∀ (k : Nat) (p : Pool), 0 ≤ (drain k p).2 ∧ (drain k p).2 ≤ p.W.length
  | 0, p => by simp [drain]
  | k + 1, p => by
    cases h : p.W.findIdx? (ready p.K) with
    | none => rw [drain_none h]; simp
    | some i =>
      obtain ⟨hi, _, _⟩ := List.findIdx?_eq_some_iff_getElem.1 h
      rw [drain_some h (List.getElem?_eq_getElem hi)]
      have := drain_count k ⟨p.L ++ [p.W[i]], (withO p.K p.W[i].dot).1, p.W.eraseIdx i⟩
      simp only [List.length_eraseIdx, if_pos hi] at this ⊢
      omega
end Go.Proofs.Ytdffifkleaekhaa.O
