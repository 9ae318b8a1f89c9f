/-
  Joins and meets of right vectors, plainly.
-/
import Derived.Test.YtdffifkleaekhaaVRLack
namespace Go.Proofs.Ytdffifkleaekhaa.V
set_option linter.unusedVariables false
set_option linter.unusedSimpArgs false

theorem right_of {v : List D} (sv : srt ordA v) (pv : pos v) (hl : v.length ≤ 64) (h : ∀ w, 0 < at' v w → nameB w = true ∧ at' v w ≤ 4611686018427387904) : rightB v = true := by
  rw [rightB_iff]
  refine ⟨hl, fun d hd => ?_, sv⟩
  have e := at_mem ordA sv hd
  have p := pv d hd
  obtain ⟨h1, h2⟩ := h d.1 (by rw [e]; omega)
  rw [e] at h2
  exact dotB_iff.2 ⟨h1, p, h2⟩
theorem name_of {v : List D} (h : rightB v = true) {w : ByteArray} (hw : 0 < at' v w) : nameB w = true := by
  obtain ⟨n, hm, _⟩ := at_gt (right_pos h) hw
  exact (dotB_iff.1 ((rightB_iff.1 h).2.1 _ hm)).1
theorem join_at {a b : List D} (ra : rightB a = true) (rb : rightB b = true) (x : ByteArray) : at' (joinV ordA a b) x = max (at' a x) (at' b x) := (joinV_ok ordA (right_srt ra) (right_pos ra) (right_srt rb) (right_pos rb)).2.2 x
theorem join_right {a b : List D} (ra : rightB a = true) (rb : rightB b = true) (hl : (joinV ordA a b).length ≤ 64) : rightB (joinV ordA a b) = true := by
  obtain ⟨h1, h2, h3⟩ := joinV_ok ordA (right_srt ra) (right_pos ra) (right_srt rb) (right_pos rb)
  refine right_of h1 h2 hl fun w hw => ?_
  rw [h3] at hw ⊢
  have := right_le ra w
  have := right_le rb w
  refine ⟨?_, by omega⟩
  by_cases h : 0 < at' a w
  · exact name_of ra h
  · exact name_of rb (by omega)
theorem meetL_right {a b : List D} (ra : rightB a = true) (rb : rightB b = true) : rightB (meetL a b) = true := by
  have h3 := meetL_at (right_srt ra) (right_srt rb) (right_pos ra) (right_pos rb)
  refine right_of (meetL_srt (right_srt ra) (right_srt rb)) (meetL_pos a b) (Nat.le_trans (meetL_len (right_srt ra) (right_srt rb) (right_pos ra) (right_pos rb)) (right_len rb)) fun w hw => ?_
  rw [h3] at hw ⊢
  have := right_le ra w
  exact ⟨name_of ra (by omega), by omega⟩
theorem meet_at {a b : List D} (ra : rightB a = true) (rb : rightB b = true) (x : ByteArray) : at' (meetL a b) x = min (at' a x) (at' b x) := meetL_at (right_srt ra) (right_srt rb) (right_pos ra) (right_pos rb) x
theorem leqB_iff {a b : List D} (ra : rightB a = true) (rb : rightB b = true) : leqB a b = true ↔ ∀ x, at' a x ≤ at' b x := by
  unfold leqB
  rw [ra, rb]
  exact leqV_iff ordA (right_srt ra) (right_pos ra) (right_pos rb)
/-- What Least says of a meet. -/
theorem least_meet {a b c m : List D} (ra : rightB a = true) (rb : rightB b = true) (rc : rightB c = true) (rm : rightB m = true) (hm : ∀ x, at' m x = min (at' a x) (at' b x)) :
    leqB m a = true ∧ leqB m b = true ∧ leqB c m = (leqB c a && leqB c b) := by
  refine ⟨(leqB_iff rm ra).2 fun x => by rw [hm]; omega, (leqB_iff rm rb).2 fun x => by rw [hm]; omega, ?_⟩
  rw [Bool.eq_iff_iff, Bool.and_eq_true, leqB_iff rc rm, leqB_iff rc ra, leqB_iff rc rb]
  constructor
  · intro h
    exact ⟨fun x => by have := h x; rw [hm] at this; omega, fun x => by have := h x; rw [hm] at this; omega⟩
  · rintro ⟨h1, h2⟩ x
    have := h1 x; have := h2 x
    rw [hm]; omega
theorem least_join {a b c j : List D} (ra : rightB a = true) (rb : rightB b = true) (rc : rightB c = true) (rj : rightB j = true) (hj : ∀ x, at' j x = max (at' a x) (at' b x)) :
    leqB a j = true ∧ leqB b j = true ∧ leqB j c = (leqB a c && leqB b c) := by
  refine ⟨(leqB_iff ra rj).2 fun x => by rw [hj]; omega, (leqB_iff rb rj).2 fun x => by rw [hj]; omega, ?_⟩
  rw [Bool.eq_iff_iff, Bool.and_eq_true, leqB_iff rj rc, leqB_iff ra rc, leqB_iff rb rc]
  constructor
  · intro h
    exact ⟨fun x => by have := h x; rw [hj] at this; omega, fun x => by have := h x; rw [hj] at this; omega⟩
  · rintro ⟨h1, h2⟩ x
    have := h1 x; have := h2 x
    rw [hj]; omega
theorem vec_ext {a b : List D} (ra : rightB a = true) (rb : rightB b = true) (h : ∀ x, at' a x = at' b x) : a = b := at_ext ordA (right_srt ra) (right_srt rb) (right_pos ra) (right_pos rb) h
theorem join_assoc3 {a b c : List D} (ra : rightB a = true) (rb : rightB b = true) (rc : rightB c = true) (h1 : (joinV ordA a b).length ≤ 64) (h2 : (joinV ordA b c).length ≤ 64) : joinO (joinV ordA a b) c = joinO a (joinV ordA b c) := by
  unfold joinO
  rw [join_right ra rb h1, rc, ra, join_right rb rc h2, joinV_assoc ordA (right_srt ra) (right_pos ra) (right_srt rb) (right_pos rb) (right_srt rc) (right_pos rc)]
theorem joinO_yes {a b : List D} (ra : rightB a = true) (rb : rightB b = true) (h : (joinV ordA a b).length ≤ 64) : joinO a b = (joinV ordA a b, 0) := by
  unfold joinO
  rw [ra, rb, if_pos (by rfl), if_pos h]
theorem joinO_no {a b : List D} (ra : rightB a = true) (rb : rightB b = true) (h : ¬ (joinV ordA a b).length ≤ 64) : joinO a b = ([], 70) := by
  unfold joinO
  rw [ra, rb, if_pos (by rfl), if_neg h]
theorem meetO_two {A A2 : Option Addr} {c c2 : Nat} {a b : List D} (ra : rightB a = true) (rb : rightB b = true) : meetO [⟨A, c, a⟩, ⟨A2, c2, b⟩] = (meetL (meetL a a) b, 0) := by
  show (if allR [⟨A, c, a⟩, ⟨A2, c2, b⟩] = true then (meetL (meetL a a) b, 0) else ([], 2)) = _
  rw [if_pos (by simp [allR, ra, rb])]
theorem meetO_three {A A2 A3 : Option Addr} {c c2 c3 : Nat} {a b d : List D} (ra : rightB a = true) (rb : rightB b = true) (rd : rightB d = true) : meetO [⟨A, c, a⟩, ⟨A2, c2, b⟩, ⟨A3, c3, d⟩] = (meetL (meetL (meetL a a) b) d, 0) := by
  show (if allR [⟨A, c, a⟩, ⟨A2, c2, b⟩, ⟨A3, c3, d⟩] = true then (meetL (meetL (meetL a a) b) d, 0) else ([], 2)) = _
  rw [if_pos (by simp [allR, ra, rb, rd])]
theorem meet3_eq {a b c : List D} (ra : rightB a = true) (rb : rightB b = true) (rc : rightB c = true) : meetL (meetL (meetL a a) b) c = meetL (meetL (meetL c c) b) a := by
  have raa := meetL_right ra ra
  have rab := meetL_right raa rb
  have rcc := meetL_right rc rc
  have rcb := meetL_right rcc rb
  refine vec_ext (meetL_right rab rc) (meetL_right rcb ra) fun x => ?_
  rw [meet_at rab rc, meet_at raa rb, meet_at ra ra, meet_at rcb ra, meet_at rcc rb, meet_at rc rc]
  omega
end Go.Proofs.Ytdffifkleaekhaa.V
