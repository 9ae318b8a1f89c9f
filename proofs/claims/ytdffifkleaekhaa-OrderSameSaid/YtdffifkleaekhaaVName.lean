/-
  Names and dots: the program's functions and the reference's.
-/
import Derived.Test.YtdffifkleaekhaaVBase
namespace Go.Proofs.Ytdffifkleaekhaa.V
open Go.RowKit
set_option linter.unusedVariables false
set_option linter.unusedSimpArgs false

set_option maxRecDepth 100000 in
set_option maxHeartbeats 1600000 in
theorem inName_any (n : Nat) (w : World) : Calls Try.prog 109 #[.int .i32 (n : Int)] w fun e w' => e = .returned (.bool (okN n)) ∧ w = w' := by
  obtain ⟨r, hr⟩ : ∃ r : Int, (n : Int) = r := ⟨_, rfl⟩
  have hb : okN n = ((decide (97 ≤ r) && decide (r ≤ 122)) || (decide (48 ≤ r) && decide (r ≤ 57)) || decide (r = 46)) := by
    unfold okN
    rw [← hr]
    simp only [show (97 ≤ (n : Int)) = (97 ≤ n) by simp only [eq_iff_iff]; omega, show ((n : Int) ≤ 122) = (n ≤ 122) by simp only [eq_iff_iff]; omega, show (48 ≤ (n : Int)) = (48 ≤ n) by simp only [eq_iff_iff]; omega, show ((n : Int) ≤ 57) = (n ≤ 57) by simp only [eq_iff_iff]; omega, show ((n : Int) = 46) = (n = 46) by simp only [eq_iff_iff]; omega]
  rw [hb, hr]
  clear hb hr
  by_cases h1 : 97 ≤ r
  · by_cases h2 : r ≤ 122
    · go_enter Try.func109, Try.ntmps109
      go_wp2
      go_ret
      exact ⟨ret_bool (by simp [h1, h2]), rfl⟩
    · have h3 : 48 ≤ r := by omega
      have h4 : ¬ r ≤ 57 := by omega
      have h5 : (r == 46) = false := by simp; omega
      go_enter Try.func109, Try.ntmps109
      go_wp2
      go_ret
      exact ⟨ret_bool (by simp [h2, h4]; omega), rfl⟩
  · by_cases h3 : 48 ≤ r
    · by_cases h4 : r ≤ 57
      · go_enter Try.func109, Try.ntmps109
        go_wp2
        go_ret
        exact ⟨ret_bool (by simp [h3, h4]), rfl⟩
      · have h5 : (r == 46) = false := by simp; omega
        go_enter Try.func109, Try.ntmps109
        go_wp2
        go_ret
        exact ⟨ret_bool (by simp [h1, h4]; omega), rfl⟩
    · by_cases h5 : r = 46
      · have h6 : (r == 46) = true := by simp [h5]
        go_enter Try.func109, Try.ntmps109
        go_wp2
        go_ret
        exact ⟨ret_bool (by simp [h5]), rfl⟩
      · have h6 : (r == 46) = false := by simp [h5]
        go_enter Try.func109, Try.ntmps109
        go_wp2
        go_ret
        exact ⟨ret_bool (by simp [h5]; omega), rfl⟩

theorem nameB_false {s : ByteArray} {p : Nat} (hp : p < s.size) (h : okN ((s[p]'hp).toNat) = false) : nameB s = false := by
  unfold nameB
  rw [Bool.and_eq_false_iff]
  right
  rw [decide_eq_false_iff_not]
  intro g
  have := g ⟨p, hp⟩
  simp only at this
  rw [h] at this; cases this

set_option maxRecDepth 100000 in
set_option maxHeartbeats 1600000 in
theorem isName_any (s : ByteArray) (w : World) : Calls Try.prog 102 #[.string s] w fun e w' => e = .returned (.bool (nameB s)) ∧ Below w.heap.size w w' := by
  by_cases hlen : 1 ≤ s.size ∧ s.size ≤ 24
  · have g1 : (((s.size : Nat) : Int) == 0) = false := by rw [beq_eq_false_iff_ne]; omega
    have g2 : ¬ ((s.size : Nat) : Int) > 24 := by omega
    go_enter Try.func102, Try.ntmps102
    go_wp2
    go_loopw [4] (fun v w' => ∃ (pos : Nat), w' = w.iter s pos ∧ Hid (∀ (i : Nat) (h : i < s.size), i < pos → okN ((s[i]'h).toNat) = true)) (fun _ w' => s.size - w'.iterPos w.heap.size)
    case atStart => exact ⟨0, rfl, fun i _ h => absurd h (by omega)⟩
    case round =>
      obtain ⟨pos, rfl, hok⟩ := hrel
      by_cases hp : pos < s.size
      · by_cases ha : (s[pos]'hp).toNat < 128
        · have hnx : ∀ ty, (Instr.next (.pointer (some ⟨w.heap.size, 0, none⟩)) true ty).run Try.prog (w.iter s pos) = _ := fun ty => run_next_ascii w s pos ty hp ha
          obtain ⟨n, hn⟩ : ∃ n, (s[pos]'hp).toNat = n := ⟨_, rfl⟩
          rw [hn] at hnx
          cases ho : okN n with
          | true =>
            have hok' : Hid (∀ (i : Nat) (h : i < s.size), i < pos + 1 → okN ((s[i]'h).toNat) = true) := fun i h hi => by
              by_cases e : i = pos
              · subst e; rw [hn]; exact ho
              · exact hok.out i h (by omega)
            go_wp2_with fail
            refine (inName_any n _).mono ?_
            rintro e w2 ⟨rfl, rfl⟩
            rw [ho]
            go_wp2
            go_roundw
            case rel => exact ⟨pos + 1, rfl, hok'⟩
            case measure => simp; omega
          | false =>
            have hf := Lib.hid (nameB_false hp (by rw [hn]; exact ho))
            go_wp2_with fail
            refine (inName_any n _).mono ?_
            rintro e w2 ⟨rfl, rfl⟩
            rw [ho]
            go_wp2
            go_ret
            exact ⟨ret_bool hf.out.symm, (Below.refl _ w).alloc (Nat.le_refl _) _⟩
        · have hnx : ∀ ty, (Instr.next (.pointer (some ⟨w.heap.size, 0, none⟩)) true ty).run Try.prog (w.iter s pos) = _ := fun ty => run_next_any w s pos ty hp
          have hd := (decode_high s pos hp (by omega)).1
          have hf := Lib.hid (nameB_false hp (by unfold okN; simp; omega))
          obtain ⟨n, hn⟩ : ∃ n, (Utf8.decode s pos).1 = n := ⟨_, rfl⟩
          rw [hn] at hnx hd
          have ho : okN n = false := by unfold okN; simp; omega
          go_wp2_with fail
          refine (inName_any n _).mono ?_
          rintro e w2 ⟨rfl, rfl⟩
          rw [ho]
          go_wp2
          go_ret
          exact ⟨ret_bool hf.out.symm, (Below.refl _ w).alloc (Nat.le_refl _) _⟩
      · have hnx : ∀ ty, (Instr.next (.pointer (some ⟨w.heap.size, 0, none⟩)) true ty).run Try.prog (w.iter s pos) = _ := fun ty => run_next_end w s pos ty hp
        have hf := Lib.hid (show nameB s = true by
          unfold nameB
          simp only [Bool.and_eq_true, decide_eq_true_eq]
          exact ⟨hlen, fun i => hok.out i.val i.2 (by omega)⟩)
        go_wp2
        go_ret
        exact ⟨ret_bool hf.out.symm, (Below.refl _ w).alloc (Nat.le_refl _) _⟩
  · have hf := Lib.hid (show nameB s = false by
      cases h : nameB s with
      | false => rfl
      | true => exact absurd (nameB_pos h) hlen)
    by_cases h0 : s.size = 0
    · have g1 : (((s.size : Nat) : Int) == 0) = true := by simp [h0]
      go_enter Try.func102, Try.ntmps102
      go_wp2
      go_ret
      exact ⟨ret_bool hf.out.symm, Below.refl _ w⟩
    · have g1 : (((s.size : Nat) : Int) == 0) = false := by rw [beq_eq_false_iff_ne]; omega
      have g2 : ((s.size : Nat) : Int) > 24 := by omega
      go_enter Try.func102, Try.ntmps102
      go_wp2
      go_ret
      exact ⟨ret_bool hf.out.symm, Below.refl _ w⟩
end Go.Proofs.Ytdffifkleaekhaa.V
