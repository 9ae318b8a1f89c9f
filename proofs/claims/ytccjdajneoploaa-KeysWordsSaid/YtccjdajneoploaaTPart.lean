/-
  takePart.
-/
import Derived.Test.YtccjdajneoploaaTText
namespace Go.Proofs.Ytccjdajneoploaa
open Go.RowKit

/-- What takePart finds, by the byte at the place. -/
theorem take_num (s : ByteArray) (a : Nat) (ha : a < s.size) (hx : (s[a]'ha).toNat = 1) : M.take1B ((byt s).drop a) = if a + 9 ≤ s.size then some (⟨false, M.num s (a + 1) 8, ⟨#[]⟩⟩, 9) else none := by
  unfold M.take1B
  rw [drop_at s a ha, hx]
  simp only [M.take1, if_true]
  rw [List.length_drop, byt_length]
  by_cases h : a + 9 ≤ s.size
  · rw [if_pos (by omega), if_pos h]; rfl
  · rw [if_neg (by omega), if_neg h]; rfl
theorem take_text (s : ByteArray) (a : Nat) (ha : a < s.size) (hx : (s[a]'ha).toNat = 2) : M.take1B ((byt s).drop a) = (M.txt s (a + 1)).bind fun q => if q.1.length ≤ 512 then some (⟨true, 0, strB q.1⟩, q.2 - a) else none := by
  unfold M.take1B M.txt
  rw [drop_at s a ha, hx]
  simp only [M.take1]
  rw [if_neg (by decide), if_pos trivial]
  unfold M.untA
  cases M.unt ((byt s).drop (a + 1)) with
  | none => rfl
  | some q =>
    simp only [Option.map_some, Option.bind_some, List.nil_append]
    rw [show a + 1 + q.2 - a = q.2 + 1 by omega]
    by_cases h : q.1.length ≤ 512
    · rw [if_pos h]; simp [Option.filter, M.rightP, strB_size, h]
    · rw [if_neg h]; simp [Option.filter, M.rightP, strB_size]; omega
theorem take_else (s : ByteArray) (a : Nat) (ha : a < s.size) (h1 : (s[a]'ha).toNat ≠ 1) (h2 : (s[a]'ha).toNat ≠ 2) : M.take1B ((byt s).drop a) = none := by
  unfold M.take1B
  rw [drop_at s a ha]
  simp [M.take1, h1, h2, Option.filter]
/-- What takePart answers. -/
def Took (s : ByteArray) (a : Nat) (w : World) (e : Ending) (w' : World) : Prop :=
  ((∃ p m, M.take1B ((byt s).drop a) = some (p, m) ∧ e = .returned (.tuple #[pv p, .int .i64 ((a + m : Nat) : Int), .bool true])) ∨ (M.take1B ((byt s).drop a) = none ∧ ∃ p, e = .returned (.tuple #[pv p, .int .i64 0, .bool false]))) ∧ Below w.heap.size w w'
theorem txtR_cases (s : ByteArray) (a : Nat) : (∃ q, M.txt s a = some q ∧ q.1.length ≤ 512 ∧ txtR s a = .tuple #[.string (strB q.1), .int .i64 ((q.2 : Nat) : Int), .bool true]) ∨ ((∀ q, M.txt s a = some q → ¬ q.1.length ≤ 512) ∧ txtR s a = badT) := by
  cases h : M.txt s a with
  | none => exact .inr ⟨by simp, txtR_bad (by rw [h]; simp)⟩
  | some q =>
    by_cases hl : q.1.length ≤ 512
    · exact .inl ⟨q, rfl, hl, txtR_some h hl⟩
    · exact .inr ⟨fun r hr => by cases hr; exact hl, txtR_bad (by rw [h]; rintro r hr; cases hr; exact hl)⟩
theorem zero_box (w w' : World) (hb : Below (w.heap.size + 1) (w.alloc (.cells #[.bool false, .int .u64 0, .string ⟨#[]⟩] 41)) w') :
    (w'.cell? ⟨w.heap.size, 0, none⟩ = some (.bool false) ∧ w'.cell? ⟨w.heap.size, 1, none⟩ = some (.int .u64 0) ∧ w'.cell? ⟨w.heap.size, 2, none⟩ = some (.string ⟨#[]⟩)) ∧
    (w'.frozen? ⟨w.heap.size, 0, none⟩ = false ∧ w'.frozen? ⟨w.heap.size, 1, none⟩ = false ∧ w'.frozen? ⟨w.heap.size, 2, none⟩ = false) := by
  have h : ∀ k, w'.cell? ⟨w.heap.size, k, none⟩ = (w.alloc (.cells #[.bool false, .int .u64 0, .string ⟨#[]⟩] 41)).cell? ⟨w.heap.size, k, none⟩ := fun k => hb.cell (by show w.heap.size < w.heap.size + 1; omega)
  have f : ∀ k, w'.frozen? ⟨w.heap.size, k, none⟩ = (w.alloc (.cells #[.bool false, .int .u64 0, .string ⟨#[]⟩] 41)).frozen? ⟨w.heap.size, k, none⟩ := fun k => World.frozen?_of_block (hb.block _ (by show w.heap.size < w.heap.size + 1; omega))
  rw [h, h, h, f, f, f]
  refine ⟨⟨?_, ?_, ?_⟩, ?_, ?_, ?_⟩ <;> simp [go_sem]

set_option maxRecDepth 100000 in
set_option maxHeartbeats 1600000 in
theorem takePart_any (s : ByteArray) (a : Nat) (w : World) (hs : s.size ≤ 140737488355328) (ha : a < s.size) :
    Calls Try.prog 24 #[.string s, .int .i64 a] w (Took s a w) := by
  have hB0 : Below w.heap.size w (w.alloc (.cells #[.bool false, .int .u64 0, .string ⟨#[]⟩] 41)) := (Below.refl _ w).alloc (Nat.le_refl _) _
  have HB0 := Lib.hid hB0
  obtain ⟨x, hx⟩ : ∃ x, (s[a]'ha).toNat = x := ⟨_, rfl⟩
  by_cases h1 : x = 1
  · have HT := Lib.hid (take_num s a ha (hx.trans h1))
    subst h1
    by_cases h9 : a + 9 ≤ s.size
    · have HC := fun w => takeNumber_yes s (a + 1) w hs (by omega)
      simp only [show ((a + 1 : Nat) : Int) = (a : Int) + 1 by omega, show ((a + 1 + 8 : Nat) : Int) = ((a + 9 : Nat) : Int) by omega] at HC
      rw [if_pos h9] at HT
      obtain ⟨n, hn⟩ : ∃ n, M.num s (a + 1) 8 = n := ⟨_, rfl⟩
      simp only [hn] at HC HT
      obtain ⟨z, hz⟩ : ∃ z : Int, ((a + 9 : Nat) : Int) = z := ⟨_, rfl⟩
      obtain ⟨V, hV⟩ : ∃ V : Int, (n : Int) = V := ⟨_, rfl⟩
      simp only [hz, hV] at HC
      have HZ := Lib.hid hz
      have HV := Lib.hid hV
      clear hn hz hV hB0
      go_enter Try.func24, Try.ntmps24
      go_wp2_with (go_at_call 31; refine (HC _).mono ?_; rintro e w' ⟨rfl, rfl⟩)
      refine bodyPost_ret (v := .tuple #[.agg #[.bool false, .int .u64 V, .string ⟨#[]⟩], .int .i64 z, .bool true]) (by simp [results, Try.f24, go_sem]) rfl ?_
      exact ⟨.inl ⟨⟨false, n, ⟨#[]⟩⟩, 9, HT.out, by rw [HZ.out]; unfold pv; simp only; rw [HV.out]⟩, (Below.refl _ w).alloc (Nat.le_refl _) _⟩
    · have HC := fun w => takeNumber_no s (a + 1) w hs (by omega) (by omega)
      simp only [show ((a + 1 : Nat) : Int) = (a : Int) + 1 by omega] at HC
      rw [if_neg h9] at HT
      clear hB0
      go_enter Try.func24, Try.ntmps24
      go_wp2_with (go_at_call 31; refine (HC _).mono ?_; rintro e w' ⟨rfl, rfl⟩)
      refine bodyPost_ret (v := .tuple #[.agg #[.bool false, .int .u64 0, .string ⟨#[]⟩], .int .i64 0, .bool false]) (by simp [results, Try.f24, go_sem]) rfl ?_
      exact ⟨.inr ⟨HT.out, ⟨false, 0, ⟨#[]⟩⟩, rfl⟩, (Below.refl _ w).alloc (Nat.le_refl _) _⟩
  · have h1b : ((x : Int) == 1) = false := by simp; omega
    by_cases h2 : x = 2
    · have HT := Lib.hid (take_text s a ha (hx.trans h2))
      subst h2
      have HC := fun w => takeText_any s (a + 1) w hs (by omega)
      simp only [show ((a + 1 : Nat) : Int) = (a : Int) + 1 by omega] at HC
      rcases txtR_cases s (a + 1) with ⟨q, q1, q2, q3⟩ | ⟨q1, q3⟩
      · have HTT : Hid (M.take1B ((byt s).drop a) = some (⟨true, 0, strB q.1⟩, q.2 - a)) := by show _ = _; rw [HT.out, q1]; simp [q2]
        have hqa : a ≤ q.2 := by
          unfold M.txt M.untA at q1
          obtain ⟨r, _, e⟩ := Option.map_eq_some_iff.1 q1
          rw [← e]; show a ≤ a + 1 + r.2; omega
        have HQ : Hid (((a + (q.2 - a) : Nat) : Int) = ((q.2 : Nat) : Int)) := by show _ = _; omega
        simp only [q3] at HC
        obtain ⟨T, hT⟩ : ∃ T, strB q.1 = T := ⟨_, rfl⟩
        obtain ⟨z, hz⟩ : ∃ z : Int, ((q.2 : Nat) : Int) = z := ⟨_, rfl⟩
        simp only [hT, hz] at HC HTT HQ
        clear hT hz q1 q2 q3 hqa HT hB0 h1
        go_enter Try.func24, Try.ntmps24
        go_wp2_with fail
        refine (HC _).mono ?_
        rintro e w1 ⟨rfl, hb1⟩
        rw [World.size_alloc] at hb1
        obtain ⟨⟨c0, c1, c2⟩, f0, f1, f2⟩ := zero_box w w1 hb1
        have HB1 : Hid (Below w.heap.size w w1) := HB0.out.trans (hb1.mono (by omega))
        clear hb1 HC
        go_wp2
        refine bodyPost_ret (v := .tuple #[.agg #[.bool true, .int .u64 0, .string T], .int .i64 z, .bool true]) (by simp [results, Try.f24, go_sem, c0, c1, c2]) rfl ?_
        exact ⟨.inl ⟨⟨true, 0, T⟩, q.2 - a, HTT.out, by rw [HQ.out]; rfl⟩, ((HB1.out.setCell (p := ⟨w.heap.size, 0, none⟩) (Nat.le_refl _) _).setCell (p := ⟨w.heap.size, 1, none⟩) (Nat.le_refl _) _).setCell (p := ⟨w.heap.size, 2, none⟩) (Nat.le_refl _) _⟩
      · have HTT : Hid (M.take1B ((byt s).drop a) = none) := by
          show _ = _
          rw [HT.out]
          cases hq : M.txt s (a + 1) with
          | none => rfl
          | some q => simp [q1 q hq]
        simp only [q3, badT] at HC
        clear q1 q3 HT hB0 h1
        go_enter Try.func24, Try.ntmps24
        go_wp2_with fail
        refine (HC _).mono ?_
        rintro e w1 ⟨rfl, hb1⟩
        rw [World.size_alloc] at hb1
        obtain ⟨⟨c0, c1, c2⟩, f0, f1, f2⟩ := zero_box w w1 hb1
        have HB1 : Hid (Below w.heap.size w w1) := HB0.out.trans (hb1.mono (by omega))
        clear hb1 HC
        go_wp2
        refine bodyPost_ret (v := .tuple #[.agg #[.bool true, .int .u64 0, .string ⟨#[]⟩], .int .i64 0, .bool false]) (by simp [results, Try.f24, go_sem, c0, c1, c2]) rfl ?_
        exact ⟨.inr ⟨HTT.out, ⟨true, 0, ⟨#[]⟩⟩, rfl⟩, ((HB1.out.setCell (p := ⟨w.heap.size, 0, none⟩) (Nat.le_refl _) _).setCell (p := ⟨w.heap.size, 1, none⟩) (Nat.le_refl _) _).setCell (p := ⟨w.heap.size, 2, none⟩) (Nat.le_refl _) _⟩
    · have h2b : ((x : Int) == 2) = false := by simp; omega
      have HT := Lib.hid (take_else s a ha (by rw [hx]; exact h1) (by rw [hx]; exact h2))
      clear hB0 h1 h2
      go_enter Try.func24, Try.ntmps24
      go_wp2
      refine bodyPost_ret (v := .tuple #[.agg #[.bool false, .int .u64 0, .string ⟨#[]⟩], .int .i64 0, .bool false]) (by simp [results, Try.f24, go_sem]) rfl ?_
      exact ⟨.inr ⟨HT.out, ⟨false, 0, ⟨#[]⟩⟩, rfl⟩, (Below.refl _ w).alloc (Nat.le_refl _) _⟩
end Go.Proofs.Ytccjdajneoploaa
