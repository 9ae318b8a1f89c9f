/-
  Read.
-/
import Derived.Test.YtccjdajneoploaaTPart
namespace Go.Proofs.Ytccjdajneoploaa
open Go.RowKit

/-- What Read answers. -/
def Reads (s : ByteArray) (w : World) (e : Ending) (w' : World) : Prop :=
  ((∃ l A c, M.readV (byt s) = some l ∧ e = .returned (.tuple #[.slice A l.length c, .int .i64 0]) ∧ RowP w' w'.heap.size A l) ∨ (M.readV (byt s) = none ∧ e = .returned (.tuple #[.slice none 0 0, .int .i64 30]))) ∧ Below w.heap.size w w'
theorem take1B_some {s : List Nat} (hs : ∀ x ∈ s, x < 256) {p : Part} {m : Nat} (h : M.take1B s = some (p, m)) : p.n < 18446744073709551616 ∧ m ≤ s.length := by
  unfold M.take1B at h
  obtain ⟨h1, h2⟩ := Option.filter_eq_some_iff.1 h
  obtain ⟨hok, r, e1, e2⟩ := M.take1_some s hs p m h1
  refine ⟨hok.1, ?_⟩
  rw [e1, e2, List.length_append]; omega
theorem parseB_next {k : Nat} {s : List Nat} {p : Part} {m : Nat} (hne : s ≠ []) (h : M.take1B s = some (p, m)) : M.parseB (k + 1) s = (M.parseB k (s.drop m)).map (p :: ·) := by
  cases s with
  | nil => exact absurd rfl hne
  | cons x r => simp only [M.parseB, h, Option.bind_some]
theorem parseB_fail {k : Nat} {s : List Nat} (hne : s ≠ []) (h : M.take1B s = none) : M.parseB (k + 1) s = none := by
  cases s with
  | nil => exact absurd rfl hne
  | cons x r => simp only [M.parseB, h, Option.bind_none]
theorem map_app (l : List Part) (p : Part) (o : Option (List Part)) : (o.map (p :: ·)).map (l ++ ·) = o.map ((l ++ [p]) ++ ·) := by
  cases o with
  | none => rfl
  | some x => simp

set_option maxRecDepth 100000 in
set_option maxHeartbeats 1600000 in
theorem read_any (s : ByteArray) (w : World) (hs : s.size ≤ 140737488355328) : Calls Try.prog 12 #[.string s] w (Reads s w) := by
  have HV := Lib.hid (M.readV_B (byt s))
  go_enter Try.func12, Try.ntmps12
  go_wp2
  go_loopg [4, 5] 8 (fun k o q wr => ∃ (l : List Part) (A : Option Addr) (c i : Nat), l.length ≤ 8 ∧ k = 8 - l.length ∧ o = .slice A l.length c ∧ q = .int .i64 i ∧ i ≤ s.size ∧ Hid ((M.parseB (8 - l.length) ((byt s).drop i)).map (l ++ ·) = M.parseB 8 (byt s)) ∧ Hid (GrP wr w.heap.size A c l) ∧ Hid (∀ p ∈ l, p.n < 18446744073709551616) ∧ Hid (Below w.heap.size w wr))
  case atStart => exact ⟨[], none, 0, 0, by simp, by simp, rfl, rfl, by omega, by show _ = _; simp, GrP.nil _ _, by show ∀ p ∈ ([] : List Part), _; simp, Below.refl _ _⟩
  case round =>
    obtain ⟨l, A, c, i, hl, hgk, rfl, rfl, hi, hinv, hG, hN, hB⟩ := hrel
    have HGK := Lib.hid hgk; clear hgk
    by_cases hlt : i < s.size
    · have hne : (byt s).drop i ≠ [] := by
        intro e
        have := congrArg List.length e
        rw [List.length_drop, byt_length, List.length_nil] at this; omega
      by_cases hl8 : l.length < 8
      · have HNE := Lib.hid hne
        clear hne
        go_wp2_with fail
        refine (takePart_any s i _ hs hlt).mono ?_
        rintro e w2 ⟨(⟨p, m, ht, rfl⟩ | ⟨ht, p, rfl⟩), hb2⟩
        · obtain ⟨hn, hm⟩ := take1B_some (fun x hx => byt_lt s x (List.mem_of_mem_drop hx)) ht
          rw [List.length_drop, byt_length] at hm
          have hb3 : Below w.heap.size w w2 := hB.out.trans (hb2.mono hB.out.size)
          have hG2 := hG.out.below hb2 (Nat.le_refl _)
          have HI : Hid ((M.parseB (8 - (l ++ [p]).length) ((byt s).drop (i + m))).map ((l ++ [p]) ++ ·) = M.parseB 8 (byt s)) := by
            show _ = _
            rw [← hinv.out, show 8 - l.length = (8 - (l ++ [p]).length) + 1 by simp; omega, parseB_next HNE.out ht, map_app, List.drop_drop]
          have hB3 : Below w.heap.size w (w2.alloc (.cells #[.bool p.t, .int .u64 (p.n : Int), .string p.s] 41)) := hb3.alloc hb3.size _
          obtain ⟨A3, c3, w3, hap, hG3, hb4⟩ := (hG2.below ((Below.refl _ w2).alloc (Nat.le_refl _) (.cells #[.bool p.t, .int .u64 (p.n : Int), .string p.s] 41)) (Nat.le_refl _)).one p 22 (by omega) hB3.size
          rw [World.size_alloc] at hap
          have HAP := Lib.hid hap
          have HG3 := Lib.hid hG3
          have HB4 : Hid (Below w.heap.size w w3) := hB3.trans hb4
          have HN3 : Hid (∀ q ∈ l ++ [p], q.n < 18446744073709551616) := fun q hq => by
            rcases List.mem_append.1 hq with h | h
            · exact hN.out q h
            · rw [List.mem_singleton.1 h]; exact hn
          obtain ⟨z, hz⟩ : ∃ z : Int, ((i + m : Nat) : Int) = z := ⟨_, rfl⟩
          rw [hz]
          have HZ := Lib.hid hz
          clear hap hG3 hb4 hB3 hG2 hb3 hb2 hz hn ht
          unfold pv
          go_wp2_with (at_builtin; refine wpList_append_run rfl _ _ _ _ rfl _ _ rfl rfl HAP.out ?_; clear HAP)
          go_roundg (8 - (l.length + 1))
          case measure => have := HGK.out; omega
          case rel => exact ⟨l ++ [p], A3, c3, i + m, by simp; omega, by simp, by simp, by rw [HZ.out], by omega, HI, HG3, HN3, HB4⟩
        · have HR : Hid (M.readV (byt s) = none) := by
            show _ = _
            rw [HV.out, ← hinv.out, show 8 - l.length = (7 - l.length) + 1 by omega, parseB_fail HNE.out ht]; rfl
          have HB2 : Hid (Below w.heap.size w (w2.alloc (.cells #[.bool p.t, .int .u64 (p.n : Int), .string p.s] 41))) := by
            have hb3 : Below w.heap.size w w2 := hB.out.trans (hb2.mono hB.out.size)
            exact hb3.alloc hb3.size _
          clear hb2 ht
          unfold pv
          go_wp2
          go_ret2
          exact ⟨.inr ⟨HR.out, rfl⟩, HB2.out⟩
      · have h8 : l.length = 8 := by omega
        have HR : Hid (M.readV (byt s) = none) := by
          show _ = _
          rw [HV.out, ← hinv.out, h8]
          cases hh : (byt s).drop i with
          | nil => exact absurd hh hne
          | cons x r => rfl
        have hl0 : ¬ (l.length = 0) := by omega
        clear hne h8
        go_wp2
        go_ret2
        exact ⟨.inr ⟨HR.out, rfl⟩, hB.out⟩
    · have hd : (byt s).drop i = [] := List.drop_eq_nil_of_le (by rw [byt_length]; omega)
      have HP : Hid (M.parseB 8 (byt s) = some l) := by
        show _ = _
        rw [← hinv.out, hd, M.parseB_nil]; simp
      by_cases hl0 : l.length = 0
      · have HR : Hid (M.readV (byt s) = none) := by show _ = _; rw [HV.out, HP.out]; simp [Option.filter, hl0]
        clear hd
        go_wp2
        go_ret2
        exact ⟨.inr ⟨HR.out, rfl⟩, hB.out⟩
      · have HR : Hid (M.readV (byt s) = some l) := by
          show _ = _
          rw [HV.out, HP.out]
          exact if_pos (by show (decide (0 < l.length) && decide (l.length ≤ 8)) = true; rw [decide_eq_true (show 0 < l.length by omega), decide_eq_true hl]; rfl)
        have hl1 : ((l.length : Int) == 0) = false := beq_eq_false_iff_ne.2 (by omega)
        have HL0 := Lib.hid hl0
        clear hd hl0
        go_wp2
        go_ret2
        exact ⟨.inl ⟨l, A, c, HR.out, rfl, hG.out.row hN.out⟩, hB.out⟩
end Go.Proofs.Ytccjdajneoploaa
