/-
  The reference's Read.
-/
import Derived.Test.YtccjdajneoploaaFirst
import Derived.Test.YtccjdajneoploaaRead
namespace Go.Proofs.Ytccjdajneoploaa
open Go.RowKit

theorem byt_from (s : ByteArray) (i : Nat) : byt (s.extract i s.size) = (byt s).drop i := by
  unfold byt
  rw [ByteArray.data_extract, Array.toList_extract]
  simp only [List.extract_eq_take_drop, List.map_take, List.map_drop]
  rw [List.take_of_length_le]
  simp
theorem size_from (s : ByteArray) (i : Nat) : (s.extract i s.size).size = s.size - i := by
  rw [← byt_length, byt_from, List.length_drop, byt_length]
theorem parse_next {k : Nat} {s : List Nat} {p : Part} {m : Nat} (hne : s ≠ []) (h : M.take1 s = some (p, m)) : M.parse (k + 1) s = (M.parse k (s.drop m)).map (p :: ·) := by
  cases s with
  | nil => exact absurd rfl hne
  | cons x r => simp only [M.parse, h, Option.bind_some]
theorem parse_fail {k : Nat} {s : List Nat} (hne : s ≠ []) (h : k = 0 ∨ M.take1 s = none) : M.parse k s = none := by
  cases s with
  | nil => exact absurd rfl hne
  | cons x r =>
    rcases h with rfl | h
    · rfl
    · cases k with
      | zero => rfl
      | succ k => simp only [M.parse, h, Option.bind_none]
theorem take1_len {s : List Nat} (hs : ∀ x ∈ s, x < 256) {p : Part} {m : Nat} (h : M.take1 s = some (p, m)) : p.n < 18446744073709551616 ∧ m ≤ s.length ∧ 1 ≤ m := by
  obtain ⟨hok, r, e1, e2⟩ := M.take1_some s hs p m h
  refine ⟨hok.1, ?_, ?_⟩
  · rw [e1, e2, List.length_append]; omega
  · rw [e2]; unfold M.enc1; split <;> simp

set_option maxRecDepth 100000 in
set_option maxHeartbeats 1600000 in
theorem rread_any (s : ByteArray) (w : World) (hs : s.size ≤ 140737488355328) : Calls Try.prog 13 #[.string s] w (Reads s w) := by
  go_enter Try.func13, Try.ntmps13
  go_wp2
  go_loopg [4, 5] s.size (fun k o q wr => ∃ (l : List Part) (A : Option Addr) (c i : Nat), l.length ≤ 8 ∧ k = s.size - i ∧ o = .slice A l.length c ∧ q = .int .i64 i ∧ i ≤ s.size ∧ Hid ((M.parse (8 - l.length) ((byt s).drop i)).map (l ++ ·) = M.parse 8 (byt s)) ∧ Hid (GrP wr w.heap.size A c l) ∧ Hid (∀ p ∈ l, p.n < 18446744073709551616) ∧ Hid (Below w.heap.size w wr))
  case atStart => exact ⟨[], none, 0, 0, by simp, by simp, rfl, rfl, by omega, by show _ = _; simp, GrP.nil _ _, by show ∀ p ∈ ([] : List Part), _; simp, Below.refl _ _⟩
  case round =>
    obtain ⟨l, A, c, i, hl, hgk, rfl, rfl, hi, hinv, hG, hN, hB⟩ := hrel
    have HGK := Lib.hid hgk; clear hgk
    by_cases hlt : i < s.size
    · have hne : (byt s).drop i ≠ [] := by
        intro e
        have := congrArg List.length e
        rw [List.length_drop, byt_length, List.length_nil] at this; omega
      have HNE := Lib.hid hne
      have hcall := fun W => first_any (s.extract i s.size) W (by rw [size_from]; omega) (by rw [size_from]; omega)
      unfold Firsts at hcall
      simp only [byt_from] at hcall
      obtain ⟨E, hE⟩ : ∃ E, s.extract i s.size = E := ⟨_, rfl⟩
      simp only [hE] at hcall
      clear hne
      go_wp2_with fail
      refine (hcall _).mono ?_
      rintro e w2 ⟨(⟨p, m, ht, rfl⟩ | ⟨ht, p, rfl⟩), hb2⟩
      · obtain ⟨hn, hm, hm1⟩ := take1_len (fun x hx => byt_lt s x (List.mem_of_mem_drop hx)) ht
        rw [List.length_drop, byt_length] at hm
        have hb3 : Below w.heap.size w w2 := hB.out.trans (hb2.mono hB.out.size)
        have hB3 : Below w.heap.size w (w2.alloc (.cells #[.bool p.t, .int .u64 (p.n : Int), .string p.s] 41)) := hb3.alloc hb3.size _
        have hm0 : ((m : Int) == 0) = false := beq_eq_false_iff_ne.2 (by omega)
        by_cases hl8 : l.length < 8
        · have hG2 := hG.out.below hb2 (Nat.le_refl _)
          have HI : Hid ((M.parse (8 - (l ++ [p]).length) ((byt s).drop (i + m))).map ((l ++ [p]) ++ ·) = M.parse 8 (byt s)) := by
            show _ = _
            rw [← hinv.out, show 8 - l.length = (8 - (l ++ [p]).length) + 1 by simp; omega, parse_next HNE.out ht, map_app, List.drop_drop]
          obtain ⟨A3, c3, w3, hap, hG3, hb4⟩ := (hG2.below ((Below.refl _ w2).alloc (Nat.le_refl _) (.cells #[.bool p.t, .int .u64 (p.n : Int), .string p.s] 41)) (Nat.le_refl _)).one p 22 (by omega) hB3.size
          rw [World.size_alloc] at hap
          have HAP := Lib.hid hap
          have HG3 := Lib.hid hG3
          have HB4 : Hid (Below w.heap.size w w3) := hB3.trans hb4
          have HN3 : Hid (∀ q ∈ l ++ [p], q.n < 18446744073709551616) := fun q hq => by
            rcases List.mem_append.1 hq with h | h
            · exact hN.out q h
            · rw [List.mem_singleton.1 h]; exact hn
          have hl8b : ¬ (8 : Int) ≤ (l.length : Int) := by omega
          clear hap hG3 hb4 hB3 hG2 hb3 hb2 hn ht hcall hE
          unfold pv
          go_wp2_with (at_builtin; refine wpList_append_run rfl _ _ _ _ rfl _ _ rfl rfl HAP.out ?_; clear HAP)
          go_roundg (s.size - (i + m))
          case measure => have := HGK.out; omega
          case rel => exact ⟨l ++ [p], A3, c3, i + m, by simp; omega, rfl, by simp, by go_num, by omega, HI, HG3, HN3, HB4⟩
        · have HR : Hid (M.readV (byt s) = none) := by
            show _ = _
            unfold M.readV
            rw [← hinv.out, parse_fail HNE.out (.inl (by omega))]; rfl
          have HB3 := Lib.hid hB3
          have hl8b : (8 : Int) ≤ (l.length : Int) := by omega
          clear hB3 hb3 hb2 hn ht hcall hE
          unfold pv
          go_wp2
          go_ret2
          exact ⟨.inr ⟨HR.out, rfl⟩, HB3.out⟩
      · have HR : Hid (M.readV (byt s) = none) := by
          show _ = _
          unfold M.readV
          rw [← hinv.out, parse_fail HNE.out (.inr ht)]; rfl
        have HB2 : Hid (Below w.heap.size w (w2.alloc (.cells #[.bool p.t, .int .u64 (p.n : Int), .string p.s] 41))) := by
          have hb3 : Below w.heap.size w w2 := hB.out.trans (hb2.mono hB.out.size)
          exact hb3.alloc hb3.size _
        clear hb2 ht hcall hE
        unfold pv
        go_wp2
        go_ret2
        exact ⟨.inr ⟨HR.out, rfl⟩, HB2.out⟩
    · have hd : (byt s).drop i = [] := List.drop_eq_nil_of_le (by rw [byt_length]; omega)
      have HP : Hid (M.parse 8 (byt s) = some l) := by
        show _ = _
        rw [← hinv.out, hd, M.parse_nil]; simp
      have hrow := hG.out.row hN.out
      have hcall := rright_any A c l wr hrow (by omega)
      have HROW := Lib.hid hrow
      clear hd hrow
      cases hri : M.right l with
      | true =>
        have HR : Hid (M.readV (byt s) = some l) := by
          show _ = _
          unfold M.readV
          rw [HP.out]
          exact if_pos hri
        rw [hri] at hcall
        clear hri
        go_wp2_with (go_at_call 15; refine hcall.mono ?_; rintro e w2 ⟨rfl, hb2⟩)
        go_ret2
        exact ⟨.inl ⟨l, A, c, HR.out, rfl, HROW.out.up hb2⟩, hB.out.trans (hb2.mono hB.out.size)⟩
      | false =>
        have HR : Hid (M.readV (byt s) = none) := by
          show _ = _
          unfold M.readV
          rw [HP.out]
          exact if_neg (by rw [hri]; decide)
        rw [hri] at hcall
        clear hri
        go_wp2_with (go_at_call 15; refine hcall.mono ?_; rintro e w2 ⟨rfl, hb2⟩)
        go_ret2
        exact ⟨.inr ⟨HR.out, rfl⟩, hB.out.trans (hb2.mono hB.out.size)⟩
end Go.Proofs.Ytccjdajneoploaa
