/-
  The program's empty.
-/
import Derived.Test.YtkpefelakhbkhaaIRow
namespace Go.Proofs.Ytkpefelakhbkhaa.I
open Go.RowKit

set_option maxRecDepth 100000 in
set_option maxHeartbeats 1600000 in
theorem empty_any (A : Option Addr) (c : Nat) (l : List El) (ts : List Tr) (w : World) (hr : RowE w w.heap.size A l) (hin : InL w w.heap.size l ts) (hl : l.length ≤ 1000) :
    Calls Try.prog 72 #[.slice A l.length c] w fun e w' => e = .returned (.bool (ts.all (onlyT false))) ∧ Below w.heap.size w w' := by
  have HR := Lib.hid hr
  have HI := Lib.hid hin
  clear hr hin
  go_enter Try.func72, Try.ntmps72
  go_wp2
  go_loopg [7] l.length (fun k i wr => ∃ (j : Nat), j ≤ l.length ∧ k = l.length - j ∧ i = .int .i64 j ∧ Hid ((ts.take j).all (onlyT false) = true) ∧ Hid (Below w.heap.size w wr))
  case atStart => exact ⟨0, by omega, by omega, rfl, by show _ = _; simp, Below.refl _ _⟩
  case round =>
    obtain ⟨j, hj, hgk, rfl, hinv, hB⟩ := hrel
    have HGK := Lib.hid hgk; clear hgk
    by_cases hlt : j < l.length
    · have hlt2 : j < ts.length := by rw [← HI.out.1]; exact hlt
      obtain ⟨b, off, rfl, hb, f0, f1⟩ := (HR.out.up hB.out).at j hlt
      have HIN := Lib.hid ((HI.out.up hB.out).2 j _ _ (List.getElem?_eq_getElem hlt) (List.getElem?_eq_getElem hlt2))
      have HT : Hid ((ts.take (j + 1)).all (onlyT false) = onlyT false ts[j]) := by
        show _ = _
        rw [List.take_succ_eq_append_getElem hlt2, List.all_append, hinv.out]; simp
      have HN : Hid (onlyT false ts[j] = false → ts.all (onlyT false) = false) := fun h => by
        rw [List.all_eq_false]
        exact ⟨_, List.getElem_mem hlt2, by rw [h]; simp⟩
      obtain ⟨t, ht⟩ : ∃ t, ts[j] = t := ⟨_, rfl⟩
      obtain ⟨e, he⟩ : ∃ e, l[j] = e := ⟨_, rfl⟩
      rw [ht] at HIN HT HN
      rw [he] at HIN f0 f1
      obtain ⟨o, A1, n1, c1⟩ := e
      simp only at f0 f1
      have hc := only_any t _ false (wr.alloc (.cells #[.bool o, .slice A1 n1 c1] 24)) (HIN.out.up ((Below.refl _ wr).alloc (Nat.le_refl _) _))
      unfold El.v tv at hc
      simp only at hc
      clear ht he HIN
      go_wp2_with fail
      refine hc.mono ?_
      rintro e w2 ⟨rfl, hb2⟩
      have HB2 : Hid (Below w.heap.size w w2) := (hB.out.alloc hB.out.size _).trans (hb2.mono (by have := hB.out.size; simp; omega))
      clear hb2 hc f0 f1
      cases hx : onlyT false t with
      | false =>
        have HF := Lib.hid (HN.out hx)
        clear hx HN HT hinv
        go_wp2
        go_ret
        exact ⟨ret_bool HF.out.symm, HB2.out⟩
      | true =>
        rw [hx] at HT
        clear hx HN hinv
        go_wp2
        go_roundg (l.length - (j + 1))
        · exact ⟨j + 1, by omega, rfl, by rfl, HT.out, HB2.out⟩
        · have := HGK.out; omega
    · obtain rfl : j = l.length := by omega
      have HF : Hid (ts.all (onlyT false) = true) := by
        show _ = _
        have := hinv.out
        rw [List.take_of_length_le (by rw [HI.out.1]; exact Nat.le_refl _)] at this
        exact this
      go_wp2
      go_ret
      exact ⟨ret_bool HF.out.symm, hB.out⟩
end Go.Proofs.Ytkpefelakhbkhaa.I
