/-
  The program's Meet.
-/
import Derived.Test.YtdffifkleaekhaaVSame
namespace Go.Proofs.Ytdffifkleaekhaa.V
open Go.RowKit
set_option linter.unusedVariables false
set_option linter.unusedSimpArgs false

theorem outF_cons (f : Int → Int → Int) (z : T) (xs : List T) : outF f (z :: xs) = if 0 < f z.2.1 z.2.2 then (z.1, f z.2.1 z.2.2) :: outF f xs else outF f xs := by
  unfold outF
  rw [List.filterMap_cons]
  by_cases h : 0 < f z.2.1 z.2.2
  · simp only [h, if_true]
  · simp only [h, if_false]
theorem meet_len : ∀ (k : Nat) (a b : List D), srt ordA a → srt ordA b → pos a → pos b → (outF min (mrg k a b)).length ≤ b.length
  | 0, a, b, _, _, _, _ => by simp [mrg, outF]
  | k + 1, a, b, sa, sb, pa, pb => by
    revert pa pb
    refine mrg_cases k (fun a b => pos a → pos b → (outF min (mrg (k + 1) a b)).length ≤ b.length) ?_ ?_ ?_ ?_ a b sa sb
    · intro _ _; rw [mrg_nil]; simp [outF]
    · rintro ⟨w, j⟩ s b _ sa sb e h pa pb
      have hj := pa (w, j) (List.mem_cons_self ..)
      simp only at hj
      rw [e, outF_cons, if_neg (by simp only; omega)]
      exact meet_len k s b sa.2 sb (fun d hd => pa d (List.mem_cons_of_mem _ hd)) pb
    · rintro a ⟨w, j⟩ t _ sa sb e h pa pb
      have hj := pb (w, j) (List.mem_cons_self ..)
      simp only at hj
      rw [e, outF_cons, if_neg (by simp only; omega)]
      have := meet_len k a t sa sb.2 pa fun d hd => pb d (List.mem_cons_of_mem _ hd)
      rw [List.length_cons]; omega
    · intro w i j s t sa sb e h pa pb
      have := meet_len k s t sa.2 sb.2 (fun d hd => pa d (List.mem_cons_of_mem _ hd)) fun d hd => pb d (List.mem_cons_of_mem _ hd)
      rw [e, outF_cons]
      split
      · simp only [List.length_cons]; omega
      · rw [List.length_cons]; omega
theorem meetL_len {a b : List D} (sa : srt ordA a) (sb : srt ordA b) (pa : pos a) (pb : pos b) : (meetL a b).length ≤ b.length := meet_len _ a b sa sb pa pb
theorem meetL_srt {a b : List D} (sa : srt ordA a) (sb : srt ordA b) : srt ordA (meetL a b) := outF_srt min (mrg_srt _ a b sa sb)
theorem meetL_pos (a b : List D) : pos (meetL a b) := outF_pos _ _
theorem meetL_at {a b : List D} (sa : srt ordA a) (sb : srt ordA b) (pa : pos a) (pb : pos b) (x : ByteArray) : at' (meetL a b) x = min (at' a x) (at' b x) := by
  unfold meetL
  rw [outF_at min (by decide) sa sb pa pb _ (Nat.le_refl _)]
  have := at_pos pa x
  have := at_pos pb x
  omega
def meetF (o : List D) (ls : List Vc) : List D := ls.foldl (fun o x => meetL o x.l) o
def meetO : List Vc → List D × Int
  | [] => ([], 2)
  | x :: t => if allR (x :: t) = true then (meetF x.l (x :: t), 0) else ([], 2)
theorem meetF_drop {ls : List Vc} {j : Nat} {x : Vc} (o : List D) (hj : j < ls.length) (hd : ls[j]'hj = x) : meetF o (ls.drop j) = meetF (meetL o x.l) (ls.drop (j + 1)) := by
  rw [List.drop_eq_getElem_cons hj, hd]; rfl

end Go.Proofs.Ytdffifkleaekhaa.V
