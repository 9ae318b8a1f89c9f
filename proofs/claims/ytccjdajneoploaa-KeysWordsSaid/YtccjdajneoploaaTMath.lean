/-
  What takeText finds, step by step; and how a function that ran several loops over iterators leaves.
-/
import Derived.Test.YtccjdajneoploaaTake
import Derived.Scope
namespace Go.Proofs.Ytccjdajneoploaa
open Go.RowKit Go.Shelf

theorem M.untA_run : ∀ (ys acc : List Nat) (i : Nat) (r : List Nat), (∀ y ∈ ys, y ≠ 0) → M.untA acc i (ys ++ r) = M.untA (acc ++ ys) (i + ys.length) r
  | [], acc, i, r, _ => by simp
  | y :: ys, acc, i, r, h => by
    rw [List.cons_append, M.untA_pos acc i y _ (h y List.mem_cons_self), M.untA_run ys (acc ++ [y]) (i + 1) r fun z hz => h z (List.mem_cons_of_mem _ hz)]
    simp [Nat.add_assoc, Nat.add_comm 1]
/-- The text from a place on, and where its encoding ends. -/
def M.txt (s : ByteArray) (a : Nat) : Option (List Nat × Nat) := M.untA [] a ((byt s).drop a)
def badT : Value := .tuple #[.string ⟨#[]⟩, .int .i64 0, .bool false]
def txtR (s : ByteArray) (a : Nat) : Value := match M.txt s a with
  | some q => if q.1.length ≤ 512 then .tuple #[.string (strB q.1), .int .i64 ((q.2 : Nat) : Int), .bool true] else badT
  | none => badT
theorem drop_at (s : ByteArray) (i : Nat) (h : i < s.size) : (byt s).drop i = (s[i]'h).toNat :: (byt s).drop (i + 1) := by
  have hl : i < (byt s).length := by rw [byt_length]; exact h
  have := byt_at s i h
  rw [List.getElem?_eq_getElem hl] at this
  injection this with this
  rw [List.drop_eq_getElem_cons hl, this]
theorem prefix_range {l : List Nat} {a m : Nat} (h : l <+: List.range' a m) : l = List.range' a l.length := by
  obtain ⟨t, ht⟩ := h
  have hle : l.length ≤ m := by
    have := congrArg List.length ht
    rw [List.length_append, List.length_range'] at this; omega
  have h1 : l = (List.range' a m).take l.length := by rw [← ht, List.take_left]
  rw [h1]
  have e : List.range' a m = List.range' a l.length ++ List.range' (a + l.length) (m - l.length) := by
    rw [List.range'_append_1]; congr 1; omega
  rw [e, List.take_left' (by simp)]
  simp
/-- Where a loop stands that has gone over q and x. -/
theorem pre_facts (s : ByteArray) (i m : Nat) (him : i + m = s.size) (q : List (Fin s.size)) (x : Fin s.size) (h : (q ++ [x]).map Fin.val <+: List.range' i m) :
    x.val = i + q.length ∧ (byt s).drop i = at_ s q ++ (byt s).drop x.val := by
  have h1 := prefix_range h
  simp only [List.map_append, List.map_cons, List.map_nil, List.length_append, List.length_map, List.length_singleton] at h1
  rw [List.range'_concat] at h1
  obtain ⟨g1, g2⟩ := List.append_inj' h1 (by simp)
  have hx : x.val = i + q.length := by simpa using g2
  refine ⟨hx, ?_⟩
  have h2 := at_range s q i q.length g1 (by have := x.2; omega)
  rw [h2, hx]
  have : (byt s).drop (i + q.length) = ((byt s).drop i).drop q.length := by rw [List.drop_drop]
  rw [this, List.take_append_drop]
section
variable (s : ByteArray) (i m : Nat) (him : i + m = s.size) (acc : List Nat) (q : List (Fin s.size)) (x : Fin s.size) (h : (q ++ [x]).map Fin.val <+: List.range' i m) (hq : ∀ y ∈ q, (s[y.val]'y.2).toNat ≠ 0)
include him h hq
theorem txt_at : M.untA acc i ((byt s).drop i) = M.untA (acc ++ at_ s q) x.val ((s[x.val]'x.2).toNat :: (byt s).drop (x.val + 1)) := by
  obtain ⟨h1, h2⟩ := pre_facts s i m him q x h
  rw [h2, M.untA_run _ _ _ _ (by
    intro y hy
    obtain ⟨z, hz, rfl⟩ := List.mem_map.1 hy
    exact hq z hz), at_length, ← h1, drop_at s x.val x.2]
theorem txt_end (hx : (s[x.val]'x.2).toNat = 0) (hn : (byt s)[x.val + 1]?.getD 0 = 1) : M.untA acc i ((byt s).drop i) = some (acc ++ at_ s q, x.val + 2) := by
  have hl : x.val + 1 < s.size := by
    rcases Nat.lt_or_ge (x.val + 1) s.size with h | h
    · exact h
    · rw [List.getElem?_eq_none (by rw [byt_length]; omega)] at hn; cases hn
  rw [byt_at s _ hl, Option.getD_some] at hn
  rw [txt_at s i m him acc q x h hq, hx, drop_at s (x.val + 1) hl, hn, M.untA_end]
theorem txt_next (hx : (s[x.val]'x.2).toNat = 0) (hn : (byt s)[x.val + 1]?.getD 0 = 255) : x.val + 2 ≤ s.size ∧ i < x.val + 2 ∧ M.untA (acc ++ at_ s q ++ [0]) (x.val + 2) ((byt s).drop (x.val + 2)) = M.untA acc i ((byt s).drop i) := by
  have hl : x.val + 1 < s.size := by
    rcases Nat.lt_or_ge (x.val + 1) s.size with h | h
    · exact h
    · rw [List.getElem?_eq_none (by rw [byt_length]; omega)] at hn; cases hn
  rw [byt_at s _ hl, Option.getD_some] at hn
  refine ⟨by omega, by have := (pre_facts s i m him q x h).1; omega, ?_⟩
  rw [txt_at s i m him acc q x h hq, hx, drop_at s (x.val + 1) hl, hn, M.untA_zero]
theorem txt_bad (hne : ¬ ((s[x.val]'x.2).toNat = 0 ∧ (byt s)[x.val + 1]?.getD 0 = 1)) (hb : acc.length + q.length = 512 ∨ ((s[x.val]'x.2).toNat = 0 ∧ (byt s)[x.val + 1]?.getD 0 ≠ 255)) :
    ∀ r, M.untA acc i ((byt s).drop i) = some r → ¬ r.1.length ≤ 512 := by
  intro r hr
  rw [txt_at s i m him acc q x h hq] at hr
  by_cases h0 : (s[x.val]'x.2).toNat = 0
  · rw [h0] at hr
    by_cases hl : x.val + 1 < s.size
    · rw [byt_at s _ hl, Option.getD_some] at hne hb
      rw [drop_at s (x.val + 1) hl] at hr
      by_cases h5 : (s[x.val + 1]'hl).toNat = 255
      · rcases hb with hb | hb
        · rw [h5, M.untA_zero] at hr
          have := M.untA_len hr
          simp only [List.length_append, at_length, List.length_singleton] at this
          omega
        · exact absurd h5 hb.2
      · rw [M.untA_bad _ _ _ _ (fun e => hne ⟨h0, e⟩) h5] at hr; cases hr
    · rw [List.drop_eq_nil_of_le (by rw [byt_length]; omega), M.untA_one] at hr; cases hr
  · rcases hb with hb | hb
    · rw [M.untA_pos _ _ _ _ h0] at hr
      have := M.untA_len hr
      simp only [List.length_append, at_length, List.length_singleton] at this
      omega
    · exact absurd hb.1 h0
end
theorem txt_out (s : ByteArray) (i m : Nat) (him : i + m = s.size) (acc : List Nat) (ys : List (Fin s.size)) (h : ys.map Fin.val = List.range' i m) (hq : ∀ y ∈ ys, (s[y.val]'y.2).toNat ≠ 0) : M.untA acc i ((byt s).drop i) = none := by
  have h2 := at_range s ys i m h (by omega)
  have h3 : (byt s).drop i = at_ s ys ++ [] := by
    rw [h2, List.append_nil, List.take_of_length_le (by rw [List.length_drop, byt_length]; omega)]
  rw [h3, M.untA_run _ _ _ _ (by
    intro y hy
    obtain ⟨z, hz, rfl⟩ := List.mem_map.1 hy
    exact hq z hz), M.untA_nil]
theorem txtR_bad {s : ByteArray} {a : Nat} (h : ∀ r, M.txt s a = some r → ¬ r.1.length ≤ 512) : txtR s a = badT := by
  unfold txtR
  cases hh : M.txt s a with
  | none => rfl
  | some r => exact if_neg (h r hh)
theorem txtR_some {s : ByteArray} {a : Nat} {t : List Nat} {e : Nat} (h : M.txt s a = some (t, e)) (hl : t.length ≤ 512) : txtR s a = .tuple #[.string (strB t), .int .i64 (e : Int), .bool true] := by
  unfold txtR
  rw [h]
  exact if_pos hl

/-- The marks of loops over iterators that have run. -/
def marks (Ds : List Nat) : List Deferred := Ds.map fun D => { target := .collected D, args := #[] }
theorem leaves_marks {F : Fence} {n : Nat} {P : Program} {fn : Func} {tmps : Array Value} {R : Ending → World → Prop} (n₀ : Nat) (T : World → Prop)
    (hT : ∀ W D, T W → n₀ ≤ D → W.heap[D]? = some (.deferred (some [])) → T (W.putObj D (.deferred none))) (hend : ∀ W, T W → LeavesIn F n P fn tmps R [] .returning W) :
    ∀ (Ds : List Nat) (W : World), Ds.Nodup → (∀ D ∈ Ds, n₀ ≤ D ∧ W.heap[D]? = some (.deferred (some []))) → T W → LeavesInM F n P fn tmps R (marks Ds) .returning W
  | [], W, _, _, h => hend W h
  | D :: Ds, W, hnd, hD, h => by
    obtain ⟨h1, h2⟩ := List.nodup_cons.1 hnd
    obtain ⟨g1, g2⟩ := hD D List.mem_cons_self
    refine ⟨by simp, .inl ⟨D, _, rfl, run_takeDeferred g2, ?_⟩⟩
    refine leaves_marks n₀ T hT hend Ds _ h2 (fun E hE => ?_) (hT W D h g1 g2)
    obtain ⟨k1, k2⟩ := hD E (List.mem_cons_of_mem _ hE)
    exact ⟨k1, (World.putObj_heap_other (fun e => h1 (by rw [← e]; exact hE))).trans k2⟩
end Go.Proofs.Ytccjdajneoploaa
