/-
  What is laid is read as it was; what is read was laid so.
-/
import Derived.Test.YtadcmljcbmfcaaaVTake
namespace Go.Proofs.Ytadcmljcbmfcaaa.V
set_option linter.unusedVariables false
set_option linter.unusedSimpArgs false

theorem takeN_code (pre post : List Nat) (n : Nat) (hn : n < 18446744073709551616) : Wi.M.takeN (pre ++ Wi.M.code n ++ post) (pre.length : Int) = some (n, (pre ++ Wi.M.code n).length) := by
  unfold Wi.M.takeN
  rw [if_pos (by omega)]
  have e : (pre ++ Wi.M.code n ++ post).drop ((pre.length : Int)).toNat = Wi.M.code n ++ post := by
    rw [show ((pre.length : Int)).toNat = pre.length by omega, List.append_assoc, List.drop_left]
  rw [e, Wi.M.parse_code n hn post]
  simp
theorem takeD_yes (pre post : List Nat) {d : D} (h : dotB d = true) : takeD (pre ++ encD d ++ post) (pre.length : Int) = some (d, (pre ++ encD d).length) := by
  obtain ⟨s, n⟩ := d
  obtain ⟨h1, h2, h3⟩ := dotB_iff.1 h
  simp only at h1 h2 h3
  have hs := (nameB_pos h1).2
  obtain ⟨N, rfl⟩ : ∃ N : Nat, n = (N : Int) := ⟨n.toNat, by omega⟩
  have e1 : pre ++ encD (s, (N : Int)) ++ post = pre ++ Wi.M.code s.size ++ (Wi.byt s ++ Wi.M.code N ++ post) := by
    unfold encD; simp only [List.append_assoc]; rfl
  have e2 : pre ++ encD (s, (N : Int)) ++ post = (pre ++ Wi.M.code s.size ++ Wi.byt s) ++ Wi.M.code N ++ post := by
    unfold encD; simp only [List.append_assoc]; rfl
  have t1 := takeN_code pre (Wi.byt s ++ Wi.M.code N ++ post) s.size (by omega)
  have t2 := takeN_code (pre ++ Wi.M.code s.size ++ Wi.byt s) post N (by omega)
  have hT : Wi.M.takeT (pre ++ encD (s, (N : Int)) ++ post) (pre.length : Int) 24 = some (Wi.byt s, (pre ++ Wi.M.code s.size ++ Wi.byt s).length) := by
    unfold Wi.M.takeT
    rw [e1, t1]
    simp only
    rw [if_pos ⟨by omega, by simp only [List.length_append, Wi.byt_length]; omega⟩]
    have : ((pre ++ Wi.M.code s.size ++ (Wi.byt s ++ Wi.M.code N ++ post)).drop (pre ++ Wi.M.code s.size).length).take s.size = Wi.byt s := by
      rw [List.drop_left, List.append_assoc, ← Wi.byt_length s, List.take_left]
    rw [this]
    simp only [List.length_append, Wi.byt_length]
  unfold takeD
  rw [hT]
  simp only
  rw [e2, t2]
  simp only
  rw [if_pos (by omega), Wi.strB_byt]
  congr 2
  unfold encD
  simp only [List.length_append]
  show _ = pre.length + ((Wi.M.code s.size).length + (Wi.byt s).length + (Wi.M.code N).length)
  omega
theorem takes_yes (post : List Nat) : ∀ (v : List D) (pre : List Nat), (∀ d ∈ v, dotB d = true) → takes (pre ++ encL v ++ post) v.length pre.length = some (v, (pre ++ encL v).length)
  | [], pre, _ => by simp [takes, encL]
  | d :: t, pre, h => by
    have e : encL (d :: t) = encD d ++ encL t := by simp [encL]
    have h1 := takeD_yes pre (encL t ++ post) (h d (List.mem_cons_self ..))
    have ih := takes_yes post t (pre ++ encD d) fun x hx => h x (List.mem_cons_of_mem _ hx)
    have e1 : pre ++ encL (d :: t) ++ post = pre ++ encD d ++ (encL t ++ post) := by rw [e]; simp only [List.append_assoc]
    have e2 : pre ++ encD d ++ (encL t ++ post) = pre ++ encD d ++ encL t ++ post := by simp only [List.append_assoc]
    rw [List.length_cons, takes_succ, e1, h1]
    show Option.map _ (takes (pre ++ encD d ++ (encL t ++ post)) t.length (pre ++ encD d).length) = _
    rw [e2, ih, e]
    simp
theorem takeV_yes {v : List D} (h : rightB v = true) (b : List Nat) : takeV (encV v ++ b) 0 = some (v, (encV v).length) := by
  have hl := right_len h
  have h1 := takeN_code [] (encL v ++ b) v.length (by omega)
  have h2 := takes_yes b v (Wi.M.code v.length) (rightB_iff.1 h).2.1
  unfold takeV
  have e : encV v ++ b = [] ++ Wi.M.code v.length ++ (encL v ++ b) := by unfold encV; simp
  rw [e, show ((0 : Int)) = (([] : List Nat).length : Int) by simp, h1]
  simp only
  rw [if_pos hl]
  have e3 : [] ++ Wi.M.code v.length ++ (encL v ++ b) = Wi.M.code v.length ++ encL v ++ b := by simp
  rw [e3, List.nil_append, h2]
  simp only
  rw [if_pos h]
  rfl
/-- A piece that is read. -/
theorem takeN_piece {l : List Nat} (hl : ∀ x ∈ l, x < 256) {a n p : Nat} (h : Wi.M.takeN l (a : Int) = some (n, p)) : l.take p = l.take a ++ Wi.M.code n := by
  obtain ⟨_, _, hp, hpl, hc⟩ := Wi.takeN_some hl h
  rw [show ((a : Int)).toNat = a by omega] at hp hc
  have := List.take_add (l := l) (i := a) (j := p - a)
  rw [show a + (p - a) = p by omega, hc] at this
  exact this
theorem takeD_piece {l : List Nat} (hl : ∀ x ∈ l, x < 256) {a : Nat} {d : D} {q : Nat} (h : takeD l (a : Int) = some (d, q)) : l.take q = l.take a ++ encD d := by
  unfold takeD at h
  split at h
  · cases h
  · rename_i t p1 hT
    split at h
    · cases h
    · rename_i n q' hn
      split at h
      · rename_i hle
        injection h with h
        obtain ⟨rfl, rfl⟩ := Prod.mk.inj h
        unfold Wi.M.takeT at hT
        split at hT
        · cases hT
        · rename_i k p0 hk
          split at hT
          · rename_i hc
            injection hT with hT
            obtain ⟨rfl, rfl⟩ := Prod.mk.inj hT
            have g1 := takeN_piece hl hk
            have g2 := takeN_piece hl hn
            have g3 := List.take_add (l := l) (i := p0) (j := k)
            have hk2 : ((l.drop p0).take k).length = k := by rw [List.length_take, List.length_drop]; omega
            rw [g2, g3, g1]
            unfold encD
            simp only
            rw [Wi.strB_size, hk2, Wi.byt_strB _ (fun x hx => hl x (List.mem_of_mem_drop (List.mem_of_mem_take hx))), show ((n : Int)).toNat = n by omega]
            simp only [List.append_assoc]
          · cases hT
      · cases h
theorem takes_piece {l : List Nat} (hl : ∀ x ∈ l, x < 256) : ∀ (k a : Nat) {v : List D} {q : Nat}, takes l k a = some (v, q) → v.length = k ∧ l.take q = l.take a ++ encL v
  | 0, a, v, q, h => by
    simp [takes] at h
    obtain ⟨rfl, rfl⟩ := h
    simp [encL]
  | k + 1, a, v, q, h => by
    rw [takes_succ] at h
    cases hd : takeD l (a : Int) with
    | none => rw [hd] at h; cases h
    | some dq =>
      obtain ⟨d, q1⟩ := dq
      rw [hd] at h
      have h' : ((takes l k q1).map fun r : List D × Nat => (d :: r.1, r.2)) = some (v, q) := h
      obtain ⟨⟨t, q2⟩, ht, he⟩ := Option.map_eq_some_iff.1 h'
      obtain ⟨rfl, rfl⟩ := Prod.mk.inj he
      obtain ⟨g1, g2⟩ := takes_piece hl k q1 ht
      have g3 := takeD_piece hl hd
      refine ⟨by simp [g1], ?_⟩
      rw [g2, g3]
      simp [encL]
theorem takes_len {l : List Nat} (hl : ∀ x ∈ l, x < 256) : ∀ (k a : Nat) {v : List D} {q : Nat}, a ≤ l.length → takes l k a = some (v, q) → q ≤ l.length
  | 0, a, v, q, ha, h => by
    simp [takes] at h
    obtain ⟨rfl, rfl⟩ := h
    exact ha
  | k + 1, a, v, q, ha, h => by
    rw [takes_succ] at h
    cases hd : takeD l (a : Int) with
    | none => rw [hd] at h; cases h
    | some dq =>
      obtain ⟨d, q1⟩ := dq
      rw [hd] at h
      have h' : ((takes l k q1).map fun r : List D × Nat => (d :: r.1, r.2)) = some (v, q) := h
      obtain ⟨⟨t, q2⟩, ht, he⟩ := Option.map_eq_some_iff.1 h'
      obtain ⟨rfl, rfl⟩ := Prod.mk.inj he
      exact takes_len hl k q1 (takeD_len hl hd) ht
theorem takeV_some {l : List Nat} (hl : ∀ x ∈ l, x < 256) {u : List D} {p : Nat} (h : takeV l 0 = some (u, p)) : rightB u = true ∧ l.take p = encV u ∧ p ≤ l.length := by
  unfold takeV at h
  split at h
  · cases h
  · rename_i n p0 hn
    split at h
    · split at h
      · cases h
      · rename_i r hr
        split at h
        · rename_i hrt
          injection h with h
          subst h
          have g1 := takeN_piece hl (a := 0) hn
          obtain ⟨g2, g3⟩ := takes_piece hl n p0 hr
          refine ⟨hrt, ?_, takes_len hl n p0 (takeN_len hl hn) hr⟩
          rw [g3, g1]
          unfold encV
          rw [g2]; simp
        · cases h
    · cases h
end Go.Proofs.Ytadcmljcbmfcaaa.V
