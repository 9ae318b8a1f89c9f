/-
  Names, dots and vectors, plainly.
-/
import Derived.Test.YtdffifkleaekhaaVMath
import Derived.WalkKit
namespace Go.Proofs.Ytdffifkleaekhaa.V

abbrev D := ByteArray × Int
theorem toList_inj {a b : ByteArray} (h : a.toList = b.toList) : a = b := by
  rw [ByteArray.toList_eq, ByteArray.toList_eq] at h
  cases a; cases b
  simp only at h
  rw [Array.toList_inj.1 h]
def ltA (a b : ByteArray) : Bool := Op.bytesLess a.toList b.toList
def ordA : Ord ByteArray := ⟨ltA, fun _ => less_irr _, fun _ _ _ => less_trans _ _ _, fun _ _ h1 h2 => toList_inj (less_tri _ _ h1 h2)⟩
/-- A byte that a name may hold. -/
def okN (n : Nat) : Bool := (decide (97 ≤ n) && decide (n ≤ 122)) || (decide (48 ≤ n) && decide (n ≤ 57)) || decide (n = 46)
def nameB (s : ByteArray) : Bool := decide (1 ≤ s.size) && decide (s.size ≤ 24) && decide (∀ i : Fin s.size, okN ((s[i.val]'i.2).toNat) = true)
def dotB (d : D) : Bool := nameB d.1 && decide (1 ≤ d.2) && decide (d.2 ≤ 4611686018427387904)
def chkR : ByteArray → List D → Bool
  | _, [] => true
  | bef, d :: t => dotB d && ltA bef d.1 && chkR d.1 t
def rightB (v : List D) : Bool := decide (v.length ≤ 64) && chkR ByteArray.empty v
theorem nameB_pos {s : ByteArray} (h : nameB s = true) : 1 ≤ s.size ∧ s.size ≤ 24 := by
  unfold nameB at h
  simp only [Bool.and_eq_true, decide_eq_true_eq] at h
  exact h.1
theorem lt_empty {s : ByteArray} (h : 1 ≤ s.size) : ltA ByteArray.empty s = true := by
  unfold ltA
  have e : s.toList.length = s.size := by rw [ByteArray.toList_eq]; simp
  cases hs : s.toList with
  | nil => rw [hs] at e; simp at e; omega
  | cons a t => rw [ByteArray.toList_eq]; rfl
theorem dotB_iff {d : D} : dotB d = true ↔ nameB d.1 = true ∧ 1 ≤ d.2 ∧ d.2 ≤ 4611686018427387904 := by
  unfold dotB
  simp only [Bool.and_eq_true, decide_eq_true_eq, and_assoc]
theorem chkR_iff : ∀ (v : List D) (bef : ByteArray), chkR bef v = true ↔ (∀ d ∈ v, dotB d = true ∧ ltA bef d.1 = true) ∧ srt ordA v
  | [], _ => by simp [chkR, srt]
  | d :: t, bef => by
    simp only [chkR, Bool.and_eq_true, chkR_iff t d.1, srt]
    constructor
    · rintro ⟨⟨h1, h2⟩, h3, h4⟩
      refine ⟨fun e he => ?_, fun e he => (h3 e he).2, h4⟩
      rcases List.mem_cons.1 he with rfl | he
      · exact ⟨h1, h2⟩
      · exact ⟨(h3 e he).1, less_trans _ _ _ h2 (h3 e he).2⟩
    · rintro ⟨h1, h2, h3⟩
      have := h1 d (List.mem_cons_self ..)
      exact ⟨⟨this.1, this.2⟩, fun e he => ⟨(h1 e (List.mem_cons_of_mem _ he)).1, h2 e he⟩, h3⟩
theorem rightB_iff {v : List D} : rightB v = true ↔ v.length ≤ 64 ∧ (∀ d ∈ v, dotB d = true) ∧ srt ordA v := by
  unfold rightB
  rw [Bool.and_eq_true, decide_eq_true_eq, chkR_iff]
  constructor
  · rintro ⟨h1, h2, h3⟩
    exact ⟨h1, fun d hd => (h2 d hd).1, h3⟩
  · rintro ⟨h1, h2, h3⟩
    exact ⟨h1, fun d hd => ⟨h2 d hd, lt_empty (nameB_pos (dotB_iff.1 (h2 d hd)).1).1⟩, h3⟩
theorem right_pos {v : List D} (h : rightB v = true) : pos v := fun d hd => (dotB_iff.1 ((rightB_iff.1 h).2.1 d hd)).2.1
theorem right_srt {v : List D} (h : rightB v = true) : srt ordA v := (rightB_iff.1 h).2.2
theorem right_len {v : List D} (h : rightB v = true) : v.length ≤ 64 := (rightB_iff.1 h).1
theorem right_le {v : List D} (h : rightB v = true) (w : ByteArray) : at' v w ≤ 4611686018427387904 := by
  by_cases h0 : 0 < at' v w
  · obtain ⟨n, hm, he⟩ := at_gt (right_pos h) h0
    rw [he]
    exact (dotB_iff.1 ((rightB_iff.1 h).2.1 _ hm)).2.2
  · omega
theorem right_at {v : List D} (h : rightB v = true) (w : ByteArray) : 0 ≤ at' v w := at_pos (right_pos h) w

/-- Two vectors, walked together. -/
abbrev T := ByteArray × Int × Int
def nextW : List D → List D → ByteArray
  | [], [] => ByteArray.empty
  | [], d :: _ => d.1
  | d :: _, [] => d.1
  | d :: _, e :: _ => if ltA e.1 d.1 then e.1 else d.1
def cutN (v : List D) (w : ByteArray) : Int := match v with | [] => 0 | d :: _ => if d.1 = w then d.2 else 0
def cutT (v : List D) (w : ByteArray) : List D := match v with | [] => [] | d :: t => if d.1 = w then t else d :: t
def mrg : Nat → List D → List D → List T
  | 0, _, _ => []
  | _ + 1, [], [] => []
  | k + 1, a, b => (nextW a b, cutN a (nextW a b), cutN b (nextW a b)) :: mrg k (cutT a (nextW a b)) (cutT b (nextW a b))
theorem mrg_nil : ∀ k, mrg k [] [] = []
  | 0 => rfl
  | _ + 1 => rfl
theorem mrg_step (k : Nat) {a b : List D} (h : 0 < a.length ∨ 0 < b.length) : mrg (k + 1) a b = (nextW a b, cutN a (nextW a b), cutN b (nextW a b)) :: mrg k (cutT a (nextW a b)) (cutT b (nextW a b)) := by
  cases a with
  | nil => cases b with
    | nil => simp at h
    | cons e t => rfl
  | cons d s => cases b <;> rfl
/-- How the two may stand at a step: the first's, the second's, both. -/
theorem mrg_cases (k : Nat) (P : List D → List D → Prop)
    (h0 : P [] [])
    (hl : ∀ d s b, (∀ e ∈ b, e.1 ≠ d.1) → srt ordA (d :: s) → srt ordA b → mrg (k + 1) (d :: s) b = (d.1, d.2, 0) :: mrg k s b → (∀ e ∈ s ++ b, ltA d.1 e.1 = true) → P (d :: s) b)
    (hr : ∀ a e t, (∀ d ∈ a, d.1 ≠ e.1) → srt ordA a → srt ordA (e :: t) → mrg (k + 1) a (e :: t) = (e.1, 0, e.2) :: mrg k a t → (∀ d ∈ a ++ t, ltA e.1 d.1 = true) → P a (e :: t))
    (hb : ∀ w n m s t, srt ordA ((w, n) :: s) → srt ordA ((w, m) :: t) → mrg (k + 1) ((w, n) :: s) ((w, m) :: t) = (w, n, m) :: mrg k s t → (∀ d ∈ s ++ t, ltA w d.1 = true) → P ((w, n) :: s) ((w, m) :: t))
    (a b : List D) (sa : srt ordA a) (sb : srt ordA b) : P a b := by
  have lt_ne' : ∀ {x y : ByteArray}, ltA x y = true → x ≠ y := fun h => lt_ne ordA h
  have tr : ∀ {x y z : ByteArray}, ltA x y = true → ltA y z = true → ltA x z = true := fun h g => ordA.trans _ _ _ h g
  cases a with
  | nil =>
    cases b with
    | nil => exact h0
    | cons e t =>
      refine hr [] e t (by simp) sa sb ?_ (fun x hx => sb.1 x (by simpa using hx))
      rw [mrg_step k (.inr (by simp))]
      simp [nextW, cutN, cutT]
  | cons d s =>
    cases b with
    | nil =>
      refine hl d s [] (by simp) sa sb ?_ (fun x hx => sa.1 x (by simpa using hx))
      rw [mrg_step k (.inl (by simp))]
      simp [nextW, cutN, cutT]
    | cons e t =>
      by_cases h1 : ltA e.1 d.1 = true
      · have ne : d.1 ≠ e.1 := (lt_ne' h1).symm
        have all : ∀ x ∈ d :: s, ltA e.1 x.1 = true := fun x hx => by
          rcases List.mem_cons.1 hx with rfl | hx
          · exact h1
          · exact tr h1 (sa.1 x hx)
        refine hr (d :: s) e t (fun x hx => (lt_ne' (all x hx)).symm) sa sb ?_ (fun x hx => by
          rcases List.mem_append.1 hx with hx | hx
          · exact all x hx
          · exact sb.1 x hx)
        rw [mrg_step k (.inl (by simp))]
        simp [nextW, cutN, cutT, h1, ne]
      · by_cases h2 : ltA d.1 e.1 = true
        · have ne : e.1 ≠ d.1 := (lt_ne' h2).symm
          have all : ∀ x ∈ e :: t, ltA d.1 x.1 = true := fun x hx => by
            rcases List.mem_cons.1 hx with rfl | hx
            · exact h2
            · exact tr h2 (sb.1 x hx)
          refine hl d s (e :: t) (fun x hx => (lt_ne' (all x hx)).symm) sa sb ?_ (fun x hx => by
            rcases List.mem_append.1 hx with hx | hx
            · exact sa.1 x hx
            · exact all x hx)
          rw [mrg_step k (.inl (by simp))]
          simp [nextW, cutN, cutT, h1, ne]
        · have e0 : e.1 = d.1 := ordA.tri _ _ (Bool.eq_false_iff.2 h1) (Bool.eq_false_iff.2 h2)
          obtain ⟨w, n⟩ := d
          obtain ⟨w2, m⟩ := e
          simp only at e0 h1 h2
          subst e0
          refine hb w2 n m s t sa sb ?_ (fun x hx => by
            rcases List.mem_append.1 hx with hx | hx
            · exact sa.1 x hx
            · exact sb.1 x hx)
          rw [mrg_step k (.inl (by simp))]
          simp [nextW, cutN, cutT, h1]
/-- Every name that is walked is one of theirs. -/
theorem mrg_mem : ∀ (k : Nat) (a b : List D), srt ordA a → srt ordA b → ∀ x ∈ mrg k a b, (∃ d ∈ a, d.1 = x.1) ∨ ∃ d ∈ b, d.1 = x.1
  | 0, _, _, _, _, x, hx => by simp [mrg] at hx
  | k + 1, a, b, sa, sb, x, hx => by
    revert hx
    refine mrg_cases k (fun a b => x ∈ mrg (k + 1) a b → (∃ d ∈ a, d.1 = x.1) ∨ ∃ d ∈ b, d.1 = x.1) ?_ ?_ ?_ ?_ a b sa sb
    · intro h; rw [mrg_nil] at h; cases h
    · intro d s b _ sa sb e _ h
      rw [e] at h
      rcases List.mem_cons.1 h with rfl | h
      · exact .inl ⟨d, List.mem_cons_self .., rfl⟩
      · rcases mrg_mem k s b sa.2 sb x h with ⟨y, hy, h⟩ | h
        · exact .inl ⟨y, List.mem_cons_of_mem _ hy, h⟩
        · exact .inr h
    · intro a d t _ sa sb e _ h
      rw [e] at h
      rcases List.mem_cons.1 h with rfl | h
      · exact .inr ⟨d, List.mem_cons_self .., rfl⟩
      · rcases mrg_mem k a t sa sb.2 x h with h | ⟨y, hy, h⟩
        · exact .inl h
        · exact .inr ⟨y, List.mem_cons_of_mem _ hy, h⟩
    · intro w n m s t sa sb e _ h
      rw [e] at h
      rcases List.mem_cons.1 h with rfl | h
      · exact .inl ⟨_, List.mem_cons_self .., rfl⟩
      · rcases mrg_mem k s t sa.2 sb.2 x h with ⟨y, hy, h⟩ | ⟨y, hy, h⟩
        · exact .inl ⟨y, List.mem_cons_of_mem _ hy, h⟩
        · exact .inr ⟨y, List.mem_cons_of_mem _ hy, h⟩

/-- The names come in order. -/
theorem mrg_srt : ∀ (k : Nat) (a b : List D), srt ordA a → srt ordA b → (mrg k a b).Pairwise fun x y => ltA x.1 y.1 = true
  | 0, _, _, _, _ => List.Pairwise.nil
  | k + 1, a, b, sa, sb => by
    have key : ∀ (w : ByteArray) (s t : List D), srt ordA s → srt ordA t → (∀ d ∈ s ++ t, ltA w d.1 = true) → ∀ x ∈ mrg k s t, ltA w x.1 = true := fun w s t ss st h x hx => by
      rcases mrg_mem k s t ss st x hx with ⟨d, hd, e⟩ | ⟨d, hd, e⟩
      · rw [← e]; exact h d (List.mem_append.2 (.inl hd))
      · rw [← e]; exact h d (List.mem_append.2 (.inr hd))
    refine mrg_cases k (fun a b => (mrg (k + 1) a b).Pairwise fun x y => ltA x.1 y.1 = true) ?_ ?_ ?_ ?_ a b sa sb
    · rw [mrg_nil]; exact List.Pairwise.nil
    · intro d s b _ sa sb e h
      rw [e]
      exact List.Pairwise.cons (key _ _ _ sa.2 sb h) (mrg_srt k s b sa.2 sb)
    · intro a d t _ sa sb e h
      rw [e]
      exact List.Pairwise.cons (key _ _ _ sa sb.2 h) (mrg_srt k a t sa sb.2)
    · intro w n m s t sa sb e h
      rw [e]
      exact List.Pairwise.cons (key _ _ _ sa.2 sb.2 h) (mrg_srt k s t sa.2 sb.2)
theorem at_cons (w x : ByteArray) (n : Int) (t : List D) : at' ((w, n) :: t) x = if w = x then n else at' t x := rfl
theorem at_lt {v : List D} {w : ByteArray} (h : ∀ d ∈ v, ltA w d.1 = true) : at' v w = 0 := at_none fun d hd => (lt_ne ordA (h d hd)).symm
/-- What is walked: each name that either has, with its numbers. -/
theorem mrg_iff : ∀ (k : Nat) (a b : List D), srt ordA a → srt ordA b → a.length + b.length ≤ k → pos a → pos b → ∀ x n m, (x, n, m) ∈ mrg k a b ↔ n = at' a x ∧ m = at' b x ∧ (0 < n ∨ 0 < m)
  | 0, a, b, _, _, hk, _, _, x, n, m => by
    have ea : a = [] := List.eq_nil_of_length_eq_zero (by omega)
    have eb : b = [] := List.eq_nil_of_length_eq_zero (by omega)
    subst ea; subst eb
    simp only [mrg, at', List.not_mem_nil, false_iff]
    omega
  | k + 1, a, b, sa, sb, hk, pa, pb, x, n, m => by
    revert hk pa pb
    refine mrg_cases k (fun a b => a.length + b.length ≤ k + 1 → pos a → pos b → ((x, n, m) ∈ mrg (k + 1) a b ↔ n = at' a x ∧ m = at' b x ∧ (0 < n ∨ 0 < m))) ?_ ?_ ?_ ?_ a b sa sb
    · intro _ _ _
      rw [mrg_nil]
      simp only [at', List.not_mem_nil, false_iff]
      omega
    · rintro ⟨w, j⟩ s b _ sa sb e h hk pa pb
      have ih := mrg_iff k s b sa.2 sb (by simp at hk; omega) (fun d hd => pa d (List.mem_cons_of_mem _ hd)) pb x n m
      have hj := pa (w, j) (List.mem_cons_self ..)
      have e1 : at' s w = 0 := at_lt fun d hd => h d (List.mem_append.2 (.inl hd))
      have e2 : at' b w = 0 := at_lt fun d hd => h d (List.mem_append.2 (.inr hd))
      rw [e, List.mem_cons, ih, at_cons]
      simp only [Prod.mk.injEq] at hj ⊢
      by_cases hw : w = x
      · subst hw
        rw [if_pos rfl, e1, e2]
        simp only [true_and]
        omega
      · rw [if_neg hw]
        simp only [Ne.symm hw, false_and, false_or]
    · rintro a ⟨w, j⟩ t _ sa sb e h hk pa pb
      have ih := mrg_iff k a t sa sb.2 (by simp at hk; omega) pa (fun d hd => pb d (List.mem_cons_of_mem _ hd)) x n m
      have hj := pb (w, j) (List.mem_cons_self ..)
      have e1 : at' a w = 0 := at_lt fun d hd => h d (List.mem_append.2 (.inl hd))
      have e2 : at' t w = 0 := at_lt fun d hd => h d (List.mem_append.2 (.inr hd))
      rw [e, List.mem_cons, ih, at_cons]
      simp only [Prod.mk.injEq] at hj ⊢
      by_cases hw : w = x
      · subst hw
        rw [if_pos rfl, e1, e2]
        simp only [true_and]
        omega
      · rw [if_neg hw]
        simp only [Ne.symm hw, false_and, false_or]
    · intro w i j s t sa sb e h hk pa pb
      have ih := mrg_iff k s t sa.2 sb.2 (by simp at hk; omega) (fun d hd => pa d (List.mem_cons_of_mem _ hd)) (fun d hd => pb d (List.mem_cons_of_mem _ hd)) x n m
      have hi := pa (w, i) (List.mem_cons_self ..)
      have hj := pb (w, j) (List.mem_cons_self ..)
      have e1 : at' s w = 0 := at_lt fun d hd => h d (List.mem_append.2 (.inl hd))
      have e2 : at' t w = 0 := at_lt fun d hd => h d (List.mem_append.2 (.inr hd))
      rw [e, List.mem_cons, ih, at_cons, at_cons]
      simp only [Prod.mk.injEq] at hi hj ⊢
      by_cases hw : w = x
      · subst hw
        rw [if_pos rfl, if_pos rfl, e1, e2]
        simp only [true_and]
        omega
      · rw [if_neg hw, if_neg hw]
        simp only [Ne.symm hw, false_and, false_or]
/-- What a rule makes of the two. -/
def outF (f : Int → Int → Int) (xs : List T) : List D := xs.filterMap fun x => if 0 < f x.2.1 x.2.2 then some (x.1, f x.2.1 x.2.2) else none
theorem outF_mem {f : Int → Int → Int} {xs : List T} {e : D} : e ∈ outF f xs ↔ ∃ n m, (e.1, n, m) ∈ xs ∧ e.2 = f n m ∧ 0 < e.2 := by
  unfold outF
  rw [List.mem_filterMap]
  constructor
  · rintro ⟨⟨x, n, m⟩, hx, he⟩
    split at he
    · rename_i hp
      injection he with he
      subst he
      exact ⟨n, m, hx, rfl, hp⟩
    · cases he
  · rintro ⟨n, m, h, e2, hp⟩
    refine ⟨(e.1, n, m), h, ?_⟩
    simp only
    rw [← e2, if_pos hp]
theorem outF_srt (f : Int → Int → Int) : ∀ {xs : List T}, (xs.Pairwise fun x y => ltA x.1 y.1 = true) → srt ordA (outF f xs)
  | [], _ => trivial
  | x :: t, h => by
    have ht := outF_srt f (List.Pairwise.of_cons h)
    have e : outF f (x :: t) = if 0 < f x.2.1 x.2.2 then (x.1, f x.2.1 x.2.2) :: outF f t else outF f t := by
      unfold outF
      rw [List.filterMap_cons]
      by_cases h : 0 < f x.2.1 x.2.2
      · simp only [h, if_true]
      · simp only [h, if_false]
    rw [e]
    split
    · refine ⟨fun d hd => ?_, ht⟩
      obtain ⟨n, m, hm, _⟩ := outF_mem.1 hd
      exact List.rel_of_pairwise_cons h hm
    · exact ht
theorem outF_pos (f : Int → Int → Int) (xs : List T) : pos (outF f xs) := fun d hd => by obtain ⟨_, _, _, _, h⟩ := outF_mem.1 hd; omega
theorem outF_at (f : Int → Int → Int) (h0 : f 0 0 ≤ 0) {a b : List D} (sa : srt ordA a) (sb : srt ordA b) (pa : pos a) (pb : pos b) (k : Nat) (hk : a.length + b.length ≤ k) (x : ByteArray) :
    at' (outF f (mrg k a b)) x = max 0 (f (at' a x) (at' b x)) := by
  have hi := mrg_iff k a b sa sb hk pa pb x
  have p1 := at_pos pa x
  have p2 := at_pos pb x
  have ss := outF_srt f (mrg_srt k a b sa sb)
  have pp := outF_pos f (mrg k a b)
  by_cases h : 0 < f (at' a x) (at' b x)
  · have h1 : 0 < at' a x ∨ 0 < at' b x := by
      rcases Int.lt_or_le 0 (at' a x) with g | g
      · exact .inl g
      · rcases Int.lt_or_le 0 (at' b x) with g2 | g2
        · exact .inr g2
        · rw [show at' a x = 0 by omega, show at' b x = 0 by omega] at h; omega
    have hm : (x, f (at' a x) (at' b x)) ∈ outF f (mrg k a b) := outF_mem.2 ⟨at' a x, at' b x, (hi _ _).2 ⟨rfl, rfl, h1⟩, rfl, h⟩
    have := at_mem ordA ss hm
    simp only at this
    rw [this]; omega
  · have : ¬ 0 < at' (outF f (mrg k a b)) x := fun g => by
      obtain ⟨n, hm, _⟩ := at_gt pp g
      obtain ⟨i, j, hx, e, hp⟩ := outF_mem.1 hm
      obtain ⟨rfl, rfl, _⟩ := (hi _ _).1 hx
      simp only at e hp
      omega
    have := at_pos pp x
    omega
theorem join_mrg {a b : List D} (sa : srt ordA a) (sb : srt ordA b) (pa : pos a) (pb : pos b) (k : Nat) (hk : a.length + b.length ≤ k) : outF max (mrg k a b) = joinV ordA a b := by
  obtain ⟨h1, h2, h3⟩ := joinV_ok ordA sa pa sb pb
  refine at_ext ordA (outF_srt max (mrg_srt k a b sa sb)) h1 (outF_pos _ _) h2 fun w => ?_
  rw [outF_at max (by decide) sa sb pa pb k hk, h3]
  have := at_pos pa w
  omega
theorem leq_mrg {a b : List D} (sa : srt ordA a) (sb : srt ordA b) (pa : pos a) (pb : pos b) (k : Nat) (hk : a.length + b.length ≤ k) : ((mrg k a b).all fun x => decide (x.2.1 ≤ x.2.2)) = leqV a b := by
  rw [Bool.eq_iff_iff, leqV_iff ordA sa pa pb, List.all_eq_true]
  constructor
  · intro h x
    by_cases hx : 0 < at' a x
    · have := h (x, at' a x, at' b x) ((mrg_iff k a b sa sb hk pa pb x _ _).2 ⟨rfl, rfl, .inl hx⟩)
      simpa using this
    · have := at_pos pb x; omega
  · rintro h ⟨x, n, m⟩ hx
    obtain ⟨rfl, rfl, _⟩ := (mrg_iff k a b sa sb hk pa pb x _ _).1 hx
    simpa using h x
def lackM (xs : List T) : List T := xs.filterMap fun x => if x.2.1 < x.2.2 then some (x.1, x.2.1 + 1, x.2.2) else none
theorem lackM_cons (w : ByteArray) (n m : Int) (xs : List T) : lackM ((w, n, m) :: xs) = if n < m then (w, n + 1, m) :: lackM xs else lackM xs := by
  unfold lackM
  rw [List.filterMap_cons]
  by_cases h : n < m
  · simp only [h, if_true]
  · simp only [h, if_false]
theorem lackV_cons (a : List D) (w : ByteArray) (m : Int) (t : List D) : lackV a ((w, m) :: t) = if at' a w < m then (w, at' a w + 1, m) :: lackV a t else lackV a t := by
  unfold lackV
  rw [List.filterMap_cons]
  by_cases h : at' a w < m
  · simp only [h, if_true]
  · simp only [h, if_false]
theorem lackV_skip {w : ByteArray} {n : Int} {s : List D} : ∀ {b : List D}, (∀ e ∈ b, ltA w e.1 = true) → lackV ((w, n) :: s) b = lackV s b
  | [], _ => rfl
  | (x, m) :: t, h => by
    have hx : w ≠ x := lt_ne ordA (h _ (List.mem_cons_self ..))
    rw [lackV_cons, lackV_cons, at_cons, if_neg hx, lackV_skip fun e he => h e (List.mem_cons_of_mem _ he)]
theorem lack_mrg : ∀ (k : Nat) (a b : List D), srt ordA a → srt ordA b → a.length + b.length ≤ k → pos a → pos b → lackM (mrg k a b) = lackV a b
  | 0, a, b, _, _, hk, _, _ => by
    have eb : b = [] := List.eq_nil_of_length_eq_zero (by omega)
    subst eb; rfl
  | k + 1, a, b, sa, sb, hk, pa, pb => by
    revert hk pa pb
    refine mrg_cases k (fun a b => a.length + b.length ≤ k + 1 → pos a → pos b → lackM (mrg (k + 1) a b) = lackV a b) ?_ ?_ ?_ ?_ a b sa sb
    · intro _ _ _; rw [mrg_nil]; rfl
    · rintro ⟨w, j⟩ s b _ sa sb e h hk pa pb
      have hj := pa (w, j) (List.mem_cons_self ..)
      simp only at hj
      rw [e, lackM_cons, if_neg (by omega), lackV_skip fun d hd => h d (List.mem_append.2 (.inr hd))]
      exact lack_mrg k s b sa.2 sb (by simp at hk; omega) (fun d hd => pa d (List.mem_cons_of_mem _ hd)) pb
    · rintro a ⟨w, j⟩ t _ sa sb e h hk pa pb
      rw [e, lackM_cons, lackV_cons, at_lt fun d hd => h d (List.mem_append.2 (.inl hd)), lack_mrg k a t sa sb.2 (by simp at hk; omega) pa fun d hd => pb d (List.mem_cons_of_mem _ hd)]
    · intro w i j s t sa sb e h hk pa pb
      rw [e, lackM_cons, lackV_cons, at_cons, if_pos rfl, lackV_skip fun d hd => h d (List.mem_append.2 (.inr hd)), lack_mrg k s t sa.2 sb.2 (by simp at hk; omega) (fun d hd => pa d (List.mem_cons_of_mem _ hd)) fun d hd => pb d (List.mem_cons_of_mem _ hd)]
/-- How far a walk together may reach, by what is walked. -/
theorem cutT_len (v : List D) (w : ByteArray) : (cutT v w).length ≤ v.length := by
  unfold cutT
  split
  · simp
  · split <;> simp
theorem cut_less {a b : List D} (h : 0 < a.length ∨ 0 < b.length) : (cutT a (nextW a b)).length + (cutT b (nextW a b)).length < a.length + b.length := by
  cases a with
  | nil => cases b with
    | nil => simp at h
    | cons e t => simp [nextW, cutT]
  | cons d s => cases b with
    | nil => simp [nextW, cutT]
    | cons e t =>
      have h1 := cutT_len (d :: s) (nextW (d :: s) (e :: t))
      have h2 := cutT_len (e :: t) (nextW (d :: s) (e :: t))
      by_cases hl : ltA e.1 d.1 = true
      · have : (cutT (e :: t) (nextW (d :: s) (e :: t))).length = t.length := by simp [nextW, cutT, hl]
        simp only [List.length_cons] at *; omega
      · have : (cutT (d :: s) (nextW (d :: s) (e :: t))).length = s.length := by simp [nextW, cutT, hl]
        simp only [List.length_cons] at *; omega
end Go.Proofs.Ytdffifkleaekhaa.V
