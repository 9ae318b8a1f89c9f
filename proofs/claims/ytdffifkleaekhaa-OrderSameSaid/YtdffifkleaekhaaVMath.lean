/-
  Plain facts on version vectors: lists of names and numbers, in order. No program here.
-/
import Derived.Below
namespace Go.Proofs.Ytdffifkleaekhaa.V

/-- An order on names. -/
structure Ord (α : Type) where
  lt : α → α → Bool
  irr : ∀ a, lt a a = false
  trans : ∀ a b c, lt a b = true → lt b c = true → lt a c = true
  tri : ∀ a b, lt a b = false → lt b a = false → a = b
section
variable {α : Type} [DecidableEq α] (O : Ord α)
/-- In order. -/
def srt : List (α × Int) → Prop
  | [] => True
  | d :: t => (∀ e ∈ t, O.lt d.1 e.1 = true) ∧ srt t
def pos (v : List (α × Int)) : Prop := ∀ d ∈ v, 1 ≤ d.2
def at' : List (α × Int) → α → Int
  | [], _ => 0
  | d :: t, w => if d.1 = w then d.2 else at' t w
omit [DecidableEq α] in
theorem lt_ne {a b : α} (h : O.lt a b = true) : a ≠ b := by
  rintro rfl; rw [O.irr] at h; cases h
omit [DecidableEq α] in
theorem lt_asym {a b : α} (h : O.lt a b = true) : O.lt b a = false := by
  cases hb : O.lt b a with
  | false => rfl
  | true => have := O.trans a b a h hb; rw [O.irr] at this; cases this
theorem at_none {v : List (α × Int)} {w : α} (h : ∀ d ∈ v, d.1 ≠ w) : at' v w = 0 := by
  induction v with
  | nil => rfl
  | cons d t ih =>
    simp only [at']
    rw [if_neg (h d (List.mem_cons_self ..))]
    exact ih fun e he => h e (List.mem_cons_of_mem _ he)
theorem at_mem {v : List (α × Int)} (hs : srt O v) {d : α × Int} (h : d ∈ v) : at' v d.1 = d.2 := by
  induction v with
  | nil => cases h
  | cons e t ih =>
    simp only [at']
    rcases List.mem_cons.1 h with rfl | h
    · rw [if_pos rfl]
    · rw [if_neg (lt_ne O (hs.1 d h))]
      exact ih hs.2 h
theorem at_pos {v : List (α × Int)} (hp : pos v) (w : α) : 0 ≤ at' v w := by
  induction v with
  | nil => simp [at']
  | cons e t ih =>
    simp only [at']
    split
    · have := hp e (List.mem_cons_self ..); omega
    · exact ih fun d hd => hp d (List.mem_cons_of_mem _ hd)
theorem at_gt {v : List (α × Int)} (hp : pos v) {w : α} (h : 0 < at' v w) : ∃ n, (w, n) ∈ v ∧ at' v w = n := by
  induction v with
  | nil => simp [at'] at h
  | cons e t ih =>
    simp only [at'] at h ⊢
    by_cases he : e.1 = w
    · rw [if_pos he]; exact ⟨e.2, by rw [← he]; exact List.mem_cons_self .., rfl⟩
    · rw [if_neg he] at h ⊢
      obtain ⟨n, h1, h2⟩ := ih (fun d hd => hp d (List.mem_cons_of_mem _ hd)) h
      exact ⟨n, List.mem_cons_of_mem _ h1, h2⟩
theorem at_zero {v : List (α × Int)} (hp : pos v) {w : α} (h : at' v w = 0) : ∀ d ∈ v, d.1 ≠ w := by
  induction v with
  | nil => simp
  | cons e t ih =>
    simp only [at'] at h
    by_cases he : e.1 = w
    · rw [if_pos he] at h
      have := hp e (List.mem_cons_self ..); omega
    · rw [if_neg he] at h
      intro d hd
      rcases List.mem_cons.1 hd with rfl | hd
      · exact he
      · exact ih (fun d hd => hp d (List.mem_cons_of_mem _ hd)) h d hd
/-- Vectors that have the same are the same. -/
theorem at_ext : ∀ {a b : List (α × Int)}, srt O a → srt O b → pos a → pos b → (∀ w, at' a w = at' b w) → a = b
  | [], [], _, _, _, _, _ => rfl
  | [], e :: t, _, _, _, hb, h => by
    have h1 := h e.1
    simp only [at', if_true] at h1
    have := hb e (List.mem_cons_self ..); omega
  | e :: t, [], _, _, ha, _, h => by
    have h1 := h e.1
    simp only [at', if_true] at h1
    have := ha e (List.mem_cons_self ..); omega
  | d :: s, e :: t, sa, sb, ha, hb, h => by
    have hd := ha d (List.mem_cons_self ..)
    have he := hb e (List.mem_cons_self ..)
    have key : d.1 = e.1 := by
      apply O.tri
      · cases hl : O.lt d.1 e.1 with
        | false => rfl
        | true =>
          have h1 := h d.1
          simp only [at', if_true] at h1
          rw [if_neg (lt_ne O hl).symm, at_none fun x hx => (lt_ne O (O.trans _ _ _ hl (sb.1 x hx))).symm] at h1
          omega
      · cases hl : O.lt e.1 d.1 with
        | false => rfl
        | true =>
          have h1 := h e.1
          simp only [at', if_true] at h1
          rw [if_neg (lt_ne O hl).symm, at_none fun x hx => (lt_ne O (O.trans _ _ _ hl (sa.1 x hx))).symm] at h1
          omega
    have hn : d.2 = e.2 := by
      have h1 := h d.1
      simp only [at', if_true] at h1
      rw [if_pos key.symm] at h1
      exact h1
    have hst : s = t := at_ext sa.2 sb.2 (fun x hx => ha x (List.mem_cons_of_mem _ hx)) (fun x hx => hb x (List.mem_cons_of_mem _ hx)) fun w => by
      by_cases hw : w = d.1
      · subst hw
        rw [at_none fun x hx => (lt_ne O (sa.1 x hx)).symm, at_none fun x hx => (lt_ne O (by rw [key]; exact sb.1 x hx)).symm]
      · have h1 := h w
        simp only [at'] at h1
        rw [if_neg (Ne.symm hw), if_neg (by rw [← key]; exact Ne.symm hw)] at h1
        exact h1
    rw [hst]
    exact congrArg (· :: t) (Prod.ext key hn)
/-- A vector in which a name has a number that is not 0. -/
def putV : List (α × Int) → α → Int → List (α × Int)
  | [], w, n => [(w, n)]
  | d :: t, w, n => if O.lt d.1 w = true then d :: putV t w n else (w, n) :: (d :: t).filter fun e => decide (e.1 ≠ w)
omit [DecidableEq α] in
theorem srt_filter {v : List (α × Int)} (h : srt O v) (p : α × Int → Bool) : srt O (v.filter p) := by
  induction v with
  | nil => exact trivial
  | cons d t ih =>
    rw [List.filter_cons]
    split
    · exact ⟨fun e he => h.1 e (List.mem_filter.1 he).1, ih h.2⟩
    · exact ih h.2
theorem putV_mem {v : List (α × Int)} {w : α} {n : Int} {e : α × Int} (h : e ∈ putV O v w n) : e = (w, n) ∨ (e ∈ v ∧ e.1 ≠ w) := by
  induction v with
  | nil => simp [putV] at h; exact .inl h
  | cons d t ih =>
    simp only [putV] at h
    split at h
    · rename_i hl
      rcases List.mem_cons.1 h with rfl | h
      · exact .inr ⟨List.mem_cons_self .., lt_ne O hl⟩
      · rcases ih h with h | h
        · exact .inl h
        · exact .inr ⟨List.mem_cons_of_mem _ h.1, h.2⟩
    · rcases List.mem_cons.1 h with h | h
      · exact .inl h
      · have := List.mem_filter.1 h
        exact .inr ⟨this.1, by simpa using this.2⟩
theorem putV_srt {v : List (α × Int)} (h : srt O v) (w : α) (n : Int) : srt O (putV O v w n) := by
  induction v with
  | nil => exact ⟨by simp, trivial⟩
  | cons d t ih =>
    simp only [putV]
    split
    · rename_i hl
      refine ⟨fun e he => ?_, ih h.2⟩
      rcases putV_mem O he with rfl | he
      · exact hl
      · exact h.1 e he.1
    · rename_i hl
      refine ⟨fun e he => ?_, srt_filter O h _⟩
      obtain ⟨h1, h2⟩ := List.mem_filter.1 he
      have hne : e.1 ≠ w := by simpa using h2
      have hdw : O.lt d.1 w = false := by simpa using hl
      rcases List.mem_cons.1 h1 with rfl | h1
      · cases hq : O.lt w e.1 with
        | true => rfl
        | false => exact absurd (O.tri _ _ hdw hq) hne
      · have hde := h.1 e h1
        by_cases hwd : w = d.1
        · rw [hwd]; exact hde
        · cases hq : O.lt w d.1 with
          | true => exact O.trans _ _ _ hq hde
          | false => exact absurd (O.tri _ _ hq hdw) hwd
theorem putV_pos {v : List (α × Int)} (h : pos v) {w : α} {n : Int} (hn : 1 ≤ n) : pos (putV O v w n) := by
  intro e he
  rcases putV_mem O he with rfl | he
  · exact hn
  · exact h e he.1
theorem at_filter {v : List (α × Int)} {w x : α} (h : x ≠ w) : at' (v.filter fun e => decide (e.1 ≠ w)) x = at' v x := by
  induction v with
  | nil => rfl
  | cons d t ih =>
    rw [List.filter_cons]
    by_cases hd : d.1 = w
    · rw [if_neg (by simp [hd]), ih]
      simp only [at']
      rw [if_neg (by rw [hd]; exact Ne.symm h)]
    · rw [if_pos (by simp [hd])]
      simp only [at', ih]
theorem putV_at {v : List (α × Int)} (w : α) (n : Int) (x : α) : at' (putV O v w n) x = if x = w then n else at' v x := by
  induction v with
  | nil =>
    simp only [putV, at']
    by_cases hx : x = w
    · subst hx; simp
    · rw [if_neg (Ne.symm hx), if_neg hx]
  | cons d t ih =>
    simp only [putV]
    split
    · rename_i hl
      simp only [at', ih]
      by_cases hx : x = w
      · subst hx
        rw [if_neg (lt_ne O hl), if_pos rfl, if_pos rfl]
      · rw [if_neg hx, if_neg hx]
    · simp only [at']
      by_cases hx : x = w
      · subst hx; simp
      · rw [if_neg (Ne.symm hx), if_neg hx]
        exact at_filter hx
/-- The join. -/
def joinV (a b : List (α × Int)) : List (α × Int) := b.foldl (fun out d => putV O out d.1 (max d.2 (at' a d.1))) a
theorem joinV_does {a : List (α × Int)} (ha : srt O a) (pa : pos a) : ∀ (b out : List (α × Int)), srt O b → pos b → srt O out → pos out → (∀ d ∈ b, at' out d.1 = at' a d.1) →
    srt O (b.foldl (fun out d => putV O out d.1 (max d.2 (at' a d.1))) out) ∧ pos (b.foldl (fun out d => putV O out d.1 (max d.2 (at' a d.1))) out) ∧
    ∀ x, at' (b.foldl (fun out d => putV O out d.1 (max d.2 (at' a d.1))) out) x = if 0 < at' b x then max (at' b x) (at' a x) else at' out x
  | [], out, _, _, so, po, _ => ⟨so, po, fun x => by simp [at']⟩
  | d :: t, out, sb, pb, so, po, hd => by
    have pd := pb d (List.mem_cons_self ..)
    have pt : pos t := fun x hx => pb x (List.mem_cons_of_mem _ hx)
    obtain ⟨h1, h2, h3⟩ := joinV_does ha pa t (putV O out d.1 (max d.2 (at' a d.1))) sb.2 pt (putV_srt O so _ _) (putV_pos O po (by omega)) fun e he => by
      rw [putV_at, if_neg (lt_ne O (sb.1 e he)).symm]
      exact hd e (List.mem_cons_of_mem _ he)
    refine ⟨h1, h2, fun x => ?_⟩
    rw [List.foldl_cons, h3 x, putV_at]
    have e1 : at' (d :: t) x = if d.1 = x then d.2 else at' t x := rfl
    by_cases hx : d.1 = x
    · subst hx
      have e0 : at' t d.1 = 0 := at_none fun e he => (lt_ne O (sb.1 e he)).symm
      rw [if_pos rfl] at e1
      rw [e0, e1, if_neg (by omega), if_pos rfl, if_pos (by omega)]
    · rw [if_neg hx] at e1
      rw [e1, if_neg (Ne.symm hx)]
theorem joinV_ok {a b : List (α × Int)} (ha : srt O a) (pa : pos a) (hb : srt O b) (pb : pos b) : srt O (joinV O a b) ∧ pos (joinV O a b) ∧ ∀ x, at' (joinV O a b) x = max (at' a x) (at' b x) := by
  obtain ⟨h1, h2, h3⟩ := joinV_does O ha pa b a hb pb ha pa fun _ _ => rfl
  refine ⟨h1, h2, fun x => ?_⟩
  rw [joinV, h3 x]
  have := at_pos pa x
  have := at_pos pb x
  split <;> omega
/-- How two stand. -/
def leqV (a b : List (α × Int)) : Bool := a.all fun d => decide (d.2 ≤ at' b d.1)
theorem leqV_iff {a b : List (α × Int)} (ha : srt O a) (pa : pos a) (pb : pos b) : leqV a b = true ↔ ∀ x, at' a x ≤ at' b x := by
  unfold leqV
  rw [List.all_eq_true]
  constructor
  · intro h x
    by_cases hx : 0 < at' a x
    · obtain ⟨n, hm, he⟩ := at_gt pa hx
      have := h _ hm
      simp only [decide_eq_true_eq] at this
      rw [he]; exact this
    · have := at_pos pb x; omega
  · intro h d hd
    have := h d.1
    rw [at_mem O ha hd] at this
    simpa using this
/-- The meet of one and others. -/
def lowV (l : List (List (α × Int))) (w : α) (n : Int) : Int := l.foldl (fun m v => min m (at' v w)) n
def meetV (a : List (α × Int)) (l : List (List (α × Int))) : List (α × Int) := a.filterMap fun d => if 0 < lowV l d.1 d.2 then some (d.1, lowV l d.1 d.2) else none
theorem lowV_le (l : List (List (α × Int))) (w : α) : ∀ n, lowV l w n ≤ n ∧ ∀ v ∈ l, lowV l w n ≤ at' v w := by
  induction l with
  | nil => intro n; exact ⟨Int.le_refl _, by simp⟩
  | cons v t ih =>
    intro n
    have h := ih (min n (at' v w))
    simp only [lowV, List.foldl_cons] at h ⊢
    refine ⟨by have := h.1; omega, fun u hu => ?_⟩
    rcases List.mem_cons.1 hu with rfl | hu
    · have := h.1; omega
    · exact h.2 u hu
theorem lowV_ge (l : List (List (α × Int))) (w : α) : ∀ (n m : Int), m ≤ n → (∀ v ∈ l, m ≤ at' v w) → m ≤ lowV l w n := by
  induction l with
  | nil => intro n m h _; exact h
  | cons v t ih =>
    intro n m h hv
    simp only [lowV, List.foldl_cons]
    exact ih _ m (by have := hv v (List.mem_cons_self ..); omega) fun u hu => hv u (List.mem_cons_of_mem _ hu)
theorem meetV_mem {a : List (α × Int)} {l : List (List (α × Int))} {e : α × Int} (h : e ∈ meetV a l) : 0 < e.2 ∧ ∃ n, (e.1, n) ∈ a ∧ e.2 = lowV l e.1 n := by
  unfold meetV at h
  rw [List.mem_filterMap] at h
  obtain ⟨d, hd, he⟩ := h
  split at he
  · rename_i hl
    injection he with he
    subst he
    exact ⟨hl, d.2, hd, rfl⟩
  · cases he
theorem meetV_srt {a : List (α × Int)} (l : List (List (α × Int))) (ha : srt O a) : srt O (meetV a l) := by
  induction a with
  | nil => exact trivial
  | cons d t ih =>
    unfold meetV
    rw [List.filterMap_cons]
    split
    · exact ih ha.2
    · rename_i b hb
      split at hb
      · injection hb with hb
        subst hb
        exact ⟨fun e he => by obtain ⟨_, n, hm, _⟩ := meetV_mem (l := l) he; exact ha.1 (e.1, n) hm, ih ha.2⟩
      · cases hb
theorem meetV_pos (a : List (α × Int)) (l : List (List (α × Int))) : pos (meetV a l) := fun e he => by have := (meetV_mem he).1; omega
theorem meetV_at {a : List (α × Int)} {l : List (List (α × Int))} (ha : srt O a) (pa : pos a) (hl : ∀ v ∈ l, pos v) (x : α) : at' (meetV a l) x = lowV l x (at' a x) := by
  have hlow : 0 ≤ lowV l x (at' a x) := lowV_ge l x _ 0 (at_pos pa x) fun v hv => at_pos (hl v hv) x
  by_cases h : 0 < at' (meetV a l) x
  · obtain ⟨n, hm, he⟩ := at_gt (meetV_pos a l) h
    obtain ⟨_, k, hk, e⟩ := meetV_mem hm
    rw [he, at_mem O ha hk]
    exact e
  · have h0 : at' (meetV a l) x = 0 := by have := at_pos (meetV_pos a l) x; omega
    rw [h0]
    by_cases hp : 0 < lowV l x (at' a x)
    · have hax : 0 < at' a x := Int.lt_of_lt_of_le hp (lowV_le l x _).1
      obtain ⟨n, hm, he⟩ := at_gt pa hax
      rw [he] at hp
      have hin : (x, lowV l x n) ∈ meetV a l := by
        unfold meetV
        rw [List.mem_filterMap]
        exact ⟨(x, n), hm, by simp [hp]⟩
      exact absurd rfl (at_zero (meetV_pos a l) h0 _ hin)
    · omega
/-- What one lacks of another one. -/
def lackV (a b : List (α × Int)) : List (α × Int × Int) := b.filterMap fun d => if at' a d.1 < d.2 then some (d.1, at' a d.1 + 1, d.2) else none
theorem lackV_mem {a b : List (α × Int)} {w : α} {n m : Int} : (w, n, m) ∈ lackV a b ↔ ((w, m) ∈ b ∧ n = at' a w + 1 ∧ at' a w < m) := by
  unfold lackV
  rw [List.mem_filterMap]
  constructor
  · rintro ⟨d, hd, he⟩
    split at he
    · rename_i hl
      injection he with he
      simp only [Prod.mk.injEq] at he
      obtain ⟨rfl, rfl, rfl⟩ := he
      exact ⟨hd, rfl, hl⟩
    · cases he
  · rintro ⟨h1, rfl, h2⟩
    exact ⟨(w, m), h1, by simp [h2]⟩
theorem joinV_comm {a b : List (α × Int)} (ha : srt O a) (pa : pos a) (hb : srt O b) (pb : pos b) : joinV O a b = joinV O b a := by
  obtain ⟨h1, h2, h3⟩ := joinV_ok O ha pa hb pb
  obtain ⟨k1, k2, k3⟩ := joinV_ok O hb pb ha pa
  exact at_ext O h1 k1 h2 k2 fun w => by rw [h3, k3]; omega
theorem joinV_assoc {a b c : List (α × Int)} (ha : srt O a) (pa : pos a) (hb : srt O b) (pb : pos b) (hc : srt O c) (pc : pos c) : joinV O (joinV O a b) c = joinV O a (joinV O b c) := by
  obtain ⟨h1, h2, h3⟩ := joinV_ok O ha pa hb pb
  obtain ⟨k1, k2, k3⟩ := joinV_ok O hb pb hc pc
  obtain ⟨m1, m2, m3⟩ := joinV_ok O h1 h2 hc pc
  obtain ⟨n1, n2, n3⟩ := joinV_ok O ha pa k1 k2
  exact at_ext O m1 n1 m2 n2 fun w => by rw [m3, n3, h3, k3]; omega
end
/-- Names as rows of bytes. -/
theorem less_irr : ∀ a : List UInt8, Op.bytesLess a a = false
  | [] => rfl
  | a :: x => by simp [Op.bytesLess, less_irr x, UInt8.lt_irrefl]
theorem less_cons (a b : UInt8) (x y : List UInt8) : Op.bytesLess (a :: x) (b :: y) = true ↔ a < b ∨ (a = b ∧ Op.bytesLess x y = true) := by
  simp [Op.bytesLess]
theorem less_trans : ∀ a b c : List UInt8, Op.bytesLess a b = true → Op.bytesLess b c = true → Op.bytesLess a c = true
  | _, _, [], _, h => by simp [Op.bytesLess] at h
  | _, [], _ :: _, h, _ => by simp [Op.bytesLess] at h
  | [], _ :: _, _ :: _, _, _ => rfl
  | a :: x, b :: y, c :: z, h1, h2 => by
    rw [less_cons] at h1 h2 ⊢
    rcases h1 with h1 | ⟨rfl, h1⟩
    · rcases h2 with h2 | ⟨rfl, h2⟩
      · exact .inl (UInt8.lt_trans h1 h2)
      · exact .inl h1
    · rcases h2 with h2 | ⟨rfl, h2⟩
      · exact .inl h2
      · exact .inr ⟨rfl, less_trans x y z h1 h2⟩
theorem less_tri : ∀ a b : List UInt8, Op.bytesLess a b = false → Op.bytesLess b a = false → a = b
  | [], [], _, _ => rfl
  | [], _ :: _, h, _ => by simp [Op.bytesLess] at h
  | _ :: _, [], _, h => by simp [Op.bytesLess] at h
  | a :: x, b :: y, h1, h2 => by
    have k1 : ¬ (a < b ∨ (a = b ∧ Op.bytesLess x y = true)) := by rw [← less_cons, h1]; decide
    have k2 : ¬ (b < a ∨ (b = a ∧ Op.bytesLess y x = true)) := by rw [← less_cons, h2]; decide
    have hab : a = b := by
      rcases UInt8.lt_or_lt_of_ne with h
      by_cases e : a = b
      · exact e
      · rcases h e with h | h
        · exact absurd (.inl h) k1
        · exact absurd (.inl h) k2
    subst hab
    have j1 : Op.bytesLess x y = false := by
      cases hq : Op.bytesLess x y with
      | false => rfl
      | true => exact absurd (.inr ⟨rfl, hq⟩) k1
    have j2 : Op.bytesLess y x = false := by
      cases hq : Op.bytesLess y x with
      | false => rfl
      | true => exact absurd (.inr ⟨rfl, hq⟩) k2
    rw [less_tri x y j1 j2]
def ordB : Ord (List UInt8) := ⟨Op.bytesLess, less_irr, less_trans, less_tri⟩
end Go.Proofs.Ytdffifkleaekhaa.V
