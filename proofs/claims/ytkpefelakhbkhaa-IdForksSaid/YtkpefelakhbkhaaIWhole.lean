/-
  The program's Whole.
-/
import Derived.Test.YtkpefelakhbkhaaICovered
namespace Go.Proofs.Ytkpefelakhbkhaa.I
open Go.RowKit

/-- Trees that are handed in, one behind the other. -/
def ArgL (w : World) (l : List El) (Ts : List (Option Tr)) : Prop := l.length = Ts.length ∧ ∀ (j : Nat) (e : El) (T : Option Tr), l[j]? = some e → Ts[j]? = some T → Arg w T e.v
theorem ArgL.up {w w' : World} {l : List El} {Ts : List (Option Tr)} (h : ArgL w l Ts) (hb : Below w.heap.size w w') : ArgL w' l Ts := ⟨h.1, fun j e T h1 h2 => (h.2 j e T h1 h2).up hb⟩
theorem ArgL.take {w : World} {l : List El} {Ts : List (Option Tr)} (h : ArgL w l Ts) (i : Nat) : ArgL w (l.take i) (Ts.take i) :=
  ⟨by simp [h.1], fun j e t h1 h2 => by
    rw [List.getElem?_take] at h1 h2
    split at h1
    · rename_i hj; rw [if_pos hj] at h2; exact h.2 j e t h1 h2
    · cases h1⟩
theorem all_some : ∀ (Ts : List (Option Tr)), (∀ T ∈ Ts, T.isSome = true) → ∃ ts : List Tr, Ts = ts.map some
  | [], _ => ⟨[], rfl⟩
  | T :: Ts, h => by
    obtain ⟨ts, rfl⟩ := all_some Ts fun x hx => h x (List.mem_cons_of_mem _ hx)
    have := h T List.mem_cons_self
    cases T with
    | none => cases this
    | some t => exact ⟨t :: ts, rfl⟩
theorem ArgL.inL {w : World} {l : List El} {ts : List Tr} (h : ArgL w l (ts.map some)) : InL w w.heap.size l ts ∧ ∀ t ∈ ts, t.depth ≤ 32 ∧ t.nodes ≤ 2047 := by
  refine ⟨⟨by simpa using h.1, fun j e t h1 h2 => (h.2 j e (some t) h1 (by rw [List.getElem?_map, h2]; rfl)).inT.1⟩, fun t ht => ?_⟩
  obtain ⟨j, hj⟩ := List.mem_iff_getElem?.1 ht
  have hlt : j < l.length := by rw [h.1, List.length_map]; exact (List.getElem?_eq_some_iff.1 hj).1
  exact (h.2 j _ (some t) (List.getElem?_eq_getElem hlt) (by rw [List.getElem?_map, hj]; rfl)).inT.2
theorem no_iff {P : Prop} (h : ¬ P) : false = true ↔ P := ⟨fun h => Bool.noConfusion h, fun hp => absurd hp h⟩
theorem map_some : ∀ {ts us : List Tr}, ts.map some = us.map some → ts = us
  | [], [], _ => rfl
  | [], _ :: _, h => by simp at h
  | _ :: _, [], h => by simp at h
  | t :: ts, u :: us, h => by
    simp only [List.map_cons, List.cons.injEq, Option.some.injEq] at h
    rw [h.1, map_some h.2]
/-- A slice of trees that came in, as a row. -/
theorem forest_row {w : World} {B : Nat} : ∀ (f : Fo) (b off : Nat), InF w B f b off → ∃ l : List El, ∃ Ts : List (Option Tr), l.length = f.len ∧ Ts.length = f.len ∧ (∀ j e, l[j]? = some e → w.cell? ⟨b, off + j * 2, none⟩ = some (.bool e.o) ∧ w.cell? ⟨b, off + j * 2 + 1, none⟩ = some (.slice e.A e.n e.c)) ∧ ∀ (j : Nat) (e : El) (T : Option Tr), l[j]? = some e → Ts[j]? = some T → ∃ o ks A c, e.v = tv o A ks.len c ∧ Kd w B ks A ∧ treeOf o ks = T
  | .nil, b, off, _ => ⟨[], [], rfl, rfl, by simp, by simp⟩
  | .cons o ks rest, b, off, ⟨⟨A, c, h1, h2, h3⟩, h4⟩ => by
    obtain ⟨l, Ts, e1, e2, k1, k2⟩ := forest_row rest b (off + 2) h4
    refine ⟨⟨o, A, ks.len, c⟩ :: l, treeOf o ks :: Ts, by simp [e1, Fo.len], by simp [e2, Fo.len], fun j e hj => ?_, fun j e T hj hT => ?_⟩
    · cases j with
      | zero => simp at hj; subst hj; exact ⟨by simpa using h1, by simpa using h2⟩
      | succ j =>
        have := k1 j e (by simpa using hj)
        rw [show off + (j + 1) * 2 = off + 2 + j * 2 by omega]
        exact this
    · cases j with
      | zero => simp at hj hT; subst hj; subst hT; exact ⟨o, ks, A, c, rfl, h3, rfl⟩
      | succ j => exact k2 j e T (by simpa using hj) (by simpa using hT)
theorem list_row {w : World} {f : Fo} {A : Option Addr} (h : Kd w w.heap.size f A) : ∃ l : List El, ∃ Ts : List (Option Tr), l.length = f.len ∧ RowE w w.heap.size A l ∧ ArgL w l Ts := by
  rcases h with h | ⟨b, off, rfl, hb, h⟩
  · exact ⟨[], [], by simp [h], fun h => absurd h (by simp), rfl, by simp⟩
  · obtain ⟨l, Ts, e1, e2, k1, k2⟩ := forest_row f b off h
    exact ⟨l, Ts, e1, fun _ => ⟨b, off, rfl, hb, k1⟩, by rw [e1, e2], k2⟩

set_option maxRecDepth 100000 in
set_option maxHeartbeats 1600000 in
theorem whole_any (A : Option Addr) (c : Nat) (l : List El) (Ts : List (Option Tr)) (w : World) (hr : RowE w w.heap.size A l) (ha : ArgL w l Ts) (hcap : l.length ≤ c) (hbig : l.length ≤ 140737488351232) :
    Calls Try.prog 26 #[.slice A l.length c] w fun e w' => ∃ b, e = .returned (.bool b) ∧ (b = true ↔ WholeP Ts) ∧ Below w.heap.size w w' := by
  by_cases h64 : 64 < l.length
  · have HF : Hid (¬ WholeP Ts) := fun h => by have := h.1; rw [← ha.1] at this; omega
    clear hr ha
    go_enter Try.func26, Try.ntmps26
    go_wp2
    go_ret
    exact ⟨false, rfl, no_iff HF.out, Below.refl _ _⟩
  · have HR := Lib.hid hr
    have HA := Lib.hid ha
    clear hr ha
    go_enter Try.func26, Try.ntmps26
    go_wp2
    go_loopg [10] l.length (fun k i wr => ∃ (j : Nat), j ≤ l.length ∧ k = l.length - j ∧ i = .int .i64 j ∧ Hid (∀ T ∈ Ts.take j, T.isSome = true) ∧ Hid (Below w.heap.size w wr))
    case atStart => exact ⟨0, by omega, by omega, rfl, fun T h => by simp at h, Below.refl _ _⟩
    case round =>
      obtain ⟨j, hj, hgk, rfl, hinv, hB⟩ := hrel
      have HGK := Lib.hid hgk; clear hgk
      by_cases hlt : j < l.length
      · have hlt2 : j < Ts.length := by rw [← HA.out.1]; exact hlt
        obtain ⟨b, off, rfl, hb, f0, f1⟩ := (HR.out.up hB.out).at j hlt
        have HIN := Lib.hid ((HA.out.up hB.out).2 j _ _ (List.getElem?_eq_getElem hlt) (List.getElem?_eq_getElem hlt2))
        have HT : Hid (Ts[j].isSome = true → ∀ T ∈ Ts.take (j + 1), T.isSome = true) := fun h T hT => by
          rw [List.take_succ_eq_append_getElem hlt2, List.mem_append, List.mem_singleton] at hT
          rcases hT with hT | rfl
          · exact hinv.out T hT
          · exact h
        have HN : Hid (Ts[j].isSome = false → ¬ WholeP Ts) := fun h hw => by
          obtain ⟨ts, e, _⟩ := hw.2
          have hm : Ts[j] ∈ Ts := List.getElem_mem hlt2
          obtain ⟨T, hT⟩ : ∃ T, Ts[j] = T := ⟨_, rfl⟩
          rw [hT] at hm h
          rw [e] at hm
          obtain ⟨t, _, ht⟩ := List.mem_map.1 hm
          rw [← ht] at h; cases h
        obtain ⟨T, ht⟩ : ∃ T, Ts[j] = T := ⟨_, rfl⟩
        obtain ⟨e, he⟩ : ∃ e, l[j] = e := ⟨_, rfl⟩
        rw [ht] at HIN HT HN
        rw [he] at HIN f0 f1
        obtain ⟨o, A1, n1, c1⟩ := e
        simp only at f0 f1
        have hc := right_arg (HIN.out.up ((Below.refl _ wr).alloc (Nat.le_refl _) (.cells #[.bool o, .slice A1 n1 c1] 24)))
        unfold El.v tv at hc
        simp only at hc
        clear ht he HIN
        go_wp2_with fail
        refine hc.mono ?_
        rintro e w2 ⟨rfl, hb2⟩
        have HB2 : Hid (Below w.heap.size w w2) := (hB.out.alloc hB.out.size _).trans (hb2.mono (by have := hB.out.size; simp; omega))
        clear hb2 hc f0 f1
        cases hx : T.isSome with
        | false =>
          have HF := Lib.hid (HN.out hx)
          clear hx HN HT hinv
          go_wp2
          go_ret
          exact ⟨false, rfl, no_iff HF.out, HB2.out⟩
        | true =>
          have HTT := Lib.hid (HT.out hx)
          clear hx HN hinv HT
          go_wp2
          go_roundg (l.length - (j + 1))
          case measure => have := HGK.out; omega
          case rel => exact ⟨j + 1, by omega, rfl, by go_num, HTT, HB2⟩
      · obtain rfl : j = l.length := by omega
        have hall := hinv.out
        rw [List.take_of_length_le (by rw [HA.out.1]; exact Nat.le_refl _)] at hall
        obtain ⟨ts, rfl⟩ := all_some Ts hall
        obtain ⟨hin, hsm⟩ := (HA.out.up hB.out).inL
        have hc := covered_any (sumN ts + 1) ts A c l wr (Nat.lt_succ_self _) (HR.out.up hB.out) hin (by omega) hcap
        have HF : Hid (cov (sumN ts + 1) ts = true ↔ WholeP (ts.map some)) := by
          show _ ↔ _
          rw [cov_iff _ _ (Nat.lt_succ_self _)]
          constructor
          · intro h; exact ⟨by rw [← HA.out.1]; omega, ts, rfl, h⟩
          · rintro ⟨_, us, e, h⟩
            have : ts = us := map_some e
            rw [this]; exact h
        obtain ⟨q, hq⟩ : ∃ q, cov (sumN ts + 1) ts = q := ⟨_, rfl⟩
        rw [hq] at hc HF
        clear hq hin hsm hall hinv
        go_wp2_with fail
        refine hc.mono ?_
        rintro e w2 ⟨rfl, hb2⟩
        have HB2 : Hid (Below w.heap.size w w2) := hB.out.trans (hb2.mono hB.out.size)
        clear hb2 hc
        go_wp2
        go_ret
        exact ⟨q, rfl, HF.out, HB2.out⟩
end Go.Proofs.Ytkpefelakhbkhaa.I
