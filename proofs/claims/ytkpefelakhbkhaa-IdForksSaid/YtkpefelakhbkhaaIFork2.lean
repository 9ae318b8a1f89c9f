/-
  IdForks: the walk of the law, from the list of numbers on.
-/
import Derived.Test.YtkpefelakhbkhaaIForks
namespace Go.Proofs.Ytkpefelakhbkhaa.I
open Go.RowKit

/-- A slice of ints that came in. -/
def RowN (w : World) (B : Nat) (A : Option Addr) (l : List Int) : Prop :=
  (∀ x ∈ l, -9223372036854775808 ≤ x ∧ x < 9223372036854775808) ∧ (0 < l.length → ∃ b off, A = some ⟨b, off, none⟩ ∧ b < B ∧ ∀ j (hj : j < l.length), w.cell? ⟨b, off + j, none⟩ = some (.int .i64 (l[j]'hj)))
theorem RowN.up {w w' : World} {A : Option Addr} {l : List Int} (h : RowN w w.heap.size A l) (hb : Below w.heap.size w w') : RowN w' w'.heap.size A l :=
  ⟨h.1, fun hn => by obtain ⟨b, off, e, hl, hc⟩ := h.2 hn; exact ⟨b, off, e, Nat.lt_of_lt_of_le hl hb.size, fun j hj => (hb.cell hl).trans (hc j hj)⟩⟩
theorem Lst.start (w w1 : World) (hb : Below w.heap.size w w1) : Lst w (w1.alloc (.cells #[.bool true, .slice none 0 0] 24)) (some ⟨w1.heap.size, 0, none⟩) 1 [⟨true, none, 0, 0⟩] [.leaf true] := by
  refine ⟨⟨by simp [cellsE], .inr ⟨w1.heap.size, 1, _, rfl, hb.size, heap_alloc_new w1 _, by simp, by unfold maxLen; omega, rfl, by simp [cellsE]⟩⟩, fun g _ => ⟨rfl, fun j e t h1 h2 => ?_⟩, ⟨_, rfl⟩, hb.trans (((Below.refl _ w1).alloc (Nat.le_refl _) _).mono hb.size), fun f => by simp [cnt, den], rfl⟩
  cases j with
  | zero =>
    simp at h1 h2
    subst h1; subst h2
    exact ⟨⟨none, 0, rfl⟩, rfl⟩
  | succ j => simp at h1

theorem tmod_lim (x n : Int) (h : 0 < n) : -n < x.tmod n ∧ x.tmod n < n := by
  refine ⟨?_, Int.tmod_lt_of_pos x h⟩
  rcases (by omega : x < 0 ∨ 0 ≤ x) with hx | hx
  · have h1 := Int.tmod_lt_of_pos (-x) h
    rw [Int.neg_tmod] at h1
    omega
  · have := Int.tmod_nonneg n hx; omega
theorem past_two (w : World) (x y : Obj) (g i k : Nat) (u v : Value) (hg : g < w.heap.size) : (((w.alloc x).alloc y).setCell ⟨g, i, none⟩ u).setCell ⟨g, k, none⟩ v = (((w.setCell ⟨g, i, none⟩ u).setCell ⟨g, k, none⟩ v).alloc x).alloc y := by
  have h1 : g < (w.alloc x).heap.size := by simp; omega
  have h2 : g < (w.setCell ⟨g, i, none⟩ u).heap.size := by rw [size_set]; exact hg
  have h3 : g < ((w.setCell ⟨g, i, none⟩ u).alloc x).heap.size := by simp; omega
  rw [World.setCell_alloc_past (w := w.alloc x) y g i u h1, World.setCell_alloc_past (w := w) x g i u hg, World.setCell_alloc_past (w := (w.setCell ⟨g, i, none⟩ u).alloc x) y g k v h3, World.setCell_alloc_past (w := w.setCell ⟨g, i, none⟩ u) x g k v h2]
theorem Lst.free {w W : World} {g c : Nat} {l : List El} {ts : List Tr} (h : Lst w W (some ⟨g, 0, none⟩) c l ts) (g' : Nat) (hg : g' = g) {i k : Nat} : W.frozen? ⟨g', i, none⟩ = false ∧ W.frozen? ⟨g', k, none⟩ = false := by
  subst hg
  rcases h.gr.cases with ⟨h0, _⟩ | ⟨g2, cur, e1, _, hc, _⟩
  · cases h0
  · injection e1 with e1
    injection e1 with e1
    subst e1
    exact ⟨by simp [World.frozen?, hc], by simp [World.frozen?, hc]⟩
set_option maxRecDepth 100000 in
set_option maxHeartbeats 6400000 in
theorem forks_walk (A0 : Option Addr) (c0 : Nat) (which : List Int) (w : World) (hr : RowN w w.heap.size A0 which) (hl : which.length ≤ 140737488351232) (_hc : which.length ≤ c0) :
    Calls Try.prog 9 #[.slice A0 which.length c0] w fun e w' => e = .returned (.bool true) ∧ Below w.heap.size w w' := by
  have HR := Lib.hid hr
  clear hr
  go_enter Try.func9, Try.ntmps9
  go_wp2_with fail
  refine (shown_any _).mono ?_
  rintro e w1 ⟨rfl, hb1⟩
  have HL0 := Lib.hid (Lst.start w w1 hb1)
  have HB1 := Lib.hid hb1
  clear hb1
  go_wp2
  go_loopg [4, 5] which.length (fun k l4 i wr => ∃ (j : Nat) (A : Option Addr) (c : Nat) (l : List El) (ts : List Tr), j ≤ which.length ∧ j ≤ 50 ∧ k = which.length - j ∧ l4 = .slice A l.length c ∧ i = .int .i64 j ∧ Hid (Lst w wr A c l ts) ∧ l.length ≤ j + 1 ∧ 0 < l.length)
  case atStart => exact ⟨0, _, 1, [⟨true, none, 0, 0⟩], [.leaf true], by omega, by omega, by omega, rfl, rfl, HL0, by simp, by simp⟩
  case round =>
    obtain ⟨j, A, c, l, ts, hj, hj50, hgk, rfl, rfl, hL, hlj, hl0⟩ := hrel
    have HGK := Lib.hid hgk; clear hgk
    by_cases hgo : j < which.length ∧ j < 50
    · obtain ⟨hlt, hlt50⟩ := hgo
      have hb := hL.out.bel
      obtain ⟨b, off, hA0, hbb, hcell⟩ := (HR.out.up hb).2 (by omega)
      have f0 := hcell j hlt
      obtain ⟨hx1, hx2⟩ := HR.out.1 _ (List.getElem_mem hlt)
      obtain ⟨x, hx⟩ : ∃ x, which[j] = x := ⟨_, rfl⟩
      rw [hx] at f0 hx1 hx2
      subst hA0
      obtain ⟨g, hg⟩ := hL.out.lies
      have hAg : A = some ⟨g, 0, none⟩ := by
        rcases hL.out.gr.cases with ⟨rfl, _⟩ | ⟨g', cur, rfl, _⟩
        · simp [blk] at hg
        · simp [blk] at hg; rw [hg]
      subst hAg
      have hrem : -(l.length : Int) < x.tmod (l.length : Int) ∧ x.tmod (l.length : Int) < (l.length : Int) := tmod_lim x _ (by omega)
      obtain ⟨R, hRe⟩ : ∃ R, x.tmod (l.length : Int) = R := ⟨_, rfl⟩
      rw [hRe] at hrem
      have hlne : ((l.length : Int) == 0) = false := beq_eq_false_iff_ne.2 (by omega)
      clear hx hcell hb
      have hKK : (∃ K : Nat, R = (K : Int) ∧ K < l.length) ∨ (∃ K : Nat, R = -(K : Int) ∧ 0 < K ∧ K < l.length) := by
        rcases (by omega : R < 0 ∨ 0 ≤ R) with h | h
        · exact .inr ⟨(-R).toNat, by omega, by omega, by omega⟩
        · exact .inl ⟨R.toNat, by omega, by omega⟩
      clear hrem
      rcases hKK with ⟨K, rfl, hKl⟩ | ⟨K, rfl, hK0, hKl⟩
      · obtain ⟨b4, off4, he4, hb4, m0, m1⟩ := hL.out.gr.row.at K hKl
        injection he4 with he4
        injection he4 with e5 e6
        subst e5; subst e6
        have hKt : K < ts.length := by rw [← hL.out.len]; exact hKl
        have HARG := Lib.hid (hL.out.inL.2 K _ (some ts[K]) (List.getElem?_eq_getElem hKl) (by rw [List.getElem?_map, List.getElem?_eq_getElem hKt]; rfl))
        have HTK := Lib.hid (List.getElem?_eq_getElem hKt)
        obtain ⟨t, ht⟩ : ∃ t, ts[K] = t := ⟨_, rfl⟩
        obtain ⟨e, he⟩ : ∃ e, l[K] = e := ⟨_, rfl⟩
        rw [ht] at HARG HTK
        rw [he] at HARG m0 m1
        obtain ⟨o, A3, n3, c3⟩ := e
        simp only [Nat.zero_add] at m0 m1
        have hgl := hL.out.gr.lt g rfl
        have hc := split_argP (· ≠ g) (fun k hk => by omega) HARG.out
        unfold El.v tv at hc
        simp only at hc
        clear ht he
        go_wp2_with fail
        refine hc.mono ?_
        rintro e w2 ⟨v1, v2, rfl, h1, h2, hb2⟩
        clear hc m0 m1 f0
        obtain ⟨o1, A1, n1, c1, rfl⟩ := h1.form
        obtain ⟨o2, A2, n2, c2, rfl⟩ := h2.form
        have hb5 : Below w2.heap.size w2 ((w2.alloc (.cells #[.bool o1, .slice A1 n1 c1] 24)).alloc (.cells #[.bool o2, .slice A2 n2 c2] 24)) := ((Below.refl _ w2).alloc (Nat.le_refl _) _).alloc (by simp) _
        have HL5 := Lib.hid ((hL.out.next hb2).next hb5)
        have hs2 : wr.heap.size ≤ w2.heap.size := hb2.size
        rcases splitR_cases t with hsp | ⟨hf1, hf2, hsp⟩
        · rw [hsp]
          clear hsp h1 h2 hb2 hb5
          unfold tv
          go_wp2
          go_roundg (which.length - (j + 1))
          case measure => have := HGK.out; omega
          case rel => exact ⟨j + 1, _, c, l, ts, by omega, by omega, rfl, rfl, by go_num, HL5, by omega, hl0⟩
        · rw [hsp] at h1 h2 ⊢
          simp only at h1 h2
          have H1 := Lib.hid (h1.up hb5)
          have H2 := Lib.hid (h2.up hb5)
          have hp0 : ((w2.alloc (.cells #[.bool o1, .slice A1 n1 c1] 24)).alloc (.cells #[.bool o2, .slice A2 n2 c2] 24)).cell? ⟨w2.heap.size, 0, none⟩ = some (.bool o1) := by simp [go_sem]
          have hp1 : ((w2.alloc (.cells #[.bool o1, .slice A1 n1 c1] 24)).alloc (.cells #[.bool o2, .slice A2 n2 c2] 24)).cell? ⟨w2.heap.size, 1, none⟩ = some (.slice A1 n1 c1) := by simp [go_sem]
          have hp2 : ((w2.alloc (.cells #[.bool o1, .slice A1 n1 c1] 24)).alloc (.cells #[.bool o2, .slice A2 n2 c2] 24)).cell? ⟨w2.heap.size + 1, 0, none⟩ = some (.bool o2) := by simp [go_sem]
          have hp3 : ((w2.alloc (.cells #[.bool o1, .slice A1 n1 c1] 24)).alloc (.cells #[.bool o2, .slice A2 n2 c2] 24)).cell? ⟨w2.heap.size + 1, 1, none⟩ = some (.slice A2 n2 c2) := by simp [go_sem]
          have hsW : ((w2.alloc (.cells #[.bool o1, .slice A1 n1 c1] 24)).alloc (.cells #[.bool o2, .slice A2 n2 c2] 24)).heap.size = w2.heap.size + 1 + 1 := by simp
          have hfz : ((w2.alloc (.cells #[.bool o1, .slice A1 n1 c1] 24)).alloc (.cells #[.bool o2, .slice A2 n2 c2] 24)).frozen? ⟨g, K * 2, none⟩ = false ∧ ((w2.alloc (.cells #[.bool o1, .slice A1 n1 c1] 24)).alloc (.cells #[.bool o2, .slice A2 n2 c2] 24)).frozen? ⟨g, K * 2 + 1, none⟩ = false := HL5.out.free g rfl
          unfold tv
          obtain ⟨b4, off4, he4, hb4, m0, m1⟩ := HL5.out.gr.row.at K hKl
          injection he4 with he4
          injection he4 with e5 e6
          subst e5; subst e6
          simp only [Nat.zero_add] at m0 m1
          obtain ⟨z0, z1⟩ := hfz
          obtain ⟨z2, z3⟩ : w2.frozen? ⟨g, K * 2, none⟩ = false ∧ w2.frozen? ⟨g, K * 2 + 1, none⟩ = false := (hL.out.next hb2).free g rfl
          obtain ⟨b7, off7, he7, _, m2, m3⟩ := (hL.out.next hb2).gr.row.at K hKl
          injection he7 with he7
          injection he7 with e7 e8
          subst e7; subst e8
          simp only [Nat.zero_add] at m2 m3
          have hgl2 : g < w2.heap.size := by omega
          obtain ⟨A6, c6, w6, hap, hL6⟩ := HL5.out.split K t HTK.out ⟨o1, A1, n1, c1⟩ ⟨o2, A2, n2, c2⟩ H1.out H2.out (fit_isSome hf1) (fit_isSome hf2) (by omega)
          have eW : (((w2.alloc (.cells #[.bool o1, .slice A1 n1 c1] 24)).alloc (.cells #[.bool o2, .slice A2 n2 c2] 24)).setCell ⟨g, K * 2, none⟩ (.bool o1)).setCell ⟨g, K * 2 + 1, none⟩ (.slice A1 n1 c1) = (((w2.setCell ⟨g, K * 2, none⟩ (.bool o1)).setCell ⟨g, K * 2 + 1, none⟩ (.slice A1 n1 c1)).alloc (.cells #[.bool o1, .slice A1 n1 c1] 24)).alloc (.cells #[.bool o2, .slice A2 n2 c2] 24) := past_two w2 _ _ g _ _ _ _ hgl2
          rw [eW] at hap
          simp only [World.size_alloc] at hap
          have HAP := Lib.hid hap
          have HL6 := Lib.hid hL6
          have el : (l.set K (⟨o1, A1, n1, c1⟩ : El) ++ [(⟨o2, A2, n2, c2⟩ : El)]).length = l.length + 1 := by simp
          have hne1 : g ≠ w2.heap.size := by omega
          have hne2 : g ≠ w2.heap.size + 1 := by omega
          clear hap hL6 hsp h1 h2 hb2 hb5 HL5 H1 H2 hf1 hf2 hL HARG HTK
          go_wp2_with (at_builtin; refine wpList_append_run rfl _ _ _ _ rfl _ _ rfl rfl HAP.out ?_; clear HAP)
          go_roundg (which.length - (j + 1))
          case measure => have := HGK.out; omega
          case rel => exact ⟨j + 1, A6, c6, _, _, by omega, by omega, rfl, by rw [el], by go_num, HL6, by rw [el]; omega, by rw [el]; omega⟩
      · obtain ⟨b4, off4, he4, hb4, m0, m1⟩ := hL.out.gr.row.at K hKl
        injection he4 with he4
        injection he4 with e5 e6
        subst e5; subst e6
        have hKt : K < ts.length := by rw [← hL.out.len]; exact hKl
        have HARG := Lib.hid (hL.out.inL.2 K _ (some ts[K]) (List.getElem?_eq_getElem hKl) (by rw [List.getElem?_map, List.getElem?_eq_getElem hKt]; rfl))
        have HTK := Lib.hid (List.getElem?_eq_getElem hKt)
        obtain ⟨t, ht⟩ : ∃ t, ts[K] = t := ⟨_, rfl⟩
        obtain ⟨e, he⟩ : ∃ e, l[K] = e := ⟨_, rfl⟩
        rw [ht] at HARG HTK
        rw [he] at HARG m0 m1
        obtain ⟨o, A3, n3, c3⟩ := e
        simp only [Nat.zero_add] at m0 m1
        have hgl := hL.out.gr.lt g rfl
        have hc := split_argP (· ≠ g) (fun k hk => by omega) HARG.out
        unfold El.v tv at hc
        simp only at hc
        clear ht he
        go_wp2_with fail
        refine hc.mono ?_
        rintro e w2 ⟨v1, v2, rfl, h1, h2, hb2⟩
        clear hc m0 m1 f0
        obtain ⟨o1, A1, n1, c1, rfl⟩ := h1.form
        obtain ⟨o2, A2, n2, c2, rfl⟩ := h2.form
        have hb5 : Below w2.heap.size w2 ((w2.alloc (.cells #[.bool o1, .slice A1 n1 c1] 24)).alloc (.cells #[.bool o2, .slice A2 n2 c2] 24)) := ((Below.refl _ w2).alloc (Nat.le_refl _) _).alloc (by simp) _
        have HL5 := Lib.hid ((hL.out.next hb2).next hb5)
        have hs2 : wr.heap.size ≤ w2.heap.size := hb2.size
        rcases splitR_cases t with hsp | ⟨hf1, hf2, hsp⟩
        · rw [hsp]
          clear hsp h1 h2 hb2 hb5
          unfold tv
          go_wp2
          go_roundg (which.length - (j + 1))
          case measure => have := HGK.out; omega
          case rel => exact ⟨j + 1, _, c, l, ts, by omega, by omega, rfl, rfl, by go_num, HL5, by omega, hl0⟩
        · rw [hsp] at h1 h2 ⊢
          simp only at h1 h2
          have H1 := Lib.hid (h1.up hb5)
          have H2 := Lib.hid (h2.up hb5)
          have hp0 : ((w2.alloc (.cells #[.bool o1, .slice A1 n1 c1] 24)).alloc (.cells #[.bool o2, .slice A2 n2 c2] 24)).cell? ⟨w2.heap.size, 0, none⟩ = some (.bool o1) := by simp [go_sem]
          have hp1 : ((w2.alloc (.cells #[.bool o1, .slice A1 n1 c1] 24)).alloc (.cells #[.bool o2, .slice A2 n2 c2] 24)).cell? ⟨w2.heap.size, 1, none⟩ = some (.slice A1 n1 c1) := by simp [go_sem]
          have hp2 : ((w2.alloc (.cells #[.bool o1, .slice A1 n1 c1] 24)).alloc (.cells #[.bool o2, .slice A2 n2 c2] 24)).cell? ⟨w2.heap.size + 1, 0, none⟩ = some (.bool o2) := by simp [go_sem]
          have hp3 : ((w2.alloc (.cells #[.bool o1, .slice A1 n1 c1] 24)).alloc (.cells #[.bool o2, .slice A2 n2 c2] 24)).cell? ⟨w2.heap.size + 1, 1, none⟩ = some (.slice A2 n2 c2) := by simp [go_sem]
          have hsW : ((w2.alloc (.cells #[.bool o1, .slice A1 n1 c1] 24)).alloc (.cells #[.bool o2, .slice A2 n2 c2] 24)).heap.size = w2.heap.size + 1 + 1 := by simp
          have hfz : ((w2.alloc (.cells #[.bool o1, .slice A1 n1 c1] 24)).alloc (.cells #[.bool o2, .slice A2 n2 c2] 24)).frozen? ⟨g, K * 2, none⟩ = false ∧ ((w2.alloc (.cells #[.bool o1, .slice A1 n1 c1] 24)).alloc (.cells #[.bool o2, .slice A2 n2 c2] 24)).frozen? ⟨g, K * 2 + 1, none⟩ = false := HL5.out.free g rfl
          unfold tv
          obtain ⟨b4, off4, he4, hb4, m0, m1⟩ := HL5.out.gr.row.at K hKl
          injection he4 with he4
          injection he4 with e5 e6
          subst e5; subst e6
          simp only [Nat.zero_add] at m0 m1
          obtain ⟨z0, z1⟩ := hfz
          obtain ⟨z2, z3⟩ : w2.frozen? ⟨g, K * 2, none⟩ = false ∧ w2.frozen? ⟨g, K * 2 + 1, none⟩ = false := (hL.out.next hb2).free g rfl
          obtain ⟨b7, off7, he7, _, m2, m3⟩ := (hL.out.next hb2).gr.row.at K hKl
          injection he7 with he7
          injection he7 with e7 e8
          subst e7; subst e8
          simp only [Nat.zero_add] at m2 m3
          have hgl2 : g < w2.heap.size := by omega
          obtain ⟨A6, c6, w6, hap, hL6⟩ := HL5.out.split K t HTK.out ⟨o1, A1, n1, c1⟩ ⟨o2, A2, n2, c2⟩ H1.out H2.out (fit_isSome hf1) (fit_isSome hf2) (by omega)
          have eW : (((w2.alloc (.cells #[.bool o1, .slice A1 n1 c1] 24)).alloc (.cells #[.bool o2, .slice A2 n2 c2] 24)).setCell ⟨g, K * 2, none⟩ (.bool o1)).setCell ⟨g, K * 2 + 1, none⟩ (.slice A1 n1 c1) = (((w2.setCell ⟨g, K * 2, none⟩ (.bool o1)).setCell ⟨g, K * 2 + 1, none⟩ (.slice A1 n1 c1)).alloc (.cells #[.bool o1, .slice A1 n1 c1] 24)).alloc (.cells #[.bool o2, .slice A2 n2 c2] 24) := past_two w2 _ _ g _ _ _ _ hgl2
          rw [eW] at hap
          simp only [World.size_alloc] at hap
          have HAP := Lib.hid hap
          have HL6 := Lib.hid hL6
          have el : (l.set K (⟨o1, A1, n1, c1⟩ : El) ++ [(⟨o2, A2, n2, c2⟩ : El)]).length = l.length + 1 := by simp
          have hne1 : g ≠ w2.heap.size := by omega
          have hne2 : g ≠ w2.heap.size + 1 := by omega
          clear hap hL6 hsp h1 h2 hb2 hb5 HL5 H1 H2 hf1 hf2 hL HARG HTK
          go_wp2_with (at_builtin; refine wpList_append_run rfl _ _ _ _ rfl _ _ rfl rfl HAP.out ?_; clear HAP)
          go_roundg (which.length - (j + 1))
          case measure => have := HGK.out; omega
          case rel => exact ⟨j + 1, A6, c6, _, _, by omega, by omega, rfl, by rw [el], by go_num, HL6, by rw [el]; omega, by rw [el]; omega⟩
    · have HLF := Lib.hid hL.out.bel
      have hcap := hL.out.gr.cap
      have hc := whole_any A c l (ts.map some) wr hL.out.gr.row hL.out.inL hcap (by omega)
      have HW : Hid (WholeP (ts.map some)) := ⟨by rw [List.length_map, ← hL.out.len]; omega, ts, rfl, hL.out.whole⟩
      clear hL
      by_cases h50 : j < 50
      · have hjw : j = which.length := by omega
        subst hjw
        go_wp2_with fail
        refine hc.mono ?_
        rintro e w2 ⟨q, rfl, hq, hb2⟩
        obtain rfl : q = true := hq.2 HW.out
        have HB2 : Hid (Below w.heap.size w w2) := HLF.out.trans (hb2.mono HLF.out.size)
        clear hb2 hc hq
        go_wp2
        go_ret
        exact ⟨rfl, HB2.out⟩
      · obtain rfl : j = 50 := by omega
        by_cases hjw : 50 < which.length
        · go_wp2_with fail
          refine hc.mono ?_
          rintro e w2 ⟨q, rfl, hq, hb2⟩
          obtain rfl : q = true := hq.2 HW.out
          have HB2 : Hid (Below w.heap.size w w2) := HLF.out.trans (hb2.mono HLF.out.size)
          clear hb2 hc hq
          go_wp2
          go_ret
          exact ⟨rfl, HB2.out⟩
        · go_wp2_with fail
          refine hc.mono ?_
          rintro e w2 ⟨q, rfl, hq, hb2⟩
          obtain rfl : q = true := hq.2 HW.out
          have HB2 : Hid (Below w.heap.size w w2) := HLF.out.trans (hb2.mono HLF.out.size)
          clear hb2 hc hq
          go_wp2
          go_ret
          exact ⟨rfl, HB2.out⟩
end Go.Proofs.Ytkpefelakhbkhaa.I
