/-
  New, Known, Waits; made; shown.
-/
import Derived.Test.YtdffifkleaekhaaPPut
namespace Go.Proofs.Ytdffifkleaekhaa.O
open Go.RowKit Go.Proofs.Ytdffifkleaekhaa.V
set_option linter.unusedVariables false
set_option linter.unusedSimpArgs false

def sa : ByteArray := ⟨#[97]⟩
def o1 : Op := ⟨(sa, 2), [(sa, 1)], ⟨#[99]⟩, 1, ⟨#[105]⟩, 1, []⟩
def o2 : Op := ⟨(sa, 1), [], ⟨#[99]⟩, 1, ⟨#[105]⟩, 1, []⟩
set_option maxRecDepth 100000 in
theorem put_o1 : putQ none_ o1 = (⟨[], [], [o1]⟩, 0, 0) := by kernel_rfl
set_option maxRecDepth 100000 in
theorem put_o2 : putQ ⟨[], [], [o1]⟩ o2 = (⟨[o2, o1], [(sa, 2)], []⟩, 2, 0) := by kernel_rfl
/-- A pool of nothing. -/
def pv0 : Pv := ⟨none, none, 0, none, 0, none, 0, [], [], [], []⟩
theorem new_any (w : World) : Calls Try.prog 21 #[] w fun e w' => e = .returned (.pointer (some ⟨w.heap.size, 0, none⟩)) ∧ w.alloc (.cells #[.map none, .slice none 0 0, .slice none 0 0, .slice none 0 0] 88) = w' := by
  go_enter Try.func21, Try.ntmps21
  go_wp2
  go_ret
  exact ⟨rfl, rfl⟩
theorem new_at (w : World) : pv0.At (w.alloc (.cells #[.map none, .slice none 0 0, .slice none 0 0, .slice none 0 0] 88)) w.heap.size :=
  ⟨B4.new w _ _ _ _, GrD.nil _ _, GrD.nil _ _, fun k h => by simp [pv0, blk] at h, ⟨RowD.none_ _ _ _, by simp [pv0], by simp [pv0], by simp [pv0]⟩, fun k h => by simp [pv0, blk] at h, rfl, fun x hx => by cases hx⟩
theorem new_rel : Rel pv0 none_ := ⟨rfl, rfl, rfl, fun d => rfl⟩
theorem new_own (b k : Nat) : pv0.own b k ↔ k = b := by simp [Pv.own, pv0, blk]
/-- Put: what the pool is behind it. -/
theorem put_any {pv : Pv} {w : World} {b : Nat} {q : Pool} (h : pv.At w b) (hr : Rel pv q) (hi : Inv q) (x : Ov) (hx : x.ok w w.heap.size) (ha1 : Clear (pv.own b) x.A x.o.deps.length) (ha2 : Clear (pv.own b) x.A2 x.o.seen.length) (hn : q.L.length + q.W.length ≤ 100000) (hO : pv.O.length ≤ 100000) :
    Calls Try.prog 22 #[.pointer (some ⟨b, 0, none⟩), x.v] w fun e w' => PutR pv w b (putP q x.o) e w' := by
  rw [← putQ_eq hi]; exact put_prog h hr hi x hx ha1 ha2 hn hO
set_option maxRecDepth 100000 in
theorem known_any {p : Pv} {w : World} {b : Nat} (h : p.At w b) (hK : p.K.length ≤ 64) : Calls Try.prog 26 #[.pointer (some ⟨b, 0, none⟩)] w fun e w' => (∃ A c, e = .returned (.slice A p.K.length c) ∧ Vc.ok ⟨A, c, p.K⟩ w' w'.heap.size ∧ Lies A w.heap.size w'.heap.size) ∧ Below w.heap.size w w' := by
  have c3 := h.box.at.c3
  have hcall := copied_any h.k (by show p.K.length ≤ _; omega)
  obtain ⟨L, hL⟩ : ∃ L, p.K.length = L := ⟨_, rfl⟩
  rw [hL] at c3 hcall ⊢
  clear hL
  go_enter Try.func26, Try.ntmps26
  go_wp2_with fail
  refine hcall.mono ?_
  rintro e w2 ⟨⟨A, c, rfl, h1, h2⟩, h3⟩
  have HH := Lib.hid (And.intro h1 (And.intro h2 h3))
  clear hcall h1 h2 h3 c3
  go_wp2
  go_ret
  exact ⟨⟨A, c, rfl, HH.out.1, HH.out.2.1⟩, HH.out.2.2⟩
set_option maxRecDepth 100000 in
theorem waits_any {p : Pv} {w : World} {b : Nat} (h : p.At w b) : Calls Try.prog 24 #[.pointer (some ⟨b, 0, none⟩)] w fun e w' => e = .returned (.int .i64 (p.ws.length : Int)) ∧ w = w' := by
  have c2 := h.box.at.c2
  obtain ⟨L, hL⟩ : ∃ L, p.ws.length = L := ⟨_, rfl⟩
  rw [hL] at c2 ⊢
  clear hL
  go_enter Try.func24, Try.ntmps24
  go_wp2
  go_ret
  exact ⟨rfl, rfl⟩
set_option maxRecDepth 100000 in
set_option maxHeartbeats 1600000 in
theorem made_any (s : ByteArray) (n : Int) (A : Option Addr) (k c : Nat) (w : World) : Calls Try.prog 35 #[.string s, .int .i64 n, .slice A k c] w fun e w' => e = .returned (.agg #[.string s, .int .i64 n, .slice A k c, .string ⟨#[99]⟩, .int .i64 1, .string ⟨#[105]⟩, .int .i64 1, .slice none 0 0]) ∧ Below w.heap.size w w' := by
  have hz := B8.new w (.string ⟨#[]⟩) (.int .i64 0) (.slice none 0 0) (.string ⟨#[]⟩) (.int .i64 0) (.string ⟨#[]⟩) (.int .i64 0) (.slice none 0 0)
  have hb : Below w.heap.size w (w.alloc (.cells #[.string ⟨#[]⟩, .int .i64 0, .slice none 0 0, .string ⟨#[]⟩, .int .i64 0, .string ⟨#[]⟩, .int .i64 0, .slice none 0 0] 26)) := (Below.refl _ w).alloc (Nat.le_refl _) _
  obtain ⟨W1, hW1⟩ : ∃ W1, w.alloc (.cells #[.string ⟨#[]⟩, .int .i64 0, .slice none 0 0, .string ⟨#[]⟩, .int .i64 0, .string ⟨#[]⟩, .int .i64 0, .slice none 0 0] 26) = W1 := ⟨_, rfl⟩
  have HWE := Lib.hid hW1
  rw [hW1] at hz hb
  obtain ⟨f0, f1, f2, f3, f4, f5, f6, f7⟩ := hz.fr
  obtain ⟨d0, d1, d2, d3, d4, d5, d6, d7⟩ := hz.at
  have HE : Hid (B8 (set8 W1 w.heap.size (.string s) (.int .i64 n) (.slice A k c) (.string ⟨#[99]⟩) (.int .i64 1) (.string ⟨#[105]⟩) (.int .i64 1) (.slice none 0 0)) w.heap.size (.string s) (.int .i64 n) (.slice A k c) (.string ⟨#[99]⟩) (.int .i64 1) (.string ⟨#[105]⟩) (.int .i64 1) (.slice none 0 0)) := set8_b8 hz _ _ _ _ _ _ _ _
  have HSE : Hid (Below w.heap.size w (set8 W1 w.heap.size (.string s) (.int .i64 n) (.slice A k c) (.string ⟨#[99]⟩) (.int .i64 1) (.string ⟨#[105]⟩) (.int .i64 1) (.slice none 0 0))) := hb.trans (set8_below (Nat.le_refl _) (Below.refl _ _) _ _ _ _ _ _ _ _)
  clear hz hb hW1
  go_enter Try.func35, Try.ntmps35
  go_upto_region 1 with fail
  rw [HWE.out]
  go_wp2
  obtain ⟨We, hWe⟩ : ∃ We, set8 W1 w.heap.size (.string s) (.int .i64 n) (.slice A k c) (.string ⟨#[99]⟩) (.int .i64 1) (.string ⟨#[105]⟩) (.int .i64 1) (.slice none 0 0) = We := ⟨_, rfl⟩
  have hWe2 := hWe
  unfold set8 at hWe2
  try rw [hWe2]
  rw [hWe] at HE HSE
  clear d0 d1 d2 d3 d4 d5 d6 d7 f0 f1 f2 f3 f4 f5 f6 f7 hWe hWe2
  obtain ⟨c0, c1, c2_, c3, c4, c5, c6, c7⟩ := HE.out.at
  refine bodyPost_ret (v := .agg #[.string s, .int .i64 n, .slice A k c, .string ⟨#[99]⟩, .int .i64 1, .string ⟨#[105]⟩, .int .i64 1, .slice none 0 0]) (by rw [results_cell rfl]; go_simp; try rfl) rfl ?_
  exact ⟨rfl, HSE.out⟩
theorem fit_o1 : FitO o1 := ⟨fun d hd => by
  have e : d = (sa, 1) := by simpa [o1] using hd
  subst e; decide, fun d hd => by simp [o1] at hd, by decide, by decide, by decide⟩
theorem fit_o2 : FitO o2 := ⟨fun d hd => by simp [o2] at hd, fun d hd => by simp [o2] at hd, by decide, by decide, by decide⟩

set_option maxRecDepth 100000 in
set_option maxHeartbeats 6400000 in
theorem shown_any (w : World) : Calls Try.prog 11 #[] w fun e w' => e = .returned (.bool true) ∧ Below w.heap.size w w' := by
  have hA := new_at w
  have hb1 : Below w.heap.size w (w.alloc (.cells #[.map none, .slice none 0 0, .slice none 0 0, .slice none 0 0] 88)) := (Below.refl _ w).alloc (Nat.le_refl _) _
  obtain ⟨W1, hW1⟩ : ∃ W1, w.alloc (.cells #[.map none, .slice none 0 0, .slice none 0 0, .slice none 0 0] 88) = W1 := ⟨_, rfl⟩
  have hsz : W1.heap.size = w.heap.size + 1 := by rw [← hW1]; simp
  have HWE := Lib.hid hW1
  rw [hW1] at hA hb1
  have HA := Lib.hid (And.intro hA (And.intro hb1 hsz))
  clear hA hb1 hW1 hsz
  go_enter Try.func11, Try.ntmps11
  go_wp2_with fail
  refine (new_any w).mono ?_
  rintro e w2 ⟨rfl, hw2⟩
  rw [HWE.out] at hw2
  subst hw2
  -- the first one
  have hone := one_ok W1 sa 1
  have hb2 : Below W1.heap.size W1 (W1.alloc (.cells #[.string sa, .int .i64 1] 23)) := (Below.refl _ W1).alloc (Nat.le_refl _) _
  obtain ⟨W2, hW2⟩ : ∃ W2, W1.alloc (.cells #[.string sa, .int .i64 1] 23) = W2 := ⟨_, rfl⟩
  have HWE2 := Lib.hid hW2
  rw [hW2] at hone hb2
  have HO := Lib.hid (And.intro hone hb2)
  clear hone hb2 hW2
  go_wp2_with fail
  have hw2 := HWE2.out
  unfold sa at hw2
  rw [hw2]
  clear hw2
  refine (made_any _ _ _ _ _ _).mono ?_
  rintro e W3 ⟨rfl, hb3⟩
  have hx1 : Ov.ok ⟨o1, some ⟨W1.heap.size, 0, none⟩, 1, none, 0⟩ W3 W3.heap.size := ⟨HO.out.1.up hb3, ⟨RowD.none_ _ _ _, by simp [o1], by simp, by simp [o1]⟩, fit_o1⟩
  have HA3 := Lib.hid ((HA.out.1.up HO.out.2).up hb3)
  have hcall := put_any HA3.out new_rel inv_none _ hx1 (fun _ k hk ho => by
    rw [new_own] at ho
    have h0 := HA.out.2.2
    simp [blk] at hk
    omega) (fun _ k hk => by simp [blk] at hk) (by simp [none_]) (by simp [pv0])
  rw [← putQ_eq inv_none, put_o1] at hcall
  have HB3 := Lib.hid (HA.out.2.1.trans ((HO.out.2.trans (hb3.mono HO.out.2.size)).mono HA.out.2.1.size))
  simp only [Ov.v, Ov.cells, o1, sa, List.length_cons, List.length_nil, Nat.reduceAdd] at hcall
  clear hx1 hb3 HO
  go_wp2_with fail
  refine hcall.mono ?_
  rintro e W4 ⟨pv1, rfl, hr1, hs1, ho1⟩
  clear hcall
  replace hr1 : Rel pv1 ⟨[], [], [o1]⟩ := hr1
  have HP1 := Lib.hid (And.intro hr1 (And.intro hs1 ho1))
  have hq1 : Quiet (putP none_ o1).1 := (put_does ⟨inv_none, by simp [none_]⟩ o1).1
  rw [← putQ_eq inv_none, put_o1] at hq1
  have HQ1 := Lib.hid hq1
  clear hr1 hs1 ho1 hq1
  simp only
  go_wp2_with fail
  refine (made_any _ _ _ _ _ _).mono ?_
  rintro e W5 ⟨rfl, hb5⟩
  have hx2 : Ov.ok ⟨o2, none, 0, none, 0⟩ W5 W5.heap.size := ⟨⟨RowD.none_ _ _ _, by simp [o2], by simp, by simp [o2]⟩, ⟨RowD.none_ _ _ _, by simp [o2], by simp, by simp [o2]⟩, fit_o2⟩
  have hcall := put_any (HP1.out.2.1.at_.up hb5) HP1.out.1 HQ1.out.toInv _ hx2 (fun _ k hk => by simp [blk] at hk) (fun _ k hk => by simp [blk] at hk) (by simp [o1]) (by have := HP1.out.2.2; simp [pv0] at this; omega)
  rw [← putQ_eq HQ1.out.toInv, put_o2] at hcall
  have HB5 := Lib.hid hb5
  simp only [Ov.v, Ov.cells, o2, sa, List.length_cons, List.length_nil, Nat.reduceAdd] at hcall
  clear hx2 hb5
  go_wp2_with fail
  refine hcall.mono ?_
  rintro e W6 ⟨pv2, rfl, hr2, hs2, ho2⟩
  clear hcall
  replace hr2 : Rel pv2 ⟨[o2, o1], [(sa, 2)], []⟩ := hr2
  have HP2 := Lib.hid (And.intro hr2 hs2)
  clear hr2 hs2 ho2
  simp only
  have hcall := known_any HP2.out.2.at_ (by rw [HP2.out.1.K]; simp)
  rw [HP2.out.1.K] at hcall
  simp only [List.length_cons, List.length_nil, Nat.reduceAdd] at hcall
  go_wp2_with fail
  refine hcall.mono ?_
  rintro e W7 ⟨⟨A, c, rfl, h1, h2⟩, h3⟩
  clear hcall
  obtain ⟨g, off, hA', hg, hc⟩ := h1.1 (by simp)
  simp only at hA'
  subst hA'
  have hc1 := (hc 0 (⟨#[97]⟩, 2) rfl).2
  simp only [Nat.zero_mul, Nat.add_zero] at hc1
  have HFIN : Hid (Below w.heap.size w W7) := by
    have hs : Step pv0 W3 pv2 W6 w.heap.size := (HP1.out.2.1.then HB5.out).trans HP2.out.2
    have hb := hs.below HA3.out (Nat.le_refl _)
    exact HB3.out.trans (hb.trans (h3.mono (by have := hb.size; have := HB3.out.size; omega)))
  clear h1 h2 h3 hg hc
  go_wp2
  go_ret
  exact ⟨rfl, HFIN.out⟩

end Go.Proofs.Ytdffifkleaekhaa.O
