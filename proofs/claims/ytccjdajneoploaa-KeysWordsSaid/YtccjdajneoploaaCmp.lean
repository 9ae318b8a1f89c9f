/-
  How two parts, two keys stand: the program's and the reference's.
-/
import Derived.Test.YtccjdajneoploaaLeaf
import Derived.IntWalk
import Derived.OrdersHeld
import Derived.Deep.RegionWith
import Derived.Deep.RegionHeld
import Derived.Deep.QuietTactic
namespace Go.Proofs.Ytccjdajneoploaa
open Go.RowKit

namespace M
theorem cmpN_swap (m n : Nat) : cmpN n m = - cmpN m n := by unfold cmpN; split <;> split <;> (try split) <;> omega
theorem cmpN_is (m n : Nat) : cmpN m n = -1 ∨ cmpN m n = 0 ∨ cmpN m n = 1 := by unfold cmpN; split <;> (try split) <;> simp
theorem cmpB_swap : ∀ s t, cmpB t s = - cmpB s t
  | [], [] => by simp [cmpB]
  | [], _ :: _ => by simp [cmpB]
  | _ :: _, [] => by simp [cmpB]
  | x :: s, y :: t => by
    have ih := cmpB_swap s t
    simp only [cmpB, ih]
    by_cases h1 : x < y
    · rw [if_pos h1, if_neg (by omega), if_pos h1]; rfl
    · by_cases h2 : y < x
      · simp [h1, h2]
      · simp [h1, h2]
theorem cmpB_is : ∀ s t, cmpB s t = -1 ∨ cmpB s t = 0 ∨ cmpB s t = 1
  | [], [] => by simp [cmpB]
  | [], _ :: _ => by simp [cmpB]
  | _ :: _, [] => by simp [cmpB]
  | x :: s, y :: t => by
    have ih := cmpB_is s t
    simp only [cmpB]
    split
    · simp
    · split
      · simp
      · exact ih
theorem cmpP_swap (p q : Part) : cmpP q p = - cmpP p q := by
  unfold cmpP
  cases p.t <;> cases q.t <;> simp [cmpN_swap p.n q.n, cmpB_swap (byt p.s) (byt q.s)]
theorem cmpP_is (p q : Part) : cmpP p q = -1 ∨ cmpP p q = 0 ∨ cmpP p q = 1 := by
  unfold cmpP
  cases p.t <;> cases q.t <;> simp [cmpN_is, cmpB_is]
theorem cmpL_next {l m : List Part} {j : Nat} {p q : Part} (hp : l[j]? = some p) (hq : m[j]? = some q) : cmpL (l.drop j) (m.drop j) = if cmpP p q = 0 then cmpL (l.drop (j + 1)) (m.drop (j + 1)) else cmpP p q := by
  obtain ⟨h1, rfl⟩ := List.getElem?_eq_some_iff.1 hp
  obtain ⟨h2, rfl⟩ := List.getElem?_eq_some_iff.1 hq
  rw [List.drop_eq_getElem_cons h1, List.drop_eq_getElem_cons h2]
  rfl
theorem cmpL_last (l m : List Part) (j : Nat) (hj : j = min l.length m.length) : cmpL (l.drop j) (m.drop j) = cmpN l.length m.length := by
  rcases Nat.lt_trichotomy l.length m.length with h | h | h
  · have e : l.drop j = [] := List.drop_eq_nil_of_le (by omega)
    have e2 : m.drop j = m[j]'(by omega) :: m.drop (j + 1) := List.drop_eq_getElem_cons (by omega)
    rw [e, e2]
    simp [cmpL, cmpN, h]
  · have e : l.drop j = [] := List.drop_eq_nil_of_le (by omega)
    have e2 : m.drop j = [] := List.drop_eq_nil_of_le (by omega)
    rw [e, e2]
    simp [cmpL, cmpN, h]
  · have e : l.drop j = l[j]'(by omega) :: l.drop (j + 1) := List.drop_eq_getElem_cons (by omega)
    have e2 : m.drop j = [] := List.drop_eq_nil_of_le (by omega)
    rw [e, e2]
    simp [cmpL, cmpN, h]; omega
end M

theorem less_list : ∀ a b : List UInt8, Op.bytesLess a b = M.less (a.map UInt8.toNat) (b.map UInt8.toNat)
  | _, [] => by simp [Op.bytesLess, M.less]
  | [], _ :: _ => by simp [Op.bytesLess, M.less]
  | a :: x, b :: y => by
    have ih := less_list x y
    simp only [Op.bytesLess, M.less, List.map_cons, ih]
    congr 1
    congr 1
    rw [Bool.eq_iff_iff, beq_iff_eq, decide_eq_true_iff]
    exact ⟨fun h => by rw [h], fun h => UInt8.toNat_inj.1 h⟩
theorem less_str (s t : ByteArray) : Op.bytesLess s.toList t.toList = decide (M.cmpB (byt s) (byt t) < 0) := by
  rw [less_list, ByteArray.toList_eq, ByteArray.toList_eq, ← M.less_cmp]; rfl
theorem same_str (s t : ByteArray) : (s.toList == t.toList) = decide (M.cmpB (byt s) (byt t) = 0) := by
  rw [ByteArray.toList_eq, ByteArray.toList_eq, Bool.eq_iff_iff, beq_iff_eq, decide_eq_true_iff, M.cmpB_zero]
  refine ⟨fun h => by unfold byt; rw [h], fun h => by rw [byt_inj h]⟩

set_option maxRecDepth 100000 in
set_option maxHeartbeats 800000 in
theorem cmpStr_any (s t : ByteArray) (w : World) : Calls Try.prog 33 #[.string s, .string t] w fun e w' => e = .returned (.int .i64 (M.cmpB (byt s) (byt t))) ∧ w = w' := by
  have h1 := less_str s t
  have h2 := same_str s t
  rcases M.cmpB_is (byt s) (byt t) with h | h | h
  all_goals
    rw [h] at h1 h2 ⊢
    replace h1 := h1.trans rfl
    replace h2 := h2.trans rfl
    simp only [Int.reduceNeg, Int.reduceLT, Int.reduceEq, decide_true, decide_false, Int.lt_irrefl] at h1 h2
    clear h
    go_enter Try.func33, Try.ntmps33
    go_wp2
    go_ret
    exact ⟨rfl, rfl⟩
set_option maxRecDepth 100000 in
set_option maxHeartbeats 800000 in
theorem cmpInt_any (m n : Nat) (w : World) : Calls Try.prog 28 #[.int .i64 m, .int .i64 n] w fun e w' => e = .returned (.int .i64 (M.cmpN m n)) ∧ w = w' := by
  rcases Nat.lt_trichotomy m n with h | h | h
  · have e : M.cmpN m n = -1 := by simp [M.cmpN, h]
    rw [e]
    clear e
    go_enter Try.func28, Try.ntmps28
    go_wp2
    go_ret
    exact ⟨rfl, rfl⟩
  · subst h
    have e : M.cmpN m m = 0 := by simp [M.cmpN]
    rw [e]
    clear e
    go_enter Try.func28, Try.ntmps28
    go_wp2
    go_ret
    exact ⟨rfl, rfl⟩
  · have e : M.cmpN m n = 1 := by simp [M.cmpN, h]; omega
    rw [e]
    clear e
    go_enter Try.func28, Try.ntmps28
    go_wp2
    go_ret
    exact ⟨rfl, rfl⟩
set_option maxRecDepth 100000 in
set_option maxHeartbeats 800000 in
theorem cmpNum_any (m n : Nat) (w : World) : Calls Try.prog 34 #[.int .u64 m, .int .u64 n] w fun e w' => e = .returned (.int .i64 (M.cmpN m n)) ∧ w = w' := by
  rcases Nat.lt_trichotomy m n with h | h | h
  · have e : M.cmpN m n = -1 := by simp [M.cmpN, h]
    rw [e]
    clear e
    go_enter Try.func34, Try.ntmps34
    go_wp2
    go_ret
    exact ⟨rfl, rfl⟩
  · subst h
    have e : M.cmpN m m = 0 := by simp [M.cmpN]
    rw [e]
    clear e
    go_enter Try.func34, Try.ntmps34
    go_wp2
    go_ret
    exact ⟨rfl, rfl⟩
  · have e : M.cmpN m n = 1 := by simp [M.cmpN, h]; omega
    rw [e]
    clear e
    go_enter Try.func34, Try.ntmps34
    go_wp2
    go_ret
    exact ⟨rfl, rfl⟩
theorem two_boxes (w : World) (o1 o2 : Obj) : Below w.heap.size w ((w.alloc o1).alloc o2) := ((Below.refl _ w).alloc (Nat.le_refl _) _).alloc (by simp) _

set_option maxRecDepth 100000 in
set_option maxHeartbeats 800000 in
theorem comparePart_any (p q : Part) (w : World) : Calls Try.prog 27 #[pv p, pv q] w fun e w' => e = .returned (.int .i64 (M.cmpP p q)) ∧ Below w.heap.size w w' := by
  obtain ⟨t, n, s⟩ := p
  obtain ⟨t2, n2, s2⟩ := q
  unfold pv M.cmpP
  simp only
  have HB := Lib.hid (two_boxes w)
  cases t with
  | true =>
    cases t2 with
    | true =>
      go_enter Try.func27, Try.ntmps27
      go_wp2_with (go_at_call 33; refine (cmpStr_any _ _ _).mono ?_; rintro e w' ⟨rfl, rfl⟩)
      go_ret
      exact ⟨rfl, HB.out _ _⟩
    | false =>
      go_enter Try.func27, Try.ntmps27
      go_wp2
      go_ret
      exact ⟨rfl, HB.out _ _⟩
  | false =>
    cases t2 with
    | true =>
      go_enter Try.func27, Try.ntmps27
      go_wp2
      go_ret
      exact ⟨rfl, HB.out _ _⟩
    | false =>
      go_enter Try.func27, Try.ntmps27
      go_wp2_with (go_at_call 34; refine (cmpNum_any _ _ _).mono ?_; rintro e w' ⟨rfl, rfl⟩)
      go_ret
      exact ⟨rfl, HB.out _ _⟩
set_option maxRecDepth 100000 in
set_option maxHeartbeats 800000 in
theorem less_any (p q : Part) (w : World) : Calls Try.prog 29 #[pv p, pv q] w fun e w' => e = .returned (.bool (decide (M.cmpP p q < 0))) ∧ Below w.heap.size w w' := by
  obtain ⟨t, n, s⟩ := p
  obtain ⟨t2, n2, s2⟩ := q
  unfold pv M.cmpP
  simp only
  have HB := Lib.hid (two_boxes w)
  cases t with
  | true =>
    cases t2 with
    | true =>
      go_enter Try.func29, Try.ntmps29
      go_wp2
      go_ret
      exact ⟨ret_bool (less_str s s2), HB.out _ _⟩
    | false =>
      go_enter Try.func29, Try.ntmps29
      go_wp2
      go_ret
      exact ⟨rfl, HB.out _ _⟩
  | false =>
    cases t2 with
    | true =>
      go_enter Try.func29, Try.ntmps29
      go_wp2
      go_ret
      exact ⟨rfl, HB.out _ _⟩
    | false =>
      have h : decide ((n : Int) < (n2 : Int)) = decide (M.cmpN n n2 < 0) := by
        unfold M.cmpN
        by_cases h1 : n < n2
        · simp [h1]
        · by_cases h2 : n2 < n <;> simp [h1, h2]
      have HH := Lib.hid h
      clear h
      go_enter Try.func29, Try.ntmps29
      go_wp2
      go_ret
      exact ⟨ret_bool (by first | exact HH.out | simpa using HH.out), HB.out _ _⟩

set_option maxRecDepth 100000 in
set_option maxHeartbeats 1600000 in
theorem compare_any (A : Option Addr) (c : Nat) (l : List Part) (B : Option Addr) (d : Nat) (m : List Part) (w : World) (hr : RowP w w.heap.size A l) (hl : l.length ≤ 140737488351232) (hr2 : RowP w w.heap.size B m) (hl2 : m.length ≤ 140737488351232) :
    Calls Try.prog 17 #[.slice A l.length c, .slice B m.length d] w fun e w' => e = .returned (.int .i64 (M.cmpL l m)) ∧ Below w.heap.size w w' := by
  have HR := Lib.hid hr; clear hr
  have HR2 := Lib.hid hr2; clear hr2
  obtain ⟨z, hz⟩ : ∃ z, min l.length m.length = z := ⟨_, rfl⟩
  have hmin : (if m.length < l.length then (m.length : Int) else (l.length : Int)) = (z : Int) := by rw [← hz]; split <;> omega
  have HZ := Lib.hid hz
  have hz1 : z ≤ l.length := by omega
  have hz2 : z ≤ m.length := by omega
  clear hz
  go_enter Try.func17, Try.ntmps17
  go_wp2
  go_loopg [12] z (fun k i wr => ∃ (j : Nat), j ≤ z ∧ k = z - j ∧ i = .int .i64 j ∧ Hid (M.cmpL (l.drop j) (m.drop j) = M.cmpL l m) ∧ Hid (Below w.heap.size w wr))
  case atStart => exact ⟨0, by omega, by omega, rfl, by show _ = _; simp, Below.refl _ _⟩
  case round =>
    obtain ⟨j, hj, hgk, rfl, hs, hB⟩ := hrel
    have HG := Lib.hid hgk; clear hgk
    by_cases hlt : j < z
    · obtain ⟨p, b, off, hp, rfl, hb, hn, _⟩ := HR.out.part j (by omega)
      obtain ⟨q, b2, off2, hq, rfl, hb2, hn2, _⟩ := HR2.out.part j (by omega)
      have F1 : Hid (∀ W, Below w.heap.size w W → W.cell? ⟨b, off + j * 3, none⟩ = some (.bool p.t) ∧ W.cell? ⟨b, off + j * 3 + 1, none⟩ = some (.int .u64 (p.n : Int)) ∧ W.cell? ⟨b, off + j * 3 + 2, none⟩ = some (.string p.s)) := fun W hW => by
        obtain ⟨_, _, hc⟩ := HR.out.2 (by omega)
        obtain ⟨e, _, hc⟩ := hc
        injection e with e; injection e with e1 e2; subst e1; subst e2
        obtain ⟨g0, g1, g2⟩ := hc j p hp
        exact ⟨(hW.cell hb).trans g0, (hW.cell hb).trans g1, (hW.cell hb).trans g2⟩
      have F2 : Hid (∀ W, Below w.heap.size w W → W.cell? ⟨b2, off2 + j * 3, none⟩ = some (.bool q.t) ∧ W.cell? ⟨b2, off2 + j * 3 + 1, none⟩ = some (.int .u64 (q.n : Int)) ∧ W.cell? ⟨b2, off2 + j * 3 + 2, none⟩ = some (.string q.s)) := fun W hW => by
        obtain ⟨_, _, hc⟩ := HR2.out.2 (by omega)
        obtain ⟨e, _, hc⟩ := hc
        injection e with e; injection e with e1 e2; subst e1; subst e2
        obtain ⟨g0, g1, g2⟩ := hc j q hq
        exact ⟨(hW.cell hb2).trans g0, (hW.cell hb2).trans g1, (hW.cell hb2).trans g2⟩
      have HN := Lib.hid (M.cmpL_next hp hq)
      clear hp hq
      obtain ⟨v, hv⟩ : ∃ v, M.cmpP p q = v := ⟨_, rfl⟩
      have HV := Lib.hid hv
      have hcall := comparePart_any p q
      rw [hv] at hcall
      clear hv
      have hj1 : j < l.length := by omega
      have hj2 : j < m.length := by omega
      go_wp2
      refine wp_region_held_drew (S := fun W => Below w.heap.size w W) (by kernel_rfl) (hB.out.drew) (fun hS => ?_)
      refine wpAnyH_take (i := 0) (v := ?_) rfl (by kernel_rfl) (by kernel_rfl) (by kernel_rfl) (fun _ _ _ h => h) (Yields.yieldsIf (Or.inl ⟨by kernel_rfl, ?_⟩)) hS ?_
      rotate_left
      · first | (intro w; go_simp; done) | (intro w; go_simp; with_reducible rfl)
      refine wpAnyH_take (i := 1) (v := ?_) rfl (by kernel_rfl) (by kernel_rfl) (by kernel_rfl) (fun _ _ _ h => h) (Yields.yieldsIf (Or.inl ⟨by kernel_rfl, ?_⟩)) hS ?_
      rotate_left
      · first | (intro w; go_simp; done) | (intro w; go_simp; with_reducible rfl)
      refine wpAnyH_take (i := 2) (v := ?_) rfl (by kernel_rfl) (by kernel_rfl) (by kernel_rfl) (fun _ _ _ h => h) (Yields.yieldsIf (Or.inl ⟨by kernel_rfl, ?_⟩)) hS ?_
      rotate_left
      · first | (intro w; go_simp; done) | (intro w; go_simp; with_reducible rfl)
      refine wpAnyH_take (i := 3) (v := ?_) rfl (by kernel_rfl) (by kernel_rfl) (by kernel_rfl) (fun _ _ _ h => h) (Or.inl ⟨by kernel_rfl, fun W hW => ?_⟩) hS ?_
      rotate_left
      · obtain ⟨f0, f1, f2⟩ := F1.out W hW
        first | (go_simp; done) | (go_simp; with_reducible rfl)
      refine wpAnyH_take (i := 4) (v := ?_) rfl (by kernel_rfl) (by kernel_rfl) (by kernel_rfl) (fun _ _ _ h => h) (Yields.yieldsIf (Or.inl ⟨by kernel_rfl, ?_⟩)) hS ?_
      rotate_left
      · first | (intro w; go_simp; done) | (intro w; go_simp; with_reducible rfl)
      refine wpAnyH_take (i := 5) (v := ?_) rfl (by kernel_rfl) (by kernel_rfl) (by kernel_rfl) (fun _ _ _ h => h) (Yields.yieldsIf (Or.inl ⟨by kernel_rfl, ?_⟩)) hS ?_
      rotate_left
      · first | (intro w; go_simp; done) | (intro w; go_simp; with_reducible rfl)
      refine wpAnyH_take (i := 6) (v := ?_) rfl (by kernel_rfl) (by kernel_rfl) (by kernel_rfl) (fun _ _ _ h => h) (Yields.yieldsIf (Or.inl ⟨by kernel_rfl, ?_⟩)) hS ?_
      rotate_left
      · first | (intro w; go_simp; done) | (intro w; go_simp; with_reducible rfl)
      refine wpAnyH_take (i := 7) (v := ?_) rfl (by kernel_rfl) (by kernel_rfl) (by kernel_rfl) (fun _ _ _ h => h) (Or.inl ⟨by kernel_rfl, fun W hW => ?_⟩) hS ?_
      rotate_left
      · obtain ⟨f0, f1, f2⟩ := F2.out W hW
        first | (go_simp; done) | (go_simp; with_reducible rfl)
      refine wpAnyH_ready (rs := [8]) (by kernel_rfl) (by simp) ?_
      refine AllReadyH.cons rfl (fun K hK => ?_) AllReadyH.nil
      go_simp
      go_wp2_with (go_at_call 27; refine (hcall _).mono ?_; rintro e w2 ⟨rfl, hbb⟩)
      have hS3 : Below w.heap.size w w2 := hS.trans (hbb.mono hS.size)
      clear hbb
      refine hK.out _ _ hS3 (fun hS => ?_)
      clear hK K hS3
      refine wpAnyH_take (i := 9) (v := ?_) rfl (by kernel_rfl) (by kernel_rfl) (by kernel_rfl) (fun _ _ _ h => h) (Yields.yieldsIf (Or.inl ⟨by kernel_rfl, ?_⟩)) hS ?_
      rotate_left
      · first | (intro w; go_simp; done) | (intro w; go_simp; with_reducible rfl)
      refine wpAnyH_done (by kernel_rfl) ?_ _
      have HB2 : Hid (Below w.heap.size w w2) := hS
      clear hS
      rcases (show v = -1 ∨ v = 0 ∨ v = 1 by rw [← HV.out]; exact M.cmpP_is p q) with h | h | h
      · subst h
        go_wp2
        go_ret
        refine ⟨ret_int ?_, HB2.out⟩
        rw [← hs.out, HN.out, HV.out]; rfl
      · subst h
        go_wp2
        go_roundg (z - (j + 1))
        case measure => have := HG.out; omega
        case rel =>
          refine ⟨j + 1, by omega, rfl, by go_num, ?_, HB2⟩
          show _ = _
          rw [← hs.out, HN.out, HV.out, if_pos rfl]
      · subst h
        go_wp2
        go_ret
        refine ⟨ret_int ?_, HB2.out⟩
        rw [← hs.out, HN.out, HV.out]; rfl
    · obtain rfl : j = z := by omega
      have HF : Hid (M.cmpN l.length m.length = M.cmpL l m) := by show _ = _; rw [← hs.out]; exact (M.cmpL_last l m j HZ.out.symm).symm
      go_wp2_with (go_at_call 28; refine (cmpInt_any _ _ _).mono ?_; rintro e w' ⟨rfl, rfl⟩)
      go_ret
      exact ⟨ret_int HF.out, hB.out⟩
end Go.Proofs.Ytccjdajneoploaa
