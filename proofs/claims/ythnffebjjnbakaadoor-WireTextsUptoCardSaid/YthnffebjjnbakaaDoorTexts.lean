/-
  WireTexts: the walk of the law.
-/
import Derived.Test.YthnffebjjnbakaaDoorNumbers
namespace Go.Proofs.YthnffebjjnbakaaDoor
theorem txtR_form (o : Option (List Nat × Nat)) : ∃ (X : ByteArray) (P E : Int), txtR o = .tuple #[.string X, .int .i64 P, .int .i64 E] := by
  cases o with
  | none => exact ⟨_, _, _, rfl⟩
  | some q => obtain ⟨n, p⟩ := q; exact ⟨_, _, _, rfl⟩
namespace wireTexts
open Go.RowKit

set_option maxRecDepth 100000 in
set_option maxHeartbeats 3200000 in
theorem walk (A : Option Addr) (c : Nat) (l : List Nat) (s : ByteArray) (a m : Int) (w : World) (ht : Tab w) (hr : Row w w.heap.size A l) (hcap : l.length ≤ c) (hsm : l.length + s.size ≤ 1048576) (ha : -9223372036854775808 ≤ a ∧ a ≤ 9223372036854775807) (hm : -9223372036854775808 ≤ m ∧ m ≤ 9223372036854775807) :
    Calls Tryd.prog 4 #[.slice A l.length c, .string s, .int .i64 a, .int .i64 m] w fun e w' => e = .returned (.bool true) ∧ Below w.heap.size w w' := by
  have hn1 := fun W (h : Row W W.heap.size A l) => text_any A c l s W h (by omega)
  have hn2 := fun W (h : Row W W.heap.size A l) => rtext_any A c l s W h (by omega)
  have ht1 := fun W (h : Row W W.heap.size A l) => takeText_any A c l a m W h hcap (by omega) ha.1 ha.2 hm.1 hm.2
  have ht2 := fun W (h : Row W W.heap.size A l) => rtakeText_any A c l a m W h hcap (by omega) ha.1 ha.2 hm.1 hm.2
  obtain ⟨X, P, E, hT⟩ := txtR_form (M.takeT l a m)
  rw [hT] at ht1 ht2
  have hL256 : ∀ x ∈ l ++ (M.code s.size ++ byt s), x < 256 := by
    intro x hx
    rcases List.mem_append.1 hx with h | h
    · exact hr.1 x h
    · rcases List.mem_append.1 h with h | h
      · exact M.code_lt s.size (by omega) x h
      · exact byt_lt s x h
  obtain ⟨L, hL⟩ : ∃ L, l ++ (M.code s.size ++ byt s) = L := ⟨_, rfl⟩
  rw [hL] at hn1 hn2 hL256
  have HR := Lib.hid hr
  have HT := Lib.hid ht
  have H256 := Lib.hid hL256
  have HN1 := Lib.hid hn1
  have HN2 := Lib.hid hn2
  have HT1 := Lib.hid ht1
  have HT2 := Lib.hid ht2
  clear hr ht hT ha hm hL hL256 hn1 hn2 ht1 ht2 hcap hsm
  go_enter Tryd.func4, Tryd.ntmps4
  go_wp2_with fail
  refine (shown_any _ HT.out).mono ?_
  rintro e w1 ⟨rfl, hb1⟩
  have HR1 : Hid (Row w1 w1.heap.size A l) := HR.out.up hb1
  have HB1 := Lib.hid hb1
  clear hb1
  go_wp2_with fail
  refine (HT1.out _ HR1.out).mono ?_
  rintro e w2 ⟨rfl, hb2⟩
  have HR2 : Hid (Row w2 w2.heap.size A l) := HR1.out.up hb2
  have HB2 : Hid (Below w.heap.size w w2) := HB1.out.trans (hb2.mono HB1.out.size)
  clear hb2
  go_wp2_with fail
  refine (HT2.out _ HR2.out).mono ?_
  rintro e w3 ⟨rfl, hb3⟩
  have HR3 : Hid (Row w3 w3.heap.size A l) := HR2.out.up hb3
  have HB3 : Hid (Below w.heap.size w w3) := HB2.out.trans (hb3.mono HB2.out.size)
  clear hb3
  have hself : ∀ s : ByteArray, (s.toList == s.toList) = true := fun s => by simp
  go_wp2
  obtain ⟨S, hS⟩ : ∃ S, strB L = S := ⟨_, rfl⟩
  have HS := Lib.hid hS
  clear hS
  have hd3 : Below w3.heap.size w3 w3.drew := (Below.refl _ _).drew
  have HD3 := Lib.hid hd3
  clear hd3
  refine wp_region_any (by kernel_rfl) ?_
  try (change wpAny _ _ _ _ _ _ _ (World.drew _))
  refine wpAny_take (i := 0) (v := ?_) rfl (by kernel_rfl) (by kernel_rfl) (by kernel_rfl) (fun _ _ _ h => h) (Or.inl ⟨by rfl, ?_⟩) ?_
  rotate_left
  · first | (intro w; go_simp; done) | (intro w; go_simp; with_reducible rfl)
  refine wpAny_take (i := 1) (v := ?_) rfl (by kernel_rfl) (by kernel_rfl) (by kernel_rfl) (fun _ _ _ h => h) (Or.inl ⟨by rfl, ?_⟩) ?_
  rotate_left
  · first | (intro w; go_simp; done) | (intro w; go_simp; with_reducible rfl)
  refine wpAny_take (i := 2) (v := ?_) rfl (by kernel_rfl) (by kernel_rfl) (by kernel_rfl) (fun _ _ _ h => h) (Or.inl ⟨by rfl, ?_⟩) ?_
  rotate_left
  · first | (intro w; go_simp; done) | (intro w; go_simp; with_reducible rfl)
  refine wpAny_take (i := 3) (v := ?_) rfl (by kernel_rfl) (by kernel_rfl) (by kernel_rfl) (fun _ _ _ h => h) (Or.inl ⟨by rfl, ?_⟩) ?_
  rotate_left
  · first | (intro w; go_simp; done) | (intro w; go_simp; with_reducible rfl)
  refine wpAny_take (i := 6) (v := ?_) rfl (by kernel_rfl) (by kernel_rfl) (by kernel_rfl) (fun _ _ _ h => h) (Or.inl ⟨by rfl, ?_⟩) ?_
  rotate_left
  · first | (intro w; go_simp; done) | (intro w; go_simp; with_reducible rfl)
  refine wpAny_take (i := 7) (v := ?_) rfl (by kernel_rfl) (by kernel_rfl) (by kernel_rfl) (fun _ _ _ h => h) (Or.inl ⟨by rfl, ?_⟩) ?_
  rotate_left
  · first | (intro w; go_simp; done) | (intro w; go_simp; with_reducible rfl)
  refine wpAny_ready (rs := [4]) (by kernel_rfl) (by simp) ?_
  refine AllReady.cons rfl (fun K hK => ?_) ?_
  · go_simp
    go_wp2_with (go_at_call 18; refine (HN1.out _ (HR3.out.up HD3.out)).mono ?_; rintro e w4 ⟨g4, c4, rfl, ho4, hb4⟩)
    have HR4 : Hid (Row w4 w4.heap.size A l) := (HR3.out.up HD3.out).up hb4
    have HO4 : Hid (Row w4 w4.heap.size (some ⟨g4, 0, none⟩) L) := ho4.row H256.out ho4.lt.2
    have HB4 : Hid (Below w.heap.size w w4) := (HB3.out.trans (HD3.out.mono HB3.out.size)).trans (hb4.mono HB3.out.size)
    have hs4 := run_str _ c4 L w4 _ HO4.out
    rw [HS.out] at hs4
    clear ho4 hb4
    refine wpAny_ready (rs := [5, 8]) (by kernel_rfl) (by simp) ?_
    refine AllReady.cons rfl (fun K hK => ?_) ?_
    · go_simp
      refine hK _ _ ?_
      clear hK K
      refine wpAny_ready (rs := [8]) (by kernel_rfl) (by simp) ?_
      refine AllReady.cons rfl (fun K hK => ?_) ?_
      · go_simp
        go_wp2_with (go_at_call 19; refine (HN2.out _ HR4.out).mono ?_; rintro e w5 ⟨g5, c5, rfl, ho5, hb5⟩)
        have HB5 : Hid (Below w.heap.size w w5) := HB4.out.trans (hb5.mono HB4.out.size)
        have hs5 := run_str _ c5 L w5 _ (ho5.row H256.out ho5.lt.2)
        have hs6 := run_str _ c4 L w5 _ (HO4.out.up hb5)
        rw [HS.out] at hs5 hs6
        clear ho5 hb5
        refine wpAny_ready (rs := [9]) (by kernel_rfl) (by simp) ?_
        refine AllReady.cons rfl (fun K hK => ?_) ?_
        · go_simp
          refine hK _ _ ?_
          clear hK K
          refine wpAny_tail 10 (by kernel_rfl) rfl (by kernel_rfl) ?_
          simp only [List.drop_succ_cons, List.drop_zero]
          repeat (any_goals (first | go_big_quiet_step (fail) | quiet_step (fail)))
          refine wpQuiet_nil ?_
          intro _ hw'
          obtain ⟨nq, hw''⟩ := hw'
          subst hw''
          go_wp2
          go_ret
          exact ⟨ret_bool (by simp), below_drewN HB5.out _⟩
        exact AllReady.nil
      exact AllReady.nil
    refine AllReady.cons rfl (fun K hK => ?_) ?_
    · go_simp
      go_wp2_with (go_at_call 19; refine (HN2.out _ HR4.out).mono ?_; rintro e w5 ⟨g5, c5, rfl, ho5, hb5⟩)
      have HB5 : Hid (Below w.heap.size w w5) := HB4.out.trans (hb5.mono HB4.out.size)
      have hs5 := run_str _ c5 L w5 _ (ho5.row H256.out ho5.lt.2)
      have hs6 := run_str _ c4 L w5 _ (HO4.out.up hb5)
      rw [HS.out] at hs5 hs6
      clear ho5 hb5
      refine wpAny_ready (rs := [5, 9]) (by kernel_rfl) (by simp) ?_
      refine AllReady.cons rfl (fun K hK => ?_) ?_
      · go_simp
        refine hK _ _ ?_
        clear hK K
        refine wpAny_ready (rs := [9]) (by kernel_rfl) (by simp) ?_
        refine AllReady.cons rfl (fun K hK => ?_) ?_
        · go_simp
          refine hK _ _ ?_
          clear hK K
          refine wpAny_tail 10 (by kernel_rfl) rfl (by kernel_rfl) ?_
          simp only [List.drop_succ_cons, List.drop_zero]
          repeat (any_goals (first | go_big_quiet_step (fail) | quiet_step (fail)))
          refine wpQuiet_nil ?_
          intro _ hw'
          obtain ⟨nq, hw''⟩ := hw'
          subst hw''
          go_wp2
          go_ret
          exact ⟨ret_bool (by simp), below_drewN HB5.out _⟩
        exact AllReady.nil
      refine AllReady.cons rfl (fun K hK => ?_) ?_
      · go_simp
        refine hK _ _ ?_
        clear hK K
        refine wpAny_ready (rs := [5]) (by kernel_rfl) (by simp) ?_
        refine AllReady.cons rfl (fun K hK => ?_) ?_
        · go_simp
          refine hK _ _ ?_
          clear hK K
          refine wpAny_tail 10 (by kernel_rfl) rfl (by kernel_rfl) ?_
          simp only [List.drop_succ_cons, List.drop_zero]
          repeat (any_goals (first | go_big_quiet_step (fail) | quiet_step (fail)))
          refine wpQuiet_nil ?_
          intro _ hw'
          obtain ⟨nq, hw''⟩ := hw'
          subst hw''
          go_wp2
          go_ret
          exact ⟨ret_bool (by simp), below_drewN HB5.out _⟩
        exact AllReady.nil
      exact AllReady.nil
    exact AllReady.nil
  exact AllReady.nil
end wireTexts
end Go.Proofs.YthnffebjjnbakaaDoor
