/-
  Behind, the program's and the reference's.
-/
import Derived.Test.YtccjdajneoploaaText
namespace Go.Proofs.Ytccjdajneoploaa
open Go.RowKit

/-- What Behind answers. -/
def behR (s : ByteArray) : Value := if 0 < M.cut (byt s) then .tuple #[.string (strB (M.behind (byt s))), .bool true] else .tuple #[.string ⟨#[]⟩, .bool false]
theorem byt_extract (s : ByteArray) (m : Nat) : byt (s.extract 0 m) = (byt s).take m := by
  unfold byt
  rw [ByteArray.data_extract, Array.toList_extract]
  simp [List.map_take]
theorem size_extract0 (s : ByteArray) (m : Nat) (h : m ≤ s.size) : (s.extract 0 m).size = m := by
  rw [← byt_length, byt_extract, List.length_take, byt_length]; omega
theorem cut_none (s : ByteArray) (h : ∀ j, 0 ≤ j → j < s.size → (byt s)[j]?.getD 0 = 255) : behR s = .tuple #[.string ⟨#[]⟩, .bool false] := by
  have : M.cut (byt s) = 0 := M.cut_eq _ 0 (by omega) (fun j h1 h2 => h j h1 (by rwa [byt_length] at h2)) (by omega)
  unfold behR
  rw [this]; rfl
theorem cut_some (s : ByteArray) (m : Nat) (hm : m < s.size) (h : ∀ j, m + 1 ≤ j → j < s.size → (byt s)[j]?.getD 0 = 255) (hx : (s[m]'hm).toNat ≠ 255) : behR s = .tuple #[.string (strB ((byt s).take m ++ [(s[m]'hm).toNat + 1])), .bool true] := by
  have hb := byt_at s m hm
  have : M.cut (byt s) = m + 1 := M.cut_eq _ (m + 1) (by rw [byt_length]; omega) (fun j h1 h2 => h j h1 (by rwa [byt_length] at h2)) (fun _ => by rw [Nat.add_sub_cancel, hb]; exact hx)
  unfold behR M.behind
  rw [this, if_pos (by omega), Nat.add_sub_cancel, hb]
  rfl
theorem row_end {W : World} {B g m x y : Nat} {l : List Nat} (h : Row W B (some ⟨g, 0, none⟩) (l ++ [x])) (hm : l.length = m) (hy : y < 256) : Row (W.setCell ⟨g, m, none⟩ (.int .u8 (y : Int))) B (some ⟨g, 0, none⟩) (l ++ [y]) := by
  subst hm
  obtain ⟨h1, h2⟩ := h
  obtain ⟨b, off, e, hb, hc⟩ := h2 (by simp)
  injection e with e; injection e with e1 e2; subst e1; subst e2
  refine ⟨fun z hz => ?_, fun _ => ⟨g, 0, rfl, hb, fun j hj => ?_⟩⟩
  · rcases List.mem_append.1 hz with hz | hz
    · exact h1 z (List.mem_append.2 (.inl hz))
    · rw [List.mem_singleton.1 hz]; exact hy
  · rw [List.length_append, List.length_singleton] at hj
    rw [Nat.zero_add]
    by_cases hjl : j = l.length
    · subst hjl
      have := hc l.length (by simp)
      rw [Nat.zero_add] at this
      rw [World.cell?_setCell_same _ _ _ this]; simp
    · rw [World.cell?_setCell_other _ _ _ _ (fun e => by injection e; omega)]
      have := hc j (by simp; omega)
      rw [Nat.zero_add] at this
      rw [this, List.getElem?_append_left (by omega), List.getElem?_append_left (by omega)]

set_option maxRecDepth 100000 in
set_option maxHeartbeats 1600000 in
theorem behind_any (s : ByteArray) (w : World) (hs : s.size ≤ 140737488355328) :
    Calls Try.prog 19 #[.string s] w fun e w' => e = .returned (behR s) ∧ Below w.heap.size w w' := by
  go_enter Try.func19, Try.ntmps19
  go_wp2
  go_loopg [4] s.size (fun k i wr => ∃ (n : Nat) (q : Int), n ≤ s.size ∧ k = n ∧ i = .int .i64 q ∧ Hid (q = (n : Int) - 1) ∧ Hid (∀ j, n ≤ j → j < s.size → (byt s)[j]?.getD 0 = 255) ∧ Hid (Below w.heap.size w wr))
  case atStart => exact ⟨s.size, _, by omega, rfl, rfl, rfl, fun j h1 h2 => by omega, Below.refl _ _⟩
  case round =>
    obtain ⟨n, q, hn, hgk, rfl, hq, hall, hB⟩ := hrel
    have HG := Lib.hid hgk; clear hgk
    by_cases h0 : n = 0
    · have hq0 : q < 0 := by have := hq.out; omega
      subst h0
      have HR := Lib.hid (cut_none s hall.out)
      clear hq
      go_wp2
      go_ret2
      exact ⟨by rw [HR.out]; rfl, hB.out⟩
    · obtain ⟨m, rfl⟩ : ∃ m, n = m + 1 := ⟨n - 1, by omega⟩
      obtain rfl : q = (m : Int) := by have := hq.out; omega
      have hm : m < s.size := by omega
      by_cases h5 : (s[m]'hm).toNat = 255
      · have HA : Hid (∀ j, m ≤ j → j < s.size → (byt s)[j]?.getD 0 = 255) := fun j h1 h2 => by
          by_cases hj : j = m
          · subst hj; rw [byt_at s j h2]; exact h5
          · exact hall.out j (by omega) h2
        go_wp2
        go_roundg m
        case measure => have := HG.out; omega
        case rel => exact ⟨m, _, by omega, rfl, rfl, rfl, HA, hB⟩
      · have HR := Lib.hid (cut_some s m hm hall.out h5)
        obtain ⟨x, hx⟩ : ∃ x, (s[m]'hm).toNat = x := ⟨_, rfl⟩
        have hx256 : x < 256 := by rw [← hx]; exact (s[m]'hm).toNat_lt
        rw [hx] at HR h5
        have hz : ((x : Int) == 255) = false := by simp; omega
        obtain ⟨d, W, hcv, hrow, hbel, hun, hd⟩ := run_byt (s.extract 0 (m + 1)) wr
        rw [size_extract0 s (m + 1) (by omega)] at hcv hun hd
        have hbt : byt (s.extract 0 (m + 1)) = (byt s).take m ++ [x] := by rw [byt_extract, byt_next s m hm, hx]
        rw [hbt] at hrow
        have hlen : ((byt s).take m).length = m := by rw [List.length_take, byt_length]; omega
        have hcell : W.cell? ⟨wr.heap.size, m, none⟩ = some (.int .u8 (x : Int)) := by
          obtain ⟨b, off, e, _, hc⟩ := hrow.2 (by simp)
          injection e with e; injection e with e1 e2; subst e1; subst e2
          have := hc m (by simp [hlen])
          rw [Nat.zero_add] at this
          rw [this, List.getElem?_append_right (by omega), hlen]; simp
        have hun2 := hun m (by omega)
        have hrow2 := row_end hrow hlen (show x + 1 < 256 by omega)
        have hst := run_str (some ⟨wr.heap.size, 0, none⟩) d ((byt s).take m ++ [x + 1]) _ _ hrow2
        have elen : ((byt s).take m ++ [x + 1]).length = m + 1 := by simp [hlen]
        rw [elen] at hst
        obtain ⟨T, hT⟩ : ∃ T, strB ((byt s).take m ++ [x + 1]) = T := ⟨_, rfl⟩
        rw [hT] at hst HR
        have HB2 : Hid (Below w.heap.size w (W.setCell ⟨wr.heap.size, m, none⟩ (.int .u8 ((x + 1 : Nat) : Int)))) := (hB.out.trans (hbel.mono hB.out.size)).setCell (p := ⟨wr.heap.size, m, none⟩) (by have := hB.out.size; exact this) _
        have ex : ((x + 1 : Nat) : Int) = (x : Int) + 1 := by omega
        rw [ex] at hst HB2
        have hx1 : (x : Int) + 1 < 256 := by omega
        have hmd : m < d := by omega
        clear hrow hbel hun hbt hlen hrow2 elen hT h5 ex hall hq
        go_wp2
        go_ret2
        exact ⟨by rw [HR.out]; rfl, HB2.out⟩

set_option maxRecDepth 100000 in
set_option maxHeartbeats 1600000 in
theorem rbehind_any (s : ByteArray) (w : World) (hs : s.size ≤ 140737488355328) :
    Calls Try.prog 20 #[.string s] w fun e w' => e = .returned (behR s) ∧ Below w.heap.size w w' := by
  go_enter Try.func20, Try.ntmps20
  go_wp2
  go_loopg [4] s.size (fun k i wr => ∃ (n : Nat), n ≤ s.size ∧ k = n ∧ i = .int .i64 n ∧ Hid (∀ j, n ≤ j → j < s.size → (byt s)[j]?.getD 0 = 255) ∧ Hid (Below w.heap.size w wr))
  case atStart => exact ⟨s.size, by omega, rfl, rfl, fun j h1 h2 => by omega, Below.refl _ _⟩
  case round =>
    obtain ⟨n, hn, hgk, rfl, hall, hB⟩ := hrel
    have HG := Lib.hid hgk; clear hgk
    by_cases h0 : n = 0
    · subst h0
      have HR := Lib.hid (cut_none s hall.out)
      go_wp2
      go_ret2
      exact ⟨by rw [HR.out]; rfl, hB.out⟩
    · obtain ⟨m, rfl⟩ : ∃ m, n = m + 1 := ⟨n - 1, by omega⟩
      have hm : m < s.size := by omega
      have e1 : ((m + 1 : Nat) : Int) - 1 = (m : Int) := by omega
      by_cases h5 : (s[m]'hm).toNat = 255
      · have HA : Hid (∀ j, m ≤ j → j < s.size → (byt s)[j]?.getD 0 = 255) := fun j h1 h2 => by
          by_cases hj : j = m
          · subst hj; rw [byt_at s j h2]; exact h5
          · exact hall.out j (by omega) h2
        go_wp2
        go_roundg m
        case measure => have := HG.out; omega
        case rel => exact ⟨m, by omega, rfl, by go_num, HA, hB⟩
      · have HR := Lib.hid (cut_some s m hm hall.out h5)
        obtain ⟨x, hx⟩ : ∃ x, (s[m]'hm).toNat = x := ⟨_, rfl⟩
        have hx256 : x < 256 := by rw [← hx]; exact (s[m]'hm).toNat_lt
        rw [hx] at HR h5
        have hz : ((x : Int) == 255) = false := by simp; omega
        have hx1 : (x : Int) + 1 < 256 := by omega
        have hw1 : IntKind.i64.wrap (m : Int) = (m : Int) := IntWalk.i64_in _ (by omega)
        have hw2 : IntKind.u8.wrap ((x : Int) + 1) = (x : Int) + 1 := by rw [IntKind.wrap_u8']; omega
        have hm2 : m ≤ s.size := by omega
        have hm3 : ¬ 9223372036854775807 < m + 1 := by omega
        have hex := size_extract0 s m (by omega)
        have HJ : Hid (s.extract 0 m ++ strB [x + 1] = strB ((byt s).take m ++ [x + 1])) := by
          show _ = _
          refine byt_inj ?_
          rw [byt_strB _ (by
            intro y hy
            rcases List.mem_append.1 hy with h | h
            · exact byt_lt s y (List.mem_of_mem_take h)
            · rw [List.mem_singleton.1 h]; omega)]
          rw [← byt_extract]
          unfold byt
          simp [ByteArray.data_append, strB, Nat.mod_eq_of_lt (show x + 1 < 256 by omega)]
        obtain ⟨P, hP⟩ : ∃ P, s.extract 0 m = P := ⟨_, rfl⟩
        have hst := run_str (some ⟨wr.heap.size, 0, none⟩) 1 [x + 1] _ _ ((row_one wr (x + 1) (by omega)).keep (w' := (wr.alloc (.cells #[.int .u8 ((x + 1 : Nat) : Int)] 5)).drew) (fun _ _ => rfl))
        have hT1 : (strB [x + 1]).size = 1 := strB_size _
        obtain ⟨T, hT⟩ : ∃ T, strB [x + 1] = T := ⟨_, rfl⟩
        rw [hT] at HJ hT1
        simp only [hT] at hst
        rw [hP] at HJ hex
        obtain ⟨U, hU⟩ : ∃ U, P ++ T = U := ⟨_, rfl⟩
        rw [hU] at HJ
        have ex : ((x + 1 : Nat) : Int) = (x : Int) + 1 := by omega
        simp only [ex, List.length_singleton] at hst
        have HST := Lib.hid hst
        clear hT ex h5 hall hst
        go_wp2
        refine wp_region_held_drew (S := fun W => Below w.heap.size w W) (by kernel_rfl) (hB.out.drew) (fun hS => ?_)
        refine wpAnyH_take (i := 0) (v := ?_) rfl (by kernel_rfl) (by kernel_rfl) (by kernel_rfl) (fun _ _ _ h => h) (Yields.yieldsIf (Or.inl ⟨by kernel_rfl, ?_⟩)) hS ?_
        rotate_left
        · first | (intro w; go_simp; done) | (intro w; go_simp; with_reducible rfl)
        refine wpAnyH_take (i := 1) (v := ?_) rfl (by kernel_rfl) (by kernel_rfl) (by kernel_rfl) (fun _ _ _ h => h) (Yields.yieldsIf (Or.inl ⟨by kernel_rfl, ?_⟩)) hS ?_
        rotate_left
        · first | (intro w; go_simp; done) | (intro w; go_simp; with_reducible rfl)
        refine wpAnyH_take (i := 2) (v := ?_) rfl (by kernel_rfl) (by kernel_rfl) (by kernel_rfl) (fun _ _ _ h => h) (Yields.yieldsIf (Or.inl ⟨by kernel_rfl, ?_⟩)) hS ?_
        rotate_left
        · first | (intro w; go_simp; done) | (intro w; go_simp; with_reducible rfl)
        refine wpAnyH_take (i := 3) (v := ?_) rfl (by kernel_rfl) (by kernel_rfl) (by kernel_rfl) (fun _ _ _ h => h) (Yields.yieldsIf (Or.inl ⟨by kernel_rfl, ?_⟩)) hS ?_
        rotate_left
        · first | (intro w; go_simp; done) | (intro w; go_simp; with_reducible rfl)
        refine wpAnyH_take (i := 4) (v := ?_) rfl (by kernel_rfl) (by kernel_rfl) (by kernel_rfl) (fun _ _ _ h => h) (Yields.yieldsIf (Or.inl ⟨by kernel_rfl, ?_⟩)) hS ?_
        rotate_left
        · first | (intro w; go_simp; done) | (intro w; go_simp; with_reducible rfl)
        refine wpAnyH_take (i := 5) (v := ?_) rfl (by kernel_rfl) (by kernel_rfl) (by kernel_rfl) (fun _ _ _ h => h) (Yields.yieldsIf (Or.inl ⟨by kernel_rfl, ?_⟩)) hS ?_
        rotate_left
        · first | (intro w; go_simp; done) | (intro w; go_simp; with_reducible rfl)
        refine wpAnyH_take (i := 6) (v := ?_) rfl (by kernel_rfl) (by kernel_rfl) (by kernel_rfl) (fun _ _ _ h => h) (Yields.yieldsIf (Or.inl ⟨by kernel_rfl, ?_⟩)) hS ?_
        rotate_left
        · first | (intro w; go_simp; done) | (intro w; go_simp; with_reducible rfl)
        refine wpAnyH_take (i := 7) (v := ?_) rfl (by kernel_rfl) (by kernel_rfl) (by kernel_rfl) (fun _ _ _ h => h) (Yields.yieldsIf (Or.inl ⟨by kernel_rfl, ?_⟩)) hS ?_
        rotate_left
        · first | (intro w; go_simp; done) | (intro w; go_simp; with_reducible rfl)
        refine wpAnyH_take (i := 8) (v := ?_) rfl (by kernel_rfl) (by kernel_rfl) (by kernel_rfl) (fun _ _ _ h => h) (Yields.yieldsIf (Or.inl ⟨by kernel_rfl, ?_⟩)) hS ?_
        rotate_left
        · first | (intro w; go_simp; done) | (intro w; go_simp; with_reducible rfl)
        refine wpAnyH_ready (rs := [9]) (by kernel_rfl) (by simp) ?_
        refine AllReadyH.cons rfl (fun K hK => ?_) AllReadyH.nil
        go_simp
        refine hK.out _ _ ((hB.out.alloc hB.out.size _).drew) (fun hS => ?_)
        clear hK K
        have hst := HST.out
        refine wpAnyH_ready (rs := [10]) (by kernel_rfl) (by simp) ?_
        refine AllReadyH.cons rfl (fun K hK => ?_) AllReadyH.nil
        go_simp
        refine hK.out _ _ hS (fun hS => ?_)
        clear hK K hst
        refine wpAnyH_take (i := 11) (v := ?_) rfl (by kernel_rfl) (by kernel_rfl) (by kernel_rfl) (fun _ _ _ h => h) (Yields.yieldsIf (Or.inl ⟨by kernel_rfl, ?_⟩)) hS ?_
        rotate_left
        · first | (intro w; go_simp; done) | (intro w; go_simp; with_reducible rfl)
        refine wpAnyH_take (i := 12) (v := ?_) rfl (by kernel_rfl) (by kernel_rfl) (by kernel_rfl) (fun _ _ _ h => h) (Yields.yieldsIf (Or.inl ⟨by kernel_rfl, ?_⟩)) hS ?_
        rotate_left
        · first | (intro w; go_simp; done) | (intro w; go_simp; with_reducible rfl)
        refine wpAnyH_take (i := 13) (v := ?_) rfl (by kernel_rfl) (by kernel_rfl) (by kernel_rfl) (fun _ _ _ h => h) (Yields.yieldsIf (Or.inl ⟨by kernel_rfl, ?_⟩)) hS ?_
        rotate_left
        · first | (intro w; go_simp; done) | (intro w; go_simp; with_reducible rfl)
        refine wpAnyH_done (by kernel_rfl) ?_ _
        go_wp2
        go_ret2
        exact ⟨by rw [HR.out, ← HJ.out]; rfl, hS⟩
end Go.Proofs.Ytccjdajneoploaa
