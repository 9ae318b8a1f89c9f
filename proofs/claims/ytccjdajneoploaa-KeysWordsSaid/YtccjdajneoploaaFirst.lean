/-
  The reference's first.
-/
import Derived.Test.YtccjdajneoploaaTPart
import Derived.StillTailTactics
namespace Go.Proofs.Ytccjdajneoploaa
open Go.RowKit

/-- What first answers: the part that begins a string, and how many bytes it has; 0: there is none. -/
def Firsts (s : ByteArray) (w : World) (e : Ending) (w' : World) : Prop :=
  ((∃ p m, M.take1 (byt s) = some (p, m) ∧ e = .returned (.tuple #[pv p, .int .i64 ((m : Nat) : Int)])) ∨ (M.take1 (byt s) = none ∧ ∃ p, e = .returned (.tuple #[pv p, .int .i64 0]))) ∧ Below w.heap.size w w'
theorem byt_cons (s : ByteArray) (h : 0 < s.size) : byt s = (s[0]'h).toNat :: (byt s).drop 1 := by
  have := drop_at s 0 h
  simpa using this
theorem first_num (s : ByteArray) (h : 9 ≤ s.size) (hx : (s[0]'(by omega)).toNat = 1) : M.take1 (byt s) = some (⟨false, M.num s 1 8, ⟨#[]⟩⟩, 9) := by
  rw [byt_cons s (by omega), hx]
  simp only [M.take1, if_true]
  rw [List.length_drop, byt_length, if_pos (by omega)]
  rfl
theorem first_short (s : ByteArray) (h : 0 < s.size) (h9 : s.size < 9) (hx : (s[0]'h).toNat = 1) : M.take1 (byt s) = none := by
  rw [byt_cons s h, hx]
  simp only [M.take1, if_true]
  rw [List.length_drop, byt_length, if_neg (by omega)]
theorem first_text (s : ByteArray) (h : 0 < s.size) (hx : (s[0]'h).toNat = 2) : M.take1 (byt s) = (M.untA [] 1 ((byt s).drop 1)).map fun q => (⟨true, 0, strB q.1⟩, q.2) := by
  rw [byt_cons s h, hx]
  simp only [M.take1]
  rw [if_neg (by decide), if_pos trivial]
  unfold M.untA
  rw [List.drop_succ_cons, List.drop_zero, Option.map_map]
  congr 1; funext q
  simp [Nat.add_comm]
theorem first_else (s : ByteArray) (h : 0 < s.size) (h1 : (s[0]'h).toNat ≠ 1) (h2 : (s[0]'h).toNat ≠ 2) : M.take1 (byt s) = none := by
  rw [byt_cons s h]
  simp [M.take1, h1, h2]

set_option maxRecDepth 100000 in
set_option maxHeartbeats 1600000 in
theorem first_a (s : ByteArray) (w : World) (hs : s.size ≤ 140737488355328) (h0 : 9 ≤ s.size) (hx : (s[0]'(by omega)).toNat = 1) :
    Calls Try.prog 25 #[.string s] w (Firsts s w) := by
  have HT := Lib.hid (first_num s h0 hx)
  have h00 : 0 < s.size := by omega
  have h9 : decide ((9 : Int) ≤ (s.size : Int)) = true := decide_eq_true (by omega)
  have hmx : Try.prog.follows .mixedOrders = true := by kernel_rfl
  have k0 := (Blok.new w 41 [.bool false, .int .u64 0, .string ⟨#[]⟩]).alloc (.cells #[.bool false, .int .u64 0, .string ⟨#[]⟩] 41)
  have k1 := Blok.new (w.alloc (.cells #[.bool false, .int .u64 0, .string ⟨#[]⟩] 41)) 41 [.bool false, .int .u64 0, .string ⟨#[]⟩]
  rw [World.size_alloc] at k1
  have K0 := Lib.hid k0
  have K1 := Lib.hid k1
  clear k0 k1
  go_enter Try.func25, Try.ntmps25
  go_wp2
  go_loopg [5] 8 (fun k q wr => ∃ (j i : Nat) (V : Int), j ≤ 8 ∧ k = 8 - j ∧ q = .int .i64 (i : Int) ∧ Hid (i = 1 + j) ∧ Hid (V = ((M.num s 1 j : Nat) : Int)) ∧ Hid (Blok wr w.heap.size 41 [.bool false, .int .u64 0, .string ⟨#[]⟩]) ∧ Hid (Blok wr (w.heap.size + 1) 41 [.bool false, .int .u64 V, .string ⟨#[]⟩]) ∧ Hid (Below w.heap.size w wr))
  case atStart => exact ⟨0, 1, 0, by omega, by omega, rfl, rfl, by show _ = _; simp [M.num, M.unb], K0.out, K1.out, two_boxes w _ _⟩
  case round =>
    obtain ⟨j, i, V, hj, hgk, rfl, hi, hV, hb0, hb1, hB⟩ := hrel
    have HGK := Lib.hid hgk; clear hgk
    by_cases hlt : j < 8
    · have hil : i < s.size := by have := hi.out; omega
      have hi9 : i < 9 := by have := hi.out; omega
      obtain ⟨y, hy⟩ : ∃ y, (s[i]'hil).toNat = y := ⟨_, rfl⟩
      have hwy : IntKind.u64.wrap (y : Int) = (y : Int) := by rw [IntKind.wrap_u64]; have := (s[i]'hil).toNat_lt; omega
      obtain ⟨hw, hor⟩ := num_step s 1 j (by omega) (by have := hi.out; omega) V hV.out y (by have := hi.out; subst this; exact hy)
      obtain ⟨V2, hV2⟩ : ∃ V2 : Int, ((M.num s 1 (j + 1) : Nat) : Int) = V2 := ⟨_, rfl⟩
      rw [hV2] at hor
      have HV2 := Lib.hid hV2
      have c1 : wr.cell? ⟨w.heap.size + 1, 1, none⟩ = some (.int .u64 V) := hb1.out.cell 1
      have f1 := hb1.out.frozen 1
      have HN1 := Lib.hid (hb1.out.store 1 (.int .u64 V2))
      have HN0 := Lib.hid (hb0.out.far (p := ⟨w.heap.size + 1, 1, none⟩) (by show w.heap.size ≠ w.heap.size + 1; omega) (.int .u64 V2))
      have HB2 := Lib.hid (hB.out.setCell (p := ⟨w.heap.size + 1, 1, none⟩) (by show _ ≤ w.heap.size + 1; omega) (.int .u64 V2))
      clear hV2
      go_wp2
      go_still_tail 9, hmx
      go_wp2
      go_roundg (8 - (j + 1))
      case measure => have := HGK.out; omega
      case rel => exact ⟨j + 1, i + 1, V2, by omega, rfl, by go_num, by show _ = _; have := hi.out; omega, HV2.out.symm, HN0.out, HN1.out, HB2.out.drew⟩
    · obtain rfl : j = 8 := by omega
      have hi9 : ¬ i < 9 := by have := hi.out; omega
      have c0 : wr.cell? ⟨w.heap.size + 1, 0, none⟩ = some (.bool false) := hb1.out.cell 0
      have c1 : wr.cell? ⟨w.heap.size + 1, 1, none⟩ = some (.int .u64 V) := hb1.out.cell 1
      have c2 : wr.cell? ⟨w.heap.size + 1, 2, none⟩ = some (.string ⟨#[]⟩) := hb1.out.cell 2
      have d0 : wr.cell? ⟨w.heap.size, 0, none⟩ = some (.bool false) := hb0.out.cell 0
      have d1 : wr.cell? ⟨w.heap.size, 1, none⟩ = some (.int .u64 0) := hb0.out.cell 1
      have d2 : wr.cell? ⟨w.heap.size, 2, none⟩ = some (.string ⟨#[]⟩) := hb0.out.cell 2
      have g0 := hb0.out.frozen 0
      have g1 := hb0.out.frozen 1
      have g2 := hb0.out.frozen 2
      go_wp2
      refine bodyPost_ret (v := .tuple #[.agg #[.bool false, .int .u64 V, .string ⟨#[]⟩], .int .i64 9]) (by simp [results, Try.f25, go_sem, d0, d1, d2]) rfl ?_
      exact ⟨.inl ⟨⟨false, M.num s 1 8, ⟨#[]⟩⟩, 9, HT.out, by unfold pv; simp only; rw [← hV.out]; rfl⟩, ((hB.out.setCell (p := ⟨w.heap.size, 0, none⟩) (Nat.le_refl _) _).setCell (p := ⟨w.heap.size, 1, none⟩) (Nat.le_refl _) _).setCell (p := ⟨w.heap.size, 2, none⟩) (Nat.le_refl _) _⟩

set_option maxRecDepth 100000 in
set_option maxHeartbeats 1600000 in
theorem first_c (s : ByteArray) (w : World) (_hs : s.size ≤ 140737488355328) (h0 : 0 < s.size) (h1 : ¬ ((s[0]'h0).toNat = 1 ∧ 9 ≤ s.size)) (h2 : (s[0]'h0).toNat ≠ 2) :
    Calls Try.prog 25 #[.string s] w (Firsts s w) := by
  have HT : Hid (M.take1 (byt s) = none) := by
    show _ = _
    by_cases h : (s[0]'h0).toNat = 1
    · exact first_short s h0 (by have : ¬ 9 ≤ s.size := fun h9 => h1 ⟨h, h9⟩; omega) h
    · exact first_else s h0 h h2
  obtain ⟨x, hx⟩ : ∃ x, (s[0]'h0).toNat = x := ⟨_, rfl⟩
  rw [hx] at h1 h2
  have h2b : ((x : Int) == 2) = false := beq_eq_false_iff_ne.2 (by omega)
  by_cases hx1 : x = 1
  · subst hx1
    have h9 : decide ((9 : Int) ≤ (s.size : Int)) = false := decide_eq_false (by intro h; exact h1 ⟨rfl, by omega⟩)
    clear h1 h2
    go_enter Try.func25, Try.ntmps25
    go_wp2
    refine bodyPost_ret (v := .tuple #[.agg #[.bool false, .int .u64 0, .string ⟨#[]⟩], .int .i64 0]) (by simp [results, Try.f25, go_sem]) rfl ?_
    exact ⟨.inr ⟨HT.out, ⟨false, 0, ⟨#[]⟩⟩, rfl⟩, (Below.refl _ w).alloc (Nat.le_refl _) _⟩
  · have h1b : ((x : Int) == 1) = false := beq_eq_false_iff_ne.2 (by omega)
    clear h1 h2 hx1
    go_enter Try.func25, Try.ntmps25
    go_wp2
    refine bodyPost_ret (v := .tuple #[.agg #[.bool false, .int .u64 0, .string ⟨#[]⟩], .int .i64 0]) (by simp [results, Try.f25, go_sem]) rfl ?_
    exact ⟨.inr ⟨HT.out, ⟨false, 0, ⟨#[]⟩⟩, rfl⟩, (Below.refl _ w).alloc (Nat.le_refl _) _⟩

set_option maxRecDepth 100000 in
set_option maxHeartbeats 1600000 in
theorem first_b (s : ByteArray) (w : World) (hs : s.size ≤ 140737488355328) (h0 : 0 < s.size) (hx : (s[0]'h0).toNat = 2) :
    Calls Try.prog 25 #[.string s] w (Firsts s w) := by
  have HT := Lib.hid (first_text s h0 hx)
  have k0 := Blok.new w 41 [.bool false, .int .u64 0, .string ⟨#[]⟩]
  have K0 := Lib.hid k0
  clear k0
  go_enter Try.func25, Try.ntmps25
  go_wp2
  go_loopg [6, 7] (s.size - 1) (fun k o q wr => ∃ (acc : List Nat) (A : Option Addr) (c i : Nat), i ≤ s.size ∧ k = s.size - i ∧ o = .slice A acc.length c ∧ q = .int .i64 (i : Int) ∧ acc.length ≤ i ∧ Hid (M.untA acc i ((byt s).drop i) = M.untA [] 1 ((byt s).drop 1)) ∧ Hid (∀ y ∈ acc, y < 256) ∧ Hid (Gr wr (w.heap.size + 1) A c acc) ∧ Hid (Blok wr w.heap.size 41 [.bool false, .int .u64 0, .string ⟨#[]⟩]) ∧ Hid (w.heap.size + 1 ≤ wr.heap.size) ∧ Hid (Below w.heap.size w wr))
  case atStart => exact ⟨[], none, 0, 1, by omega, by omega, rfl, rfl, by simp, rfl, by show ∀ y ∈ ([] : List Nat), _; simp, Gr.nil _ _, K0.out, by show _ ≤ _; simp, (Below.refl _ w).alloc (Nat.le_refl _) _⟩
  case round =>
    obtain ⟨acc, A, c, i, hi, hgk, rfl, rfl, hai, hinv, hac, hG, hb0, hsz, hB⟩ := hrel
    have HGK := Lib.hid hgk; clear hgk
    have d0 : wr.cell? ⟨w.heap.size, 0, none⟩ = some (.bool false) := hb0.out.cell 0
    have d1 : wr.cell? ⟨w.heap.size, 1, none⟩ = some (.int .u64 0) := hb0.out.cell 1
    have d2 : wr.cell? ⟨w.heap.size, 2, none⟩ = some (.string ⟨#[]⟩) := hb0.out.cell 2
    have g0 := hb0.out.frozen 0
    have g1 := hb0.out.frozen 1
    have g2 := hb0.out.frozen 2
    have HBS : Hid (∀ v0 v1 v2, Below w.heap.size w (((wr.setCell ⟨w.heap.size, 0, none⟩ v0).setCell ⟨w.heap.size, 1, none⟩ v1).setCell ⟨w.heap.size, 2, none⟩ v2)) := fun v0 v1 v2 => ((hB.out.setCell (p := ⟨w.heap.size, 0, none⟩) (Nat.le_refl _) _).setCell (p := ⟨w.heap.size, 1, none⟩) (Nat.le_refl _) _).setCell (p := ⟨w.heap.size, 2, none⟩) (Nat.le_refl _) _
    by_cases hlt : i + 1 < s.size
    · have hil : i < s.size := by omega
      obtain ⟨x, hxe⟩ : ∃ x, (s[i]'hil).toNat = x := ⟨_, rfl⟩
      obtain ⟨y, hye⟩ : ∃ y, (s[i + 1]'hlt).toNat = y := ⟨_, rfl⟩
      have hx256 : x < 256 := by rw [← hxe]; exact (s[i]'hil).toNat_lt
      have HD : Hid ((byt s).drop i = x :: y :: (byt s).drop (i + 2)) := by show _ = _; rw [drop_at s i hil, drop_at s (i + 1) hlt, hxe, hye]
      have hlt2 : (i : Int) + 1 < (s.size : Int) := by omega
      by_cases h0x : x = 0
      · subst h0x
        by_cases hy1 : y = 1
        · subst hy1
          have HR : Hid (M.take1 (byt s) = some (⟨true, 0, strB acc⟩, i + 2)) := by show _ = _; rw [HT.out, ← hinv.out, HD.out, M.untA_end]; rfl
          have hst := run_str A c acc wr _ (hG.out.row hac.out)
          obtain ⟨T, hT⟩ : ∃ T, strB acc = T := ⟨_, rfl⟩
          rw [hT] at hst HR
          clear hT
          go_wp2
          refine bodyPost_ret (v := .tuple #[.agg #[.bool true, .int .u64 0, .string T], .int .i64 ((i : Int) + 2)]) (by simp [results, Try.f25, go_sem, d0, d1, d2]) rfl ?_
          exact ⟨.inl ⟨⟨true, 0, T⟩, i + 2, HR.out, by simp [pv]⟩, HBS.out _ _ _⟩
        · have hyb : ((y : Int) == 1) = false := beq_eq_false_iff_ne.2 (by omega)
          by_cases hy2 : y = 255
          · subst hy2
            obtain ⟨A2, c2, w2, hap, hg2, hb2⟩ := hG.out.one 0 (by decide) 42 (by omega) hsz.out
            have HAP := Lib.hid hap
            have HG2 := Lib.hid hg2
            have HI : Hid (M.untA (acc ++ [0]) (i + 2) ((byt s).drop (i + 2)) = M.untA [] 1 ((byt s).drop 1)) := by show _ = _; rw [← hinv.out, HD.out, M.untA_zero]
            have HAC : Hid (∀ y ∈ acc ++ [0], y < 256) := fun y hy => by
              rcases List.mem_append.1 hy with h | h
              · exact hac.out y h
              · rw [List.mem_singleton.1 h]; decide
            have HB2 : Hid (Below w.heap.size w w2) := hB.out.trans (hb2.mono (by omega))
            have HK2 := Lib.hid (hb0.out.below hb2 (by omega))
            have HS2 : Hid (w.heap.size + 1 ≤ w2.heap.size) := Nat.le_trans hsz.out hb2.size
            clear hap hg2 hb2 d0 d1 d2 g0 g1 g2
            go_wp2_with (at_builtin; refine wpList_append_run rfl _ _ _ _ rfl _ _ rfl rfl HAP.out ?_; clear HAP)
            go_roundg (s.size - (i + 2))
            case measure => have := HGK.out; omega
            case rel => exact ⟨acc ++ [0], A2, c2, i + 2, by omega, rfl, by simp, by go_num, by simp; omega, HI, HAC, HG2, HK2, HS2, HB2⟩
          · have hyc : ((y : Int) == 255) = false := beq_eq_false_iff_ne.2 (by omega)
            have HR : Hid (M.take1 (byt s) = none) := by show _ = _; rw [HT.out, ← hinv.out, HD.out, M.untA_bad _ _ _ _ hy1 hy2]; rfl
            clear hy1 hy2
            go_wp2
            refine bodyPost_ret (v := .tuple #[.agg #[.bool false, .int .u64 0, .string ⟨#[]⟩], .int .i64 0]) (by simp [results, Try.f25, go_sem, d0, d1, d2]) rfl ?_
            exact ⟨.inr ⟨HR.out, ⟨false, 0, ⟨#[]⟩⟩, rfl⟩, HBS.out _ _ _⟩
      · have hxb : ((x : Int) == 0) = false := beq_eq_false_iff_ne.2 (by omega)
        obtain ⟨A2, c2, w2, hap, hg2, hb2⟩ := hG.out.one x hx256 42 (by omega) hsz.out
        have HAP := Lib.hid hap
        have HG2 := Lib.hid hg2
        have HI : Hid (M.untA (acc ++ [x]) (i + 1) ((byt s).drop (i + 1)) = M.untA [] 1 ((byt s).drop 1)) := by show _ = _; rw [← hinv.out, drop_at s i hil, hxe, M.untA_pos _ _ _ _ h0x]
        have HAC : Hid (∀ y ∈ acc ++ [x], y < 256) := fun y hy => by
          rcases List.mem_append.1 hy with h | h
          · exact hac.out y h
          · rw [List.mem_singleton.1 h]; exact hx256
        have HB2 : Hid (Below w.heap.size w w2) := hB.out.trans (hb2.mono (by omega))
        have HK2 := Lib.hid (hb0.out.below hb2 (by omega))
        have HS2 : Hid (w.heap.size + 1 ≤ w2.heap.size) := Nat.le_trans hsz.out hb2.size
        clear hap hg2 hb2 d0 d1 d2 g0 g1 g2 h0x
        go_wp2_with (at_builtin; refine wpList_append_run rfl _ _ _ _ rfl _ _ rfl rfl HAP.out ?_; clear HAP)
        go_roundg (s.size - (i + 1))
        case measure => have := HGK.out; omega
        case rel => exact ⟨acc ++ [x], A2, c2, i + 1, by omega, rfl, by simp, by go_num, by simp; omega, HI, HAC, HG2, HK2, HS2, HB2⟩
    · have HR : Hid (M.take1 (byt s) = none) := by
        show _ = _
        rw [HT.out, ← hinv.out]
        by_cases hil : i < s.size
        · rw [drop_at s i hil, List.drop_eq_nil_of_le (by rw [byt_length]; omega), M.untA_one]; rfl
        · rw [List.drop_eq_nil_of_le (by rw [byt_length]; omega), M.untA_nil]; rfl
      have hlt2 : ¬ (i : Int) + 1 < (s.size : Int) := by omega
      go_wp2
      refine bodyPost_ret (v := .tuple #[.agg #[.bool false, .int .u64 0, .string ⟨#[]⟩], .int .i64 0]) (by simp [results, Try.f25, go_sem, d0, d1, d2]) rfl ?_
      exact ⟨.inr ⟨HR.out, ⟨false, 0, ⟨#[]⟩⟩, rfl⟩, HBS.out _ _ _⟩

theorem first_any (s : ByteArray) (w : World) (hs : s.size ≤ 140737488355328) (h0 : 0 < s.size) : Calls Try.prog 25 #[.string s] w (Firsts s w) := by
  by_cases h2 : (s[0]'h0).toNat = 2
  · exact first_b s w hs h0 h2
  · by_cases h1 : (s[0]'h0).toNat = 1 ∧ 9 ≤ s.size
    · exact first_a s w hs h1.2 h1.1
    · exact first_c s w hs h0 h1 h2
end Go.Proofs.Ytccjdajneoploaa
