/-
  Lay, the program's and the reference's.
-/
import Derived.Test.YtccjdajneoploaaText
namespace Go.Proofs.Ytccjdajneoploaa
open Go.RowKit

/-- What Lay answers. -/
def layR (l : List Part) : Value := if M.right l = true then .tuple #[.string (strB (M.enc l)), .int .i64 0] else .tuple #[.string ⟨#[]⟩, .int .i64 2]
theorem layR_yes {l : List Part} (h : M.right l = true) : layR l = .tuple #[.string (strB (M.enc l)), .int .i64 0] := if_pos h
theorem layR_no {l : List Part} (h : M.right l = false) : layR l = .tuple #[.string ⟨#[]⟩, .int .i64 2] := if_neg (by rw [h]; decide)
theorem right_all {l : List Part} (h : M.right l = true) : (∀ p ∈ l, M.rightP p = true) ∧ 0 < l.length ∧ l.length ≤ 8 := by
  simp only [M.right, Bool.and_eq_true, decide_eq_true_eq, List.all_eq_true] at h
  exact ⟨h.1, h.2.1, h.2.2⟩
theorem enc_take {l : List Part} {j : Nat} {p : Part} (hp : l[j]? = some p) : M.enc (l.take (j + 1)) = M.enc (l.take j) ++ M.enc1 p := by
  obtain ⟨hj, e⟩ := List.getElem?_eq_some_iff.1 hp
  rw [List.take_succ_eq_append_getElem hj, M.enc_append, e]
  simp [M.enc]
theorem enc_take_len {l : List Part} (h : ∀ p ∈ l, M.rightP p = true) (j : Nat) (hl : l.length ≤ 8) : (M.enc (l.take j)).length ≤ 8216 := by
  have := M.enc_len (l.take j) (List.all_eq_true.2 fun p hp => h p (List.mem_of_mem_take hp))
  have h2 : (l.take j).length ≤ 8 := by rw [List.length_take]; omega
  omega

set_option maxRecDepth 100000 in
set_option maxHeartbeats 1600000 in
theorem lay_any (A : Option Addr) (c : Nat) (l : List Part) (w : World) (hr : RowP w w.heap.size A l) (hl : l.length ≤ 140737488351232) :
    Calls Try.prog 10 #[.slice A l.length c] w fun e w' => e = .returned (layR l) ∧ Below w.heap.size w w' := by
  have HR := Lib.hid hr; clear hr
  cases hri : M.right l with
  | false =>
    have HL := Lib.hid (layR_no hri)
    have HC := fun w h => right_any A c l w h hl
    rw [hri] at HC
    clear hri
    go_enter Try.func10, Try.ntmps10
    go_wp2_with (go_at_call 14; refine (HC _ HR.out).mono ?_; rintro e w1 ⟨rfl, hb1⟩)
    go_ret2
    exact ⟨by rw [HL.out]; rfl, hb1⟩
  | true =>
    have HL := Lib.hid (layR_yes hri)
    have HC := fun w h => right_any A c l w h hl
    rw [hri] at HC
    have HALL := Lib.hid (right_all hri)
    have hl8 := (right_all hri).2.2
    clear hri
    go_enter Try.func10, Try.ntmps10
    go_wp2_with (go_at_call 14; refine (HC _ HR.out).mono ?_; rintro e w1 ⟨rfl, hb1⟩)
    clear HC
    go_loopg [4, 12] l.length (fun k o i wr => ∃ (j : Nat) (L : List Nat) (B : Option Addr) (d : Nat), j ≤ l.length ∧ k = l.length - j ∧ i = .int .i64 j ∧ o = .slice B L.length d ∧ Hid (L = M.enc (l.take j)) ∧ L.length ≤ 8216 ∧ Hid (Gr wr w.heap.size B d L) ∧ Hid (Below w.heap.size w wr))
    case atStart => exact ⟨0, [], none, 0, by omega, by omega, rfl, rfl, by show _ = _; simp [M.enc], by simp, Gr.nil _ _, hb1⟩
    case round =>
      obtain ⟨j, L, B, d, hj, hgk, rfl, rfl, hL, hLl, hG, hB⟩ := hrel
      have HGK := Lib.hid hgk; clear hgk
      by_cases hlt : j < l.length
      · obtain ⟨p, b, off, hp, rfl, hb, hn, c0, c1, c2⟩ := (HR.out.below hB.out).part j hlt
        have hrp := HALL.out.1 p (List.mem_of_getElem? hp)
        have HN : Hid (L ++ M.enc1 p = M.enc (l.take (j + 1))) := by show _ = _; rw [enc_take hp, hL.out]
        have HN2 : Hid ((L ++ M.enc1 p).length ≤ 8216) := by show _ ≤ _; rw [HN.out]; exact enc_take_len HALL.out.1 _ hl8
        clear hp
        obtain ⟨t, n, s⟩ := p
        simp only at c0 c1 c2 hn
        cases t with
        | true =>
          have hs5 : s.size ≤ 512 := by simp [M.rightP] at hrp; exact hrp.2
          have hcall := layText_any B d L s w.heap.size (wr.alloc (.cells #[.bool true, .int .u64 n, .string s] 41)) (hG.out.alloc _) (by have := hB.out.size; simp; omega) (by omega) hs5
          rw [M.enc1_text _ rfl] at HN HN2
          obtain ⟨L2, hL2⟩ : ∃ L2, L ++ 2 :: (M.bod (byt s) ++ [0, 1]) = L2 := ⟨_, rfl⟩
          simp only at HN HN2
          rw [hL2] at hcall HN HN2
          have hsz := HN2.out
          clear hrp hL2
          go_wp2_with fail
          refine hcall.mono ?_
          rintro e w2 ⟨B2, d2, rfl, hg2, hb2⟩
          have HG2 := Lib.hid hg2
          have HB2 : Hid (Below w.heap.size w w2) := (hB.out.alloc hB.out.size _).trans hb2
          clear hg2 hb2 c0 c1 c2 hcall
          go_wp2
          go_roundg (l.length - (j + 1))
          case measure => have := HGK.out; omega
          case rel => exact ⟨j + 1, L2, B2, d2, by omega, rfl, by go_num, rfl, HN, hsz, HG2, HB2⟩
        | false =>
          have hcall := layNumber_any B d L n w.heap.size (wr.alloc (.cells #[.bool false, .int .u64 n, .string s] 41)) (hG.out.alloc _) (by have := hB.out.size; simp; omega) (by omega)
          rw [M.enc1_num _ rfl] at HN HN2
          obtain ⟨L2, hL2⟩ : ∃ L2, L ++ 1 :: M.be n 8 = L2 := ⟨_, rfl⟩
          simp only at HN HN2
          rw [hL2] at hcall HN HN2
          have hsz := HN2.out
          clear hrp hL2
          go_wp2_with fail
          refine hcall.mono ?_
          rintro e w2 ⟨B2, d2, rfl, hg2, hb2⟩
          have HG2 := Lib.hid hg2
          have HB2 : Hid (Below w.heap.size w w2) := (hB.out.alloc hB.out.size _).trans hb2
          clear hg2 hb2 c0 c1 c2 hcall
          go_wp2
          go_roundg (l.length - (j + 1))
          case measure => have := HGK.out; omega
          case rel => exact ⟨j + 1, L2, B2, d2, by omega, rfl, by go_num, rfl, HN, hsz, HG2, HB2⟩
      · obtain rfl : j = l.length := by omega
        have HN : Hid (L = M.enc l) := by show _ = _; rw [hL.out, List.take_length]
        have hs := run_str B d L wr _ (hG.out.row (by rw [HN.out]; exact M.enc_lt l))
        go_wp2
        go_ret2
        exact ⟨by rw [HL.out, ← HN.out]; rfl, hB.out⟩

/-- append(b, part...) of the reference. -/
theorem Gr.more {w : World} {base c : Nat} {A : Option Addr} {l : List Nat} (h : Gr w base A c l) (A2 : Option Addr) (d : Nat) (x : List Nat) (base2 : Nat) (h2 : Gr w base2 A2 d x) (hx : ∀ y ∈ x, y < 256) (hne : x ≠ []) (ty : TypeId) (hb : l.length + x.length ≤ 200000000000000) (hbase : base ≤ w.heap.size) :
    ∃ A' c' w', (Builtin.append_ #[42, 42] ty #[.slice A l.length c, .slice A2 x.length d]).run Try.prog w = .ok (.slice A' (l.length + x.length) c') w' ∧ Gr w' base A' c' (l ++ x) ∧ Below base w w' := by
  rcases h2.cases with ⟨rfl, h3, rfl⟩ | ⟨g, rfl, ho⟩
  · exact absurd h3 hne
  · exact h.append g d x _ (h2.row hx) ty hb hbase

set_option maxRecDepth 100000 in
set_option maxHeartbeats 1600000 in
theorem rlay_any (A : Option Addr) (c : Nat) (l : List Part) (w : World) (hr : RowP w w.heap.size A l) (hl : l.length ≤ 140737488351232) :
    Calls Try.prog 11 #[.slice A l.length c] w fun e w' => e = .returned (layR l) ∧ Below w.heap.size w w' := by
  have HR := Lib.hid hr; clear hr
  cases hri : M.right l with
  | false =>
    have HL := Lib.hid (layR_no hri)
    have HC := fun w h => rright_any A c l w h hl
    rw [hri] at HC
    clear hri
    go_enter Try.func11, Try.ntmps11
    go_wp2_with (go_at_call 15; refine (HC _ HR.out).mono ?_; rintro e w1 ⟨rfl, hb1⟩)
    go_ret2
    exact ⟨by rw [HL.out]; rfl, hb1⟩
  | true =>
    have HL := Lib.hid (layR_yes hri)
    have HC := fun w h => rright_any A c l w h hl
    rw [hri] at HC
    have HALL := Lib.hid (right_all hri)
    have hl8 := (right_all hri).2.2
    clear hri
    go_enter Try.func11, Try.ntmps11
    go_wp2_with (go_at_call 15; refine (HC _ HR.out).mono ?_; rintro e w1 ⟨rfl, hb1⟩)
    clear HC
    go_loopg [5, 6] l.length (fun k o i wr => ∃ (j : Nat) (L : List Nat) (B : Option Addr) (d : Nat), j ≤ l.length ∧ k = l.length - j ∧ i = .int .i64 j ∧ o = .slice B L.length d ∧ Hid (L = M.enc (l.take j)) ∧ L.length ≤ 8216 ∧ Hid (Gr wr w.heap.size B d L) ∧ Hid (Below w.heap.size w wr))
    case atStart => exact ⟨0, [], none, 0, by omega, by omega, rfl, rfl, by show _ = _; simp [M.enc], by simp, Gr.nil _ _, hb1⟩
    case round =>
      obtain ⟨j, L, B, d, hj, hgk, rfl, rfl, hL, hLl, hG, hB⟩ := hrel
      have HGK := Lib.hid hgk; clear hgk
      by_cases hlt : j < l.length
      · obtain ⟨p, b, off, hp, rfl, hb, hn, c0, c1, c2⟩ := (HR.out.below hB.out).part j hlt
        have hrp := HALL.out.1 p (List.mem_of_getElem? hp)
        have HN : Hid (L ++ M.enc1 p = M.enc (l.take (j + 1))) := by show _ = _; rw [enc_take hp, hL.out]
        have HN2 : Hid ((L ++ M.enc1 p).length ≤ 8216) := by show _ ≤ _; rw [HN.out]; exact enc_take_len HALL.out.1 _ hl8
        clear hp
        have hcall := part_any p wr hrp
        have HLT := Lib.hid (M.enc1_lt p)
        have HNE : Hid (M.enc1 p ≠ []) := by show _ ≠ _; unfold M.enc1; split <;> simp
        obtain ⟨E, hE⟩ : ∃ E, M.enc1 p = E := ⟨_, rfl⟩
        rw [hE] at hcall HN HN2 HLT HNE
        have hsz := HN2.out
        clear hrp hE
        go_wp2_with fail
        refine hcall.mono ?_
        rintro e w2 ⟨B2, d2, rfl, hg2, hb2⟩
        have hb2' : Below wr.heap.size wr w2 := hb2
        have hb3 : Below w.heap.size w w2 := hB.out.trans (hb2.mono hB.out.size)
        obtain ⟨B3, d3, w3, hap, hg3, hb4⟩ := (hG.out.below hb2' (Nat.le_refl _)).more B2 d2 E _ hg2 HLT.out HNE.out 42 (by rw [List.length_append] at hsz; omega) hb3.size
        have HAP := Lib.hid hap
        have HG3 := Lib.hid hg3
        have HB3 : Hid (Below w.heap.size w w3) := hb3.trans hb4
        clear hap hg3 hb4 hg2 hb2 hb2' hb3 c0 c1 c2 hcall
        go_wp2_with (at_builtin; refine wpList_append_run rfl _ _ _ _ rfl _ _ rfl rfl HAP.out ?_; clear HAP)
        go_roundg (l.length - (j + 1))
        case measure => have := HGK.out; omega
        case rel => exact ⟨j + 1, L ++ E, B3, d3, by omega, rfl, by go_num, by rw [List.length_append], HN, hsz, HG3, HB3⟩
      · obtain rfl : j = l.length := by omega
        have HN : Hid (L = M.enc l) := by show _ = _; rw [hL.out, List.take_length]
        have hs := run_str B d L wr _ (hG.out.row (by rw [HN.out]; exact M.enc_lt l))
        go_wp2
        go_ret2
        exact ⟨by rw [HL.out, ← HN.out]; rfl, hB.out⟩
end Go.Proofs.Ytccjdajneoploaa
