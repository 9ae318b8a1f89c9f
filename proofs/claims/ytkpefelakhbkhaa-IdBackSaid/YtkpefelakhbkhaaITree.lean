/-
  Trees in memory; the reference's right and Right.
-/
import Derived.Test.YtkpefelakhbkhaaProg
import Derived.Test.YtkpefelakhbkhaaIMath
import Derived.WalkKit
import Derived.WalkSpells
import Derived.WalkLawsBesides
import Derived.LoopTactic
import Derived.Laws.ShiftsVar
import Derived.Laws.BitsAllLaws
import Derived.Lib.Hide
import Derived.Deep.LoopGhost
namespace Go.Proofs.Ytkpefelakhbkhaa.I
open Go.RowKit

theorem ret_int {k : IntKind} {a b : Int} (h : a = b) : Ending.returned (.int k a) = .returned (.int k b) := by rw [h]
theorem ret_bool {a b : Bool} (h : a = b) : Ending.returned (.bool a) = .returned (.bool b) := by rw [h]

/-- Trees one behind the other from a cell on, all below block B. -/
def InF (w : World) (B : Nat) : Fo → Nat → Nat → Prop
  | .nil, _, _ => True
  | .cons o ks rest, b, off => (∃ A c, w.cell? ⟨b, off, none⟩ = some (.bool o) ∧ w.cell? ⟨b, off + 1, none⟩ = some (.slice A ks.len c) ∧ (ks.len = 0 ∨ ∃ b' off', A = some ⟨b', off', none⟩ ∧ b' < B ∧ InF w B ks b' off')) ∧ InF w B rest b (off + 2)
/-- A slice of trees. -/
def Kd (w : World) (B : Nat) (ks : Fo) (A : Option Addr) : Prop := ks.len = 0 ∨ ∃ b off, A = some ⟨b, off, none⟩ ∧ b < B ∧ InF w B ks b off
/-- A tree as a value. -/
def tv (o : Bool) (A : Option Addr) (n c : Nat) : Value := .agg #[.bool o, .slice A n c]
theorem InF.keep {w w' : World} {B : Nat} (hk : ∀ p : Addr, p.block < B → w'.cell? p = w.cell? p) : ∀ {f : Fo} {b off : Nat}, b < B → InF w B f b off → InF w' B f b off
  | .nil, _, _, _, _ => trivial
  | .cons o ks rest, b, off, hb, ⟨⟨A, c, h1, h2, h3⟩, h4⟩ => by
    refine ⟨⟨A, c, (hk _ hb).trans h1, (hk _ hb).trans h2, ?_⟩, InF.keep hk hb h4⟩
    rcases h3 with h3 | ⟨b', off', e, hb', h3⟩
    · exact .inl h3
    · exact .inr ⟨b', off', e, hb', InF.keep hk hb' h3⟩
theorem InF.more {w : World} {B B' : Nat} (hB : B ≤ B') : ∀ {f : Fo} {b off : Nat}, InF w B f b off → InF w B' f b off
  | .nil, _, _, _ => trivial
  | .cons o ks rest, b, off, ⟨⟨A, c, h1, h2, h3⟩, h4⟩ => by
    refine ⟨⟨A, c, h1, h2, ?_⟩, InF.more hB h4⟩
    rcases h3 with h3 | ⟨b', off', e, hb', h3⟩
    · exact .inl h3
    · exact .inr ⟨b', off', e, by omega, InF.more hB h3⟩
theorem Kd.below {w w' : World} {B : Nat} {ks : Fo} {A : Option Addr} (h : Kd w B ks A) (hb : Below B w w') : Kd w' B ks A := by
  rcases h with h | ⟨b, off, e, hl, h⟩
  · exact .inl h
  · exact .inr ⟨b, off, e, hl, h.keep (fun _ hp => hb.cell hp) hl⟩
theorem Kd.more {w : World} {B B' : Nat} {ks : Fo} {A : Option Addr} (h : Kd w B ks A) (hB : B ≤ B') : Kd w B' ks A := by
  rcases h with h | ⟨b, off, e, hl, h⟩
  · exact .inl h
  · exact .inr ⟨b, off, e, by omega, h.more hB⟩
theorem Kd.up {w w' : World} {ks : Fo} {A : Option Addr} (h : Kd w w.heap.size ks A) (hb : Below w.heap.size w w') : Kd w' w'.heap.size ks A := (h.below hb).more hb.size

theorem rightT_le (o : Bool) (ks : Fo) (d : Nat) (l : Int) (hl : 0 ≤ l) : -1 ≤ rightT o ks d l ∧ rightT o ks d l ≤ l := by
  rw [rightT_of o ks d l hl (rightK_of ks)]
  unfold leftOf
  split
  · split <;> omega
  · omega

theorem Kd.head {w : World} {B b off : Nat} {o : Bool} {ks rest : Fo} (h : InF w B (.cons o ks rest) b off) : ∃ A c, w.cell? ⟨b, off, none⟩ = some (.bool o) ∧ w.cell? ⟨b, off + 1, none⟩ = some (.slice A ks.len c) ∧ Kd w B ks A := h.1

set_option maxRecDepth 100000 in
set_option maxHeartbeats 1600000 in
theorem rright_any (d : Nat) : ∀ (o : Bool) (ks : Fo) (A : Option Addr) (c : Nat) (l : Int) (w : World), d ≤ 1000 → 0 ≤ l → l ≤ 1000000 → Kd w w.heap.size ks A →
    Calls Try.prog 43 #[tv o A ks.len c, .int .i64 d, .int .i64 l] w fun e w' => e = .returned (.int .i64 (rightT o ks d l)) ∧ Below w.heap.size w w' := by
  induction d using Nat.strongRecOn with
  | _ d ih =>
  intro o ks A c l w hd hl hl2 hk
  unfold tv
  have HB0 : Hid (Below w.heap.size w (w.alloc (.cells #[.bool o, .slice A ks.len c] 24))) := (Below.refl _ w).alloc (Nat.le_refl _) _
  have HK := Lib.hid hk
  clear hk
  by_cases h0 : l - 1 < 0
  · have HR : Hid (rightT o ks d l = -1) := if_pos (.inl h0)
    clear ih
    go_enter Try.func43, Try.ntmps43
    go_wp2
    go_ret
    exact ⟨ret_int HR.out.symm, HB0.out⟩
  · by_cases hn : ks.len = 0
    · have HR : Hid (rightT o ks d l = l - 1) := by
        show _ = _
        unfold rightT
        rw [if_neg (by rw [hn]; omega)]
        cases ks with
        | nil => rfl
        | cons _ _ _ => simp [Fo.len] at hn
      obtain ⟨n, hne⟩ : ∃ n, ks.len = n := ⟨_, rfl⟩
      rw [hne] at hn HB0 ⊢
      subst hn
      clear ih hne
      go_enter Try.func43, Try.ntmps43
      go_wp2
      go_loopg [2, 7] 0 (fun k x i wr => k = 0 ∧ x = .int .i64 (l - 1) ∧ i = .int .i64 0 ∧ wr = w.alloc (.cells #[.bool o, .slice A 0 c] 24))
      case atStart => exact ⟨rfl, rfl, rfl, rfl⟩
      case round =>
        obtain ⟨_, rfl, rfl, rfl⟩ := hrel
        go_wp2
        go_ret
        exact ⟨ret_int HR.out.symm, HB0.out⟩
    · by_cases hbad : ks.len ≠ 2 ∨ o = true ∨ d = 0
      · have HR : Hid (rightT o ks d l = -1) := if_pos (.inr ⟨hn, hbad⟩)
        have hn0 : ((ks.len : Int) == 0) = false := beq_eq_false_iff_ne.2 (by omega)
        clear ih
        by_cases h2 : ks.len = 2
        · have h2b : ((ks.len : Int) == 2) = true := by rw [h2]; rfl
          cases o with
          | true =>
            obtain ⟨n, hne⟩ : ∃ n, ks.len = n := ⟨_, rfl⟩
            rw [hne] at h2 h2b hn0 HB0 hn ⊢
            subst h2
            clear hbad hne hn0 h2b
            go_enter Try.func43, Try.ntmps43
            go_wp2
            go_ret
            exact ⟨ret_int HR.out.symm, HB0.out⟩
          | false =>
            have hd0 : d = 0 := by
              rcases hbad with h | h | h
              · exact absurd h2 h
              · cases h
              · exact h
            subst hd0
            obtain ⟨n, hne⟩ : ∃ n, ks.len = n := ⟨_, rfl⟩
            rw [hne] at h2 h2b hn0 HB0 hn ⊢
            subst h2
            clear hbad hne hn0 h2b
            go_enter Try.func43, Try.ntmps43
            go_wp2
            go_ret
            exact ⟨ret_int HR.out.symm, HB0.out⟩
        · have h2b : ((ks.len : Int) == 2) = false := beq_eq_false_iff_ne.2 (by omega)
          obtain ⟨n, hne⟩ : ∃ n, ks.len = n := ⟨_, rfl⟩
          rw [hne] at h2 h2b hn0 HB0 hn ⊢
          clear hbad hne
          go_enter Try.func43, Try.ntmps43
          go_wp2
          go_ret
          exact ⟨ret_int HR.out.symm, HB0.out⟩
      · have h2 : ks.len = 2 := by
          rcases Nat.decEq ks.len 2 with h | h
          · exact absurd (.inl h) hbad
          · exact h
        have ho : o = false := by
          cases o with
          | true => exact absurd (.inr (.inl rfl)) hbad
          | false => rfl
        have hd0 : d ≠ 0 := fun h => hbad (.inr (.inr h))
        subst ho
        have HR : Hid (rightT false ks d l = rightK ks (d - 1) (l - 1)) := if_neg (by rintro (h | ⟨_, h⟩); exact h0 h; exact hbad h)
        obtain ⟨b, off, rfl, hb, hf⟩ : ∃ b off, A = some ⟨b, off, none⟩ ∧ b < w.heap.size ∧ InF w w.heap.size ks b off := by
          rcases HK.out with h | h
          · omega
          · exact h
        have hd0b : ((d : Int) == 0) = false := beq_eq_false_iff_ne.2 (by omega)
        have HF := Lib.hid hf
        rw [h2] at HB0 ⊢
        have HB := Lib.hid hb
        have hIH := fun o ks A c l w => ih (d - 1) (by omega) o ks A c l w (by omega)
        simp only [show ((d - 1 : Nat) : Int) = (d : Int) - 1 by omega] at hIH
        have H2 := Lib.hid h2
        clear ih hbad hn hf hb h2
        go_enter Try.func43, Try.ntmps43
        go_wp2
        go_loopg [2, 7] 2 (fun k x i wr => ∃ (j : Nat) (fo : Fo) (z : Int), j ≤ 2 ∧ k = 2 - j ∧ x = .int .i64 z ∧ i = .int .i64 j ∧ Hid (fo.len + j = 2) ∧ Hid (InF w w.heap.size fo b (off + j * 2)) ∧ Hid ((if z < 0 then z else rightK fo (d - 1) z) = rightK ks (d - 1) (l - 1)) ∧ z ≤ l - 1 ∧ -1 ≤ z ∧ wr.cell? ⟨w.heap.size, 1, none⟩ = some (.slice (some ⟨b, off, none⟩) 2 c) ∧ Hid (Below w.heap.size w wr) ∧ Hid (w.heap.size + 1 ≤ wr.heap.size))
        case atStart => exact ⟨0, ks, l - 1, by omega, rfl, rfl, rfl, H2.out, HF.out, by show _ = _; rw [if_neg (by omega)], by omega, by omega, by simp [go_sem], HB0.out, by show _ ≤ _; simp⟩
        case round =>
          obtain ⟨j, fo, z, hj, hgk, rfl, rfl, hlen, hfo, hinv, hz1, hz2, hc, hB, hsz⟩ := hrel
          have HGK := Lib.hid hgk; clear hgk
          by_cases hlt : j < 2
          · by_cases hzn : z < 0
            · have hinv2 := hinv.out
              rw [if_pos hzn] at hinv2
              have HI := Lib.hid hinv2
              clear hinv2
              go_wp2
              go_ret
              exact ⟨ret_int (by rw [HR.out]; exact HI.out), hB.out⟩
            · cases fo with
              | nil => have := hlen.out; simp [Fo.len] at this; omega
              | cons o2 k2 rest =>
                obtain ⟨⟨A2, c2, e1, e2, e3⟩, e4⟩ := hfo.out
                have g1 := (hB.out.cell (p := ⟨b, off + j * 2, none⟩) HB.out).trans e1
                have g2 := (hB.out.cell (p := ⟨b, off + j * 2 + 1, none⟩) HB.out).trans e2
                have hk2 : Kd w w.heap.size k2 A2 := e3
                have hcall := hIH o2 k2 A2 c2 z wr (by omega) (by omega) (hk2.up hB.out)
                have HLE := Lib.hid (rightT_le o2 k2 (d - 1) z (by omega))
                have HI : Hid ((if rightT o2 k2 (d - 1) z < 0 then rightT o2 k2 (d - 1) z else rightK rest (d - 1) (rightT o2 k2 (d - 1) z)) = rightK ks (d - 1) (l - 1)) := by
                  show _ = _
                  rw [← rightK_cons, ← hinv.out, if_neg hzn]
                have HL2 : Hid (rest.len + (j + 1) = 2) := by show _ = _; have := hlen.out; simp [Fo.len] at this; omega
                have HF2 : Hid (InF w w.heap.size rest b (off + (j + 1) * 2)) := by
                  show InF _ _ _ _ _
                  rw [show off + (j + 1) * 2 = off + j * 2 + 2 by omega]; exact e4
                obtain ⟨z2, hz2e⟩ : ∃ z2, rightT o2 k2 (d - 1) z = z2 := ⟨_, rfl⟩
                rw [hz2e] at hcall HLE HI
                unfold tv at hcall
                clear e1 e2 e3 e4 hk2 hz2e hIH
                go_wp2_with fail
                refine hcall.mono ?_
                rintro e w2 ⟨rfl, hb2⟩
                have hc2 := (hb2.cell (p := ⟨w.heap.size, 1, none⟩) (by have := hsz.out; show w.heap.size < wr.heap.size; omega)).trans hc
                have HB2 : Hid (Below w.heap.size w w2) := hB.out.trans (hb2.mono hB.out.size)
                have HS2 : Hid (w.heap.size + 1 ≤ w2.heap.size) := Nat.le_trans hsz.out hb2.size
                have hz3 := HLE.out
                clear hb2 hcall g1 g2 hc
                go_wp2
                go_roundg (2 - (j + 1))
                case measure => have := HGK.out; omega
                case rel => exact ⟨j + 1, rest, z2, by omega, rfl, rfl, by go_num, HL2, HF2, HI, by omega, by omega, hc2, HB2, HS2⟩
          · obtain rfl : j = 2 := by omega
            have HI : Hid (z = rightK ks (d - 1) (l - 1)) := by
              show _ = _
              have := hlen.out
              cases fo with
              | nil =>
                have h := hinv.out
                by_cases hz : z < 0
                · rwa [if_pos hz] at h
                · rw [if_neg hz] at h; exact h
              | cons _ _ _ => simp [Fo.len] at this
            clear hIH
            go_wp2
            go_ret
            exact ⟨ret_int (by rw [HR.out]; exact HI.out), hB.out⟩
end Go.Proofs.Ytkpefelakhbkhaa.I
