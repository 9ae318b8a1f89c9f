/-
  Bits as a source of the program's reader, and the reference's reading of bits, as plain functions.
  The program's Take: its three calls, and as a whole.
  Plain mathematics of EventBack: a tree is read from its bits; where a number has no bits, the greatest count is the greatest there is.
-/
import Derived.Test.YtflghlmikpfnpaaDoorERd
import Derived.Test.YtflghlmikpfnpaaDoorOps
import Derived.Test.YtflghlmikpfnpaaDoorMath4
import Derived.Test.YtflghlmikpfnpaaDoorERead2
import Derived.Test.YtflghlmikpfnpaaDoorTakeOwn
import Derived.Test.YtflghlmikpfnpaaDoorZLy
import Derived.Test.YtflghlmikpfnpaaDoorESMath
namespace Go.Proofs.YtflghlmikpfnpaaDoor.E
open Go.RowKit

/-- A place, as the program counts on. -/
def wp (p : Nat) : Int := IntKind.i64.wrap (p : Int)
theorem wp_small {p : Nat} (h : p ≤ 9223372036854775807) : wp p = (p : Int) := wrap_id (by omega) (by omega)
theorem wp_next (p : Nat) : IntKind.i64.wrap (wp p + 1) = wp (p + 1) := by
  unfold wp
  rw [IntKind.wrap_i64, IntKind.wrap_i64, IntKind.wrap_i64]
  omega
def bS (l : List Nat) (n : Nat) : Src where
  inn p := (decide ((takeV l n (wp p) 1).1 = 1), p + 1)
  num p := (((M.ownV l n (wp p)).1, decide ((M.ownV l n (wp p)).2.2 = 0)), (M.ownV l n (wp p)).2.1.toNat)
  mrk _ p := (true, p)
theorem ownV_pos (l : List Nat) (n a : Int) : 0 ≤ (M.ownV l n a).1 ∧ (M.ownV l n a).1 < 4611686018427387904 ∧ 0 ≤ (M.ownV l n a).2.1 := by
  unfold M.ownV
  split
  · split
    · rename_i x e h
      have := M.own_gamma h
      exact ⟨by simp, by simp; omega, by simp⟩
    · exact ⟨by simp, by simp, by simp⟩
  · exact ⟨by simp, by simp, by simp⟩
/-- A tree's bits, from a place on. -/
def brd (l : List Nat) (n : Nat) : Nat → Nat → Option (Tr × Nat)
  | 0, _ => none
  | f + 1, a => if (takeV l n a 1).2 ≠ 0 then none else
    if (M.ownV l n ((a : Int) + 1)).2.2 ≠ 0 then none else
    if (takeV l n a 1).1 = 1 then (brd l n f (M.ownV l n ((a : Int) + 1)).2.1.toNat).bind fun x => (brd l n f x.2).bind fun y => some (.node (M.ownV l n ((a : Int) + 1)).1 x.1 y.1, y.2)
    else some (.leaf (M.ownV l n ((a : Int) + 1)).1, (M.ownV l n ((a : Int) + 1)).2.1.toNat)
theorem own_ok {l : List Nat} {n : Nat} {a : Int} (h : (M.ownV l n a).2.2 = 0) : 0 ≤ a ∧ a ≤ n ∧ (M.ownV l n a).2.1.toNat ≤ n := by
  by_cases hc : M.rightB l n = true ∧ 0 ≤ a ∧ a ≤ n
  · obtain ⟨hR, h1, h2⟩ := hc
    obtain ⟨k, rfl⟩ : ∃ k : Nat, a = k := ⟨a.toNat, by omega⟩
    refine ⟨h1, h2, ?_⟩
    cases ho : M.ownN l n k with
    | none => rw [M.ownV_none hR (by omega) ho] at h; cases h
    | some r =>
      obtain ⟨x, e⟩ := r
      rw [M.ownV_some hR (by omega) ho]
      have := M.own_gamma ho
      simp; omega
  · rw [M.ownV_arg hc] at h; cases h
theorem take_ok {l : List Nat} {n p : Nat} (hR : M.rightB l n = true) (h : p + 1 ≤ n) : (takeV l n p 1).2 = 0 := by
  unfold takeV
  rw [if_pos ⟨hR, by omega, by omega, by omega, by omega⟩, if_neg (by omega)]
theorem rd_brd {l : List Nat} {n : Nat} (hR : M.rightB l n = true) (hn : n ≤ 4611686018427387904) : ∀ (f p c : Nat) (d s : Int) (t : Tr) (p' c' : Nat), rd (bS l n) (f + 1) p c d s = some (t, p', c') → d + ((f : Int) + 1) = 34 → p ≤ n → brd l n f p = some (t, p') ∧ p' ≤ n := by
  intro f
  induction f with
  | zero =>
    intro p c d s t p' c' h hd hp
    rw [rd] at h
    split at h
    · cases h
    · rename_i hg
      have : fitsB ((bS l n).num ((bS l n).inn p).2).1.1 d s = false := by
        unfold fitsB
        rw [decide_eq_false (by omega)]
        rfl
      exact absurd (Or.inr (Or.inl this)) hg
  | succ f ih =>
    intro p c d s t p' c' h hd hp
    rw [rd] at h
    have ew : wp p = (p : Int) := wp_small (by omega)
    have ew1 : wp (p + 1) = (p : Int) + 1 := by rw [wp_small (by omega)]; omega
    simp only [bS, ew, ew1] at h
    split at h
    · cases h
    · rename_i hg
      have hno : (M.ownV l n ((p : Int) + 1)).2.2 = 0 := by
        by_cases e : (M.ownV l n ((p : Int) + 1)).2.2 = 0
        · exact e
        · exact absurd (Or.inl (decide_eq_false e)) hg
      obtain ⟨o1, o2, o3⟩ := own_ok hno
      have htk := take_ok hR (p := p) (by omega)
      rw [brd, if_neg (by rw [htk]; simp), if_neg (by rw [hno]; simp)]
      by_cases hb : (takeV l n (p : Int) 1).1 = 1
      · rw [if_pos hb]
        simp only [hb, decide_true, Bool.true_eq_false, if_false, false_or] at h
        obtain ⟨⟨x, q1, c1⟩, hx, h⟩ := Option.bind_eq_some_iff.1 h
        obtain ⟨⟨y, q2, c2⟩, hy, h⟩ := Option.bind_eq_some_iff.1 h
        obtain ⟨ix, lx⟩ := ih _ _ _ _ _ _ _ hx (by omega) o3
        obtain ⟨iy, ly⟩ := ih _ _ _ _ _ _ _ hy (by omega) lx
        simp only at h
        split at h
        · cases h
        · simp only [Option.some.injEq, Prod.mk.injEq] at h
          obtain ⟨rfl, rfl, rfl⟩ := h
          rw [ix, Option.bind_some]
          simp only
          rw [iy, Option.bind_some]
          exact ⟨rfl, ly⟩
      · rw [if_neg hb]
        simp only [hb, decide_false, if_true] at h
        simp only [Option.some.injEq, Prod.mk.injEq] at h
        obtain ⟨rfl, rfl, rfl⟩ := h
        exact ⟨rfl, o3⟩
theorem brd_le {l : List Nat} {n : Nat} : ∀ (f p : Nat) (t : Tr) (p' : Nat), brd l n f p = some (t, p') → p' ≤ n := by
  intro f
  induction f with
  | zero => intro p t p' h; simp [brd] at h
  | succ f ih =>
    intro p t p' h
    rw [brd] at h
    split at h
    · cases h
    · split at h
      · cases h
      · rename_i h1 h2
        split at h
        · obtain ⟨⟨x, q1⟩, hx, h⟩ := Option.bind_eq_some_iff.1 h
          obtain ⟨⟨y, q2⟩, hy, h⟩ := Option.bind_eq_some_iff.1 h
          simp only [Option.some.injEq, Prod.mk.injEq] at h
          rw [← h.2]
          exact ih _ _ _ hy
        · simp only [Option.some.injEq, Prod.mk.injEq] at h
          rw [← h.2]
          exact (own_ok (Classical.byContradiction h2)).2.2
theorem brd_rd {l : List Nat} {n : Nat} (hn : n ≤ 4611686018427387904) : ∀ (f g p c : Nat) (d s : Int) (t : Tr) (p' : Nat), brd l n f p = some (t, p') → p ≤ n → Nf t → t.okc (mc - s) = true → 0 ≤ s → s ≤ mc → d + t.depth ≤ 32 → c + t.nodes ≤ 2047 → t.depth < g → rd (bS l n) g p c d s = some (t, p', c + t.nodes) := by
  have hm : mc = 4611686018427387904 := rfl
  intro f
  induction f with
  | zero => intro g p c d s t p' h; simp [brd] at h
  | succ f ih =>
    intro g p c d s t p' h hp hnf hok h0 h1 hd hc hg
    obtain ⟨g, rfl⟩ : ∃ k, g = k + 1 := ⟨g - 1, by omega⟩
    have ew : wp p = (p : Int) := wp_small (by omega)
    have ew1 : wp (p + 1) = (p : Int) + 1 := by rw [wp_small (by omega)]; omega
    have hN := okc_N _ _ hok
    rw [brd] at h
    split at h
    · cases h
    · split at h
      · cases h
      · rename_i h2 h3
        have hno : (M.ownV l n ((p : Int) + 1)).2.2 = 0 := Classical.byContradiction h3
        obtain ⟨o1, o2, o3⟩ := own_ok hno
        rw [rd]
        simp only [bS, ew, ew1]
        split at h
        · rename_i hb
          obtain ⟨⟨x, q1⟩, hx, h⟩ := Option.bind_eq_some_iff.1 h
          obtain ⟨⟨y, q2⟩, hy, h⟩ := Option.bind_eq_some_iff.1 h
          simp only [Option.some.injEq, Prod.mk.injEq] at h
          obtain ⟨rfl, rfl⟩ := h
          simp only [Tr.N] at hN
          simp only [Tr.okc, Bool.and_eq_true, decide_eq_true_eq] at hok
          simp only [Tr.depth, Tr.nodes] at hd hc hg
          obtain ⟨n1, n2, n3, n4⟩ := hnf
          generalize hvn : (M.ownV l n ((p : Int) + 1)).1 = vn at *
          have e : mc - (s + vn) = mc - s - vn := by omega
          have ix := ih g _ (c + 1) (d + 1) (s + vn) _ _ hx o3 n1 (by rw [e]; exact hok.2.1) (by omega) (by omega) (by omega) (by omega) (by omega)
          have iy := ih g _ (c + 1 + x.nodes) (d + 1) (s + vn) _ _ hy (brd_le _ _ _ _ hx) n2 (by rw [e]; exact hok.2.2) (by omega) (by omega) (by omega) (by omega) (by omega)
          have hb1 : (takeV l n (p : Int) 1).1 = 1 := hb
          simp only [hb1, hno, decide_true, Bool.true_eq_false, if_false, false_or]
          unfold bS at ix iy
          rw [if_neg, ix, Option.bind_some, iy, Option.bind_some, if_neg]
          · simp only [Tr.nodes]
            congr 3
            omega
          · rw [(lowest_iff x y).2 ⟨n3, n4⟩]; simp
          · rintro (h | h)
            · rw [(fits_iff h0 h1).2 ⟨by omega, by omega⟩] at h; cases h
            · omega
        · rename_i hb
          simp only [Option.some.injEq, Prod.mk.injEq] at h
          obtain ⟨rfl, rfl⟩ := h
          simp only [Tr.N] at hN
          simp only [Tr.depth, Tr.nodes] at hd hc hg
          have hb1 : ¬ (takeV l n (p : Int) 1).1 = 1 := hb
          simp only [hb1, hno, decide_true, decide_false, if_true]
          rw [if_neg]
          · rfl
          · rintro (h | h | h)
            · cases h
            · rw [(fits_iff h0 h1).2 ⟨by omega, by omega⟩] at h; cases h
            · omega
/-- What Take finds. -/
def takeE (l : List Nat) (n a : Nat) : Option (Tr × Nat) := (rd (bS l n) 34 a 0 0 0).map fun x => (x.1, x.2.1)
theorem takeE_eq {l : List Nat} {n : Nat} (hR : M.rightB l n = true) (hn : n ≤ 4611686018427387904) (a : Nat) (ha : a ≤ n) : takeE l n a = (brd l n 33 a).bind fun x => if okT x.1 = true ∧ eqT x.1.norm x.1 = true then some x else none := by
  have hm : mc = 4611686018427387904 := rfl
  unfold takeE
  cases h : rd (bS l n) 34 a 0 0 0 with
  | some r =>
    obtain ⟨t, p, c⟩ := r
    obtain ⟨h1, h2⟩ := rd_brd hR hn _ _ _ _ _ _ _ _ h (by omega) ha
    obtain ⟨k1, k2, k3, k4, k5⟩ := rd_ok (fun p _ => (ownV_pos l n _).1) _ _ _ _ _ _ _ _ h (by omega) (by omega)
    have hk : okT t = true := (okT_iff _).2 ⟨by omega, by simpa using k2, by omega⟩
    rw [h1, Option.bind_some, if_pos ⟨hk, (eqT_iff _ _).2 (norm_nf k1)⟩]
    rfl
  | none =>
    cases h2 : brd l n 33 a with
    | none => rfl
    | some r =>
      obtain ⟨t, p⟩ := r
      rw [Option.bind_some, Option.map_none]
      simp only
      by_cases hc : okT t = true ∧ eqT t.norm t = true
      · obtain ⟨k1, k2, k3⟩ := (okT_iff t).1 hc.1
        rw [brd_rd hn 33 34 a 0 0 0 t p h2 ha ((nf_iff t).2 ((eqT_iff _ _).1 hc.2)) (by simpa using k2) (by omega) (by omega) (by omega) (by omega) (by omega)] at h
        cases h
      · rw [if_neg hc]
theorem takeE_le {l : List Nat} {n a : Nat} (hR : M.rightB l n = true) (hn : n ≤ 4611686018427387904) (ha : a ≤ n) {t : Tr} {p c : Nat} (h : rd (bS l n) 34 a 0 0 0 = some (t, p, c)) : p ≤ n := (rd_brd hR hn _ _ _ _ _ _ _ _ h (by omega) ha).2
end Go.Proofs.YtflghlmikpfnpaaDoor.E

namespace Go.Proofs.YtflghlmikpfnpaaDoor.E
open Go.RowKit

/-- Take's variables: the bytes, how many bits, the place. -/
structure TS (A : Option Addr) (c : Nat) (l : List Nat) (n B gb gn ga : Nat) (p : Nat) (W : World) : Prop where
  bb : Boxed W gb 38 (.slice A l.length c)
  bn : Boxed W gn 3 (.int .i64 (n : Int))
  ba : Boxed W ga 3 (.int .i64 (wp p))
  row : Row W B A l
variable {A : Option Addr} {c : Nat} {l : List Nat} {n B gb gn ga p : Nat} {W : World}
theorem TS.next {W' : World} (h : TS A c l n B gb gn ga p W) (hb : Below W.heap.size W W') (hB : B ≤ W.heap.size) : TS A c l n B gb gn ga p W' :=
  ⟨boxed_below h.bb hb h.bb.lt, boxed_below h.bn hb h.bn.lt, boxed_below h.ba hb h.ba.lt, h.row.keep fun _ hp => hb.cell (by omega)⟩
theorem TS.put {q : Nat} (h : TS A c l n B gb gn ga p W) (h1 : gb ≠ ga) (h2 : gn ≠ ga) (hB : B ≤ ga) {v : Value} (hv : v = .int .i64 (wp q)) : TS A c l n B gb gn ga q (W.setCell ⟨ga, 0, none⟩ v) := by
  subst hv
  exact ⟨(Below.heap_setCell W ⟨ga, 0, none⟩ _ gb h1).trans h.bb, (Below.heap_setCell W ⟨ga, 0, none⟩ _ gn h2).trans h.bn, h.ba.set _, h.row.keep fun q hq => World.cell?_of_block (Below.heap_setCell W ⟨ga, 0, none⟩ _ q.block (by show q.block ≠ ga; omega))⟩
theorem kb_put {W W' : World} (ga : Nat) (hb : Below W.heap.size W W') (v : Value) : KB (fun k => k = ga) W (W'.setCell ⟨ga, 0, none⟩ v) := KB.setCell (X := fun k => k = ga) (KB.below hb (Nat.le_refl _)) (p := ⟨ga, 0, none⟩) rfl _

set_option maxRecDepth 100000 in
set_option maxHeartbeats 1600000 in
theorem binner_any (h : TS A c l n B gb gn ga p W) (hl : l.length ≤ 140737488355328) (hn : n ≤ 4611686018427387904) (hBW : B ≤ W.heap.size) (h1 : gb ≠ ga) (h2 : gn ≠ ga) (hB : B ≤ ga) :
    Calls Tryd.prog 62 #[.pointer (some ⟨gb, 0, none⟩), .pointer (some ⟨gn, 0, none⟩), .pointer (some ⟨ga, 0, none⟩)] W fun e W' => e = .returned (.bool ((bS l n).inn p).1) ∧ TS A c l n B gb gn ga ((bS l n).inn p).2 W' ∧ KB (fun k => k = ga) W W' := by
  have hc := take_any A c l (n : Int) (wp p) 1 W (h.row.more hBW) hl (by omega) (by omega)
  have c1 := h.bb.cell
  have c2 := h.bn.cell
  have c3 := h.ba.cell
  have HH := Lib.hid h
  have HE : Hid (((bS l n).inn p).1 = ((takeV l n (wp p) 1).1 == 1)) := by show decide _ = _; rw [Bool.eq_iff_iff, decide_eq_true_iff, beq_iff_eq]
  have HP : Hid (((bS l n).inn p).2 = p + 1) := rfl
  obtain ⟨⟨x, z⟩, hx⟩ : ∃ r, takeV l n (wp p) 1 = r := ⟨_, rfl⟩
  rw [hx] at hc HE
  have HW := Lib.hid (wp_next p)
  obtain ⟨P, hP⟩ : ∃ P, wp p = P := ⟨_, rfl⟩
  rw [hP] at hc c3 HW
  simp only at hc HE
  clear h hx hP
  go_enter Tryd.func62, Tryd.ntmps62
  go_wp2_with fail
  refine hc.mono ?_
  rintro e w1 ⟨rfl, hb1⟩
  have hT := HH.out.next hb1 hBW
  have d3 := (hb1.cell (World.block_lt_of_cell? W _ c3)).trans c3
  have f3 := hT.ba.frozen
  have HT := Lib.hid (hT.put (q := p + 1) h1 h2 hB (v := .int .i64 (wrap64 (P + 1))) (by rw [← HW.out, IntWalk.i64_left]))
  have HK : Hid (KB (fun k => k = ga) W (w1.setCell ⟨ga, 0, none⟩ (.int .i64 (wrap64 (P + 1))))) := kb_put ga hb1 _
  clear hc hb1 c1 c2 c3 hT
  go_wp2
  go_ret
  rw [HE.out, HP.out]
  exact ⟨rfl, HT.out, HK.out⟩

theorem own_end (l : List Nat) (n : Nat) (a : Int) : (M.ownV l n a).2.1.toNat ≤ n := by
  by_cases h : (M.ownV l n a).2.2 = 0
  · exact (own_ok h).2.2
  · unfold M.ownV at *
    split
    · split
      · rename_i h1 _ x e h2
        rw [if_pos h1, h2] at h
        exact absurd rfl h
      · simp
    · simp
set_option maxRecDepth 100000 in
set_option maxHeartbeats 1600000 in
theorem bnumber_any (h : TS A c l n B gb gn ga p W) (hl : l.length ≤ 140737488355328) (hn : n ≤ 4611686018427387904) (hBW : B ≤ W.heap.size) (h1 : gb ≠ ga) (h2 : gn ≠ ga) (hB : B ≤ ga) :
    Calls Tryd.prog 64 #[.pointer (some ⟨gb, 0, none⟩), .pointer (some ⟨gn, 0, none⟩), .pointer (some ⟨ga, 0, none⟩)] W fun e W' => e = .returned (.tuple #[.int .i64 ((bS l n).num p).1.1, .bool ((bS l n).num p).1.2]) ∧ TS A c l n B gb gn ga ((bS l n).num p).2 W' ∧ KB (fun k => k = ga) W W' := by
  have hc := takeOwn_any A c l (n : Int) (wp p) W (h.row.more hBW) hl (by omega) (by omega)
  have c1 := h.bb.cell
  have c2 := h.bn.cell
  have c3 := h.ba.cell
  have HH := Lib.hid h
  have hpos := ownV_pos l n (wp p)
  have hend := own_end l n (wp p)
  have HE : Hid (((bS l n).num p).1.2 = ((M.ownV l n (wp p)).2.2 == 0)) := by show decide _ = _; rw [Bool.eq_iff_iff, decide_eq_true_iff, beq_iff_eq]
  have HE1 : Hid (((bS l n).num p).1.1 = (M.ownV l n (wp p)).1) := rfl
  have HP : Hid (((bS l n).num p).2 = (M.ownV l n (wp p)).2.1.toNat) := rfl
  unfold Own3 at hc
  obtain ⟨⟨x, e, z⟩, hx⟩ : ∃ r, M.ownV l n (wp p) = r := ⟨_, rfl⟩
  rw [hx] at hc HE HE1 HP hpos hend
  obtain ⟨P, hP⟩ : ∃ P, wp p = P := ⟨_, rfl⟩
  rw [hP] at hc c3
  simp only at hc HE HE1 HP hpos hend
  obtain ⟨hx0, hx1, he0⟩ := hpos
  have HWE : Hid (e = wp e.toNat) := by show _ = _; rw [wp_small (by omega)]; omega
  clear h hx hP
  go_enter Tryd.func64, Tryd.ntmps64
  go_wp2_with fail
  refine hc.mono ?_
  rintro _ w1 ⟨rfl, hb1⟩
  have hT := HH.out.next hb1 hBW
  have d3 := (hb1.cell (World.block_lt_of_cell? W _ c3)).trans c3
  have f3 := hT.ba.frozen
  have HT := Lib.hid (hT.put (q := e.toNat) h1 h2 hB (v := .int .i64 e) (by rw [← HWE.out]))
  have HK : Hid (KB (fun k => k = ga) W (w1.setCell ⟨ga, 0, none⟩ (.int .i64 e))) := kb_put ga hb1 _
  clear hc hb1 c1 c2 c3 hT hend
  go_wp2
  go_ret2
  rw [HE.out, HP.out, HE1.out]
  exact ⟨rfl, HT.out, HK.out⟩
set_option maxRecDepth 100000 in
theorem bmark_any (x : Int) (W : World) : Calls Tryd.prog 66 #[.int .u8 x] W fun e W' => e = .returned (.bool true) ∧ W = W' := by
  go_enter Tryd.func66, Tryd.ntmps66
  go_wp2
  go_ret
  exact ⟨rfl, rfl⟩
theorem take_src (A : Option Addr) (c : Nat) (l : List Nat) (n B gb gn ga base : Nat) (hl : l.length ≤ 140737488355328) (hn : n ≤ 4611686018427387904) (h1 : gb ≠ ga) (h2 : gn ≠ ga) (hB : B ≤ ga) (b1 : gb < base) (b2 : gn < base) (b3 : ga < base) :
    SrcW base ga (bS l n) 62 64 66 #[.pointer (some ⟨gb, 0, none⟩), .pointer (some ⟨gn, 0, none⟩), .pointer (some ⟨ga, 0, none⟩)] #[.pointer (some ⟨gb, 0, none⟩), .pointer (some ⟨gn, 0, none⟩), .pointer (some ⟨ga, 0, none⟩)] #[] (TS A c l n B gb gn ga) where
  lt := b3
  st _ _ _ h _ _ hk := ⟨(hk gb b1).trans h.bb, (hk gn b2).trans h.bn, (hk ga b3).trans h.ba, h.row.keep fun q hq => World.cell?_of_block (hk q.block (by omega))⟩
  pos p _ := (ownV_pos l n (wp p)).1
  cI _ _ h hb := binner_any h hl hn (by omega) h1 h2 hB
  cN _ _ h hb := bnumber_any h hl hn (by omega) h1 h2 hB
  cM x p W h _ := (bmark_any (x.toNat : Int) W).mono fun e W' ⟨he, hw⟩ => by subst hw; exact ⟨he, h, KB.refl _ _⟩
theorem call62 (args : Array Value) (w : World) : (callFunc 62 args).run Tryd.prog w = .ok (.enter 62 args) w := by simp [go_sem]
theorem call64 (args : Array Value) (w : World) : (callFunc 64 args).run Tryd.prog w = .ok (.enter 64 args) w := by simp [go_sem]
theorem call66 (args : Array Value) (w : World) : (callFunc 66 args).run Tryd.prog w = .ok (.enter 66 args) w := by simp [go_sem]

/-- What Take answers. -/
def takeR (l : List Nat) (n a : Int) : Tr × Int × Int :=
  if M.rightB l n = true ∧ 0 ≤ a ∧ a ≤ n then (match takeE l n.toNat a.toNat with | some q => (q.1, (q.2 : Int), 0) | none => (.leaf 0, 0, 50)) else (.leaf 0, 0, 2)
def AnsT (r : Tr × Int × Int) (w : World) (e : Ending) (w' : World) : Prop := ∃ v, e = .returned (.tuple #[v, .int .i64 r.2.1, .int .i64 r.2.2]) ∧ InP (New w w') w' r.1 v ∧ Below w.heap.size w w'

set_option maxRecDepth 100000 in
set_option maxHeartbeats 3200000 in
theorem takeP_any (A : Option Addr) (c : Nat) (l : List Nat) (n a : Int) (w : World) (hr : Row w w.heap.size A l) (hl : l.length ≤ 140737488351232) (h0 : -9223372036854775808 ≤ n) (h1 : n < 9223372036854775808) :
    Calls Tryd.prog 31 #[.slice A l.length c, .int .i64 n, .int .i64 a] w (AnsT (takeR l n a) w) := by
  have hbW : Below w.heap.size w ((((w.alloc (.cells #[.slice A l.length c] 38)).alloc (.cells #[.int .i64 n] 3)).alloc (.cells #[.int .i64 a] 3)).alloc (.cells #[.int .i64 0, .slice none 0 0] 24)) := four_boxes w _ _ _ _
  have hcr := Go.Proofs.YtflghlmikpfnpaaDoor.right_any A c l n ((((w.alloc (.cells #[.slice A l.length c] 38)).alloc (.cells #[.int .i64 n] 3)).alloc (.cells #[.int .i64 a] 3)).alloc (.cells #[.int .i64 0, .slice none 0 0] 24)) w.heap.size (hr.below hbW) (by omega) h0 h1
  have HNO : Hid (¬ (M.rightB l n = true ∧ 0 ≤ a ∧ a ≤ n) → takeR l n a = (.leaf 0, 0, 2)) := fun h => if_neg h
  have HBW := Lib.hid hbW
  have HR := Lib.hid hr
  clear hbW hr
  by_cases hR : M.rightB l n = true
  · rw [hR] at hcr
    by_cases ha0 : a < 0
    · have HE := Lib.hid (HNO.out (fun h => by omega))
      clear HR HNO hR
      go_enter Tryd.func31, Tryd.ntmps31
      go_wp2_with fail
      refine hcr.mono ?_
      rintro e w1 ⟨rfl, rfl⟩
      go_wp2
      refine bodyPost_ret (v := .tuple #[tv 0 none 0 0, .int .i64 0, .int .i64 2]) (by simp [results, Tryd.f31, go_sem, tv]) rfl ?_
      rw [HE.out]
      exact ⟨_, rfl, ⟨none, 0, rfl⟩, HBW.out⟩
    · by_cases ha1 : n < a
      · have HE := Lib.hid (HNO.out (fun h => by omega))
        clear HR HNO hR
        go_enter Tryd.func31, Tryd.ntmps31
        go_wp2_with fail
        refine hcr.mono ?_
        rintro e w1 ⟨rfl, rfl⟩
        go_wp2
        refine bodyPost_ret (v := .tuple #[tv 0 none 0 0, .int .i64 0, .int .i64 2]) (by simp [results, Tryd.f31, go_sem, tv]) rfl ?_
        rw [HE.out]
        exact ⟨_, rfl, ⟨none, 0, rfl⟩, HBW.out⟩
      · obtain ⟨N, rfl⟩ : ∃ k : Nat, n = k := ⟨n.toNat, by have := (M.rightB_true hR).1; omega⟩
        obtain ⟨a, rfl⟩ : ∃ k : Nat, a = k := ⟨a.toNat, by omega⟩
        have hV := (M.rightB_true hR).2
        simp only [Int.toNat_natCast] at hV
        have hN : N ≤ 1125899906842624 := by have := hV.1; omega
        have ha : a ≤ N := by omega
        have HT : Hid (takeR l (N : Int) (a : Int) = match rd (bS l N) 34 a 0 0 0 with | some q => (q.1, (q.2.1 : Int), 0) | none => (.leaf 0, 0, 50)) := by
          show _ = _
          unfold takeR takeE
          rw [if_pos ⟨hR, by omega, by omega⟩]
          simp only [Int.toNat_natCast]
          cases rd (bS l N) 34 a 0 0 0 <;> rfl
        have HLE : Hid (∀ t p c, rd (bS l N) 34 a 0 0 0 = some (t, p, c) → p ≤ N) := fun t p c h => takeE_le hR (by omega) ha h
        obtain ⟨W4, hW4⟩ : ∃ W4, (((w.alloc (.cells #[.slice A l.length c] 38)).alloc (.cells #[.int .i64 (N : Int)] 3)).alloc (.cells #[.int .i64 (a : Int)] 3)).alloc (.cells #[.int .i64 0, .slice none 0 0] 24) = W4 := ⟨_, rfl⟩
        have hs4 : W4.heap.size = w.heap.size + 4 := by rw [← hW4]; simp
        have b1 : Boxed W4 w.heap.size 38 (.slice A l.length c) := by rw [← hW4]; exact (((Boxed.new w 38 _).alloc _).alloc _).alloc _
        have b2 : Boxed W4 (w.heap.size + 1) 3 (.int .i64 (N : Int)) := by
          have h := ((Boxed.new (w.alloc (.cells #[.slice A l.length c] 38)) 3 (.int .i64 (N : Int))).alloc (.cells #[.int .i64 (a : Int)] 3)).alloc (.cells #[.int .i64 0, .slice none 0 0] 24)
          rw [hW4] at h
          simp only [World.size_alloc] at h
          exact h
        have b3 : Boxed W4 (w.heap.size + 1 + 1) 3 (.int .i64 (a : Int)) := by
          have h := (Boxed.new ((w.alloc (.cells #[.slice A l.length c] 38)).alloc (.cells #[.int .i64 (N : Int)] 3)) 3 (.int .i64 (a : Int))).alloc (.cells #[.int .i64 0, .slice none 0 0] 24)
          rw [hW4] at h
          simp only [World.size_alloc] at h
          exact h
        have hX4 : Box2 W4 (w.heap.size + 1 + 1 + 1) := by
          have h := Box2.new (((w.alloc (.cells #[.slice A l.length c] 38)).alloc (.cells #[.int .i64 (N : Int)] 3)).alloc (.cells #[.int .i64 (a : Int)] 3)) (.int .i64 0) (.slice none 0 0) 24
          rw [hW4] at h
          simp only [World.size_alloc] at h
          exact h
        rw [hW4] at HBW
        have hsrc := take_src A c l N w.heap.size w.heap.size (w.heap.size + 1) (w.heap.size + 1 + 1) W4.heap.size (by omega) (by omega) (by omega) (by omega) (by omega) (by omega) (by omega) (by omega)
        have hcR := read_any hsrc call62 call64 call66 a W4 ⟨b1, b2, by rw [wp_small (by omega)]; exact b3, HR.out.below HBW.out⟩ (Nat.le_refl _)
        have g1 := b1.cell
        have g2 := b2.cell
        have g3 := b3.cell
        have HX4 := Lib.hid hX4
        have HW4 := Lib.hid hW4
        rw [hW4] at hcr
        clear hX4 b1 b2 b3 hsrc HNO hV hR h0 h1 HR
        go_enter Tryd.func31, Tryd.ntmps31
        go_wp2_with fail
        refine hcr.mono ?_
        rintro e w1 ⟨rfl, rfl⟩
        clear hcr
        go_wp2_with fail
        refine hcR.mono ?_
        rintro e w5 ⟨hk5, hcase⟩
        obtain ⟨cs, ty, hx1, hx2⟩ := HX4.out
        have hX5 : Box2 w5 (w.heap.size + 1 + 1 + 1) := ⟨cs, ty, (hk5.same _ (by omega) (by omega)).trans hx1, hx2⟩
        have hb5 : Below w.heap.size w w5 := HBW.out.trans (hk5.down (by omega) (fun k hk => by omega))
        clear hcR HX4 hx1 g1 g2 g3
        rcases hcase with ⟨t, p', c', v, hr, rfl, hin, hR5⟩ | ⟨hr, rfl⟩
        · obtain ⟨A1, n1, c1, rfl⟩ := hin.form
          have hple := HLE.out _ _ _ hr
          rw [hr] at HT
          simp only at HT
          obtain ⟨W6, hW6⟩ : ∃ W6, w5.alloc (.cells #[.int .i64 t.N, .slice A1 n1 c1] 24) = W6 := ⟨_, rfl⟩
          have hb6 : Below w5.heap.size w5 W6 := by rw [← hW6]; exact (Below.refl _ w5).alloc (Nat.le_refl _) _
          have hs6 : W6.heap.size = w5.heap.size + 1 := by rw [← hW6]; simp
          have hX6 : Box2 W6 (w.heap.size + 1 + 1 + 1) := hX5.below hb6 hX5.lt
          have hin6 : InP (New w W6) W6 t (tv t.N A1 n1 c1) := (hin.stay hb6).more fun b h => ⟨by have := h.1; omega, by have := h.2; omega⟩
          have hB6 : Below w.heap.size w W6 := hb5.trans (hb6.mono hb5.size)
          have z0 : W6.cell? ⟨w5.heap.size, 0, none⟩ = some (.int .i64 t.N) := by rw [← hW6]; simp [go_sem]
          have z1 : W6.cell? ⟨w5.heap.size, 1, none⟩ = some (.slice A1 n1 c1) := by rw [← hW6]; simp [go_sem]
          have z3 := (boxed_below hR5.ba hb6 hR5.ba.lt).cell
          rw [wp_small (by omega)] at z3
          obtain ⟨u0, u1, ⟨y0, y1⟩, y2, y3⟩ := hX6.facts
          have HX6 := Lib.hid hX6
          have HIN6 := Lib.hid hin6
          have HB6 := Lib.hid hB6
          have HW6 := Lib.hid hW6
          have HNE : Hid (w5.heap.size ≠ w.heap.size + 1 + 1 + 1) := by have := hX5.lt; show _ ≠ _; omega
          clear hr hR5 hin hin6 hX6 hX5 hB6 hb6 hb5 hk5 hs6 HLE
          generalize t.N = tn at *
          unfold tv
          go_wp2
          have hbd : Below W6.heap.size W6 W6.drew := (Below.refl _ _).drew
          have hS0 : W6.drew.cell? ⟨w5.heap.size, 0, none⟩ = some (.int .i64 tn) ∧ W6.drew.cell? ⟨w5.heap.size, 1, none⟩ = some (.slice A1 n1 c1) ∧ W6.drew.cell? ⟨w.heap.size + 1 + 1, 0, none⟩ = some (.int .i64 (p' : Int)) := ⟨z0, z1, z3⟩
          have HXD := Lib.hid (HX6.out.below hbd HX6.out.lt)
          have HID : Hid (InP (New w W6.drew) W6.drew t (tv tn A1 n1 c1)) := HIN6.out.stay hbd
          have HBD : Hid (Below w.heap.size w W6.drew) := HB6.out.drew
          clear hbd HX6 HIN6 HB6 z0 z1 z3 y0 y1 y2 y3
          refine wp_region_held_drew (S := fun W => W.cell? ⟨w5.heap.size, 0, none⟩ = some (.int .i64 tn) ∧ W.cell? ⟨w5.heap.size, 1, none⟩ = some (.slice A1 n1 c1) ∧ W.cell? ⟨w.heap.size + 1 + 1, 0, none⟩ = some (.int .i64 (p' : Int))) (by kernel_rfl) hS0 (fun hS => ?_)
          generalize W6.drew = wd at *
          obtain ⟨u0, u1, ⟨y0, y1⟩, y2, y3⟩ := HXD.out.facts
          have hne : w5.heap.size ≠ w.heap.size + 1 + 1 + 1 := HNE.out
          have HFS : Hid (∀ u1 u2, ((wd.setCell ⟨w.heap.size + 1 + 1 + 1, 0, none⟩ u1).setCell ⟨w.heap.size + 1 + 1 + 1, 1, none⟩ u2).cell? ⟨w5.heap.size, 0, none⟩ = some (.int .i64 tn) ∧ ((wd.setCell ⟨w.heap.size + 1 + 1 + 1, 0, none⟩ u1).setCell ⟨w.heap.size + 1 + 1 + 1, 1, none⟩ u2).cell? ⟨w5.heap.size, 1, none⟩ = some (.slice A1 n1 c1) ∧ ((wd.setCell ⟨w.heap.size + 1 + 1 + 1, 0, none⟩ u1).setCell ⟨w.heap.size + 1 + 1 + 1, 1, none⟩ u2).cell? ⟨w.heap.size + 1 + 1, 0, none⟩ = some (.int .i64 (p' : Int))) := fun u1 u2 => by
            have far : ∀ (g i : Nat), g ≠ w.heap.size + 1 + 1 + 1 → ((wd.setCell ⟨w.heap.size + 1 + 1 + 1, 0, none⟩ u1).setCell ⟨w.heap.size + 1 + 1 + 1, 1, none⟩ u2).cell? ⟨g, i, none⟩ = wd.cell? ⟨g, i, none⟩ := fun g i hg => (World.cell?_setCell_other _ _ _ _ (fun e => by injection e; omega)).trans (World.cell?_setCell_other _ _ _ _ (fun e => by injection e; omega))
            exact ⟨(far _ _ hne).trans hS.1, (far _ _ hne).trans hS.2.1, (far _ _ (by omega)).trans hS.2.2⟩
          have HFIN : Hid (∀ u1 u2, Below w.heap.size w ((wd.setCell ⟨w.heap.size + 1 + 1 + 1, 0, none⟩ u1).setCell ⟨w.heap.size + 1 + 1 + 1, 1, none⟩ u2) ∧ InP (New w ((wd.setCell ⟨w.heap.size + 1 + 1 + 1, 0, none⟩ u1).setCell ⟨w.heap.size + 1 + 1 + 1, 1, none⟩ u2)) ((wd.setCell ⟨w.heap.size + 1 + 1 + 1, 0, none⟩ u1).setCell ⟨w.heap.size + 1 + 1 + 1, 1, none⟩ u2) t (tv tn A1 n1 c1)) := fun u1 u2 => ⟨(HBD.out.setCell (p := ⟨w.heap.size + 1 + 1 + 1, 0, none⟩) (by show _ ≤ _ + 1; omega) _).setCell (p := ⟨w.heap.size + 1 + 1 + 1, 1, none⟩) (by show _ ≤ _ + 1; omega) _, (InP.set2 (HXD.out.set _) (InP.set2 HXD.out HID.out)).more fun b h => ⟨h.1, by rw [size_set, size_set]; exact h.2⟩⟩
          clear HXD HID HBD
          refine wpAnyH_take (i := 0) (v := ?_) rfl (by kernel_rfl) (by kernel_rfl) (by kernel_rfl) (fun _ _ _ h => h) (Or.inl ⟨by kernel_rfl, fun W hW => ?_⟩) hS ?_
          rotate_left
          · obtain ⟨f0, f1, f2⟩ := hW
            first | (go_simp; done) | (go_simp; with_reducible rfl)
          refine wpAnyH_take (i := 1) (v := ?_) rfl (by kernel_rfl) (by kernel_rfl) (by kernel_rfl) (fun _ _ _ h => h) (Or.inl ⟨by kernel_rfl, fun W hW => ?_⟩) hS ?_
          rotate_left
          · obtain ⟨f0, f1, f2⟩ := hW
            first | (go_simp; done) | (go_simp; with_reducible rfl)
          refine wpAnyH_ready (rs := [2]) (by kernel_rfl) (by simp) ?_
          refine AllReadyH.cons rfl (fun K hK => ?_) AllReadyH.nil
          go_simp
          have hS3 := HFS.out (.int .i64 tn) (.slice A1 n1 c1)
          clear hS
          refine hK.out _ _ hS3 (fun hS => ?_)
          clear hK K hS3
          refine wpAnyH_take (i := 3) (v := ?_) rfl (by kernel_rfl) (by kernel_rfl) (by kernel_rfl) (fun _ _ _ h => h) (Yields.yieldsIf (Or.inl ⟨by kernel_rfl, ?_⟩)) hS ?_
          rotate_left
          · first | (intro w; go_simp; done) | (intro w; go_simp; with_reducible rfl)
          refine wpAnyH_take (i := 4) (v := ?_) rfl (by kernel_rfl) (by kernel_rfl) (by kernel_rfl) (fun _ _ _ h => h) (Yields.yieldsIf (Or.inl ⟨by kernel_rfl, ?_⟩)) hS ?_
          rotate_left
          · first | (intro w; go_simp; done) | (intro w; go_simp; with_reducible rfl)
          refine wpAnyH_done (by kernel_rfl) ?_ _
          clear hS
          go_wp2
          refine bodyPost_ret (v := .tuple #[tv tn A1 n1 c1, .int .i64 (p' : Int), .int .i64 0]) (by simp [results, Tryd.f31, go_sem, tv, y0, y1]) rfl ?_
          rw [HT.out]
          exact ⟨_, rfl, (HFIN.out _ _).2, (HFIN.out _ _).1⟩
        · rw [hr] at HT
          simp only at HT
          have hX6 : Box2 (w5.alloc (.cells #[.int .i64 0, .slice none 0 0] 24)) (w.heap.size + 1 + 1 + 1) := hX5.below ((Below.refl _ w5).alloc (Nat.le_refl _) _) hX5.lt
          obtain ⟨u0, u1, ⟨y0, y1⟩, y2, y3⟩ := hX6.facts
          have hB6 : Below w.heap.size w (w5.alloc (.cells #[.int .i64 0, .slice none 0 0] 24)) := hb5.trans (((Below.refl _ w5).alloc (Nat.le_refl _) _).mono hb5.size)
          have HK : Hid (∀ u1 u2, Below w.heap.size w (((w5.alloc (.cells #[.int .i64 0, .slice none 0 0] 24)).setCell ⟨w.heap.size + 1 + 1 + 1, 0, none⟩ u1).setCell ⟨w.heap.size + 1 + 1 + 1, 1, none⟩ u2)) := fun u1 u2 => (hB6.setCell (p := ⟨w.heap.size + 1 + 1 + 1, 0, none⟩) (by show _ ≤ _ + 1; omega) _).setCell (p := ⟨w.heap.size + 1 + 1 + 1, 1, none⟩) (by show _ ≤ _ + 1; omega) _
          clear hr hX6 hB6 hX5 hb5 hk5 HLE
          unfold tv
          go_wp2
          refine bodyPost_ret (v := .tuple #[tv 0 none 0 0, .int .i64 0, .int .i64 50]) (by simp [results, Tryd.f31, go_sem, tv, y0, y1]) rfl ?_
          rw [HT.out]
          exact ⟨_, rfl, ⟨none, 0, rfl⟩, HK.out _ _⟩
  · have hRf : M.rightB l n = false := by simpa using hR
    have HE := Lib.hid (HNO.out (fun h => hR h.1))
    rw [hRf] at hcr
    clear HR HNO hR hRf
    go_enter Tryd.func31, Tryd.ntmps31
    go_wp2_with fail
    refine hcr.mono ?_
    rintro e w1 ⟨rfl, rfl⟩
    go_wp2
    refine bodyPost_ret (v := .tuple #[tv 0 none 0 0, .int .i64 0, .int .i64 2]) (by simp [results, Tryd.f31, go_sem, tv]) rfl ?_
    rw [HE.out]
    exact ⟨_, rfl, ⟨none, 0, rfl⟩, HBW.out⟩
end Go.Proofs.YtflghlmikpfnpaaDoor.E

namespace Go.Proofs.YtflghlmikpfnpaaDoor.E
open Go.RowKit

theorem num_bit (l : List Nat) (a : Nat) : M.num l a 1 = M.bitAt l a := by
  have := M.num_succ l a 0 (by decide)
  rw [Nat.add_zero] at this
  rw [this]
  simp [M.num]
/-- Bits from a place on. -/
def Stand (L : List Nat) (p : Nat) (bs : List Nat) : Prop := ∀ i, i < bs.length → M.bitAt L (p + i) = bs[i]?.getD 0
theorem Stand.left {L : List Nat} {p : Nat} {a b : List Nat} (h : Stand L p (a ++ b)) : Stand L p a := fun i hi => by
  rw [h i (by rw [List.length_append]; omega), List.getElem?_append_left hi]
theorem Stand.right {L : List Nat} {p : Nat} {a b : List Nat} (h : Stand L p (a ++ b)) : Stand L (p + a.length) b := fun i hi => by
  have := h (a.length + i) (by rw [List.length_append]; omega)
  rw [List.getElem?_append_right (by omega), show a.length + i - a.length = i by omega] at this
  rw [Nat.add_assoc]; exact this
theorem take_bit {L : List Nat} {n p : Nat} (hR : M.rightB L n = true) (h : p + 1 ≤ n) : takeV L n p 1 = (((M.bitAt L p : Nat) : Int), 0) := by
  unfold takeV
  rw [if_pos ⟨hR, by omega, by omega, by omega, by omega⟩, if_neg (by omega)]
  simp only [Int.toNat_natCast, show (1 : Int).toNat = 1 from rfl, num_bit]
theorem own_bits {L : List Nat} {n p v : Nat} (hR : M.rightB L n = true) (hv : v < 4611686018427387904) (hn : p + (gam v).length ≤ n) (h : Stand L p (gam v)) : M.ownV L n p = ((v : Int), ((p + (gam v).length : Nat) : Int), 0) :=
  M.ownV_some hR (by omega) (M.own_of_gamma (v := v) hv hn h)
theorem brd_full {L : List Nat} {n : Nat} (hR : M.rightB L n = true) : ∀ (t : Tr) (f p : Nat) (m : Int), Stand L p (bitsE t) → p + (bitsE t).length ≤ n → smallT t = true → t.okc m = true → t.depth < f → brd L n f p = some (t, p + (bitsE t).length) := by
  intro t
  induction t with
  | leaf N =>
    intro f p m h hn hs hok hf
    obtain ⟨f, rfl⟩ : ∃ g, f = g + 1 := ⟨f - 1, by omega⟩
    have hN := okc_N _ _ hok
    simp only [Tr.N] at hN
    simp only [smallT, decide_eq_true_eq] at hs
    have e : bitsE (.leaf N) = [0] ++ gam N.toNat := rfl
    rw [e] at h hn ⊢
    simp only [List.length_append, List.length_singleton] at hn ⊢
    have h0 : M.bitAt L p = 0 := by have := h.left 0 (by simp); simpa using this
    have hb := take_bit hR (p := p) (by omega)
    have ho := own_bits (p := p + 1) hR (v := N.toNat) (by omega) (by omega) (by simpa using h.right)
    rw [show ((p + 1 : Nat) : Int) = (p : Int) + 1 by omega] at ho
    rw [brd, hb, ho, h0]
    simp only [ne_eq, not_true_eq_false, if_false, Int.toNat_natCast]
    rw [if_neg (by decide)]
    simp only [Option.some.injEq, Prod.mk.injEq, Tr.leaf.injEq]
    exact ⟨by omega, by omega⟩
  | node N x y ihx ihy =>
    intro f p m h hn hs hok hf
    obtain ⟨f, rfl⟩ : ∃ g, f = g + 1 := ⟨f - 1, by omega⟩
    have hN := okc_N _ _ hok
    simp only [Tr.N] at hN
    simp only [Tr.okc, Bool.and_eq_true, decide_eq_true_eq] at hok
    simp only [smallT, Bool.and_eq_true, decide_eq_true_eq] at hs
    simp only [Tr.depth] at hf
    have e : bitsE (.node N x y) = [1] ++ (gam N.toNat ++ (bitsE x ++ bitsE y)) := rfl
    rw [e] at h hn ⊢
    simp only [List.length_append, List.length_singleton] at hn ⊢
    have h0 : M.bitAt L p = 1 := by have := h.left 0 (by simp); simpa using this
    have hb := take_bit hR (p := p) (by omega)
    have hr : Stand L (p + 1) (gam N.toNat ++ (bitsE x ++ bitsE y)) := by simpa using h.right
    have ho := own_bits (p := p + 1) hR (v := N.toNat) (by omega) (by omega) hr.left
    rw [show ((p + 1 : Nat) : Int) = (p : Int) + 1 by omega] at ho
    have ix := ihx f (p + 1 + (gam N.toNat).length) (m - N) hr.right.left (by omega) hs.2.1 hok.2.1 (by omega)
    have iy := ihy f (p + 1 + (gam N.toNat).length + (bitsE x).length) (m - N) hr.right.right (by omega) hs.2.2 hok.2.2 (by omega)
    rw [brd, hb, ho, h0]
    simp only [ne_eq, not_true_eq_false, if_false, Int.toNat_natCast]
    rw [if_pos (by decide), ix, Option.bind_some]
    simp only
    rw [iy, Option.bind_some]
    simp only [Option.some.injEq, Prod.mk.injEq, Tr.node.injEq, and_true]
    exact ⟨by omega, by omega⟩
theorem high_ge : ∀ (t : Tr) (m : Int), t.okc m = true → t.N ≤ high t ∧ high t ≤ m ∧ 0 ≤ high t
  | .leaf n, m, h => by
    have := okc_N _ _ h
    simp only [Tr.N, high] at *
    omega
  | .node n x y, m, h => by
    have h0 := okc_N _ _ h
    simp only [Tr.okc, Bool.and_eq_true, decide_eq_true_eq] at h
    have h1 := high_ge x _ h.2.1
    have h2 := high_ge y _ h.2.2
    simp only [Tr.N, high] at *
    omega
/-- A number that has no bits is the greatest there is. -/
theorem high_big : ∀ (t : Tr) (m : Int), t.okc m = true → m ≤ 4611686018427387904 → smallT t = false → high t = 4611686018427387904
  | .leaf n, m, h, hm, hs => by
    have := okc_N _ _ h
    simp only [Tr.N, high, smallT, decide_eq_false_iff_not] at *
    omega
  | .node n x y, m, h, hm, hs => by
    have h0 := okc_N _ _ h
    have hh := high_ge _ _ h
    simp only [Tr.okc, Bool.and_eq_true, decide_eq_true_eq] at h
    have h1 := high_ge x _ h.2.1
    have h2 := high_ge y _ h.2.2
    simp only [Tr.N, high] at *
    by_cases hn : n < 4611686018427387904
    · simp only [smallT, decide_eq_true hn, Bool.true_and, Bool.and_eq_false_iff] at hs
      rcases hs with hs | hs
      · have := high_big x _ h.2.1 (by omega) hs
        omega
      · have := high_big y _ h.2.2 (by omega) hs
        omega
    · omega
/-- What was laid is taken. -/
theorem take_laid (t : Tr) (hok : okT t = true) (hs : smallT t.norm = true) : M.rightB (M.putL [] 0 (bitsE t.norm)) ((bitsE t.norm).length : Int) = true ∧ takeE (M.putL [] 0 (bitsE t.norm)) (bitsE t.norm).length 0 = some (t.norm, (bitsE t.norm).length) := by
  have hokn := okT_norm hok
  obtain ⟨k1, k2, k3⟩ := (okT_iff _).1 hokn
  have hV : M.Valid (M.putL [] 0 (bitsE t.norm)) (bitsE t.norm).length := by
    have := M.put_valid (l := []) (n := 0) (bitsE t.norm) (by simp) ⟨rfl, by simp⟩ (bitsE_lt _)
    simpa using this
  have hR := M.rightB_nat hV
  have hlen := bitsE_len t.norm 4611686018427387904 k2 (by omega)
  refine ⟨hR, ?_⟩
  have hst : Stand (M.putL [] 0 (bitsE t.norm)) 0 (bitsE t.norm) := fun i _ => by
    have := M.put_bits (bitsE t.norm) M.inv_nil (bitsE_lt _) i
    rw [Nat.zero_add, this]
    simp
  have hb := brd_full hR t.norm 33 0 4611686018427387904 hst (by omega) hs k2 (by omega)
  rw [takeE_eq hR (by omega) 0 (by omega), hb, Option.bind_some, if_pos ⟨hokn, by rw [norm_nf (nf_norm t)]; exact (eqT_iff _ _).2 rfl⟩, Nat.zero_add]
end Go.Proofs.YtflghlmikpfnpaaDoor.E
