/-
  The two iterators, digits and span, as contracts for whatever loop body.
-/
import Derived.Test.YtflghlmikpfnpaaDoorLeaf
import Derived.RangeFuncNested
import Derived.RangeFuncBound
import Derived.RangeFuncCalls
import Derived.RangeFuncLeaves
import Derived.Shelf.Abstract
import Derived.Shelf.RegionOpen
import Derived.WalkKit
import Derived.OwnWalkIn
import Derived.TacticsInMore
import Derived.LoopNIn
import Derived.LoopIn
namespace Go.Proofs.YtflghlmikpfnpaaDoor
open Go.RowKit Go.Shelf
attribute [local go_sem] Oper.semAt_some

/-- The cells of S hold what they held. -/
def KeepCells (S : Addr → Prop) (W W' : World) : Prop := ∀ p, S p → W'.cell? p = W.cell? p
theorem KeepCells.refl (S : Addr → Prop) (W : World) : KeepCells S W W := fun _ _ => rfl
theorem KeepCells.trans {S : Addr → Prop} {A B C : World} (h : KeepCells S A B) (k : KeepCells S B C) : KeepCells S A C := fun p hp => (k p hp).trans (h p hp)
theorem KeepCells.putObj {S : Addr → Prop} {w : World} (hS : ∀ p, S p → p.block < w.heap.size) (W : World) (l : Nat) (o o' : Obj) (hl : w.heap.size ≤ l) (h : W.heap[l]? = some o) (_ : o.isCells = false) (_ : o.isWalk = false) : KeepCells S W (W.putObj l o') :=
  fun p hp => World.cell?_of_block ((grownBy_putObj' W l o').block p.block (by have := (Array.getElem?_eq_some_iff.1 h).1; have := hS p hp; omega) (fun e => by have := hS p hp; cases e; omega))

theorem dig_num (v j : Nat) (hv : v < 18446744073709551616) : bits .and .u8 ((v : Int) / 2 ^ min j 64 % 256) 1 = ((v / 2 ^ j % 2 : Nat) : Int) := by
  have e : (v : Int) / 2 ^ min j 64 % 256 = ((v / 2 ^ min j 64 % 256 : Nat) : Int) := by simp
  rw [e, show (1 : Int) = ((1 : Nat) : Int) from rfl, u8_and_nat _ _ (Nat.mod_lt _ (by decide)) (by decide), nat_mask1]
  congr 1
  rw [Nat.mod_mod_of_dvd _ (by decide : 2 ∣ 256)]
  rcases Nat.le_total j 64 with h | h
  · rw [Nat.min_eq_left h]
  · rw [Nat.min_eq_right h, Nat.div_eq_of_lt (show v < 2 ^ 64 from hv), Nat.div_eq_of_lt (Nat.lt_of_lt_of_le (show v < 2 ^ 64 from hv) (Nat.pow_le_pow_right (by decide) h))]

set_option maxRecDepth 100000 in
set_option maxHeartbeats 2000000 in
theorem digits1_in (F : Fence) (n : Nat) (h31 : F.fn 97) (hro : F.round = none) (hn : 1 ≤ n) (l Bw Bv v m : Nat) (hv : v < 18446744073709551616) (hm : m ≤ 200) (J Jx : List (Fin 2) → World → Prop)
    (hY : ∀ pre x W, J pre W → pre.length < m → YieldAt F (n - 1) Tryd.prog l #[.int .u8 ((x.val : Nat) : Int)] W fun e W' =>
      (e = .returned (.bool true) ∧ J (pre ++ [x]) W' ∧ KeepCells (fun p => p.block = Bv) W W') ∨ (e = .returned (.bool false) ∧ Jx (pre ++ [x]) W'))
    (W : World) (hBw : W.cell? ⟨Bw, 0, none⟩ = some (.int .i64 m)) (hBv : W.cell? ⟨Bv, 0, none⟩ = some (.int .u64 v)) (h0 : J [] W) :
    CallsIn F n Tryd.prog 97 #[.func (.yield l) #[] #[], .pointer (some ⟨Bw, 0, none⟩), .pointer (some ⟨Bv, 0, none⟩)] W fun e W' => (∃ v, e = .returned v) ∧
      ((∃ ys : List (Fin 2), ys.map Fin.val = M.digs v m ∧ J ys W') ∨ (∃ pre : List (Fin 2), pre.map Fin.val <+: M.digs v m ∧ Jx pre W')) := by
  refine callsIn_of_wp Tryd.func97 rfl h31 ?_ hro
  simp only [Tryd.ntmps97, List.size_toArray, List.length_cons, List.length_nil, Nat.reduceAdd, Nat.reduceSub, Array.replicate_succ, Array.replicate_zero, List.push_toArray, List.append_toArray, List.nil_append, List.cons_append]
  gi_wp2
  gi_loopw [4] (fun a wr => ∃ (k : Nat) (i : Int) (pre : List (Fin 2)), k ≤ m ∧ i = (m : Int) - 1 - k ∧ a = .int .i64 i ∧ pre.map Fin.val = (M.digs v m).take k ∧ J pre wr ∧ wr.cell? ⟨Bv, 0, none⟩ = some (.int .u64 v))
    (fun a _ => (intOf a + 1).toNat)
  case atStart => exact ⟨0, _, [], Nat.zero_le _, by omega, rfl, by simp, h0, hBv⟩
  case round =>
    obtain ⟨k, i, pre, hk, hi, rfl, hpre, hJs, hcv⟩ := hrel
    by_cases hlt : k < m
    · obtain ⟨j, hj⟩ : ∃ j : Nat, i = j := ⟨i.toNat, by omega⟩
      subst hj
      have hj2 : j ≤ 200 := by omega
      have hlen : pre.length < m := by
        have := congrArg List.length hpre
        rw [List.length_map, List.length_take, M.digs_length] at this; omega
      have hd := dig_num v j hv
      have HN : Hid (((M.digs v m).take (k + 1)) = (M.digs v m).take k ++ [v / 2 ^ j % 2]) := by
        show _ = _
        rw [List.take_succ_eq_append_getElem (by rw [M.digs_length]; exact hlt)]
        congr 2
        have := M.digs_getElem v m k hlt
        rw [List.getElem?_eq_getElem (by rw [M.digs_length]; exact hlt), Option.getD_some] at this
        rw [this, show m - 1 - k = j by omega]
      obtain ⟨d, hdd⟩ : ∃ d : Fin 2, d.val = v / 2 ^ j % 2 := ⟨⟨v / 2 ^ j % 2, Nat.mod_lt _ (by decide)⟩, rfl⟩
      rw [← hdd] at hd
      have HP : Hid ((pre ++ [d]).map Fin.val = (M.digs v m).take (k + 1)) := by
        show _ = _
        rw [HN.out, List.map_append, hpre, ← hdd]; rfl
      clear hdd HN hpre
      obtain ⟨fn, tmps, assign, body, hy, hR⟩ := hY pre d wr hJs hlen
      have HI := Lib.hid hi; clear hi
      clear hY
      gi_wp2
      refine hR.mono ?_
      rintro e W3 (⟨rfl, hJ3, hk3⟩ | ⟨rfl, hJx3⟩)
      · have hc3 : W3.cell? ⟨Bv, 0, none⟩ = some (.int .u64 v) := (hk3 ⟨Bv, 0, none⟩ rfl).trans hcv
        gi_wp2
        go_roundw
        case rel => exact ⟨k + 1, _, pre ++ [d], by omega, by have := HI.out; omega, rfl, HP.out, hJ3, hc3⟩
        case measure => simp [intOf]
      · gi_wp2
        refine bodyPost_ret (results_none rfl _ _ _) rfl ?_
        exact ⟨⟨_, rfl⟩, .inr ⟨pre ++ [d], by rw [HP.out]; exact List.take_prefix _ _, hJx3⟩⟩
    · have hi' : i < 0 := by omega
      have HP := Lib.hid hpre; clear hpre
      have HI := Lib.hid hi; clear hi
      clear hY
      gi_wp2
      go_end0
      exact ⟨⟨_, rfl⟩, .inl ⟨pre, by rw [HP.out]; exact List.take_of_length_le (by rw [M.digs_length]; omega), hJs⟩⟩

theorem digits_stops (F : Fence) (n : Nat) (h31 : F.fn 97) (hro : F.round = none) (hn : 1 ≤ n) (Bw Bv v m : Nat) (hv : v < 18446744073709551616) (hm : m ≤ 200) (w : World)
    (hlw : Bw < w.heap.size) (hlv : Bv < w.heap.size) (hBw : w.cell? ⟨Bw, 0, none⟩ = some (.int .i64 m)) (hBv : w.cell? ⟨Bv, 0, none⟩ = some (.int .u64 v)) :
    SeqStopsK F n Tryd.prog 97 #[.pointer (some ⟨Bw, 0, none⟩), .pointer (some ⟨Bv, 0, none⟩)] (fun x : Fin 2 => #[Value.int .u8 ((x.val : Nat) : Int)]) (KeepCells (fun p => p.block = Bv))
      (fun ys => ys.map Fin.val = M.digs v m) (fun pre => pre.map Fin.val <+: M.digs v m) m w := fun l J Jx W hW _ _ hY h0 =>
  digits1_in F n h31 hro hn l Bw Bv v m hv hm J Jx hY W ((hW.cell (p := ⟨Bw, 0, none⟩) hlw).trans hBw) ((hW.cell (p := ⟨Bv, 0, none⟩) hlv).trans hBv) h0

set_option maxHeartbeats 1000000 in
theorem digits_in (F : Fence) (n : Nat) (h29 : F.fn 92) (hro : F.round = none) (v m : Int) (w : World) :
    CallsIn F n Tryd.prog 92 #[.int .u64 v, .int .i64 m] w fun e w' => e = .returned (.func (.func 97) #[] #[.pointer (some ⟨w.heap.size + 1, 0, none⟩), .pointer (some ⟨w.heap.size, 0, none⟩)]) ∧ (w.alloc (.cells #[.int .u64 v] 51)).alloc (.cells #[.int .i64 m] 3) = w' := by
  refine callsIn_of_wp Tryd.func92 rfl h29 ?_ hro
  simp only [Tryd.ntmps92, List.size_toArray, List.length_cons, List.length_nil, Nat.reduceAdd, Nat.reduceSub, Array.replicate_succ, Array.replicate_zero, List.push_toArray, List.append_toArray, List.nil_append, List.cons_append]
  gi_wp2
  go_ret
  exact ⟨rfl, rfl⟩

/-- The bits of l from a place on, k of them. -/
def seg (l : List Nat) (a k : Nat) : List Nat := (List.range k).map fun i => M.bitAt l (a + i)
theorem seg_length (l : List Nat) (a k : Nat) : (seg l a k).length = k := by simp [seg]
theorem seg_take (l : List Nat) (a k m : Nat) (h : k ≤ m) : (seg l a m).take k = seg l a k := by
  unfold seg; rw [← List.map_take, List.take_range, Nat.min_eq_left h]
theorem seg_succ (l : List Nat) (a k : Nat) : seg l a (k + 1) = seg l a k ++ [M.bitAt l (a + k)] := by simp [seg, List.range_succ]

set_option maxRecDepth 100000 in
set_option maxHeartbeats 2000000 in
theorem span1_in (F : Fence) (n : Nat) (h30 : F.fn 95) (hro : F.round = none) (hn : 1 ≤ n) (y Ba Be Bb n₀ a m c : Nat) (A : Option Addr) (l : List Nat) (hl : l.length ≤ 140737488355328) (hm : a + m ≤ 8 * l.length) (J Jx : List (Fin 2) → World → Prop)
    (hY : ∀ pre x W, J pre W → pre.length < m → YieldAt F (n - 1) Tryd.prog y #[.int .u64 ((x.val : Nat) : Int)] W fun e W' =>
      (e = .returned (.bool true) ∧ J (pre ++ [x]) W' ∧ KeepCells (fun p => p.block < n₀ ∨ p.block = Be ∨ p.block = Bb) W W') ∨ (e = .returned (.bool false) ∧ Jx (pre ++ [x]) W'))
    (W : World) (hBa : W.cell? ⟨Ba, 0, none⟩ = some (.int .i64 a)) (hBe : W.cell? ⟨Be, 0, none⟩ = some (.int .i64 ((a + m : Nat) : Int))) (hBb : W.cell? ⟨Bb, 0, none⟩ = some (.slice A l.length c)) (hr : Row W n₀ A l) (h0 : J [] W) :
    CallsIn F n Tryd.prog 95 #[.func (.yield y) #[] #[], .pointer (some ⟨Ba, 0, none⟩), .pointer (some ⟨Be, 0, none⟩), .pointer (some ⟨Bb, 0, none⟩)] W fun e W' => (∃ v, e = .returned v) ∧
      ((∃ ys : List (Fin 2), ys.map Fin.val = seg l a m ∧ J ys W') ∨ (∃ pre : List (Fin 2), pre.map Fin.val <+: seg l a m ∧ Jx pre W')) := by
  have HR := Lib.hid hr; clear hr
  refine callsIn_of_wp Tryd.func95 rfl h30 ?_ hro
  simp only [Tryd.ntmps95, List.size_toArray, List.length_cons, List.length_nil, Nat.reduceAdd, Nat.reduceSub, Array.replicate_succ, Array.replicate_zero, List.push_toArray, List.append_toArray, List.nil_append, List.cons_append]
  gi_wp2
  gi_loopw [5] (fun s wr => ∃ (k : Nat) (pre : List (Fin 2)), k ≤ m ∧ s = .int .i64 ((a + k : Nat) : Int) ∧ pre.map Fin.val = seg l a k ∧ J pre wr ∧ wr.cell? ⟨Be, 0, none⟩ = some (.int .i64 ((a + m : Nat) : Int)) ∧ wr.cell? ⟨Bb, 0, none⟩ = some (.slice A l.length c) ∧ Hid (Row wr n₀ A l))
    (fun s _ => a + m - (intOf s).toNat)
  case atStart => exact ⟨0, [], Nat.zero_le _, by simp, rfl, h0, hBe, hBb, HR⟩
  case round =>
    obtain ⟨k, pre, hk, rfl, hpre, hJs, hce, hcb, HRk⟩ := hrel
    by_cases hlt : k < m
    · have hlen : pre.length < m := by
        have := congrArg List.length hpre
        rw [List.length_map, seg_length] at this; omega
      have hx := HRk.out.elem ((a + k) / 8)
      obtain ⟨b, off, rfl, hb, hc⟩ := HRk.out.2 (by omega)
      have hc' := hc ((a + k) / 8) (by omega)
      have hd := bit_num (l[(a + k) / 8]?.getD 0) (a + k) hx
      have hdl := M.bitAt_lt l (a + k)
      have HN := Lib.hid (seg_succ l a k)
      obtain ⟨d, hdd⟩ : ∃ d : Fin 2, d.val = M.bitAt l (a + k) := ⟨⟨_, hdl⟩, rfl⟩
      have HP : Hid ((pre ++ [d]).map Fin.val = seg l a (k + 1)) := by
        show _ = _
        rw [HN.out, List.map_append, hpre, ← hdd]; rfl
      have hd2 : l[(a + k) / 8]?.getD 0 / 2 ^ (7 - (a + k) % 8) % 2 = d.val := by rw [hdd]; rfl
      rw [hd2] at hd
      obtain ⟨x, hxe⟩ : ∃ x, l[(a + k) / 8]?.getD 0 = x := ⟨_, rfl⟩
      rw [hxe] at hc' hd hx
      clear hd2 hdd HN hpre hxe hdl hc
      have hi' : (a + k) / 8 < l.length := by omega
      have hlt' : a + k < a + m := by omega
      obtain ⟨fn, tmps, assign, body, hy, hR⟩ := hY pre d wr hJs hlen
      clear hY HR
      obtain ⟨i, hie⟩ : ∃ i, a + k = i := ⟨_, rfl⟩
      obtain ⟨z, hze⟩ : ∃ z, a + m = z := ⟨_, rfl⟩
      simp only [hie, hze] at hc' hd hi' hlt' hce ⊢
      have HIE := Lib.hid hie; clear hie
      have HZE := Lib.hid hze; clear hze
      have hz2 : z ≤ 1125899906842624 := by have := HZE.out; omega
      gi_wp2
      refine hR.mono ?_
      rintro e W3 (⟨rfl, hJ3, hk3⟩ | ⟨rfl, hJx3⟩)
      · have hce3 : W3.cell? ⟨Be, 0, none⟩ = some (.int .i64 (z : Int)) := (hk3 ⟨Be, 0, none⟩ (.inr (.inl rfl))).trans hce
        have hcb3 : W3.cell? ⟨Bb, 0, none⟩ = some (.slice (some ⟨b, off, none⟩) l.length c) := (hk3 ⟨Bb, 0, none⟩ (.inr (.inr rfl))).trans hcb
        gi_wp2
        go_roundw
        case rel => exact ⟨k + 1, pre ++ [d], by omega, by have := HIE.out; rw [show a + (k + 1) = i + 1 by omega]; go_num, HP.out, hJ3, hce3, hcb3, HRk.out.keep fun p hp => hk3 p (.inl hp)⟩
        case measure => have := HIE.out; have := HZE.out; simp [intOf]; omega
      · gi_wp2
        refine bodyPost_ret (results_none rfl _ _ _) rfl ?_
        exact ⟨⟨_, rfl⟩, .inr ⟨pre ++ [d], by rw [HP.out, ← seg_take l a (k + 1) m (by omega)]; exact List.take_prefix _ _, hJx3⟩⟩
    · obtain rfl : k = m := by omega
      have HP := Lib.hid hpre; clear hpre
      clear hY
      gi_wp2
      go_end0
      exact ⟨⟨_, rfl⟩, .inl ⟨pre, HP.out, hJs⟩⟩

theorem span_stops (F : Fence) (n : Nat) (h30 : F.fn 95) (hro : F.round = none) (hn : 1 ≤ n) (Ba Be Bb n₀ a m c : Nat) (A : Option Addr) (l : List Nat) (hl : l.length ≤ 140737488355328) (hm : a + m ≤ 8 * l.length) (w : World)
    (hla : Ba < w.heap.size) (hle : Be < w.heap.size) (hlb : Bb < w.heap.size) (hn₀ : n₀ ≤ w.heap.size)
    (hBa : w.cell? ⟨Ba, 0, none⟩ = some (.int .i64 a)) (hBe : w.cell? ⟨Be, 0, none⟩ = some (.int .i64 ((a + m : Nat) : Int))) (hBb : w.cell? ⟨Bb, 0, none⟩ = some (.slice A l.length c)) (hr : Row w n₀ A l) :
    SeqStopsK F n Tryd.prog 95 #[.pointer (some ⟨Ba, 0, none⟩), .pointer (some ⟨Be, 0, none⟩), .pointer (some ⟨Bb, 0, none⟩)] (fun x : Fin 2 => #[Value.int .u64 ((x.val : Nat) : Int)]) (KeepCells (fun p => p.block < n₀ ∨ p.block = Be ∨ p.block = Bb))
      (fun ys => ys.map Fin.val = seg l a m) (fun pre => pre.map Fin.val <+: seg l a m) m w := fun y J Jx W hW _ _ hY h0 =>
  span1_in F n h30 hro hn y Ba Be Bb n₀ a m c A l hl hm J Jx hY W ((hW.cell (p := ⟨Ba, 0, none⟩) hla).trans hBa) ((hW.cell (p := ⟨Be, 0, none⟩) hle).trans hBe) ((hW.cell (p := ⟨Bb, 0, none⟩) hlb).trans hBb) (hr.below (hW.mono hn₀)) h0

set_option maxHeartbeats 1000000 in
theorem span_in (F : Fence) (n : Nat) (h28 : F.fn 87) (hro : F.round = none) (A : Option Addr) (len c : Nat) (a e₁ : Int) (w : World) :
    CallsIn F n Tryd.prog 87 #[.slice A len c, .int .i64 a, .int .i64 e₁] w fun e w' => e = .returned (.func (.func 95) #[] #[.pointer (some ⟨w.heap.size + 1, 0, none⟩), .pointer (some ⟨w.heap.size + 1 + 1, 0, none⟩), .pointer (some ⟨w.heap.size, 0, none⟩)]) ∧
      ((w.alloc (.cells #[.slice A len c] 38)).alloc (.cells #[.int .i64 a] 3)).alloc (.cells #[.int .i64 e₁] 3) = w' := by
  refine callsIn_of_wp Tryd.func87 rfl h28 ?_ hro
  simp only [Tryd.ntmps87, List.size_toArray, List.length_cons, List.length_nil, Nat.reduceAdd, Nat.reduceSub, Array.replicate_succ, Array.replicate_zero, List.push_toArray, List.append_toArray, List.nil_append, List.cons_append]
  gi_wp2
  go_ret
  exact ⟨rfl, rfl⟩
end Go.Proofs.YtflghlmikpfnpaaDoor
