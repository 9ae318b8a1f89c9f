/-
  bytesFrom, for whatever loop body.
-/
import Derived.Test.YtccjdajneoploaaPart
import Derived.RangeFuncNested
import Derived.RangeFuncBound
import Derived.RangeFuncCalls
import Derived.RangeFuncLeaves
import Derived.Shelf.Abstract
import Derived.Shelf.RegionOpen
import Derived.OwnWalkIn
import Derived.TacticsInMore
import Derived.LoopNIn
import Derived.LoopIn
namespace Go.Proofs.Ytccjdajneoploaa
open Go.RowKit Go.Shelf
attribute [local go_sem] Oper.semAt_some

/-- The cells of S hold what they held. -/
def KeepCells (S : Addr → Prop) (W W' : World) : Prop := ∀ p, S p → W'.cell? p = W.cell? p
theorem KeepCells.refl (S : Addr → Prop) (W : World) : KeepCells S W W := fun _ _ => rfl
theorem KeepCells.trans {S : Addr → Prop} {A B C : World} (h : KeepCells S A B) (k : KeepCells S B C) : KeepCells S A C := fun p hp => (k p hp).trans (h p hp)
theorem KeepCells.putObj {S : Addr → Prop} {w : World} (hS : ∀ p, S p → p.block < w.heap.size) (W : World) (l : Nat) (o o' : Obj) (hl : w.heap.size ≤ l) (h : W.heap[l]? = some o) (_ : o.isCells = false) (_ : o.isWalk = false) : KeepCells S W (W.putObj l o') :=
  fun p hp => World.cell?_of_block ((grownBy_putObj' W l o').block p.block (by have := (Array.getElem?_eq_some_iff.1 h).1; have := hS p hp; omega) (fun e => by have := hS p hp; cases e; omega))

/-- A place of a string and the byte there, as the iterator hands them on. -/
def yv (s : ByteArray) (x : Fin s.size) : Array Value := #[.int .i64 ((x.val : Nat) : Int), .int .u8 (((s[x.val]'x.2).toNat : Nat) : Int)]

set_option maxRecDepth 100000 in
set_option maxHeartbeats 2000000 in
theorem bytes1_in (F : Fence) (n : Nat) (h35 : F.fn 35) (hro : F.round = none) (hn : 1 ≤ n) (y Ba Bs a m : Nat) (s : ByteArray) (hs : s.size ≤ 140737488355328) (hm : a + m = s.size) (J Jx : List (Fin s.size) → World → Prop)
    (hY : ∀ pre x W, J pre W → pre.length < m → YieldAt F (n - 1) Try.prog y (yv s x) W fun e W' =>
      (e = .returned (.bool true) ∧ J (pre ++ [x]) W' ∧ KeepCells (fun p => p.block = Bs) W W') ∨ (e = .returned (.bool false) ∧ Jx (pre ++ [x]) W'))
    (W : World) (hBa : W.cell? ⟨Ba, 0, none⟩ = some (.int .i64 a)) (hBs : W.cell? ⟨Bs, 0, none⟩ = some (.string s)) (h0 : J [] W) :
    CallsIn F n Try.prog 35 #[.func (.yield y) #[] #[], .pointer (some ⟨Ba, 0, none⟩), .pointer (some ⟨Bs, 0, none⟩)] W fun e W' => (∃ v, e = .returned v) ∧
      ((∃ ys : List (Fin s.size), ys.map Fin.val = List.range' a m ∧ J ys W') ∨ (∃ pre : List (Fin s.size), pre.map Fin.val <+: List.range' a m ∧ Jx pre W')) := by
  refine callsIn_of_wp Try.func35 rfl h35 ?_ hro
  simp only [Try.ntmps35, List.size_toArray, List.length_cons, List.length_nil, Nat.reduceAdd, Nat.reduceSub, Array.replicate_succ, Array.replicate_zero, List.push_toArray, List.append_toArray, List.nil_append, List.cons_append]
  gi_wp2
  gi_loopw [4] (fun q wr => ∃ (k i : Nat) (pre : List (Fin s.size)), k ≤ m ∧ q = .int .i64 (i : Int) ∧ Hid (i = a + k) ∧ Hid (pre.map Fin.val = List.range' a k) ∧ J pre wr ∧ wr.cell? ⟨Bs, 0, none⟩ = some (.string s))
    (fun q _ => s.size - (intOf q).toNat)
  case atStart => exact ⟨0, a, [], Nat.zero_le _, rfl, by show _ = _; omega, rfl, h0, hBs⟩
  case round =>
    obtain ⟨k, i, pre, hk, rfl, hi, hpre, hJs, hcs⟩ := hrel
    by_cases hlt : k < m
    · have hlen : pre.length < m := by
        have := congrArg List.length hpre.out
        rw [List.length_map, List.length_range'] at this; omega
      have hik : i < s.size := by have := hi.out; omega
      have HP : Hid ((pre ++ [(⟨i, hik⟩ : Fin s.size)]).map Fin.val = List.range' a (k + 1)) := by
        show _ = _
        rw [List.map_append, hpre.out, List.range'_concat]; simp [hi.out]
      have HQ : Hid (List.range' a (k + 1) <+: List.range' a m) := by
        show _ <+: _
        have e : List.range' a m = List.range' a (k + 1) ++ List.range' (a + (k + 1)) (m - (k + 1)) := by
          rw [List.range'_append_1]; congr 1; omega
        rw [e]; exact List.prefix_append _ _
      have hy0 := hY pre ⟨i, hik⟩ wr hJs hlen
      unfold yv at hy0
      simp only at hy0
      obtain ⟨x, hx⟩ : ∃ x, (s[i]'hik).toNat = x := ⟨_, rfl⟩
      rw [hx] at hy0
      obtain ⟨fn, tmps, assign, body, hy, hR⟩ := hy0
      clear hY
      gi_wp2
      refine hR.mono ?_
      rintro e W3 (⟨rfl, hJ3, hk3⟩ | ⟨rfl, hJx3⟩)
      · have hc3 : W3.cell? ⟨Bs, 0, none⟩ = some (.string s) := (hk3 ⟨Bs, 0, none⟩ rfl).trans hcs
        gi_wp2
        go_roundw
        case rel => exact ⟨k + 1, i + 1, pre ++ [⟨i, hik⟩], by omega, by go_num, by show _ = _; have := hi.out; omega, HP, hJ3, hc3⟩
        case measure => simp [intOf]; omega
      · gi_wp2
        refine bodyPost_ret (results_none rfl _ _ _) rfl ?_
        exact ⟨⟨_, rfl⟩, .inr ⟨pre ++ [⟨i, hik⟩], by rw [HP.out]; exact HQ.out, hJx3⟩⟩
    · obtain rfl : k = m := by omega
      have hnl : ¬ i < s.size := by have := hi.out; omega
      clear hY hm
      gi_wp2
      go_end0
      exact ⟨⟨_, rfl⟩, .inl ⟨pre, hpre.out, hJs⟩⟩

theorem bytes_stops (F : Fence) (n : Nat) (h35 : F.fn 35) (hro : F.round = none) (hn : 1 ≤ n) (Ba Bs a m : Nat) (s : ByteArray) (hs : s.size ≤ 140737488355328) (hm : a + m = s.size) (w : World)
    (hla : Ba < w.heap.size) (hlb : Bs < w.heap.size) (hBa : w.cell? ⟨Ba, 0, none⟩ = some (.int .i64 a)) (hBs : w.cell? ⟨Bs, 0, none⟩ = some (.string s)) :
    SeqStopsK F n Try.prog 35 #[.pointer (some ⟨Ba, 0, none⟩), .pointer (some ⟨Bs, 0, none⟩)] (yv s) (KeepCells (fun p => p.block = Bs))
      (fun ys => ys.map Fin.val = List.range' a m) (fun pre => pre.map Fin.val <+: List.range' a m) m w := fun y J Jx W hW _ _ hY h0 =>
  bytes1_in F n h35 hro hn y Ba Bs a m s hs hm J Jx hY W ((hW.cell (p := ⟨Ba, 0, none⟩) hla).trans hBa) ((hW.cell (p := ⟨Bs, 0, none⟩) hlb).trans hBs) h0

set_option maxHeartbeats 1000000 in
theorem bytesFrom_in (F : Fence) (n : Nat) (h30 : F.fn 30) (hro : F.round = none) (s : ByteArray) (a : Int) (w : World) :
    CallsIn F n Try.prog 30 #[.string s, .int .i64 a] w fun e w' => e = .returned (.func (.func 35) #[] #[.pointer (some ⟨w.heap.size + 1, 0, none⟩), .pointer (some ⟨w.heap.size, 0, none⟩)]) ∧
      (w.alloc (.cells #[.string s] 9)).alloc (.cells #[.int .i64 a] 3) = w' := by
  refine callsIn_of_wp Try.func30 rfl h30 ?_ hro
  simp only [Try.ntmps30, List.size_toArray, List.length_cons, List.length_nil, Nat.reduceAdd, Nat.reduceSub, Array.replicate_succ, Array.replicate_zero, List.push_toArray, List.append_toArray, List.nil_append, List.cons_append]
  gi_wp2
  go_ret
  exact ⟨rfl, rfl⟩
end Go.Proofs.Ytccjdajneoploaa
