/-
  BitsBack: what its walk leans on: PutOwn's bytes lie in a new block; slices of uint64; gamma codes one behind the other.
-/
import Derived.Test.YtnagcodlfghmeaaOne
namespace Go.Proofs.Ytnagcodlfghmeaa.bitsBack
open Go.ChangeShapes Go.WideShapes Go.ChangeAt Go.RowKit

/-- Bytes in a new block: the first that the call made. -/
def GivesNew (l : List Nat) (n : Nat) (w : World) (e : Ending) (w' : World) : Prop :=
  ∃ c, e = .returned (.tuple #[.slice (some ⟨w.heap.size, 0, none⟩) l.length c, .int .i64 (n : Int), .int .i64 0]) ∧ Blok w' w.heap.size 5 (cellsB l) ∧ (∀ x ∈ l, x < 256) ∧ Below w.heap.size w w'

theorem lay_new (A : Option Addr) (c : Nat) (l : List Nat) (n v m : Nat) (w : World) (hr : Row w w.heap.size A l) (hlen : l.length = (n + 7) / 8) (hl : l.length ≤ 140737488355328) (hv : v < 18446744073709551616) (hm : m ≤ 200) :
    Calls Try.prog 21 #[.slice A l.length c, .int .i64 n, .int .u64 v, .int .i64 m] w fun e W' =>
      ∃ c', e = .returned (.tuple #[.slice (some ⟨w.heap.size, 0, none⟩) (M.putL l n (M.digs v m)).length c', .int .i64 ((n + m : Nat) : Int)]) ∧ Hid (Blok W' w.heap.size 5 (cellsB (M.putL l n (M.digs v m)))) ∧ Below w.heap.size w W' := by
  refine (callsIn_wide.1 (lay_in A c l n v m ((n + m + 7) / 8) w hr hlen hl hv hm rfl)).mono ?_
  rintro e W' ⟨rfl, hb, hB⟩
  have e1 : (M.putL l n (M.digs v m)).length = (n + m + 7) / 8 := by rw [M.putL_length l n _ hlen, M.digs_length]
  exact ⟨(n + m + 7) / 8, by rw [e1], hb, hB⟩

set_option maxRecDepth 100000 in
set_option maxHeartbeats 1000000 in
theorem putOwn_new (A : Option Addr) (c : Nat) (l : List Nat) (n v : Nat) (w : World) (hr : Row w w.heap.size A l) (hl : l.length ≤ 140737488355328) (hV : M.Valid l n) (hv : v < 4611686018427387904) :
    Calls Try.prog 17 #[.slice A l.length c, .int .i64 n, .int .u64 v] w (GivesNew (M.putL l n (M.gamma v)) (n + (M.gamma v).length) w) := by
  have hn2 : n ≤ 1125899906842624 := by have := hV.1; omega
  have hR := M.rightB_nat hV
  have hb : M.bl (v + 1) ≤ 64 := (M.bl_le _ 64).2 (by show _ < 18446744073709551616; omega)
  have hb0 := M.bl_pos (v + 1) (by omega)
  have HR := Lib.hid hr; clear hr
  have HV := Lib.hid hV; clear hV
  have hm : 2 * M.bl (v + 1) - 1 ≤ 200 := by omega
  have HG : Hid (M.gamma v = M.digs (v + 1) (2 * M.bl (v + 1) - 1)) := rfl
  have HGL : Hid ((M.gamma v).length = 2 * M.bl (v + 1) - 1) := by show _ = _; rw [HG.out, M.digs_length]
  have HLT : Hid (∀ x ∈ M.putL l n (M.gamma v), x < 256) := M.putL_lt l n _ HR.out.1 (M.gamma_lt v)
  obtain ⟨b, hbe⟩ : ∃ b, M.bl (v + 1) = b := ⟨_, rfl⟩
  obtain ⟨m, hme⟩ : ∃ m : Nat, 2 * b - 1 = m := ⟨_, rfl⟩
  obtain ⟨V, hVe⟩ : ∃ V : Int, (v : Int) = V := ⟨_, rfl⟩
  have hV1 : ((v + 1 : Nat) : Int) = V + 1 := by omega
  have hw1 := fun (w : World) => width_any (v + 1) w (by omega)
  rw [hbe] at hb hb0 hm HG HGL
  rw [hme] at hm HG HGL
  have hly := fun (w : World) (hr : Row w w.heap.size A l) => lay_new A c l n (v + 1) m w hr HV.out.1 hl (by omega) (by omega)
  simp only [hbe, hV1] at hw1
  simp only [hV1] at hly
  rw [← HG.out] at hly
  have HW1 := Lib.hid hw1; clear hw1
  have HLY := Lib.hid hly; clear hly
  have hV0 : 0 ≤ V := by omega
  have hV2 : V < 4611686018427387904 := by omega
  have hm2 : 2 * (b : Int) - 1 = (m : Int) := by omega
  rw [hVe]
  rw [HGL.out]
  clear hbe hme hVe hV1 hv
  go_enter Try.func17, Try.ntmps17
  go_wp2_with (first
    | (go_at_call 13; refine (right_any _ _ l _ _ _ HR.out hl (by omega) (by omega)).mono ?_; rintro e w' ⟨rfl, rfl⟩)
    | (go_at_call 27; refine (HW1.out _).mono ?_; rintro e w' ⟨rfl, rfl⟩)
    | (go_at_call 21; refine (HLY.out _ HR.out).mono ?_; rintro e w' ⟨c', rfl, hrow, hbel⟩))
  go_ret3
  exact ⟨c', rfl, hrow.out, HLT.out, hbel⟩

/-- A slice of uint64 that reads as l and lies below block B. -/
def RowU (w : World) (B : Nat) (A : Option Addr) (l : List Nat) : Prop :=
  (∀ x ∈ l, x < 18446744073709551616) ∧ (0 < l.length → ∃ b off, A = some ⟨b, off, none⟩ ∧ b < B ∧ ∀ j, j < l.length → w.cell? ⟨b, off + j, none⟩ = some (.int .u64 ((l[j]?.getD 0 : Nat) : Int)))
theorem RowU.below {w w' : World} {B : Nat} {A : Option Addr} {l : List Nat} (h : RowU w B A l) (hb : Below B w w') : RowU w' B A l :=
  ⟨h.1, fun hn => by obtain ⟨b, off, e, hbB, hc⟩ := h.2 hn; exact ⟨b, off, e, hbB, fun j hj => (hb.cell (p := ⟨b, off + j, none⟩) hbB).trans (hc j hj)⟩⟩

theorem openU {H : Type} {enc : TypeId × Value → H} {W : World} {a : Option Addr} {len cap : Nat} {d : DataW H} {p : List MemPlace} (h : DataW.Trod enc Try.prog W 0 (fun _ => true) true 38 (.slice a len cap) d p) :
    ∃ l : List Nat, len = l.length ∧ RowU W W.heap.size a l ∧ (l.length = 0 ∨ ∃ elems spare, d = .slice elems spare ∧ l.length ≤ elems.length + spare.length) := by
  obtain ⟨fuel, hf⟩ := h
  rcases open_ints Try.underlying38 Try.underlying23 (by kernel_rfl) hf with ⟨hcs, _⟩ | ⟨x, l, c, zs, hcs, _, hl, hm, hz, hx, hcell, hwz⟩
  · simp [Value.cells] at hcs
    obtain ⟨rfl, rfl, rfl⟩ := hcs
    exact ⟨[], rfl, ⟨by simp, fun h => absurd h (by simp)⟩, .inl rfl⟩
  · simp [Value.cells] at hcs
    obtain ⟨rfl, rfl, rfl⟩ := hcs
    simp only [if_true] at hz
    simp only [Prod.mk.injEq] at hx
    have hlen : len = ((zs.take len).map Int.toNat).length := by simp; omega
    have hby : ∀ z ∈ zs, 0 ≤ z ∧ z < 18446744073709551616 := by
      intro z hzm
      have := bounds_u64 (hwz z hzm)
      omega
    refine ⟨(zs.take len).map Int.toNat, hlen, ⟨?_, fun hpos => ?_⟩, ?_⟩
    · intro y hy
      obtain ⟨z, hz1, rfl⟩ := List.mem_map.1 hy
      have := hby z (List.mem_of_mem_take hz1)
      omega
    · have hlp : 0 < len := by omega
      have hc0 := hcell 0 (by omega)
      obtain ⟨b, off, spot⟩ := x
      have hspot : spot = none := by simpa [Addr.add] using World.cell?_spot hc0
      subst hspot
      have hc0' : W.cell? ⟨b, off, none⟩ = some (.int .u64 (zs.getD 0 0)) := by simpa [Addr.add] using hc0
      refine ⟨b, off, rfl, World.block_lt_of_cell? W _ hc0', fun j hj => ?_⟩
      have hj2 : j < len := by omega
      have hjz : j < zs.length := by omega
      have hadd : (⟨b, off, none⟩ : Addr).add j = ⟨b, off + j, none⟩ := by
        unfold Addr.add; split
        · rename_i h; subst h; rfl
        · rfl
      have := hcell j hjz
      rw [hadd] at this
      rw [this]
      have hb := hby _ (List.getElem_mem hjz)
      have e1 : ((zs.take len).map Int.toNat)[j]?.getD 0 = (zs[j]).toNat := by simp [hj2, hjz]
      have e2 : zs.getD j 0 = zs[j] := by simp [hjz]
      rw [e1, e2]
      congr 2
      omega
    · refine .inr ⟨_, _, hx.1, ?_⟩
      simp [lits]

/-- The gamma codes of numbers, one behind the other. -/
def gl (K : List Nat) : List Nat := K.flatMap M.gamma
theorem gl_snoc (K : List Nat) (v : Nat) : gl (K ++ [v]) = gl K ++ M.gamma v := by simp [gl]
theorem gl_lt (K : List Nat) : ∀ b ∈ gl K, b < 2 := by
  intro b hb
  obtain ⟨v, _, h⟩ := List.mem_flatMap.1 hb
  exact M.gamma_lt v b h
def BL (K : List Nat) : List Nat := M.putL [] 0 (gl K)
theorem BL_inv (K : List Nat) : M.Inv (BL K) (gl K).length := by
  have := M.put_inv (gl K) M.inv_nil (gl_lt K); rwa [Nat.zero_add] at this
theorem BL_snoc (K : List Nat) (v : Nat) : M.putL (BL K) (gl K).length (M.gamma v) = BL (K ++ [v]) := by
  unfold BL; rw [gl_snoc, M.putL_append, Nat.zero_add]
theorem BL_bits (K : List Nat) (i : Nat) : M.bitAt (BL K) i = (gl K)[i]?.getD 0 := by
  have := M.put_bits (gl K) M.inv_nil (gl_lt K) i
  rwa [if_neg (by omega), Nat.sub_zero] at this
theorem gl_split (K : List Nat) (j : Nat) (hj : j < K.length) : gl K = gl (K.take j) ++ (M.gamma (K[j]?.getD 0) ++ gl (K.drop (j + 1))) := by
  have e : K = K.take j ++ (K[j]?.getD 0 :: K.drop (j + 1)) := by
    rw [List.getElem?_eq_getElem hj, Option.getD_some, List.getElem_cons_drop, List.take_append_drop]
  conv => lhs; rw [e]
  simp [gl]
theorem gl_take_succ (K : List Nat) (j : Nat) (hj : j < K.length) : (gl (K.take (j + 1))).length = (gl (K.take j)).length + (M.gamma (K[j]?.getD 0)).length := by
  have e : K.take (j + 1) = K.take j ++ [K[j]?.getD 0] := by
    rw [List.take_succ_eq_append_getElem hj, List.getElem?_eq_getElem hj, Option.getD_some]
  rw [e, gl_snoc, List.length_append]
theorem gl_read (K : List Nat) (j : Nat) (hj : j < K.length) (hK : ∀ v ∈ K, v < 4611686018427387904) :
    M.ownN (BL K) (gl K).length (gl (K.take j)).length = some (K[j]?.getD 0, (gl (K.take (j + 1))).length) := by
  have hs := gl_split K j hj
  have hl : (gl K).length = (gl (K.take j)).length + ((M.gamma (K[j]?.getD 0)).length + (gl (K.drop (j + 1))).length) := by
    rw [hs, List.length_append, List.length_append]
  have hv : K[j]?.getD 0 < 4611686018427387904 := by rw [List.getElem?_eq_getElem hj]; exact hK _ (List.getElem_mem hj)
  rw [gl_take_succ K j hj]
  refine M.own_of_gamma hv (by omega) (fun i hi => ?_)
  rw [BL_bits, hs, List.getElem?_append_right (by omega), show (gl (K.take j)).length + i - (gl (K.take j)).length = i by omega, List.getElem?_append_left hi]
theorem gamma_pos (v : Nat) : 0 < (M.gamma v).length := by
  have h := M.bl_pos (v + 1) (by omega)
  unfold M.gamma; rw [M.digs_length]; omega
theorem gl_le (K : List Nat) (hK : ∀ v ∈ K, v < 4611686018427387904) : (gl K).length ≤ 127 * K.length := by
  induction K with
  | nil => simp [gl]
  | cons v K ih =>
    have h1 := ih (fun x hx => hK x (by simp [hx]))
    have hb : M.bl (v + 1) ≤ 63 := (M.bl_le _ 63).2 (by have := hK v (by simp); show v + 1 < 9223372036854775808; omega)
    have : gl (v :: K) = M.gamma v ++ gl K := by simp [gl]
    rw [this, List.length_append, List.length_cons]
    unfold M.gamma
    rw [M.digs_length]
    omega
/-- Those of the first i numbers that have a gamma code. -/
def keep (l : List Nat) (i : Nat) : List Nat := (l.take i).filter fun v => decide (v < 4611686018427387904)
theorem keep_lt (l : List Nat) (i : Nat) : ∀ v ∈ keep l i, v < 4611686018427387904 := fun v hv => by
  have := (List.mem_filter.1 hv).2; simpa using this
theorem keep_le (l : List Nat) (i : Nat) : (keep l i).length ≤ i := Nat.le_trans (List.length_filter_le _ _) (by simp; omega)
theorem keep_yes (l : List Nat) (i : Nat) (hi : i < l.length) (h : l[i]?.getD 0 < 4611686018427387904) : keep l (i + 1) = keep l i ++ [l[i]?.getD 0] := by
  unfold keep
  rw [List.getElem?_eq_getElem hi, Option.getD_some] at h
  rw [List.take_succ_eq_append_getElem hi, List.filter_append, List.getElem?_eq_getElem hi, Option.getD_some]
  simp [h]
theorem keep_no (l : List Nat) (i : Nat) (hi : i < l.length) (h : ¬ l[i]?.getD 0 < 4611686018427387904) : keep l (i + 1) = keep l i := by
  unfold keep
  rw [List.getElem?_eq_getElem hi, Option.getD_some] at h
  rw [List.take_succ_eq_append_getElem hi, List.filter_append]
  simp [h]
theorem info23 : (Try.prog.info? 23).map (fun i => (i.zero, i.size, i.bytes)) = some (some (.int .u64 0), 1, 8) := by kernel_rfl
theorem own_below {w w' : World} {base e size n : Nat} {v : Value} {xs : List Value} (h : w.ownsRow base e size v n xs) (hb : Below w.heap.size w w') : w'.ownsRow base e size v n xs := by
  rcases h.2 with ⟨rfl, h0⟩ | ⟨g, cap, cur, rfl, hg, hc, h1, h2, h3, h4⟩
  · exact ⟨h.1, .inl ⟨rfl, h0⟩⟩
  · exact ⟨h.1, .inr ⟨g, cap, cur, rfl, hg, (hb.block g (Array.getElem?_eq_some_iff.1 hc).1).trans hc, h1, h2, h3, h4⟩⟩
theorem own_shape {w : World} {base e size n : Nat} {v : Value} {xs : List Value} (h : w.ownsRow base e size v n xs) : ∃ A c, v = .slice A n c := by
  rcases h.2 with ⟨rfl, rfl⟩ | ⟨g, cap, cur, rfl, _⟩
  · exact ⟨none, 0, rfl⟩
  · exact ⟨some ⟨g, 0, none⟩, cap, rfl⟩
end Go.Proofs.Ytnagcodlfghmeaa.bitsBack
