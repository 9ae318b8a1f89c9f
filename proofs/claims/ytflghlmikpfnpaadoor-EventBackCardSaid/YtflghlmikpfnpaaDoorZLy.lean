/-
  The reference's PutOwn.
  Plain mathematics of trees' bits.
  Plain mathematics: a bit string laid byte by byte behind full bytes; the nodes' codes one behind the other.
  Put and PutOwn of the program: their bytes lie in a new block.
  Ranges over the nodes' iterator whose rounds may also write into slices of bytes, wherever these lie: every block but those of X lies as it lay, or was bytes and is bytes.
  Slices of bytes of the call's own, nil let in, whose blocks hold nothing but bytes; what append leaves.
  What the program's Lay keeps while it goes through the nodes: the answer's variables, the full bytes, what is behind them.
-/
import Derived.Test.YtflghlmikpfnpaaDoorRefOps
import Derived.Test.YtflghlmikpfnpaaDoorEFo
import Derived.Test.YtflghlmikpfnpaaDoorMath2
import Derived.Test.YtflghlmikpfnpaaDoorOps
import Derived.Test.YtflghlmikpfnpaaDoorENodes
import Derived.Test.YtflghlmikpfnpaaDoorRef
import Derived.Test.YtflghlmikpfnpaaDoorEPRight
namespace Go.Proofs.YtflghlmikpfnpaaDoor
open Go.RowKit

theorem gam_eq (v : Nat) : M.digs 0 (M.bl (v + 1) - 1) ++ M.digs (v + 1) (M.bl (v + 1)) = gam v := by
  have h := M.bl_pos (v + 1) (by omega)
  unfold gam
  rw [show 2 * M.bl (v + 1) - 1 = (M.bl (v + 1) - 1) + M.bl (v + 1) by omega, M.digs_pad _ _ _ ((M.bl_le _ _).1 (Nat.le_refl _)), M.digs_zero]
theorem gam_put (l : List Nat) (n v : Nat) : M.putL (M.putL l n (M.digs 0 (M.bl (v + 1) - 1))) (n + (M.bl (v + 1) - 1)) (M.digs (v + 1) (M.bl (v + 1))) = M.putL l n (gam v) := by
  rw [← gam_eq, M.putL_append, M.digs_length]
theorem gam_length (v : Nat) : (gam v).length = (M.bl (v + 1) - 1) + M.bl (v + 1) := by rw [← gam_eq, List.length_append, M.digs_length, M.digs_length]

set_option maxRecDepth 100000 in
set_option maxHeartbeats 1000000 in
theorem rPutOwn_yes (A : Option Addr) (c : Nat) (l : List Nat) (n v : Nat) (w : World) (hr : Row w w.heap.size A l) (hl : l.length ≤ 140737489402000) (hV : M.Valid l n) (hv : v < 4611686018427387904) :
    Calls Tryd.prog 85 #[.slice A l.length c, .int .i64 n, .int .u64 v] w (Gives (M.putL l n (gam v)) (n + (gam v).length) w) := by
  have hn2 : n ≤ 1125899915231232 := by have := hV.1; omega
  have hl2 : l.length ≤ 140737489403904 := by omega
  have hR := M.rightB_nat hV
  have hb : M.bl (v + 1) ≤ 64 := (M.bl_le _ 64).2 (by show _ < 18446744073709551616; omega)
  have hb0 := M.bl_pos (v + 1) (by omega)
  have hG := gam_put l n v
  have hGL := gam_length v
  have HR := Lib.hid hr; clear hr
  have HV := Lib.hid hV; clear hV
  have hw1 := fun (w : World) => size_any (v + 1) w (by omega)
  obtain ⟨V, hVe⟩ : ∃ V : Int, (v : Int) = V := ⟨_, rfl⟩
  have hV1 : ((v + 1 : Nat) : Int) = V + 1 := by omega
  obtain ⟨b, hbe⟩ : ∃ b, M.bl (v + 1) = b := ⟨_, rfl⟩
  obtain ⟨b1, hb1e⟩ : ∃ b1, b - 1 = b1 := ⟨_, rfl⟩
  rw [hbe] at hb hb0 hG hGL
  rw [hb1e] at hG hGL
  simp only [hbe, hV1] at hw1
  have hm2 : (b : Int) - 1 = (b1 : Int) := by omega
  have hp1 := fun (w : World) (hr : Row w w.heap.size A l) => rput_any A c l n 0 b1 w hr HV.out.1 (by omega) (by decide) (by omega)
  have hlen1 : (M.putL l n (M.digs 0 b1)).length = (n + b1 + 7) / 8 := by rw [M.putL_length l n _ HV.out.1, M.digs_length]
  have hlb : (M.putL l n (M.digs 0 b1)).length ≤ 140737489403000 := by have := HV.out.1; omega
  have hp2 := fun (A' : Option Addr) (c' : Nat) (w : World) (hr : Row w w.heap.size A' (M.putL l n (M.digs 0 b1))) => rput_any A' c' (M.putL l n (M.digs 0 b1)) (n + b1) (v + 1) b w hr hlen1 hlb (by omega) (by omega)
  simp only [hV1, hG] at hp2
  have hP1 := Lib.hid hp1; clear hp1
  have hP2 := Lib.hid hp2; clear hp2
  have HW1 := Lib.hid hw1; clear hw1
  have hV0 : 0 ≤ V := by omega
  have hV2 : V < 4611686018427387904 := by omega
  rw [hVe, hGL]
  clear hbe hb1e hVe hV1 hv hG hGL hlen1 hlb
  generalize M.putL l n (M.digs 0 b1) = X at *
  generalize M.putL l n (gam v) = Y at *
  go_enter Tryd.func85, Tryd.ntmps85
  go_wp2_with fail
  refine (rright_big _ _ l _ _ _ HR.out hl2 (by omega) (by omega)).mono ?_
  rintro e w' ⟨rfl, rfl⟩
  go_wp2_with (go_at_call 93; refine (HW1.out _).mono ?_; rintro e w' ⟨rfl, rfl⟩)
  refine (hP1.out _ HR.out).mono ?_
  rintro e w1 ⟨A1, c1, rfl, hr1, hb1⟩
  have HR1 := Lib.hid hr1; clear hr1
  have HB1 := Lib.hid hb1; clear hb1
  go_wp2_with fail
  refine (hP2.out A1 c1 _ HR1.out).mono ?_
  rintro e w2 ⟨A2, c2, rfl, hr2, hb2⟩
  have HR2 := Lib.hid hr2; clear hr2
  have HB2 : Hid (Below w.heap.size w w2) := HB1.out.trans (hb2.mono HB1.out.size)
  clear hb2
  go_wp2
  go_ret3
  exact ⟨A2, c2, by rw [← Nat.add_assoc]; rfl, HR2.out, HB2.out⟩

set_option maxRecDepth 100000 in
set_option maxHeartbeats 1000000 in
theorem rPutOwn_no (A : Option Addr) (c : Nat) (l : List Nat) (n : Int) (v : Int) (w : World) (hr : Row w w.heap.size A l) (hl : l.length ≤ 140737489403904) (h0 : -9223372036854775808 ≤ n) (h1 : n < 9223372036854775808)
    (hno : ¬ (M.rightB l n = true ∧ v < 4611686018427387904)) :
    Calls Tryd.prog 85 #[.slice A l.length c, .int .i64 n, .int .u64 v] w fun e w' => e = .returned (.tuple #[.slice none 0 0, .int .i64 0, .int .i64 2]) ∧ w = w' := by
  have HR := Lib.hid hr; clear hr
  by_cases hR : M.rightB l n = true
  · have hv : 4611686018427387904 ≤ v := by
      by_cases h : v < 4611686018427387904
      · exact absurd ⟨hR, h⟩ hno
      · omega
    clear hno
    go_enter Tryd.func85, Tryd.ntmps85
    go_wp2_with (go_at_call 60; refine (rright_big _ _ l _ _ _ HR.out hl (by omega) (by omega)).mono ?_; rintro e w' ⟨rfl, rfl⟩)
    go_ret3
    exact ⟨rfl, rfl⟩
  · have hR' : M.rightB l n = false := by simpa using hR
    clear hno hR
    go_enter Tryd.func85, Tryd.ntmps85
    go_wp2_with (go_at_call 60; refine (rright_big _ _ l _ _ _ HR.out hl (by omega) (by omega)).mono ?_; rintro e w' ⟨rfl, rfl⟩)
    go_ret3
    exact ⟨rfl, rfl⟩

end Go.Proofs.YtflghlmikpfnpaaDoor

namespace Go.Proofs.YtflghlmikpfnpaaDoor.E
open Go.RowKit

/-- A tree's bits: of each node whether it has kids, its number's own bits; then its kids'. -/
def bitsE : Tr → List Nat
  | .leaf n => 0 :: gam n.toNat
  | .node n x y => 1 :: (gam n.toNat ++ (bitsE x ++ bitsE y))
/-- Are all numbers such as have bits? -/
def smallT : Tr → Bool
  | .leaf n => decide (n < 4611686018427387904)
  | .node n x y => decide (n < 4611686018427387904) && (smallT x && smallT y)
theorem gam_len (v : Nat) (h : v ≤ 4611686018427387904) : (gam v).length ≤ 125 := by
  rw [gam_length]
  have := (M.bl_le (v + 1) 63).2 (by omega)
  omega
theorem gam_lt (v : Nat) : ∀ b ∈ gam v, b < 2 := M.digs_lt _ _
theorem bitsE_lt : ∀ t : Tr, ∀ b ∈ bitsE t, b < 2
  | .leaf n, b, h => by
    rcases List.mem_cons.1 h with rfl | h
    · omega
    · exact gam_lt _ b h
  | .node n x y, b, h => by
    rcases List.mem_cons.1 h with rfl | h
    · omega
    · rcases List.mem_append.1 h with h | h
      · exact gam_lt _ b h
      · rcases List.mem_append.1 h with h | h
        · exact bitsE_lt x b h
        · exact bitsE_lt y b h
theorem bitsE_len : ∀ (t : Tr) (m : Int), t.okc m = true → m ≤ 4611686018427387904 → (bitsE t).length ≤ 126 * t.nodes
  | .leaf n, m, h, hm => by
    have hn := okc_N _ _ h
    simp only [Tr.N] at hn
    have := gam_len n.toNat (by omega)
    simp only [bitsE, Tr.nodes, List.length_cons]; omega
  | .node n x y, m, h, hm => by
    have hn := okc_N _ _ h
    simp only [Tr.N] at hn
    simp only [Tr.okc, Bool.and_eq_true_iff] at h
    have := gam_len n.toNat (by omega)
    have := bitsE_len x _ h.2.1 (by omega)
    have := bitsE_len y _ h.2.2 (by omega)
    simp only [bitsE, Tr.nodes, List.length_cons, List.length_append]; omega
theorem put_len {l : List Nat} {n : Nat} (h : M.Valid l n) (bs : List Nat) : (M.putL l n bs).length ≤ l.length + bs.length := by
  rw [M.putL_length l n bs h.1, h.1]; omega
theorem digs_bit (b : Nat) (h : b < 2) : M.digs b 1 = [b] := by
  have : ∀ b, b < 2 → M.digs b 1 = [b] := by decide
  exact this b h
/-- What laying a tree answers: bytes, how many bits; none: some number has no bits. -/
def layE (l : List Nat) (n : Nat) (t : Tr) : Option (List Nat × Nat) := if smallT t = true then some (M.putL l n (bitsE t), n + (bitsE t).length) else none
def LayR (r : Option (List Nat × Nat)) (w : World) (e : Ending) (w' : World) : Prop :=
  Below w.heap.size w w' ∧ ((∃ L K A c, r = some (L, K) ∧ e = .returned (.tuple #[.slice A L.length c, .int .i64 (K : Int), .int .i64 0]) ∧ Row w' w'.heap.size A L) ∨ (r = none ∧ e = .returned (.tuple #[.slice none 0 0, .int .i64 0, .int .i64 2])))
end Go.Proofs.YtflghlmikpfnpaaDoor.E

namespace Go.Proofs.YtflghlmikpfnpaaDoor.E
open Go.RowKit

theorem orBit_right (O R : List Nat) (k b : Nat) : M.orBit (O ++ R) (8 * O.length + k) b = O ++ M.orBit R k b := by
  unfold M.orBit
  have e1 : (8 * O.length + k) / 8 = O.length + k / 8 := by omega
  have e2 : (8 * O.length + k) % 8 = k % 8 := by omega
  rw [e1, e2, List.getElem?_append_right (by omega), List.set_append_right _ _ (by omega), show O.length + k / 8 - O.length = k / 8 by omega]
theorem refStep_right (O R : List Nat) (k b : Nat) : M.refStep (O ++ R) (8 * O.length + k) b = O ++ M.refStep R k b := by
  unfold M.refStep
  have e2 : (8 * O.length + k) % 8 = k % 8 := by omega
  rw [e2]
  split
  · rw [List.append_assoc, orBit_right]
  · rw [orBit_right]
theorem putL_right (O : List Nat) : ∀ (bs R : List Nat) (k : Nat), M.putL (O ++ R) (8 * O.length + k) bs = O ++ M.putL R k bs
  | [], _, _ => rfl
  | b :: bs, R, k => by
    rw [M.putL, M.putL, refStep_right, show 8 * O.length + k + 1 = 8 * O.length + (k + 1) by omega, putL_right O bs]
theorem valid_drop {l : List Nat} {n : Nat} (h : M.Valid l n) : M.Valid (l.drop (n / 8)) (n % 8) := by
  obtain ⟨h1, h2⟩ := h
  refine ⟨by rw [List.length_drop, h1]; omega, fun hn => ?_⟩
  rw [List.getElem?_drop, show n / 8 + n % 8 / 8 = n / 8 by omega, show n % 8 % 8 = n % 8 by omega]
  exact h2 (by omega)
/-- Laid so far: full bytes, and what is behind them. -/
structure CutB (l : List Nat) (n : Nat) (dn O R : List Nat) (k : Nat) : Prop where
  all : O ++ R = M.putL l n dn
  pos : 8 * O.length + k = n + dn.length
  lt : k < 8
  val : M.Valid R k
  sm : ∀ x ∈ R, x < 256
theorem CutB.begin {l : List Nat} {n : Nat} (h : M.Valid l n) (hl : ∀ x ∈ l, x < 256) : CutB l n [] (l.take (n / 8)) (l.drop (n / 8)) (n % 8) := by
  refine ⟨by rw [List.take_append_drop]; rfl, ?_, by omega, valid_drop h, fun x hx => hl x (List.mem_of_mem_drop hx)⟩
  rw [List.length_take, h.1]
  simp only [List.length_nil]
  omega
theorem CutB.len {l : List Nat} {n : Nat} {dn O R : List Nat} {k : Nat} (h : CutB l n dn O R k) : R.length ≤ 1 := by
  have := h.val.1
  have := h.lt
  omega
theorem CutB.next {l : List Nat} {n : Nat} {dn O R : List Nat} {k : Nat} (h : CutB l n dn O R k) (bs : List Nat) (hb : ∀ b ∈ bs, b < 2) :
    CutB l n (dn ++ bs) (O ++ (M.putL R k bs).take ((k + bs.length) / 8)) ((M.putL R k bs).drop ((k + bs.length) / 8)) ((k + bs.length) % 8) := by
  have hv := M.put_valid bs h.sm h.val hb
  refine ⟨?_, ?_, by omega, valid_drop hv, fun x hx => M.putL_lt R k bs h.sm hb x (List.mem_of_mem_drop hx)⟩
  · rw [List.append_assoc, List.take_append_drop, M.putL_append, ← h.all, ← h.pos, putL_right]
  · have h1 := hv.1
    have := h.pos
    rw [List.length_append, List.length_append, List.length_take, h1]
    omega

/-- A node's own bits. -/
def codeE (k : Key) : List Nat := (if k.2.1 = 0 then 0 else 1) :: gam k.1.toNat
def smallK (k : Key) : Bool := decide (k.1 < 4611686018427387904)
theorem codeE_lt (k : Key) : ∀ b ∈ codeE k, b < 2 := fun b hb => by
  unfold codeE at hb
  rcases List.mem_cons.1 hb with rfl | hb
  · split <;> omega
  · exact gam_lt _ b hb
theorem one_code (o : Int) (k : List Tr) (t : Tr) (d s : Int) (h : one o k = some t) : codeE (o, k.length, d, s) ++ k.flatMap bitsE = bitsE t := by
  match k, h with
  | [], h => simp [one] at h; subst h; simp [codeE, bitsE]
  | [x, y], h => simp [one] at h; subst h; simp [codeE, bitsE]
theorem one_small (o : Int) (k : List Tr) (t : Tr) (h : one o k = some t) : (decide (o < 4611686018427387904) && k.all smallT) = smallT t := by
  match k, h with
  | [], h => simp [one] at h; subst h; simp [smallT]
  | [x, y], h => simp [one] at h; subst h; simp [smallT]
theorem walkK_code : ∀ (f : Fo) (ts : List Tr) (d s : Int), trees f = some ts → (walkK f d s).flatMap codeE = ts.flatMap bitsE ∧ (walkK f d s).all smallK = ts.all smallT
  | .nil, ts, d, s, h => by simp [trees] at h; subst h; exact ⟨rfl, rfl⟩
  | .cons o ks rest, ts, d, s, h => by
    simp only [trees] at h
    obtain ⟨k, hk, h⟩ := Option.bind_eq_some_iff.1 h
    obtain ⟨t, ht, h⟩ := Option.bind_eq_some_iff.1 h
    obtain ⟨r, hr, rfl⟩ := Option.map_eq_some_iff.1 h
    obtain ⟨a1, a2⟩ := walkK_code rest r d s hr
    obtain ⟨b1, b2⟩ := walkK_code ks k (wrap64 (d + 1)) (wrap64 (s + o)) hk
    rw [walkK_cons]
    unfold walkT
    constructor
    · rw [List.flatMap_append, a1, List.flatMap_cons, List.flatMap_cons, b1, ← trees_len ks k hk, one_code o k t d s ht]
    · rw [List.all_append, a2, List.all_cons, List.all_cons, b2, ← one_small o k t ht]
      rfl
theorem walkT_code {o : Int} {ks : Fo} {t : Tr} (d s : Int) (h : (trees ks).bind (one o) = some t) : (walkT o ks d s).flatMap codeE = bitsE t ∧ (walkT o ks d s).all smallK = smallT t := by
  obtain ⟨k, hk, ht⟩ := Option.bind_eq_some_iff.1 h
  obtain ⟨b1, b2⟩ := walkK_code ks k (wrap64 (d + 1)) (wrap64 (s + o)) hk
  unfold walkT
  refine ⟨by rw [List.flatMap_cons, b1, ← trees_len ks k hk, one_code o k t d s ht], ?_⟩
  rw [List.all_cons, b2, ← one_small o k t ht]
  rfl
/-- Each node of a right tree: its number, how many kids, and how many bits there are up to it. -/
theorem walk_lim {o : Int} {ks : Fo} {t : Tr} (h : (trees ks).bind (one o) = some t) {q : List Key} {x : Key} (hq : q ++ [x] <+: walkT o ks 0 0) : (q.flatMap codeE).length + (codeE x).length ≤ (bitsE t).length ∧ x ∈ walkT o ks 0 0 := by
  obtain ⟨r, hr⟩ := hq
  have := congrArg (fun l => (l.flatMap codeE).length) hr
  simp only [(walkT_code 0 0 h).1, List.flatMap_append, List.length_append, List.flatMap_cons, List.flatMap_nil, List.append_nil] at this
  refine ⟨by omega, ?_⟩
  rw [← hr]
  simp
/-- The numbers and kids of a right tree's nodes. -/
theorem walkK_ok : ∀ (f : Fo) (ts : List Tr) (d s m : Int), trees f = some ts → (∀ t ∈ ts, t.okc m = true) → m ≤ 4611686018427387904 → ∀ k ∈ walkK f d s, (0 ≤ k.1 ∧ k.1 ≤ 4611686018427387904) ∧ (k.2.1 = 0 ∨ k.2.1 = 2)
  | .nil, ts, d, s, m, h, _, _, k, hk => by simp [walkK] at hk
  | .cons o ks rest, ts, d, s, m, h, hok, hm, k, hk => by
    simp only [trees] at h
    obtain ⟨kk, hkk, h⟩ := Option.bind_eq_some_iff.1 h
    obtain ⟨t, ht, h⟩ := Option.bind_eq_some_iff.1 h
    obtain ⟨r, hr, rfl⟩ := Option.map_eq_some_iff.1 h
    have hlen := trees_len ks kk hkk
    have hok1 := hok t List.mem_cons_self
    have hN := okc_N _ _ hok1
    rw [walkK_cons] at hk
    unfold walkT at hk
    have hone : (t.N = o ∧ (kk.length = 0 ∨ kk.length = 2)) ∧ ∀ z ∈ kk, z.okc (m - o) = true := by
      match kk, ht with
      | [], ht => simp [one] at ht; subst ht; exact ⟨⟨rfl, .inl rfl⟩, fun z hz => by simp at hz⟩
      | [x, y], ht =>
        simp [one] at ht
        subst ht
        simp only [Tr.okc, Bool.and_eq_true] at hok1
        refine ⟨⟨rfl, .inr rfl⟩, fun z hz => ?_⟩
        simp at hz
        rcases hz with rfl | rfl
        · exact hok1.2.1
        · exact hok1.2.2
    rcases List.mem_append.1 hk with hk | hk
    · rcases List.mem_cons.1 hk with rfl | hk
      · simp only
        rw [← hlen]
        have := hone.1.1
        exact ⟨⟨by omega, by omega⟩, hone.1.2⟩
      · exact walkK_ok ks kk _ _ (m - o) hkk hone.2 (by have := hone.1.1; omega) k hk
    · exact walkK_ok rest r d s m hr (fun z hz => hok z (List.mem_cons_of_mem _ hz)) hm k hk
theorem walkT_ok {o : Int} {ks : Fo} {t : Tr} {m : Int} (d s : Int) (h : (trees ks).bind (one o) = some t) (hok : t.okc m = true) (hm : m ≤ 4611686018427387904) : ∀ k ∈ walkT o ks d s, (0 ≤ k.1 ∧ k.1 ≤ 4611686018427387904) ∧ (k.2.1 = 0 ∨ k.2.1 = 2) := by
  obtain ⟨kk, hkk, ht⟩ := Option.bind_eq_some_iff.1 h
  intro k hk
  have : trees (.cons o ks .nil) = some [t] := by simp [trees, hkk, ht]
  exact walkK_ok (.cons o ks .nil) [t] d s m this (fun z hz => by simp at hz; subst hz; exact hok) hm k (by rw [walkK_cons]; exact List.mem_append_left _ hk)
end Go.Proofs.YtflghlmikpfnpaaDoor.E

namespace Go.Proofs.YtflghlmikpfnpaaDoor
open Go.RowKit

/-- Bytes in a new block: the first that the call made. -/
def GivesNew (l : List Nat) (n : Nat) (w : World) (e : Ending) (w' : World) : Prop :=
  e = .returned (.tuple #[.slice (some ⟨w.heap.size, 0, none⟩) l.length l.length, .int .i64 (n : Int), .int .i64 0]) ∧ Blok w' w.heap.size 5 (cellsB l) ∧ (∀ x ∈ l, x < 256) ∧ Below w.heap.size w w'

theorem lay_new (A : Option Addr) (c : Nat) (l : List Nat) (n v m : Nat) (w : World) (hr : Row w w.heap.size A l) (hlen : l.length = (n + 7) / 8) (hl : l.length ≤ 140737488355328) (hv : v < 18446744073709551616) (hm : m ≤ 200) :
    Calls Tryd.prog 81 #[.slice A l.length c, .int .i64 n, .int .u64 v, .int .i64 m] w fun e W' =>
      e = .returned (.tuple #[.slice (some ⟨w.heap.size, 0, none⟩) (M.putL l n (M.digs v m)).length (M.putL l n (M.digs v m)).length, .int .i64 ((n + m : Nat) : Int)]) ∧ Hid (Blok W' w.heap.size 5 (cellsB (M.putL l n (M.digs v m)))) ∧ Below w.heap.size w W' := by
  refine (callsIn_wide.1 (lay_in A c l n v m ((n + m + 7) / 8) w hr hlen hl hv hm rfl)).mono ?_
  rintro e W' ⟨rfl, hb, hB⟩
  have e1 : (M.putL l n (M.digs v m)).length = (n + m + 7) / 8 := by rw [M.putL_length l n _ hlen, M.digs_length]
  exact ⟨by rw [e1], hb, hB⟩

set_option maxRecDepth 100000 in
set_option maxHeartbeats 1000000 in
theorem putOwn_new (A : Option Addr) (c : Nat) (l : List Nat) (n v : Nat) (w : World) (hr : Row w w.heap.size A l) (hl : l.length ≤ 140737488355328) (hV : M.Valid l n) (hv : v < 4611686018427387904) :
    Calls Tryd.prog 59 #[.slice A l.length c, .int .i64 n, .int .u64 v] w (GivesNew (M.putL l n (gam v)) (n + (gam v).length) w) := by
  have hn2 : n ≤ 1125899906842624 := by have := hV.1; omega
  have hR := M.rightB_nat hV
  have hb : M.bl (v + 1) ≤ 64 := (M.bl_le _ 64).2 (by show _ < 18446744073709551616; omega)
  have hb0 := M.bl_pos (v + 1) (by omega)
  have HR := Lib.hid hr; clear hr
  have HV := Lib.hid hV; clear hV
  have hm : 2 * M.bl (v + 1) - 1 ≤ 200 := by omega
  have HG : Hid (gam v = M.digs (v + 1) (2 * M.bl (v + 1) - 1)) := rfl
  have HGL : Hid ((gam v).length = 2 * M.bl (v + 1) - 1) := by show _ = _; rw [HG.out, M.digs_length]
  have HLT : Hid (∀ x ∈ M.putL l n (gam v), x < 256) := M.putL_lt l n _ HR.out.1 (M.digs_lt _ _)
  obtain ⟨b, hbe⟩ : ∃ b, M.bl (v + 1) = b := ⟨_, rfl⟩
  obtain ⟨m, hme⟩ : ∃ m : Nat, 2 * b - 1 = m := ⟨_, rfl⟩
  obtain ⟨V, hVe⟩ : ∃ V : Int, (v : Int) = V := ⟨_, rfl⟩
  have hV1 : ((v + 1 : Nat) : Int) = V + 1 := by omega
  have hw1 := fun (w : World) => width_any (v + 1) w (by omega)
  rw [hbe] at hb hb0 hm HG HGL
  rw [hme] at hm HG HGL
  have hly := fun (w : World) (hr : Row w w.heap.size A l) => lay_new A c l n (v + 1) m w hr HV.out.1 hl (by omega) (by omega)
  simp only [hbe, hV1] at hw1
  simp only [hV1] at hly
  rw [← HG.out] at hly
  have HW1 := Lib.hid hw1; clear hw1
  have HLY := Lib.hid hly; clear hly
  have hV0 : 0 ≤ V := by omega
  have hV2 : V < 4611686018427387904 := by omega
  have hm2 : 2 * (b : Int) - 1 = (m : Int) := by omega
  rw [hVe]
  rw [HGL.out]
  clear hbe hme hVe hV1 hv
  go_enter Tryd.func59, Tryd.ntmps59
  go_wp2_with (first
    | (go_at_call 56; refine (right_any _ _ l _ _ _ HR.out hl (by omega) (by omega)).mono ?_; rintro e w' ⟨rfl, rfl⟩)
    | (go_at_call 82; refine (HW1.out _).mono ?_; rintro e w' ⟨rfl, rfl⟩)
    | (go_at_call 81; refine (HLY.out _ HR.out).mono ?_; rintro e w' ⟨rfl, hrow, hbel⟩))
  go_ret3
  exact ⟨rfl, hrow.out, HLT.out, hbel⟩

set_option maxRecDepth 100000 in
set_option maxHeartbeats 1000000 in
theorem put_new (A : Option Addr) (c : Nat) (l : List Nat) (n v m : Nat) (w : World) (hr : Row w w.heap.size A l) (hl : l.length ≤ 140737488355328) (hV : M.Valid l n) (hv : v < 2 ^ m) (hm : m ≤ 64) :
    Calls Tryd.prog 57 #[.slice A l.length c, .int .i64 n, .int .u64 v, .int .i64 m] w (GivesNew (M.putL l n (M.digs v m)) (n + m) w) := by
  have hv64 : v < 18446744073709551616 := Nat.lt_of_lt_of_le hv (Nat.pow_le_pow_right (n := 2) (by decide) hm)
  have hn2 : n ≤ 1125899906842624 := by have := hV.1; omega
  have hz := shr_zero v m hv64
  rw [decide_eq_true hv, Bool.not_true] at hz
  have hz' : ((v : Int) / 2 ^ m != 0) = false := by rwa [Nat.min_eq_left hm] at hz
  have hR := M.rightB_nat hV
  have HR := Lib.hid hr; clear hr
  have HV := Lib.hid hV; clear hV
  have HM := Lib.hid hv; clear hv
  have HLT : Hid (∀ x ∈ M.putL l n (M.digs v m), x < 256) := M.putL_lt l n _ HR.out.1 (M.digs_lt v m)
  go_enter Tryd.func57, Tryd.ntmps57
  go_wp2_with (first
    | (go_at_call 56; refine (right_any _ _ l _ _ _ HR.out hl (by omega) (by omega)).mono ?_; rintro e w' ⟨rfl, rfl⟩)
    | (go_at_call 81; refine (lay_new _ _ l n v m _ HR.out HV.out.1 hl hv64 (by omega)).mono ?_; rintro e w' ⟨rfl, hrow, hbel⟩))
  go_ret3
  exact ⟨rfl, hrow.out, HLT.out, hbel⟩

end Go.Proofs.YtflghlmikpfnpaaDoor

namespace Go.Proofs.YtflghlmikpfnpaaDoor.E.By
open Go.RowKit Go.Shelf
attribute [local go_sem] Oper.semAt_some

/-- A block of bytes. -/
def isB (o : Obj) : Prop := ∃ cs : Array Value, o = .cells cs 5 (0, 0) ∧ ∀ v ∈ cs, ∃ x, v = .int .u8 x
/-- A value that is no byte. -/
abbrev NU (v : Value) : Prop := ∀ x, v ≠ .int .u8 x
structure Kept (X : Nat → Prop) (W W' : World) : Prop where
  size : W.heap.size ≤ W'.heap.size
  same : ∀ k, k < W.heap.size → ¬ X k → W'.heap[k]? = W.heap[k]? ∨ ∃ o o', W.heap[k]? = some o ∧ W'.heap[k]? = some o' ∧ isB o ∧ isB o'
theorem Kept.refl (X : Nat → Prop) (W : World) : Kept X W W := ⟨Nat.le_refl _, fun _ _ _ => .inl rfl⟩
theorem Kept.trans {X : Nat → Prop} {A B C : World} (h : Kept X A B) (g : Kept X B C) : Kept X A C :=
  ⟨Nat.le_trans h.size g.size, fun k hk hx => by
    rcases h.same k hk hx with h1 | ⟨o, o', h1, h2, h3, h4⟩
    · rcases g.same k (Nat.lt_of_lt_of_le hk h.size) hx with g1 | ⟨p, p', g1, g2, g3, g4⟩
      · exact .inl (g1.trans h1)
      · exact .inr ⟨p, p', h1 ▸ g1, g2, g3, g4⟩
    · rcases g.same k (Nat.lt_of_lt_of_le hk h.size) hx with g1 | ⟨p, p', g1, g2, g3, g4⟩
      · exact .inr ⟨o, o', h1, g1.trans h2, h3, h4⟩
      · exact .inr ⟨o, p', h1, g2, h3, g4⟩⟩
theorem Kept.mono {X Y : Nat → Prop} {A B : World} (h : Kept X A B) (hxy : ∀ k, X k → Y k) : Kept Y A B := ⟨h.size, fun k hk hy => h.same k hk fun hx => hy (hxy k hx)⟩
theorem Kept.of {X : Nat → Prop} {A B : World} (h : E.Kept X A B) : Kept X A B := ⟨h.size, fun k hk hx => .inl (h.same k hk hx)⟩
theorem Kept.alloc {X : Nat → Prop} {A B : World} (h : Kept X A B) (o : Obj) : Kept X A (B.alloc o) := h.trans (Kept.of ((E.Kept.refl X B).alloc o))
theorem Kept.putObj {X : Nat → Prop} {W : World} {l : Nat} (hl : X l) (o : Obj) : Kept X W (W.putObj l o) := Kept.of (E.Kept.putObj hl o)
theorem Kept.setCell {X : Nat → Prop} {A B : World} (h : Kept X A B) {p : Addr} (hp : X p.block) (u : Value) : Kept X A (B.setCell p u) := h.trans (Kept.of (E.Kept.setCell (E.Kept.refl X B) hp u))
theorem Kept.below {X : Nat → Prop} {B : Nat} {W W' : World} (hb : Below B W W') (hB : W.heap.size ≤ B) : Kept X W W' := Kept.of (E.Kept.below hb hB)
theorem Kept.obj {X : Nat → Prop} {W W' : World} (h : Kept X W W') {k : Nat} {o : Obj} (ho : W.heap[k]? = some o) (hx : ¬ X k) (hn : ¬ isB o) : W'.heap[k]? = some o := by
  rcases h.same k (Array.getElem?_eq_some_iff.1 ho).1 hx with h1 | ⟨p, _, h1, _, h3, _⟩
  · exact h1.trans ho
  · rw [ho] at h1
    injection h1 with h1
    subst h1
    exact absurd h3 hn
theorem Kept.cell {X : Nat → Prop} {W W' : World} (h : Kept X W W') {p : Addr} {v : Value} (hx : ¬ X p.block) (hv : NU v) (hc : W.cell? p = some v) : W'.cell? p = some v := by
  obtain ⟨o, ho, hcl⟩ := cells_of_cell hc
  rcases h.same _ (Array.getElem?_eq_some_iff.1 ho).1 hx with h1 | ⟨q, _, h1, _, ⟨cs, e, hall⟩, _⟩
  · exact (World.cell?_of_block h1).trans hc
  · subst e
    simp only [World.cell?, h1] at hc
    exfalso
    simp only [Obj.isCells] at hcl
    cases hg : cs[p.off]? with
    | none => rw [hg] at hc; split at hc <;> cases hc
    | some u =>
      rw [hg] at hc
      obtain ⟨x, rfl⟩ := hall u (Array.mem_of_getElem? hg)
      split at hc
      · cases hc
      · injection hc with hc
        exact hv x hc.symm
theorem _root_.Go.Proofs.YtflghlmikpfnpaaDoor.E.InF.keepN {P : Nat → Prop} {w w' : World} (hk : ∀ (p : Addr) (v : Value), P p.block → NU v → w.cell? p = some v → w'.cell? p = some v) : ∀ {f : Fo} {b off : Nat}, P b → InF P w f b off → InF P w' f b off
  | .nil, _, _, _, _ => trivial
  | .cons o ks rest, b, off, hb, ⟨⟨A, c, h1, h2, h3⟩, h4⟩ => by
    refine ⟨⟨A, c, hk _ _ hb (fun _ h => by cases h) h1, hk _ _ hb (fun _ h => by cases h) h2, ?_⟩, InF.keepN hk hb h4⟩
    rcases h3 with h3 | ⟨b', off', e, hb', h3⟩
    · exact .inl h3
    · exact .inr ⟨b', off', e, hb', InF.keepN hk hb' h3⟩
theorem _root_.Go.Proofs.YtflghlmikpfnpaaDoor.E.Kd.keepN {P : Nat → Prop} {w w' : World} (hk : ∀ (p : Addr) (v : Value), P p.block → NU v → w.cell? p = some v → w'.cell? p = some v) {f : Fo} {A : Option Addr} (h : Kd P w f A) : Kd P w' f A := by
  rcases h with h | ⟨b, off, e, hb, h⟩
  · exact .inl h
  · exact .inr ⟨b, off, e, hb, h.keepN hk hb⟩

/-- How a round may be left. -/
def rPost {α : Type} (X : Nat → Prop) (G : α → Prop) (I : List α → World → Prop) (Ix : Code → List α → World → Prop) (pre : List α) (x : α) (W : World) : Exit → Act → World → Prop
  | .normal, _, W' => Kept X W W' ∧ G x ∧ I (pre ++ [x]) W'
  | .ret, _, W' => Kept X W W' ∧ Ix .ret (pre ++ [x]) W'
  | .exit id, _, W' => Kept X W W' ∧ Ix (.exit id) (pre ++ [x]) W'
  | .goto t, _, W' => Kept X W W' ∧ Ix (.goto t) (pre ++ [x]) W'
  | .panic _, _, _ => False
  | .outgrown, _, _ => False

/-- An iterator over S, whatever the rounds do to the blocks of X (and to their loop's own record); Q: what is known of each x; G: what a round that goes on has found. -/
def SeqQ {α : Type} (P : Program) (g : Nat) (lb : Array Value) (encs : α → Array Value) (X : Nat → Prop) (Q : List α → α → Prop) (G : α → Prop) (S Sp : List α → Prop) (w : World) : Prop :=
  ∀ (l : Nat) (J Jx : List α → World → Prop) (W : World), Below w.heap.size w W → w.heap.size ≤ l → l < W.heap.size → OwnFrom W.heap.size J → OwnFrom W.heap.size Jx →
    (∀ pre x W1, J pre W1 → Q pre x → YieldAt Fence.wide 0 P l (encs x) W1 fun e W' =>
      (e = .returned (.bool true) ∧ G x ∧ J (pre ++ [x]) W' ∧ Kept (fun k => X k ∨ k = l) W1 W') ∨ (e = .returned (.bool false) ∧ Jx (pre ++ [x]) W' ∧ Kept (fun k => X k ∨ k = l) W1 W')) →
    J [] W →
    Calls P g (#[.func (.yield l) #[] #[]] ++ lb) W fun e W' => (∃ v, e = .returned v) ∧ ((∃ xs, S xs ∧ J xs W') ∨ (∃ pre, Sp pre ∧ Jx pre W'))

theorem range_own {α : Type} {P : Program} {n : Nat} {g : Operand} {ps : Array Tmp} {assign body : Code} {Z : Exit → Act → World → Prop} {a : Act} {w : World}
    {gf : Nat} {lb : Array Value} (hg : a.eval g = .func (.func gf) #[] lb) (eg : ∀ args w, (callFunc gf args).run P w = .ok (.enter gf args) w)
    {encs : α → Array Value} {X : Nat → Prop} {Q : List α → α → Prop} {G : α → Prop} {S Sp : List α → Prop} {w0 : World} (hseq : SeqQ P gf lb encs X Q G S Sp w0) (hX : ∀ k, X k → k < w.heap.size)
    (hb0 : Below w0.heap.size w0 w) (hps : ∀ x, (encs x).size = ps.size)
    (I : List α → World → Prop) (Ix : Code → List α → World → Prop) (hI : OwnFrom w.heap.size I) (hIx : ∀ c, OwnFrom w.heap.size (Ix c)) (h0 : I [] w) (Ax : α → Act → World → Prop) (hAx : ∀ x a', OwnFrom w.heap.size (fun (_ : Unit) W => Ax x a' W))
    (hassign : ∀ (l : Nat) (pre : List α) (x : α) (W : World) (K : Act → World → Prop), w.heap.size ≤ W.heap.size → I pre W → (∀ a' W', Kept X W W' → I pre W' → Ax x a' W' → K a' W') →
      assign.wpIn (Fence.wide.inRound l) n P (Exit.then K (fun _ _ _ => False)) { tmps := (ps.zip (encs x)).foldl (fun t (p, v) => t.setIfInBounds p v) a.tmps, defers := [] } W)
    (hbody : ∀ (l : Nat) (pre : List α) (x : α) (a' : Act) (W : World), w.heap.size ≤ W.heap.size → I pre W → Ax x a' W → Q pre x → body.wpIn (Fence.wide.inRound l) n P (rPost X G I Ix pre x W) a' W)
    (hdone : ∀ (D : Nat) (xs : List α) (W : World), w.heap.size ≤ D → S xs → I xs W → W.heap[D]? = some (.deferred (some [])) → Z .normal { a with defers := { target := .collected D, args := #[] } :: a.defers } W)
    (hstop : ∀ (D : Nat) (c : Code) (pre : List α) (W : World), w.heap.size ≤ D → Sp pre → Ix c pre W → W.heap[D]? = some (.deferred (some [])) → c.wpIn Fence.wide n P Z { a with defers := { target := .collected D, args := #[] } :: a.defers } W) :
    (Code.rangeFunc g ps assign body).wpIn Fence.wide n P Z a w := by
  refine wpIn_rangeFunc fun fn hfn => ?_
  obtain ⟨rec, hrec⟩ : ∃ rec : LoopState → Option Code → Loop, rec = fun st pe => { state := st, pending := pe, fn, tmps := a.tmps, params := ps, assign, body, defers := w.heap.size } := ⟨_, rfl⟩
  obtain ⟨W1, hW1⟩ : ∃ W1, (w.alloc (.deferred (some []))).alloc (.loop (rec .ready none)) = W1 := ⟨_, rfl⟩
  have hsz : W1.heap.size = w.heap.size + 2 := by rw [← hW1]; simp
  have hL1 : W1.heap[w.heap.size + 1]? = some (.loop (rec .ready none)) := by
    rw [← hW1]; have := World.alloc_heap_new (w.alloc (.deferred (some []))) (.loop (rec .ready none)); rwa [World.size_alloc] at this
  have hK1 : W1.heap[w.heap.size]? = some (.deferred (some [])) := by
    rw [← hW1]; exact (Below.heap_alloc _ _ _ (by simp)).trans (World.alloc_heap_new w _)
  have hI1 : I [] W1 := by rw [← hW1]; exact hI.alloc _ (hI.alloc _ h0)
  have hb1 : Below w0.heap.size w0 W1 := by
    rw [← hW1]; exact hb0.trans ((((Below.refl _ w).alloc (Nat.le_refl _) _).alloc (by simp) _).mono hb0.size)
  have hXl : ¬ X (w.heap.size + 1) := fun h => by have := hX _ h; omega
  have hXd : ¬ X w.heap.size := fun h => by have := hX _ h; omega
  refine ⟨w.heap.size + 1, [{ target := .collected w.heap.size, args := #[] }], W1, { target := .fn (.func gf) lb, args := #[.func (.yield (w.heap.size + 1)) #[] #[]] }, W1, gf,
    #[.func (.yield (w.heap.size + 1)) #[] #[]] ++ lb, W1, ?_, ?_, fun _ _ => trivial, ?_, (fun h => (by cases h)), ?_⟩
  · rw [← hW1, hrec]; exact run_enterLoop_outer _ _ _ _ _
  · simp only [resolve, hg]
    simp [go_sem]
  · simp [invoke, go_sem, eg]
  · -- what is kept through a turn of a block beyond W1
    have turn : ∀ {k : Nat} {o : Obj} {A B : World} {row : Option Nat}, k < W1.heap.size → A.heap[k]? = some o → A.grownBy B row → (∀ r, row = some r → W1.heap.size ≤ r ∧ ∃ o : Obj, A.heap[r]? = some o ∧ o.isCells = false) → B.heap[k]? = some o :=
      fun hk ho hgr hr => (hgr.block _ (Array.getElem?_eq_some_iff.1 ho).1 (fun e => by have := (hr _ e.symm).1; omega)).trans ho
    have wide : ∀ {A : World} {row : Option Nat}, (∀ r, row = some r → W1.heap.size ≤ r ∧ ∃ o : Obj, A.heap[r]? = some o ∧ o.isCells = false) → (∀ r, row = some r → w.heap.size ≤ r ∧ ∃ o : Obj, A.heap[r]? = some o ∧ o.isCells = false) :=
      fun hr r e => ⟨by have := (hr r e).1; omega, (hr r e).2⟩
    refine callsIn_wide.2 ((hseq (w.heap.size + 1)
      (fun pre W => I pre W ∧ W.heap[w.heap.size + 1]? = some (.loop (rec .ready none)) ∧ W.heap[w.heap.size]? = some (.deferred (some [])))
      (fun pre W => ∃ c, Ix c pre W ∧ W.heap[w.heap.size + 1]? = some (.loop (rec .done (some c))) ∧ W.heap[w.heap.size]? = some (.deferred (some [])))
      W1 hb1 (by have := hb0.size; omega) (by omega)
      (fun s A B row hs hg' hr => ⟨hI s A B row hs.1 hg' (wide hr), turn (by omega) hs.2.1 hg' hr, turn (by omega) hs.2.2 hg' hr⟩)
      (fun s A B row ⟨c, hc, hl, hk⟩ hg' hr => ⟨c, hIx c s A B row hc hg' (wide hr), turn (by omega) hl hg' hr, turn (by omega) hk hg' hr⟩)
      ?_ ⟨hI1, hL1, hK1⟩).mono ?_)
    · rintro pre x W ⟨hi, hl, hk⟩ hq
      have hy := run_yield (P := P) (args := encs x) hl (by rw [hrec]; exact hps x)
      rw [hrec] at hy
      refine ⟨fn, _, assign, body, hy, roundIn_deep (m := n) (roundIn_of_wpIn hfn (hassign _ pre x W _ (by have := (Array.getElem?_eq_some_iff.1 hl).1; omega) hi ?_))⟩
      clear hy
      intro a' Wa hka hia hax
      have hl' := hka.obj hl hXl (fun h => by obtain ⟨_, e, _⟩ := h; cases e)
      have hk' := hka.obj hk hXd (fun h => by obtain ⟨_, e, _⟩ := h; cases e)
      have hlt : w.heap.size + 1 < Wa.heap.size := (Array.getElem?_eq_some_iff.1 hl').1
      refine ⟨_, run_beginRound hl' (by rw [hrec]), ?_⟩
      obtain ⟨Wb, hWb⟩ : ∃ Wb, Wa.putObj (w.heap.size + 1) (.loop { rec .ready none with state := .busy }) = Wb := ⟨_, rfl⟩
      have hkb : Kept (fun k => X k ∨ k = w.heap.size + 1) Wa Wb := by rw [← hWb]; exact Kept.putObj (.inr rfl) _
      have hl2 : Wb.heap[w.heap.size + 1]? = some (.loop { rec .ready none with state := .busy }) := by rw [← hWb]; exact World.putObj_heap_same hlt
      have hk2 : Wb.heap[w.heap.size]? = some (.deferred (some [])) := by rw [← hWb]; exact (World.putObj_heap_other (by omega)).trans hk'
      have hib : I pre Wb := by rw [← hWb]; exact hI.putObj _ hia (by omega) hl' rfl
      have hab : Ax x a' Wb := by rw [← hWb]; exact (hAx x a').putObj (s := ()) _ hax (by omega) hl' rfl
      rw [hWb]
      refine wpIn_mono (hbody _ pre x a' Wb (by have := (Array.getElem?_eq_some_iff.1 hl2).1; omega) hib hab hq) ?_
      have fin : ∀ (jump : Option Code) (W3 : World), Kept X Wb W3 →
          ∃ W4, (Instr.endRound (w.heap.size + 1) jump).run P W3 = .ok (.bool jump.isNone) W4 ∧ W4 = W3.putObj (w.heap.size + 1) (.loop (rec (if jump.isNone then .ready else .done) jump)) ∧
          (∃ o : Obj, W3.heap[w.heap.size + 1]? = some o ∧ o.isCells = false) ∧
          W4.heap[w.heap.size + 1]? = some (.loop (rec (if jump.isNone then .ready else .done) jump)) ∧ W4.heap[w.heap.size]? = some (.deferred (some [])) ∧ Kept (fun k => X k ∨ k = w.heap.size + 1) W W4 := fun jump W3 hk3 => by
        have hl3 := hk3.obj hl2 hXl (fun h => by obtain ⟨_, e, _⟩ := h; cases e)
        have hd3 := hk3.obj hk2 hXd (fun h => by obtain ⟨_, e, _⟩ := h; cases e)
        have := run_endRound (P := P) jump hl3
        refine ⟨_, this, by rw [hrec], ⟨_, hl3, rfl⟩, ?_, (World.putObj_heap_other (by omega)).trans hd3, ((hka.mono fun _ h => .inl h).trans hkb).trans ((hk3.mono fun _ h => .inl h).trans (Kept.putObj (.inr rfl) _))⟩
        rw [hrec]; exact World.putObj_heap_same (Array.getElem?_eq_some_iff.1 hl3).1
      rintro e a3 W3 hp
      cases e with
      | normal =>
        obtain ⟨hk3, hgx, hi3⟩ := hp
        obtain ⟨W4, hr, e4, ⟨o, ho, hoc⟩, hl4, hk4, hkk⟩ := fin none W3 hk3
        exact ⟨_, _, hr, .inl ⟨rfl, hgx, ⟨by rw [e4]; exact hI.putObj _ hi3 (by omega) ho hoc, hl4, hk4⟩, hkk⟩⟩
      | ret =>
        obtain ⟨hk3, hi3⟩ := hp
        obtain ⟨W4, hr, e4, ⟨o, ho, hoc⟩, hl4, hk4, hkk⟩ := fin (some .ret) W3 hk3
        exact ⟨_, _, hr, .inr ⟨rfl, ⟨.ret, by rw [e4]; exact (hIx _).putObj _ hi3 (by omega) ho hoc, hl4, hk4⟩, hkk⟩⟩
      | exit id =>
        obtain ⟨hk3, hi3⟩ := hp
        obtain ⟨W4, hr, e4, ⟨o, ho, hoc⟩, hl4, hk4, hkk⟩ := fin (some (.exit id)) W3 hk3
        exact ⟨_, _, hr, .inr ⟨rfl, ⟨.exit id, by rw [e4]; exact (hIx _).putObj _ hi3 (by omega) ho hoc, hl4, hk4⟩, hkk⟩⟩
      | goto t =>
        obtain ⟨hk3, hi3⟩ := hp
        obtain ⟨W4, hr, e4, ⟨o, ho, hoc⟩, hl4, hk4, hkk⟩ := fin (some (.goto t)) W3 hk3
        exact ⟨_, _, hr, .inr ⟨rfl, ⟨.goto t, by rw [e4]; exact (hIx _).putObj _ hi3 (by omega) ho hoc, hl4, hk4⟩, hkk⟩⟩
      | panic ch => exact hp.elim
      | outgrown => exact hp.elim
    · rintro e W2 ⟨⟨v, rfl⟩, (⟨xs, hS, hi, hl, hk⟩ | ⟨pre, hSp, c, hi, hl, hk⟩)⟩
      · exact ⟨none, _, by have := run_endLoop (P := P) hl (by rw [hrec]; simp); rw [hrec] at this; exact this, hdone _ xs _ (Nat.le_refl _) hS (hI.putObj _ hi (by omega) hl rfl) ((World.putObj_heap_other (by omega)).trans hk)⟩
      · exact ⟨some c, _, by have := run_endLoop (P := P) hl (by rw [hrec]; simp); rw [hrec] at this; exact this, hstop _ c pre _ (Nat.le_refl _) hSp ((hIx c).putObj _ hi (by omega) hl rfl) ((World.putObj_heap_other (by omega)).trans hk)⟩

/-- The cells of every block but those of X hold what they held, bytes aside. -/
def Holds (X : Nat → Prop) (Z W : World) : Prop := ∀ (p : Addr) (v : Value), ¬ X p.block → NU v → Z.cell? p = some v → W.cell? p = some v
theorem Holds.refl (X : Nat → Prop) (Z : World) : Holds X Z Z := fun _ _ _ _ h => h
theorem Holds.trans {X : Nat → Prop} {A B C : World} (h : Holds X A B) (g : Holds X B C) : Holds X A C := fun p v hx hv hc => g p v hx hv (h p v hx hv hc)
theorem Kept.holds {X : Nat → Prop} {A B : World} (h : Kept X A B) : Holds X A B := fun _ _ hx hv hc => h.cell hx hv hc
theorem Holds.own {β : Type} (X : Nat → Prop) (Z : World) : Own (fun (_ : β) W => Holds X Z W) := fun _ _ _ _ hs hg hr => fun p v hx hv hc => cell_kept (hs p v hx hv hc) hg hr

set_option maxRecDepth 100000 in
set_option maxHeartbeats 4000000 in
theorem nodes_seq (P : Nat → Prop) : ∀ (N : Nat) (o : Int) (ks : Fo) (A : Option Addr) (c : Nat) (d s : Int) (Bt Bd : Nat) (X : Nat → Prop) (Q : List It → It → Prop) (G : It → Prop) (w : World), ks.size < N → (∀ x, G x → x.n = 0 ∨ x.n = 2) → (∀ (pre : List It) (x : It), pre.map It.key ++ [x.key] <+: walkT o ks d s → Q pre x) →
    Kd P w ks A → (∀ b, P b → b < w.heap.size) → Bt < w.heap.size → Bd < w.heap.size → w.cell? ⟨Bt, 0, none⟩ = some (.int .i64 o) → w.cell? ⟨Bt, 1, none⟩ = some (.slice A ks.len c) → w.cell? ⟨Bd, 0, none⟩ = some (.int .i64 d) → w.cell? ⟨Bd, 1, none⟩ = some (.int .i64 s) → ¬ X Bt → ¬ X Bd → (∀ k, X k → ¬ P k ∧ k < w.heap.size) →
    SeqQ Tryd.prog 73 #[.pointer (some ⟨Bt, 0, none⟩), .pointer (some ⟨Bd, 0, none⟩)] It.enc X Q G (fun ys => ys.map It.key = walkT o ks d s) (fun pre => pre.map It.key <+: walkT o ks d s) w := by
  intro N
  induction N with
  | zero => intro o ks A c d s Bt Bd X Q G w h; omega
  | succ N ih =>
  intro o ks A c d s Bt Bd X Q G w hN hG hQ hk hP hBt hBd c0 c1 c2 c3 hXt hXd hX l J Jx W hW hl1 hl2 hJ hJx hY h0
  refine (callsIn_wide (n := 3)).1 ?_
  have hJ0 : J [] (W.alloc (.cells #[.func (.yield l) #[] #[]] 91)) := hJ.alloc _ h0
  have keep0 : ∀ {b i : Nat} {v : Value}, b < w.heap.size → w.cell? ⟨b, i, none⟩ = some v → (W.alloc (.cells #[.func (.yield l) #[] #[]] 91)).cell? ⟨b, i, none⟩ = some v := fun {b i v} hb hc => ((Below.refl _ W).alloc (Nat.le_refl _) _).cell (p := ⟨b, i, none⟩) (Nat.lt_of_lt_of_le hb hW.size) |>.trans ((hW.cell (p := ⟨b, i, none⟩) hb).trans hc)
  have t0 := keep0 hBt c0
  have t1 := keep0 hBt c1
  have t2 := keep0 hBd c2
  have t3 := keep0 hBd c3
  clear keep0
  obtain ⟨fn, tmps, assign, body, hy, hR⟩ := hY [] ⟨o, A, ks.len, c, d, s⟩ _ hJ0 (hQ [] _ (by simp [It.key, walkT]))
  unfold It.enc tv at hy
  dsimp only at hy
  have HR := fun m => roundIn_deep (m' := m) hR
  clear hR
  have HH := Lib.hid (And.intro hQ (And.intro hk (And.intro hX (And.intro hY (And.intro ih hP)))))
  clear ih hQ hk hX hY hP
  refine callsIn_of_wp_marks Tryd.func73 rfl trivial ?_ rfl
  simp only [Tryd.ntmps73, List.size_toArray, List.length_cons, List.length_nil, Nat.reduceAdd, Nat.reduceSub, Array.replicate_succ, Array.replicate_zero, List.push_toArray, List.append_toArray, List.nil_append, List.cons_append]
  gi_wp2
  refine (HR _).mono ?_
  clear HR
  obtain ⟨Wy, hWy⟩ : ∃ Wy, W.alloc (.cells #[.func (.yield l) #[] #[]] 91) = Wy := ⟨_, rfl⟩
  have hyb : Wy.cell? ⟨W.heap.size, 0, none⟩ = some (.func (.yield l) #[] #[]) := by rw [← hWy]; simp [go_sem]
  have hsy : Wy.heap.size = W.heap.size + 1 := by rw [← hWy]; simp
  have hWy' : Below w.heap.size w Wy := by rw [← hWy]; exact hW.trans (((Below.refl _ W).alloc (Nat.le_refl _) _).mono hW.size)
  rw [hWy] at t0 t1 t2 t3 ⊢
  clear hJ0 hy
  have hsz := hW.size
  have RR : ∀ (A B : World) (row : Option Nat), ((∃ v, Ending.returned (.tuple #[]) = .returned v) ∧ ((∃ xs : List It, xs.map It.key = walkT o ks d s ∧ J xs A) ∨ ∃ pre : List It, pre.map It.key <+: walkT o ks d s ∧ Jx pre A)) → A.grownBy B row → (∀ r, row = some r → W.heap.size ≤ r ∧ ∃ o : Obj, A.heap[r]? = some o ∧ o.isCells = false) →
      ((∃ v, Ending.returned (.tuple #[]) = .returned v) ∧ ((∃ xs : List It, xs.map It.key = walkT o ks d s ∧ J xs B) ∨ ∃ pre : List It, pre.map It.key <+: walkT o ks d s ∧ Jx pre B)) := by
    rintro A B row ⟨h1, h2⟩ hg hr
    refine ⟨h1, ?_⟩
    rcases h2 with ⟨xs, e, h⟩ | ⟨pre, e, h⟩
    · exact .inl ⟨xs, e, hJ xs A B row h hg hr⟩
    · exact .inr ⟨pre, e, hJx pre A B row h hg hr⟩
  have RR := Lib.hid RR
  rintro e W3 (⟨rfl, hg3, hj3, hk3⟩ | ⟨rfl, hx3, hk3⟩)
  · obtain ⟨hQ, hk, hX, hY, ih, hP⟩ := HH.out
    have hX' : ∀ k, X k ∨ k = l → ¬ P k ∧ k < W.heap.size := by
      rintro k (h | rfl)
      · have := hX k h; exact ⟨this.1, by omega⟩
      · exact ⟨fun h => absurd (hP _ h) (by omega), by omega⟩
    have hold3 := hk3.holds
    have hXb : ∀ B, B < w.heap.size → ¬ X B → ¬ (X B ∨ B = l) := by
      rintro B hB hx (h | rfl)
      · exact hx h
      · omega
    have hXn : ∀ B, W.heap.size ≤ B → ¬ (X B ∨ B = l) := fun B hB h => by have := (hX' B h).2; omega
    have s0 := hold3 ⟨Bt, 0, none⟩ _ (hXb Bt hBt hXt) (fun _ h => by cases h) t0
    have s1 := hold3 ⟨Bt, 1, none⟩ _ (hXb Bt hBt hXt) (fun _ h => by cases h) t1
    have s2 := hold3 ⟨Bd, 0, none⟩ _ (hXb Bd hBd hXd) (fun _ h => by cases h) t2
    have s2b := hold3 ⟨Bd, 1, none⟩ _ (hXb Bd hBd hXd) (fun _ h => by cases h) t3
    have s3 := hold3 ⟨W.heap.size, 0, none⟩ _ (hXn _ (Nat.le_refl _)) (fun _ h => by cases h) hyb
    have hmem : Kd P W3 ks A := (hk.keep fun p v hp hc => (hWy'.cell (hP _ hp)).trans hc).keepN fun p v hp hv hc => hold3 p v (fun h => (hX' _ h).1 hp) hv hc
    have hsz3 : W.heap.size + 1 ≤ W3.heap.size := by have := hk3.size; omega
    rw [List.nil_append] at hj3
    have hlen : ks.len ≤ 2 := by rcases hG _ hg3 with h | h <;> (simp only at h; omega)
    obtain ⟨W4, hW4⟩ : ∃ W4, W3.alloc (.cells #[.int .i64 (wrap64 (d + 1)), .int .i64 (wrap64 (s + o))] 58) = W4 := ⟨_, rfl⟩
    have hb4 : Below W3.heap.size W3 W4 := by rw [← hW4]; exact (Below.refl _ W3).alloc (Nat.le_refl _) _
    have hs4 : W4.heap.size = W3.heap.size + 1 := by rw [← hW4]; simp
    have hj4 : J [⟨o, A, ks.len, c, d, s⟩] W4 := by rw [← hW4]; exact hJ.alloc _ hj3
    have u1 : W4.cell? ⟨Bt, 1, none⟩ = some (.slice A ks.len c) := (hb4.cell (World.block_lt_of_cell? W3 _ s1)).trans s1
    have u3 : W4.cell? ⟨W.heap.size, 0, none⟩ = some (.func (.yield l) #[] #[]) := (hb4.cell (World.block_lt_of_cell? W3 _ s3)).trans s3
    have u4 : W4.cell? ⟨W3.heap.size, 0, none⟩ = some (.int .i64 (wrap64 (d + 1))) := by rw [← hW4]; simp [go_sem]
    have u5 : W4.cell? ⟨W3.heap.size, 1, none⟩ = some (.int .i64 (wrap64 (s + o))) := by rw [← hW4]; simp [go_sem]
    have hmem4 : Kd P W4 ks A := hmem.keep fun p v _ hc => (hb4.cell (World.block_lt_of_cell? W3 p hc)).trans hc
    clear t0 t1 t2 t3 c0 c1 c2 c3 hyb h0 hk hWy' hWy hold3 hk3 hg3
    have HY := Lib.hid (And.intro hQ (And.intro hX (And.intro hY (And.intro ih hP))))
    clear HH hQ hX hY ih hP hb4 hmem hj3
    gi_wp2
    clear s0 s1 s2 s2b s3 hW4
    obtain ⟨Bb, hBb⟩ : ∃ Bb, W3.heap.size = Bb := ⟨_, rfl⟩
    rw [hBb] at u4 u5 ⊢
    have hBbn : W.heap.size ≤ Bb := by omega
    refine wpIn_loop (fun a Wr => ∃ (i : Nat) (fo : Fo) (pre : List It) (v6 v27 v28 v29 v30 v31 v32 v40 : Value) (ds : List Deferred), a = { tmps := #[.func (.yield l) #[] #[], .pointer (some ⟨Bt, 0, none⟩), .pointer (some ⟨Bd, 0, none⟩), .pointer (some ⟨W.heap.size, 0, none⟩), .pointer (some ⟨Bb, 0, none⟩), undef, v6, undef, undef, .func (.yield l) #[] #[], .agg #[.int .i64 o, .slice A ks.len c], .agg #[.int .i64 d, .int .i64 s], .bool true, .bool false, .pointer (some ⟨Bd, 0, none⟩), .int .i64 d, .int .i64 (wrap64 (d + 1)), .pointer (some ⟨Bd, 1, none⟩), .int .i64 s, .pointer (some ⟨Bt, 0, none⟩), .int .i64 o, .int .i64 (wrap64 (s + o)), .agg #[.int .i64 (wrap64 (d + 1)), .int .i64 (wrap64 (s + o))], .pointer (some ⟨Bt, 1, none⟩), .slice A ks.len c, .int .i64 (ks.len : Int), .int .i64 (i : Int), v27, v28, v29, v30, v31, v32, undef, undef, undef, undef, undef, undef, undef, v40], defers := ds } ∧ Hid (i + fo.len = ks.len) ∧ Hid (fo.len = 0 ∨ ∃ b off, A = some ⟨b, off, none⟩ ∧ P b ∧ InF P W4 fo b (off + i * 2)) ∧ Hid (fo.size ≤ ks.size) ∧ Hid (pre.map It.key ++ walkK fo (wrap64 (d + 1)) (wrap64 (s + o)) = walkT o ks d s) ∧ J pre Wr ∧ Hid (Holds (fun k => X k ∨ k = l) W4 Wr) ∧ Hid (Marks Wr W.heap.size Wr.heap.size ds) ∧ W.heap.size + 1 ≤ Wr.heap.size) (fun a _ => ks.len - (intOf (a.tmps.getD 26 undef)).toNat) ?start ?round
    case start =>
      refine ⟨0, ks, [⟨o, A, ks.len, c, d, s⟩], undef, undef, undef, undef, undef, undef, undef, undef, [], rfl, by show _ = _; omega, ?_, Nat.le_refl _, ?_, hj4, Holds.refl _ _, trivial, by omega⟩
      · rcases hmem4 with h | ⟨b, off, e, hb, h⟩
        · exact .inl h
        · exact .inr ⟨b, off, e, hb, by rw [Nat.zero_mul, Nat.add_zero]; exact h⟩
      · show _ = _; simp [It.key, walkT]
    case round =>
      rintro a Wr ⟨i, fo, pre, v6, v27, v28, v29, v30, v31, v32, v40, ds, rfl, hi, hfo, hfs, hpre, hJr, hH, hM, hsr⟩
      have r1 := hH.out _ _ (hXb Bt hBt hXt) (fun _ h => by cases h) u1
      have r3 := hH.out _ _ (hXn _ (Nat.le_refl _)) (fun _ h => by cases h) u3
      have r4 := hH.out _ _ (hXn _ hBbn) (fun _ h => by cases h) u4
      have r5 := hH.out _ _ (hXn _ hBbn) (fun _ h => by cases h) u5
      clear u1 u3 u4 u5 hj4 hmem4
      cases fo with
      | nil =>
        have hin : i = ks.len := by have := hi.out; simp [Fo.len] at this; exact this
        subst hin
        have HP : Hid (pre.map It.key = walkT o ks d s) := by show _ = _; have := hpre.out; simpa [walkK] using this
        gi_wp2
        exact leave_marks rfl (L := W.heap.size) RR.out ds _ _ hM.out ⟨⟨_, rfl⟩, .inl ⟨pre, HP.out, hJr⟩⟩
      | cons o1 k1 rest =>
        have hlt : i < ks.len := by have := hi.out; simp [Fo.len] at this; omega
        obtain ⟨b, off, hA, hb, ⟨A1, c1, m1, m2, m3⟩, m4⟩ : ∃ b off, A = some ⟨b, off, none⟩ ∧ P b ∧ InF P W4 (.cons o1 k1 rest) b (off + i * 2) := by
          rcases hfo.out with h | h
          · simp [Fo.len] at h
          · exact h
        have hXm : ∀ B, P B → ¬ (X B ∨ B = l) := fun B hB h => (hX' B h).1 hB
        have g1 := hH.out _ _ (hXm b hb) (fun _ h => by cases h) m1
        have g2 := hH.out _ _ (hXm b hb) (fun _ h => by cases h) m2
        have hm3 : Kd P Wr k1 A1 := Kd.keepN (fun p v hp hv hc => hH.out p v (hXm _ hp) hv hc) (w := W4) m3
        subst hA
        have hBbr : Bb < Wr.heap.size := World.block_lt_of_cell? Wr _ r4
        have r4a : (Wr.alloc (.cells #[.int .i64 o1, .slice A1 k1.len c1] 24)).cell? ⟨Bb, 0, none⟩ = some (.int .i64 (wrap64 (d + 1))) := (((Below.refl _ Wr).alloc (Nat.le_refl _) _).cell (p := ⟨Bb, 0, none⟩) hBbr).trans r4
        have r5a : (Wr.alloc (.cells #[.int .i64 o1, .slice A1 k1.len c1] 24)).cell? ⟨Bb, 1, none⟩ = some (.int .i64 (wrap64 (s + o))) := (((Below.refl _ Wr).alloc (Nat.le_refl _) _).cell (p := ⟨Bb, 1, none⟩) hBbr).trans r5
        gi_wp2_with (refine ⟨trivial, ?_⟩; gi_at_call 41; refine (nodes_in _ o1 A1 k1.len c1 _ _ _).mono ?_; rintro e w' ⟨rfl, rfl⟩)
        obtain ⟨Wa, hWa⟩ : ∃ Wa, ((Wr.alloc (.cells #[.int .i64 o1, .slice A1 k1.len c1] 24)).alloc (.cells #[.int .i64 o1, .slice A1 k1.len c1] 24)).alloc (.cells #[.int .i64 (wrap64 (d + 1)), .int .i64 (wrap64 (s + o))] 58) = Wa := ⟨_, rfl⟩
        have hsa : Wa.heap.size = Wr.heap.size + 3 := by rw [← hWa]; simp
        have hka : Below Wr.heap.size Wr Wa := by rw [← hWa]; exact three_boxes Wr _ _ _
        have a0 : Wa.cell? ⟨Wr.heap.size + 1, 0, none⟩ = some (.int .i64 o1) := by rw [← hWa]; simp [go_sem]
        have a1 : Wa.cell? ⟨Wr.heap.size + 1, 1, none⟩ = some (.slice A1 k1.len c1) := by rw [← hWa]; simp [go_sem]
        have a2 : Wa.cell? ⟨Wr.heap.size + 1 + 1, 0, none⟩ = some (.int .i64 (wrap64 (d + 1))) := by rw [← hWa]; simp [go_sem]
        have a2b : Wa.cell? ⟨Wr.heap.size + 1 + 1, 1, none⟩ = some (.int .i64 (wrap64 (s + o))) := by rw [← hWa]; simp [go_sem]
        have a3 : Wa.cell? ⟨W.heap.size, 0, none⟩ = some (.func (.yield l) #[] #[]) := (hka.cell (p := ⟨W.heap.size, 0, none⟩) (by show W.heap.size < Wr.heap.size; omega)).trans r3
        have aJ : J pre Wa := by rw [← hWa]; exact hJ.alloc _ (hJ.alloc _ (hJ.alloc _ hJr))
        have aM : Marks Wa W.heap.size Wa.heap.size ds := (hM.out.keep fun k _ hk h => (hka.block k hk).trans h).more (by omega)
        have aK : Kd P Wa k1 A1 := hm3.keep fun p v hp hc => (hka.cell (World.block_lt_of_cell? Wr p hc)).trans hc
        have aH : Holds (fun k => X k ∨ k = l) W4 Wa := hH.out.trans fun p v hx _ hc => (hka.cell (Array.getElem?_eq_some_iff.1 (cells_of_cell hc).choose_spec.1).1).trans hc
        rw [hWa]
        obtain ⟨hQ, hX, hY, ih, hP⟩ := HY.out
        have hQ1 : ∀ (p' : List It) (x : It), p'.map It.key ++ [x.key] <+: walkT o1 k1 (wrap64 (d + 1)) (wrap64 (s + o)) → Q (pre ++ p') x := fun p' x hx => hQ _ x (by rw [← hpre.out, walkK_cons, List.map_append, List.append_assoc]; exact (List.prefix_append_right_inj _).2 (hx.trans (List.prefix_append _ _)))
        have hseq := ih o1 k1 A1 c1 (wrap64 (d + 1)) (wrap64 (s + o)) (Wr.heap.size + 1) (Wr.heap.size + 1 + 1) (fun k => X k ∨ k = l) (fun p' x => Q (pre ++ p') x) G Wa (by have := hfs.out; simp only [Fo.size] at this; omega) hG hQ1 aK (fun b hb => by have := hP b hb; omega) (by omega) (by omega) a0 a1 a2 a2b
          (hXn _ (by omega)) (hXn _ (by omega)) (fun k h => ⟨(hX' k h).1, by have := (hX' k h).2; omega⟩)
        clear ih hWa r1 r3 r4 r5 r4a r5a g1 g2 m1 m2 m3 hm3 hJr HY
        have HP := Lib.hid hpre.out; clear hpre
        refine range_own (gf := 73) (lb := #[.pointer (some ⟨Wr.heap.size + 1, 0, none⟩), .pointer (some ⟨Wr.heap.size + 1 + 1, 0, none⟩)]) rfl (enters_of Tryd.func73 (by kernel_rfl) rfl) hseq (fun k h => by have := (hX' k h).2; omega) (Below.refl _ _) (fun _ => rfl)
          (fun q V => J (pre ++ q) V ∧ Holds (fun k => X k ∨ k = l) Wa V ∧ Marks V W.heap.size Wa.heap.size ds)
          (fun cd q V => cd = .ret ∧ Jx (pre ++ q) V ∧ Marks V W.heap.size Wa.heap.size ds)
          (OwnFrom.and (fun q V V' row hs hg hr => (own_more hJ (by omega)) (pre ++ q) V V' row hs hg hr) (OwnFrom.and ((Holds.own _ _).from _) (Marks.own _ _ _)))
          (fun cd => OwnFrom.and (ownFrom_pure _ _) (OwnFrom.and (fun q V V' row hs hg hr => (own_more hJx (by omega)) (pre ++ q) V V' row hs hg hr) (Marks.own _ _ _)))
          ⟨by rw [List.append_nil]; exact aJ, Holds.refl _ _, aM⟩
          (fun x a' V => ∃ Bx By, V.cell? ⟨Bx, 0, none⟩ = some (.int .i64 x.o) ∧ V.cell? ⟨Bx, 1, none⟩ = some (.slice x.A x.n x.c) ∧ V.cell? ⟨By, 0, none⟩ = some (.int .i64 x.d) ∧ V.cell? ⟨By, 1, none⟩ = some (.int .i64 x.s) ∧ a' = { tmps := #[.func (.yield l) #[] #[], .pointer (some ⟨Bt, 0, none⟩), .pointer (some ⟨Bd, 0, none⟩), .pointer (some ⟨W.heap.size, 0, none⟩), .pointer (some ⟨Bb, 0, none⟩), undef, .pointer (some ⟨Wr.heap.size, 0, none⟩), .pointer (some ⟨Bx, 0, none⟩), .pointer (some ⟨By, 0, none⟩), .func (.yield l) #[] #[], .agg #[.int .i64 o, .slice (some ⟨b, off, none⟩) ks.len c], .agg #[.int .i64 d, .int .i64 s], .bool true, .bool false, .pointer (some ⟨Bd, 0, none⟩), .int .i64 d, .int .i64 (wrap64 (d + 1)), .pointer (some ⟨Bd, 1, none⟩), .int .i64 s, .pointer (some ⟨Bt, 0, none⟩), .int .i64 o, .int .i64 (wrap64 (s + o)), .agg #[.int .i64 (wrap64 (d + 1)), .int .i64 (wrap64 (s + o))], .pointer (some ⟨Bt, 1, none⟩), .slice (some ⟨b, off, none⟩) ks.len c, .int .i64 (ks.len : Int), .int .i64 (i : Int), .bool true, .pointer (some ⟨b, off + i * 2, none⟩), .agg #[.int .i64 o1, .slice A1 k1.len c1], .agg #[.int .i64 o1, .slice A1 k1.len c1], .agg #[.int .i64 (wrap64 (d + 1)), .int .i64 (wrap64 (s + o))], .func (.func 73) #[] #[.pointer (some ⟨Wr.heap.size + 1, 0, none⟩), .pointer (some ⟨Wr.heap.size + 1 + 1, 0, none⟩)], tv x.o x.A x.n x.c, .agg #[.int .i64 x.d, .int .i64 x.s], undef, undef, undef, undef, undef, v40], defers := [] })
          (fun x a' _ V V' row hs hg hr => by
            obtain ⟨Bx, By, b0, b1, b2, b3, e⟩ := hs
            exact ⟨Bx, By, cell_kept b0 hg (fun r e => (hr r e).2), cell_kept b1 hg (fun r e => (hr r e).2), cell_kept b2 hg (fun r e => (hr r e).2), cell_kept b3 hg (fun r e => (hr r e).2), e⟩) ?assign ?body ?done ?stop
        case assign =>
          rintro l' q x V K hsv ⟨hj, hh, hm⟩ hK
          unfold It.enc tv
          dsimp only
          gi_wp2
          have two : ∀ {I : List It → World → Prop} {B : Nat} (hI : OwnFrom B I) (o1 o2 : Obj), I q V → I q ((V.alloc o1).alloc o2) := fun hI o1 o2 h => hI q _ _ none (hI q V _ none h (World.grownBy_alloc V _ none) (fun r e => by cases e)) (World.grownBy_alloc _ _ none) (fun r e => by cases e)
          refine hK _ _ (((Kept.refl _ V).alloc _).alloc _) ⟨?_, ?_, ?_⟩ ⟨V.heap.size, V.heap.size + 1, by simp [go_sem], by simp [go_sem], by simp [go_sem], by simp [go_sem], rfl⟩
          · exact two (I := fun q V => J (pre ++ q) V) (B := W.heap.size) (fun q V V' row hs hg hr => hJ (pre ++ q) V V' row hs hg hr) _ _ hj
          · exact two (I := fun _ V => Holds (fun k => X k ∨ k = l) Wa V) (B := 0) ((Holds.own _ _).from _) _ _ hh
          · exact two (I := fun _ V => Marks V W.heap.size Wa.heap.size ds) (B := Wa.heap.size) (Marks.own _ _ _) _ _ hm
        case body =>
          rintro l' q x a' V hsv ⟨hj, hh, hm⟩ ⟨Bx, By, b0, b1, b2, b2b, rfl⟩ hq
          have b3 := hh _ _ (hXn _ (Nat.le_refl _)) (fun _ h => by cases h) a3
          obtain ⟨fn2, tmps2, assign2, body2, hy2, hR2⟩ := hY (pre ++ q) x V hj hq
          unfold It.enc tv at hy2
          have hR3 := fun m => round_in (m' := m) l' hR2
          clear hR2 hY hseq hQ hQ1 a0 a1 a2 a2b a3 aJ aM aK aH
          have HMk : ∀ V', Kept (fun k => X k ∨ k = l) V V' → Marks V' W.heap.size Wa.heap.size ds := fun V' hk' => hm.keep fun k hk1 hk2 h => hk'.obj h (hXn k hk1) (fun h => by obtain ⟨_, e, _⟩ := h; cases e)
          gi_wp2
          refine (hR3 _).mono ?_
          rintro e V2 (⟨rfl, hg2, hj2, hk2⟩ | ⟨rfl, hx2, hk2⟩)
          · gi_wp2
            exact ⟨hk2, hg2, by rw [← List.append_assoc]; exact hj2, hh.trans hk2.holds, HMk V2 hk2⟩
          · gi_wp2
            exact ⟨hk2, rfl, by rw [← List.append_assoc]; exact hx2, HMk V2 hk2⟩
        case done =>
          rintro D xs V hD hxs ⟨hj, hh, hm⟩ hdf
          clear hY hseq hQ hQ1 a0 a1 a2 a2b a3 aJ aM aK
          have hDv := (Array.getElem?_eq_some_iff.1 hdf).1
          have hi2 := hi.out
          have hfs2 := hfs.out
          simp only [Fo.len] at hi2
          simp only [Fo.size] at hfs2
          gi_wp2
          refine ⟨⟨i + 1, rest, pre ++ xs, _, _, _, _, _, _, _, _, _, rfl, by show _ = _; omega, .inr ⟨b, off, rfl, hb, ?_⟩, by show _ ≤ _; omega, ?_, hj, aH.trans hh, ⟨D, rfl, by omega, hDv, hdf, hm.more hD⟩, by omega⟩, ?_⟩
          · rw [show off + (i + 1) * 2 = off + i * 2 + 2 by omega]; exact m4
          · show _ = _
            rw [← HP.out, walkK_cons, List.map_append, hxs, List.append_assoc]
          · simp [intOf]; omega
        case stop =>
          rintro D cd q V hD hq ⟨rfl, hx, hm⟩ hdf
          clear hY hseq hQ hQ1 a0 a1 a2 a2b a3 aJ aM aK
          gi_wp2
          refine leave_marks rfl (L := W.heap.size) RR.out _ (D + 1) _ ⟨D, rfl, by omega, by omega, hdf, hm.more hD⟩ ⟨⟨_, rfl⟩, .inr ⟨_, ?_, hx⟩⟩
          rw [List.map_append, ← HP.out, walkK_cons]
          exact (List.prefix_append_right_inj _).2 (hq.trans (List.prefix_append _ _))
  · clear t0 t1 t2 t3
    gi_wp2
    refine leave_marks rfl (L := W.heap.size) RR.out [] 0 _ trivial ⟨⟨_, rfl⟩, .inr ⟨_, ?_, hx3⟩⟩
    simp [It.key, walkT]

end Go.Proofs.YtflghlmikpfnpaaDoor.E.By

namespace Go.Proofs.YtflghlmikpfnpaaDoor.E
open Go.RowKit

def byt8 (cs : Array Value) : Prop := ∀ v ∈ cs, ∃ x, v = .int .u8 x
def OwnY (W : World) (base : Nat) (A : Option Addr) (c : Nat) (l : List Nat) : Prop :=
  (A = none ∧ l = [] ∧ c = 0) ∨ ∃ g cs, A = some ⟨g, 0, none⟩ ∧ base ≤ g ∧ W.heap[g]? = some (.cells cs 5 (0, 0)) ∧ byt8 cs ∧ l.length ≤ c ∧ c ≤ maxLen ∧ cs.size = c ∧ cs.toList.take l.length = cellsB l
def lies (A : Option Addr) : Option Nat := A.map Addr.block
theorem byt8_cells (x : List Nat) : ∀ v ∈ cellsB x, ∃ y, v = .int .u8 y := fun v hv => by
  unfold cellsB at hv
  obtain ⟨y, _, rfl⟩ := List.mem_map.1 hv
  exact ⟨_, rfl⟩
theorem byt8_zero (k : Nat) : byt8 (Builtin.zeroCells (Value.int .u8 0).cells k) := fun v hv => by
  unfold Builtin.zeroCells at hv
  obtain ⟨i, _, rfl⟩ := Array.mem_map.1 hv
  have e : (Value.int .u8 0).cells = #[.int .u8 0] := rfl
  refine ⟨0, ?_⟩
  rw [e]
  simp [Nat.mod_one]
/-- What an append leaves. -/
structure Apd (base : Nat) (A : Option Addr) (l x : List Nat) (W : World) (A' : Option Addr) (c' : Nat) (W' : World) : Prop where
  own : OwnY W' base A' c' (l ++ x)
  kept : By.Kept (fun _ => False) W W'
  bel : Below base W W'
  oth : ∀ k, k < W.heap.size → lies A ≠ some k → W'.heap[k]? = W.heap[k]?
  at' : lies A' = lies A ∨ ∃ k, lies A' = some k ∧ W.heap.size ≤ k
theorem OwnY.grown {W : World} {base : Nat} (A : Option Addr) (l x : List Nat) (old : Nat) (hb : base ≤ W.heap.size) (h63 : l.length + x.length ≤ maxLen) (_hx : 0 < l.length + x.length) :
    Apd base A l x W (some ⟨W.heap.size, 0, none⟩) (grownCap W (l.length + x.length) old 5) (W.drew.alloc (.cells ((cellsB l).toArray ++ (cellsB x).toArray ++ Builtin.zeroCells (Value.int .u8 0).cells (grownCap W (l.length + x.length) old 5 - (l.length + x.length))) 5)) := by
  have hge := grownCap_ge W (l.length + x.length) old 5
  have hcm := grownCap_le_maxLen W (l.length + x.length) old 5 h63
  have hall : byt8 ((cellsB l).toArray ++ (cellsB x).toArray ++ Builtin.zeroCells (Value.int .u8 0).cells (grownCap W (l.length + x.length) old 5 - (l.length + x.length))) := fun v hv => by
    rcases Array.mem_append.1 hv with hv | hv
    · rcases Array.mem_append.1 hv with hv | hv
      · exact byt8_cells l v (by simpa using hv)
      · exact byt8_cells x v (by simpa using hv)
    · exact byt8_zero _ v hv
  have hsz : W.drew.heap.size = W.heap.size := rfl
  refine ⟨.inr ⟨W.heap.size, _, rfl, hb, heap_alloc_new W.drew _, hall, by rw [List.length_append]; exact hge, hcm, ?_, ?_⟩, ?_, ?_, ?_, .inr ⟨W.heap.size, rfl, Nat.le_refl _⟩⟩
  · simp only [Array.size_append, List.size_toArray, size_zeroCells, cellsB_length]
    simp [Value.cells]
    omega
  · simp only [Array.toList_append, List.append_assoc]
    rw [← List.append_assoc, show cellsB (l ++ x) = cellsB l ++ cellsB x by simp [cellsB], show (l ++ x).length = (cellsB l ++ cellsB x).length by simp [cellsB_length]]
    exact List.take_left
  · exact By.Kept.below (((Below.refl W.heap.size W).drew).alloc (Nat.le_of_eq hsz.symm) _) (Nat.le_refl _)
  · exact ((Below.refl base W).drew).alloc (by rw [hsz]; exact hb) _
  · exact fun k hk _ => (((Below.refl W.heap.size W).drew).alloc (Nat.le_of_eq hsz.symm) _).block k hk

set_option maxRecDepth 100000 in
theorem OwnY.append {W : World} {base c : Nat} {A : Option Addr} {l : List Nat} (h : OwnY W base A c l) (A2 : Option Addr) (c2 : Nat) (x : List Nat) (B : Nat) (hr : Row W B A2 x) (ty : TypeId) (hb : l.length + x.length ≤ 140737489403904) (hbase : base ≤ W.heap.size) :
    ∃ A' c' W', (Builtin.append_ #[38, 38] ty #[.slice A l.length c, .slice A2 x.length c2]).run Tryd.prog W = .ok (.slice A' (l.length + x.length) c') W' ∧ Apd base A l x W A' c' W' := by
  obtain ⟨i0, hi, hz0, hz1, hz2⟩ := info_parts info5
  have stay : x = [] → Apd base A l x W A c W := fun e => by
    subst e
    exact ⟨by rw [List.append_nil]; exact h, By.Kept.refl _ _, Below.refl _ _, fun _ _ _ => rfl, .inl rfl⟩
  have h63 : l.length + x.length ≤ maxLen := by unfold maxLen; omega
  have hcells : ∀ ad, A2 = some ad → ∀ j u, (cellsB x)[j]? = some u → W.cell? (ad.add j) = some u := by
    rintro ad rfl j u hu
    have hj : j < x.length := by have := (List.getElem?_eq_some_iff.1 hu).1; rwa [cellsB_length] at this
    obtain ⟨b, off, e, _, hc⟩ := hr.2 (by omega)
    injection e with e
    subst e
    rw [cellsB_get x j hj] at hu
    injection hu with hu
    rw [← hu]
    unfold Addr.add; split
    · rename_i h; subst h; exact hc 0 hj
    · exact hc j hj
  by_cases hx : x = []
  · refine ⟨A, c, W, ?_, stay hx⟩
    subst hx
    rcases h with ⟨rfl, rfl, rfl⟩ | ⟨g, cs, rfl, hg, hW, hall, h1, h2, h3, h4⟩
    · cases A2 <;> simp [Builtin.append_, run_underlying Tryd.underlying38, sizeOf, typeInfo, hi, Builtin.lenOf, Builtin.firstCells, loadCells, loadCellsFrom]
    · cases A2 <;> simp [Builtin.append_, run_underlying Tryd.underlying38, sizeOf, typeInfo, hi, Builtin.lenOf, Builtin.firstCells, h1, storeCells, loadCells, loadCellsFrom]
  · have hx0 : 0 < x.length := List.length_pos_iff.2 hx
    obtain ⟨b, off, rfl, hbB, _⟩ := hr.2 hx0
    have hcl := hcells _ rfl
    rcases h with ⟨rfl, rfl, rfl⟩ | ⟨g, cs, rfl, hg, hW, hall, h1, h2, h3, h4⟩
    · have hrun := run_append_nil (P := Tryd.prog) W 38 ty 5 i0 (.int .u8 0) Tryd.underlying38 hi hz0 ⟨b, off, none⟩ x.length c2 (cellsB x) (by rw [cellsB_length, hz1, Nat.mul_one]) hcl hx0 (by omega) (by rw [hz2]; simp at hb; omega)
      have hA := OwnY.grown (W := W) (base := base) none [] x 0 hbase (by simpa using h63) (by simpa using hx0)
      simp only [List.length_nil, Nat.zero_add] at hA ⊢
      refine ⟨_, _, _, hrun, ?_⟩
      simpa [cellsB] using hA
    · by_cases hroom : l.length + x.length ≤ c
      · have hrun := run_append_room (P := Tryd.prog) W 38 ty 5 i0 Tryd.underlying38 hi g l.length c cs hW ⟨b, off, none⟩ x.length c2 (cellsB x) (by rw [cellsB_length, hz1, Nat.mul_one]) hcl (oneCell_cellsB x) hroom (by rw [hz1, Nat.mul_one, cellsB_length, h3]; exact hroom)
        rw [hz1, Nat.mul_one] at hrun
        have hall2 : byt8 (cs.toList.take l.length ++ cellsB x ++ cs.toList.drop (l.length + (cellsB x).length)).toArray := fun v hv => by
          have hv : v ∈ cs.toList.take l.length ++ cellsB x ++ cs.toList.drop (l.length + (cellsB x).length) := by simpa using hv
          rcases List.mem_append.1 hv with hv | hv
          · rcases List.mem_append.1 hv with hv | hv
            · exact hall v (by simpa using List.mem_of_mem_take hv)
            · exact byt8_cells x v hv
          · exact hall v (by simpa using List.mem_of_mem_drop hv)
        refine ⟨_, _, _, hrun, ?_⟩
        have hheap := setRow_heap W g cs (cs.toList.take l.length ++ cellsB x ++ cs.toList.drop (l.length + (cellsB x).length)).toArray 5 (0, 0) hW
        refine ⟨.inr ⟨g, _, rfl, hg, hheap, hall2, by rw [List.length_append]; exact hroom, h2, ?_, ?_⟩, ⟨by simp, fun k hk _ => ?_⟩, ⟨rfl, rfl, rfl, by simp, fun k hk => setRow_other W g k _ (by omega)⟩, fun k hk hne => setRow_other W g k _ (fun e => hne (by rw [e]; rfl)), .inl rfl⟩
        · simp only [List.size_toArray, List.length_append, List.length_take, List.length_drop, Array.length_toList, cellsB_length]
          omega
        · rw [h4, show cellsB (l ++ x) = cellsB l ++ cellsB x by simp [cellsB], show (l ++ x).length = (cellsB l ++ cellsB x).length by simp [cellsB_length]]
          exact List.take_left
        · by_cases e : k = g
          · subst e
            exact .inr ⟨_, _, hW, hheap, ⟨cs, rfl, hall⟩, ⟨_, rfl, hall2⟩⟩
          · exact .inl (setRow_other W g k _ e)
      · have holds : ∀ j u, (cellsB l)[j]? = some u → W.cell? ((⟨g, 0, none⟩ : Addr).add j) = some u := by
          intro j u hu
          have hj : j < l.length := by have := (List.getElem?_eq_some_iff.1 hu).1; rwa [cellsB_length] at this
          have e : (⟨g, 0, none⟩ : Addr).add j = ⟨g, j, none⟩ := by
            unfold Addr.add; split
            · rename_i h; subst h; rfl
            · simp
          rw [e, cell_of_row W g j cs 5 (0, 0) hW, ← hu, ← h4, List.getElem?_take, if_pos hj]
          simp
        have hrun := run_append_grow (P := Tryd.prog) W 38 ty 5 i0 (.int .u8 0) Tryd.underlying38 hi hz0 ⟨g, 0, none⟩ l.length c (cellsB l) (by rw [cellsB_length, hz1, Nat.mul_one]) holds ⟨b, off, none⟩ x.length c2 (cellsB x) (by rw [cellsB_length, hz1, Nat.mul_one]) hcl (by omega) (by omega) (by rw [hz2]; exact growslice_fits_wide (by omega) (by omega))
        exact ⟨_, _, _, hrun, OwnY.grown (some ⟨g, 0, none⟩) l x c hbase h63 (by omega)⟩
end Go.Proofs.YtflghlmikpfnpaaDoor.E

namespace Go.Proofs.YtflghlmikpfnpaaDoor.E
open Go.RowKit Go.Shelf

/-- A slice of bytes that does not lie in a block. -/
def RowN (V : World) (nb : Option Nat) (A : Option Addr) (l : List Nat) : Prop :=
  (∀ x ∈ l, x < 256) ∧ (0 < l.length → ∃ b off, A = some ⟨b, off, none⟩ ∧ b < V.heap.size ∧ nb ≠ some b ∧ ∀ j, j < l.length → V.cell? ⟨b, off + j, none⟩ = some (.int .u8 ((l[j]?.getD 0 : Nat) : Int)))
theorem RowN.row {V : World} {nb : Option Nat} {A : Option Addr} {l : List Nat} (h : RowN V nb A l) : Row V V.heap.size A l :=
  ⟨h.1, fun hn => by obtain ⟨b, off, e, hb, _, hc⟩ := h.2 hn; exact ⟨b, off, e, hb, hc⟩⟩
theorem RowN.keep {V V' : World} {nb nb' : Option Nat} {A : Option Addr} {l : List Nat} (h : RowN V nb A l) (hs : V.heap.size ≤ V'.heap.size) (hk : ∀ k, k < V.heap.size → nb ≠ some k → V'.heap[k]? = V.heap[k]?) (hn : ∀ k, k < V.heap.size → nb ≠ some k → nb' ≠ some k) : RowN V' nb' A l :=
  ⟨h.1, fun hp => by
    obtain ⟨b, off, e, hb, hne, hc⟩ := h.2 hp
    exact ⟨b, off, e, by omega, hn b hb hne, fun j hj => (World.cell?_of_block (hk b hb hne)).trans (hc j hj)⟩⟩
theorem RowN.below {V V' : World} {nb : Option Nat} {A : Option Addr} {l : List Nat} (h : RowN V nb A l) (hb : Below V.heap.size V V') : RowN V' nb A l := h.keep hb.size (fun k hk _ => hb.block k hk) (fun _ _ h => h)
theorem RowN.take {V : World} {nb : Option Nat} {A : Option Addr} {l : List Nat} (h : RowN V nb A l) (f : Nat) : RowN V nb A (l.take f) :=
  ⟨fun x hx => h.1 x (List.mem_of_mem_take hx), fun hp => by
    rw [List.length_take] at hp
    obtain ⟨b, off, e, hb, hne, hc⟩ := h.2 (by omega)
    refine ⟨b, off, e, hb, hne, fun j hj => ?_⟩
    rw [List.length_take] at hj
    rw [hc j (by omega), List.getElem?_take, if_pos (by omega)]⟩
/-- Where b[f:] lies. -/
def tailA (A : Option Addr) (c f : Nat) : Option Addr := if c = f then A else A.map (·.add (f * 1))
theorem RowN.drop {V : World} {nb : Option Nat} {A : Option Addr} {l : List Nat} (h : RowN V nb A l) (c f : Nat) (hc : l.length ≤ c) : RowN V nb (tailA A c f) (l.drop f) :=
  ⟨fun x hx => h.1 x (List.mem_of_mem_drop hx), fun hp => by
    rw [List.length_drop] at hp
    obtain ⟨b, off, rfl, hb, hne, hcl⟩ := h.2 (by omega)
    refine ⟨b, off + f, ?_, hb, hne, fun j hj => ?_⟩
    · unfold tailA
      rw [if_neg (by omega), Option.map_some, Nat.mul_one]
      congr 1
      unfold Addr.add
      split
      · rename_i h0; subst h0; rfl
      · rfl
    · rw [List.length_drop] at hj
      rw [Nat.add_assoc, hcl (f + j) (by omega), List.getElem?_drop]⟩
set_option maxRecDepth 100000 in
theorem slice_head (A : Option Addr) (len c f : Nat) (hf : f ≤ c) (w : World) : (Instr.slice 38 (.slice A len c) none (some (.int .i64 (f : Int))) none).run Tryd.prog w = .ok (.slice A f c) w := by
  rw [run_slice_h (P := Tryd.prog) w 38 A len c (by kernel_rfl) .i64 (f : Int) (by omega) (by omega)]
  have e : (sizeOf (Tryd.prog.elem 38)).run Tryd.prog w = .ok 1 w := by kernel_rfl
  rw [e]
  simp only [Result.andThen, sliced, Int.toNat_natCast, Nat.sub_zero, Nat.zero_mul]
  congr 2
  split
  · rfl
  · cases A with
    | none => rfl
    | some a => simp [Addr.add]
set_option maxRecDepth 100000 in
theorem slice_tail (A : Option Addr) (len c f : Nat) (hf : f ≤ len) (w : World) : (Instr.slice 38 (.slice A len c) (some (.int .i64 (f : Int))) none none).run Tryd.prog w = .ok (.slice (tailA A c f) (len - f) (c - f)) w := by
  rw [run_slice_l (P := Tryd.prog) w 38 A len c (by kernel_rfl) .i64 (f : Int) (by omega) (by omega)]
  have e : (sizeOf (Tryd.prog.elem 38)).run Tryd.prog w = .ok 1 w := by kernel_rfl
  rw [e]
  simp only [Result.andThen, sliced, Int.toNat_natCast]
  rfl
theorem OwnY.ne_box {V : World} {base c g : Nat} {A : Option Addr} {l : List Nat} {t : TypeId} {v : Value} (h : OwnY V base A c l) (hb : Boxed V g t v) (ht : t ≠ 5) : lies A ≠ some g := by
  rcases h with ⟨rfl, _⟩ | ⟨b, cs, rfl, _, hW, _⟩
  · simp [lies]
  · intro e
    simp only [lies, Option.map_some, Option.some.injEq] at e
    subst e
    have h1 : V.heap[b]? = some (.cells #[v] t (0, 0)) := hb
    rw [hW] at h1
    injection h1 with h1
    injection h1 with _ h1 _
    exact ht h1.symm
theorem OwnY.keep {V V' : World} {base c : Nat} {A : Option Addr} {l : List Nat} (h : OwnY V base A c l) (hk : ∀ k, lies A = some k → V'.heap[k]? = V.heap[k]?) : OwnY V' base A c l := by
  rcases h with h | ⟨b, cs, rfl, hb, hW, hr⟩
  · exact .inl h
  · exact .inr ⟨b, cs, rfl, hb, (hk b rfl).trans hW, hr⟩
theorem OwnY.lt {V : World} {base c : Nat} {A : Option Addr} {l : List Nat} (h : OwnY V base A c l) : ∀ k, lies A = some k → k < V.heap.size := by
  rcases h with ⟨rfl, _⟩ | ⟨b, cs, rfl, hb, hW, hr⟩
  · simp [lies]
  · intro k e
    simp only [lies, Option.map_some, Option.some.injEq] at e
    subst e
    exact (Array.getElem?_eq_some_iff.1 hW).1
theorem OwnY.below {V V' : World} {base c : Nat} {A : Option Addr} {l : List Nat} (h : OwnY V base A c l) (hb : Below V.heap.size V V') : OwnY V' base A c l := h.keep fun k e => hb.block k (h.lt k e)

/-- The variables: the answer's three; how many full bytes; the full bytes; the rest; its width. -/
structure LY (w : World) (s1 G : Nat) (O R : List Nat) (k : Nat) (A1 : Option Addr) (c1 : Nat) (A2 : Option Addr) (c2 : Nat) (f : Int) (V : World) : Prop where
  b6 : Boxed V (w.heap.size + 1) 38 (.slice none 0 0)
  b7 : Boxed V (w.heap.size + 2) 3 (.int .i64 0)
  b8 : Boxed V (w.heap.size + 3) 26 (.int .i64 0)
  b9 : Boxed V s1 3 (.int .i64 f)
  b10 : Boxed V G 38 (.slice A1 O.length c1)
  b11 : Boxed V (G + 1) 38 (.slice A2 R.length c2)
  b12 : Boxed V (G + 2) 3 (.int .i64 (k : Int))
  own : OwnY V w.heap.size A1 c1 O
  row : RowN V (lies A1) A2 R
  cap : R.length ≤ c2
  bel : Below w.heap.size w V
  hs1 : w.heap.size + 4 ≤ s1
  hG : s1 < G
variable {w V W : World} {s1 G : Nat} {O R : List Nat} {k : Nat} {A1 : Option Addr} {c1 : Nat} {A2 : Option Addr} {c2 : Nat} {f : Int}
theorem LY.up (h : LY w s1 G O R k A1 c1 A2 c2 f V) (hb : Below V.heap.size V W) : LY w s1 G O R k A1 c1 A2 c2 f W :=
  ⟨boxed_below h.b6 hb h.b6.lt, boxed_below h.b7 hb h.b7.lt, boxed_below h.b8 hb h.b8.lt, boxed_below h.b9 hb h.b9.lt, boxed_below h.b10 hb h.b10.lt, boxed_below h.b11 hb h.b11.lt, boxed_below h.b12 hb h.b12.lt, h.own.below hb, h.row.below hb, h.cap, h.bel.trans (hb.mono h.bel.size), h.hs1, h.hG⟩
/-- The caller's own blocks. -/
def LX (w : World) (s1 G : Nat) : Nat → Prop := fun k => k = w.heap.size + 1 ∨ k = w.heap.size + 2 ∨ k = w.heap.size + 3 ∨ k = s1 ∨ k = G ∨ k = G + 1 ∨ k = G + 2
theorem boxed_setO {W : World} {g g' : Nat} {t : TypeId} {v : Value} (h : Boxed W g t v) (hne : g ≠ g') (u : Value) : Boxed (W.setCell ⟨g', 0, none⟩ u) g t v := (Below.heap_setCell W ⟨g', 0, none⟩ u g hne).trans h
theorem OwnY.setB {W : World} {base c g : Nat} {A : Option Addr} {l : List Nat} {t : TypeId} {v : Value} (h : OwnY W base A c l) (hb : Boxed W g t v) (ht : t ≠ 5) (u : Value) : OwnY (W.setCell ⟨g, 0, none⟩ u) base A c l :=
  h.keep fun k e => Below.heap_setCell W ⟨g, 0, none⟩ u k (fun e2 => h.ne_box hb ht (by rw [e]; exact congrArg some e2))
/-- A box that holds no byte is no row of bytes. -/
theorem RowN.setB {W : World} {nb : Option Nat} {A : Option Addr} {l : List Nat} {g : Nat} {t : TypeId} {v : Value} (h : RowN W nb A l) (hb : Boxed W g t v) (hv : By.NU v) (u : Value) : RowN (W.setCell ⟨g, 0, none⟩ u) nb A l := by
  refine ⟨h.1, fun hn => ?_⟩
  obtain ⟨b, off, e, hlt, hne, hc⟩ := h.2 hn
  refine ⟨b, off, e, by rw [size_set]; exact hlt, hne, fun j hj => ?_⟩
  refine (World.cell?_of_block (Below.heap_setCell W ⟨g, 0, none⟩ u b (fun hbg => ?_))).trans (hc j hj)
  simp only at hbg
  subst hbg
  have h1 := hc j hj
  simp only [World.cell?, show W.heap[b]? = _ from hb] at h1
  by_cases h0 : off + j = 0
  · simp [h0] at h1
    exact hv _ h1
  · rw [Array.getElem?_eq_none (by simp; omega)] at h1
    simp at h1
/-- Behind a Put: the rest lies in a new block. -/
theorem LY.put (h : LY w s1 G O R k A1 c1 A2 c2 f V) (hb : Below V.heap.size V W) {L : List Nat} {k' g : Nat} (hB : Blok W g 5 (cellsB L)) (hg : V.heap.size ≤ g) (hL : ∀ x ∈ L, x < 256) :
    LY w s1 G O L k' A1 c1 (some ⟨g, 0, none⟩) L.length f ((W.setCell ⟨G + 1, 0, none⟩ (.slice (some ⟨g, 0, none⟩) L.length L.length)).setCell ⟨G + 2, 0, none⟩ (.int .i64 (k' : Int))) := by
  have h1 := h.up hb
  have e1 := h.hs1
  have e2 := h.hG
  have hrow : RowN W (lies A1) (some ⟨g, 0, none⟩) L := ⟨hL, fun _ => ⟨g, 0, rfl, hB.lt, fun e => by have := h.own.lt g e; omega, fun j hj => by rw [Nat.zero_add, hB.cell j, cellsB_get L j hj]⟩⟩
  have r1 := hrow.setB h1.b11 (fun _ h => by cases h) (.slice (some ⟨g, 0, none⟩) L.length L.length)
  have c12 := boxed_setO h1.b12 (g' := G + 1) (by omega) (.slice (some ⟨g, 0, none⟩) L.length L.length)
  refine ⟨?_, ?_, ?_, ?_, ?_, ?_, c12.set _, ?_, r1.setB c12 (fun _ h => by cases h) _, Nat.le_refl _, ?_, h.hs1, h.hG⟩
  · exact boxed_setO (boxed_setO h1.b6 (by omega) _) (by omega) _
  · exact boxed_setO (boxed_setO h1.b7 (by omega) _) (by omega) _
  · exact boxed_setO (boxed_setO h1.b8 (by omega) _) (by omega) _
  · exact boxed_setO (boxed_setO h1.b9 (by omega) _) (by omega) _
  · exact boxed_setO (boxed_setO h1.b10 (by omega) _) (by omega) _
  · exact boxed_setO (h1.b11.set _) (by omega) _
  · exact (h1.own.setB h1.b11 (by decide) _).setB c12 (by decide) _
  · exact (h1.bel.setCell (p := ⟨G + 1, 0, none⟩) (by show _ ≤ G + 1; omega) _).setCell (p := ⟨G + 2, 0, none⟩) (by show _ ≤ G + 2; omega) _
theorem LY.full (h : LY w s1 G O R k A1 c1 A2 c2 f V) (f' : Int) : LY w s1 G O R k A1 c1 A2 c2 f' (V.setCell ⟨s1, 0, none⟩ (.int .i64 f')) := by
  have e1 := h.hs1
  have e2 := h.hG
  exact ⟨boxed_setO h.b6 (by omega) _, boxed_setO h.b7 (by omega) _, boxed_setO h.b8 (by omega) _, h.b9.set _, boxed_setO h.b10 (by omega) _, boxed_setO h.b11 (by omega) _, boxed_setO h.b12 (by omega) _, h.own.setB h.b9 (by decide) _, h.row.setB h.b9 (fun _ h => by cases h) _, h.cap, h.bel.setCell (p := ⟨s1, 0, none⟩) (by show _ ≤ s1; omega) _, h.hs1, h.hG⟩
/-- Behind an append to the full bytes. -/
theorem LY.app (h : LY w s1 G O R k A1 c1 A2 c2 f V) {x : List Nat} {A' : Option Addr} {c' : Nat} (ha : Apd w.heap.size A1 O x V A' c' W) :
    LY w s1 G (O ++ x) R k A' c' A2 c2 f (W.setCell ⟨G, 0, none⟩ (.slice A' (O.length + x.length) c')) := by
  have e1 := h.hs1
  have e2 := h.hG
  have bx : ∀ {g : Nat} {t : TypeId} {v : Value}, Boxed V g t v → t ≠ 5 → Boxed W g t v := fun hb ht => (ha.oth _ hb.lt (h.own.ne_box hb ht)).trans hb
  have c10 := bx h.b10 (by decide)
  have hrow : RowN W (lies A') A2 R := h.row.keep ha.kept.size ha.oth fun j hj hne e => by
    rcases ha.at' with h1 | ⟨q, h1, h2⟩
    · exact hne (h1 ▸ e)
    · rw [h1] at e; injection e with e; omega
  rw [← List.length_append]
  refine ⟨boxed_setO (bx h.b6 (by decide)) (by omega) _, boxed_setO (bx h.b7 (by decide)) (by omega) _, boxed_setO (bx h.b8 (by decide)) (by omega) _, boxed_setO (bx h.b9 (by decide)) (by omega) _, c10.set _, boxed_setO (bx h.b11 (by decide)) (by omega) _, boxed_setO (bx h.b12 (by decide)) (by omega) _, ha.own.setB c10 (by decide) _, hrow.setB c10 (fun _ h => by cases h) _, h.cap, ?_, h.hs1, h.hG⟩
  exact (h.bel.trans ha.bel).setCell (p := ⟨G, 0, none⟩) (by show _ ≤ G; omega) _
/-- Behind the cut of the rest. -/
theorem LY.cut (h : LY w s1 G O R k A1 c1 A2 c2 f V) (F k' : Nat) :
    LY w s1 G O (R.drop F) k' A1 c1 (tailA A2 c2 F) (c2 - F) f ((V.setCell ⟨G + 1, 0, none⟩ (.slice (tailA A2 c2 F) (R.length - F) (c2 - F))).setCell ⟨G + 2, 0, none⟩ (.int .i64 (k' : Int))) := by
  have e1 := h.hs1
  have e2 := h.hG
  have e3 := h.cap
  have hrow := h.row.drop c2 F h.cap
  have r1 := hrow.setB h.b11 (fun _ h => by cases h) (.slice (tailA A2 c2 F) (R.length - F) (c2 - F))
  have c12 := boxed_setO h.b12 (g' := G + 1) (by omega) (.slice (tailA A2 c2 F) (R.length - F) (c2 - F))
  refine ⟨?_, ?_, ?_, ?_, ?_, ?_, c12.set _, ?_, r1.setB c12 (fun _ h => by cases h) _, by rw [List.length_drop]; omega, ?_, h.hs1, h.hG⟩
  · exact boxed_setO (boxed_setO h.b6 (by omega) _) (by omega) _
  · exact boxed_setO (boxed_setO h.b7 (by omega) _) (by omega) _
  · exact boxed_setO (boxed_setO h.b8 (by omega) _) (by omega) _
  · exact boxed_setO (boxed_setO h.b9 (by omega) _) (by omega) _
  · exact boxed_setO (boxed_setO h.b10 (by omega) _) (by omega) _
  · rw [List.length_drop]; exact boxed_setO (h.b11.set _) (by omega) _
  · exact (h.own.setB h.b11 (by decide) _).setB c12 (by decide) _
  · exact (h.bel.setCell (p := ⟨G + 1, 0, none⟩) (by show _ ≤ G + 1; omega) _).setCell (p := ⟨G + 2, 0, none⟩) (by show _ ≤ G + 2; omega) _
def LB (w : World) (s1 G : Nat) (l : List Nat) (n : Nat) (dn : List Nat) (V : World) : Prop := ∃ O R k A1 c1 A2 c2 f, LY w s1 G O R k A1 c1 A2 c2 f V ∧ CutB l n dn O R k
theorem LY.own' {V V' : World} {row : Option Nat} {L : Nat} (h : LY w s1 G O R k A1 c1 A2 c2 f V) (hg : V.grownBy V' row) (hr : ∀ r, row = some r → L ≤ r ∧ ∃ o : Obj, V.heap[r]? = some o ∧ o.isCells = false) (hL : w.heap.size ≤ L) : LY w s1 G O R k A1 c1 A2 c2 f V' := by
  have cel : ∀ {j : Nat} {cs : Array Value} {t : TypeId} {z : Nat × Nat}, V.heap[j]? = some (.cells cs t z) → V'.heap[j]? = some (.cells cs t z) := fun {j cs t z} hj => (hg.block j (Array.getElem?_eq_some_iff.1 hj).1 (fun e => by
    obtain ⟨_, o, ho, hc⟩ := hr j e.symm
    rw [hj] at ho
    injection ho with ho
    subst ho
    cases hc)).trans hj
  refine ⟨cel h.b6, cel h.b7, cel h.b8, cel h.b9, cel h.b10, cel h.b11, cel h.b12, ?_, ?_, h.cap, ?_, h.hs1, h.hG⟩
  · rcases h.own with h | ⟨b, cs, rfl, hb, hW, hr⟩
    · exact .inl h
    · exact .inr ⟨b, cs, rfl, hb, cel hW, hr⟩
  · refine ⟨h.row.1, fun hn => ?_⟩
    obtain ⟨b, off, e, hb, hne, hc⟩ := h.row.2 hn
    exact ⟨b, off, e, Nat.lt_of_lt_of_le hb hg.size, hne, fun j hj => cell_kept (hc j hj) hg (fun r e => (hr r e).2)⟩
  · exact (ownFrom_below (w₀ := w) (Nat.le_refl _) hL : OwnFrom L (fun (_ : Unit) V => Below w.heap.size w V)) () V V' row h.bel hg hr
theorem LB.own (w : World) (s1 G : Nat) (l : List Nat) (n L : Nat) (hL : w.heap.size ≤ L) (fn : List It → List Nat) : OwnFrom L (fun q V => LB w s1 G l n (fn q) V) := by
  rintro q V V' row ⟨O, R, k, A1, c1, A2, c2, f, h, e⟩ hg hr
  exact ⟨O, R, k, A1, c1, A2, c2, f, h.own' hg hr hL, e⟩
end Go.Proofs.YtflghlmikpfnpaaDoor.E
