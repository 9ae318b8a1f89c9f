/-
  The reference's reading of a text, which is less strict, as a plain function; what it comes to together with showing again.
  The program's takeNumber, and the three calls of Parse.
  The reference's number.
  Slices of trees that a call itself makes and lengthens.
  The reference's read.
-/
import Derived.Test.YtflghlmikpfnpaaDoorERd
import Derived.Test.YtflghlmikpfnpaaDoorERead2
import Derived.Test.YtflghlmikpfnpaaDoorEShow
import Derived.Deep.LoopGhost
import Derived.Test.YtflghlmikpfnpaaDoorESmall
import Derived.Maps.AppendAt
namespace Go.Proofs.YtflghlmikpfnpaaDoor.E
open Go.RowKit

/-- At most so many digits. -/
def lsc : Nat → List UInt8 → Nat → Nat → Nat × Nat
  | 0, _, n, k => (n, k)
  | _ + 1, [], n, k => (n, k)
  | f + 1, b :: r, n, k => if isD b = true then lsc f r (10 * n + dgv b) (k + 1) else (n, k)
def lnum (s : List UInt8) (p : Nat) : Nat × Nat := lsc 19 (s.drop p) 0 0
def cutN (n : Nat) : Int := ((min n 4611686018427387905 : Nat) : Int)
/-- A tree's text, from a place on. -/
def lrd (s : List UInt8) : Nat → Nat → Option (Tr × Nat)
  | 0, _ => none
  | f + 1, p => match s[p]? with
    | none => none
    | some b => if b ≠ 40 then (if (lnum s p).2 = 0 then none else some (.leaf (cutN (lnum s p).1), p + (lnum s p).2))
      else if s[p + 1 + (lnum s (p + 1)).2]? = some 44 then (lrd s f (p + 1 + (lnum s (p + 1)).2 + 1)).bind fun x =>
        if s[x.2]? = some 44 then (lrd s f (x.2 + 1)).bind fun y =>
          if s[y.2]? = some 41 then some (.node (cutN (lnum s (p + 1)).1) x.1 y.1, y.2 + 1) else none
        else none
      else none
/-- What is still to be read of a node with these kids. -/
def kont (s : List UInt8) (f : Nat) (n : Int) : List Tr → Nat → Option (Tr × Nat)
  | [], q => if s[q]? = some 44 then (lrd s f (q + 1)).bind fun x =>
        if s[x.2]? = some 44 then (lrd s f (x.2 + 1)).bind fun y =>
          if s[y.2]? = some 41 then some (.node n x.1 y.1, y.2 + 1) else none
        else none
      else none
  | [x], q => if s[q]? = some 44 then (lrd s f (q + 1)).bind fun y =>
          if s[y.2]? = some 41 then some (.node n x y.1, y.2 + 1) else none
        else none
  | x :: y :: _, q => if s[q]? = some 41 then some (.node n x y, q + 1) else none
theorem kont_step (s : List UInt8) (f : Nat) (n : Int) (ks : List Tr) (q : Nat) (h : ks.length < 2) : kont s f n ks q = if s[q]? = some 44 then (lrd s f (q + 1)).bind fun x => kont s f n (ks ++ [x.1]) x.2 else none := by
  match ks, h with
  | [], _ => rfl
  | [x], _ => rfl
theorem lrd_none {s : List UInt8} {f p : Nat} (h : s[p]? = none) : lrd s (f + 1) p = none := by rw [lrd, h]
theorem lrd_leaf {s : List UInt8} {f p : Nat} {b : UInt8} (h : s[p]? = some b) (hb : b ≠ 40) : lrd s (f + 1) p = if (lnum s p).2 = 0 then none else some (.leaf (cutN (lnum s p).1), p + (lnum s p).2) := by rw [lrd, h]; simp [hb]
theorem lrd_node {s : List UInt8} {f p : Nat} (h : s[p]? = some 40) : lrd s (f + 1) p = kont s f (cutN (lnum s (p + 1)).1) [] (p + 1 + (lnum s (p + 1)).2) := by
  rw [lrd, h]
  simp only [ne_eq, not_true_eq_false, if_false]
  rfl

theorem lsc_go : ∀ (ds rest : List UInt8) (f n k : Nat), ds.length ≤ f → (∀ x ∈ ds, isD x = true) → NoD rest → lsc f (ds ++ rest) n k = (val n ds, k + ds.length)
  | [], rest, f, n, k, _, _, hr => by
    cases f with
    | zero => rfl
    | succ f =>
      cases rest with
      | nil => rfl
      | cons b r => rw [List.nil_append, lsc, if_neg (by rw [hr]; decide)]; rfl
  | b :: ds, rest, f, n, k, hf, hd, hr => by
    obtain ⟨f, rfl⟩ : ∃ g, f = g + 1 := ⟨f - 1, by simp at hf; omega⟩
    rw [List.length_cons] at hf
    rw [List.cons_append, lsc, if_pos (hd b List.mem_cons_self), lsc_go ds rest f _ _ (by omega) (fun x hx => hd x (List.mem_cons_of_mem _ hx)) hr, val_cons, List.length_cons, Nat.mul_comm]
    congr 1
    omega
theorem dec_len : ∀ (k u : Nat), 1 ≤ k → u < 10 ^ k → (Lib.decDigits u).length ≤ k
  | 0, _, h, _ => by omega
  | k + 1, u, _, h => by
    by_cases h1 : u < 10
    · rw [Lib.decDigits_one h1]; simp
    · rw [Lib.decDigits, dif_neg h1, List.length_append, List.length_singleton]
      have hk : 1 ≤ k := by
        cases k with
        | zero => simp at h; omega
        | succ k => omega
      have := dec_len k (u / 10) hk (by rw [Nat.pow_succ] at h; omega)
      omega
theorem lnum_full {s : List UInt8} {p : Nat} {n : Int} {rest : List UInt8} (h : s.drop p = Lib.itoa n ++ rest) (hr : NoD rest) (h0 : 0 ≤ n) (h1 : n ≤ 4611686018427387904) : cutN (lnum s p).1 = n ∧ (lnum s p).2 = (Lib.itoa n).length := by
  obtain ⟨u, rfl⟩ : ∃ u : Nat, n = u := ⟨n.toNat, by omega⟩
  rw [Lib.itoa_nonneg] at *
  obtain ⟨c1, c2⟩ := dec_canon u
  have hd : ∀ x ∈ Lib.decDigits u, isD x = true := by
    cases hc : Lib.decDigits u with
    | nil => intro x hx; simp at hx
    | cons b r => rw [hc] at c1; exact c1.1
  have hl := dec_len 19 u (by omega) (by omega)
  have := lsc_go (Lib.decDigits u) rest 19 0 0 hl hd hr
  unfold lnum
  rw [h, this, c2]
  refine ⟨?_, by simp⟩
  unfold cutN
  simp only
  omega
theorem lrd_full (s : List UInt8) : ∀ (t : Tr) (f p : Nat) (m : Int) (rest : List UInt8), s.drop p = txt t ++ rest → NoD rest → t.okc m = true → m ≤ 4611686018427387904 → t.depth < f → lrd s f p = some (t, p + (txt t).length) := by
  intro t
  induction t with
  | leaf n =>
    intro f p m rest h hr hok hm hf
    obtain ⟨f, rfl⟩ : ∃ g, f = g + 1 := ⟨f - 1, by omega⟩
    have hn := okc_N _ _ hok
    simp only [Tr.N] at hn
    simp only [txt] at h ⊢
    obtain ⟨b, r, e1, e2⟩ := itoa_head hn.1
    have hb := (drop_at (x := b) (rest := r ++ rest) (by rw [h, e1]; rfl)).1
    obtain ⟨k1, k2⟩ := lnum_full h hr hn.1 (by omega)
    rw [lrd_leaf hb (by intro e; rw [e] at e2; exact absurd e2 (by decide)), k1, k2, if_neg (by rw [e1]; simp)]
  | node n x y ihx ihy =>
    intro f p m rest h hr hok hm hf
    obtain ⟨f, rfl⟩ : ∃ g, f = g + 1 := ⟨f - 1, by omega⟩
    have hn := okc_N _ _ hok
    simp only [Tr.N] at hn
    simp only [Tr.okc, Bool.and_eq_true, decide_eq_true_eq] at hok
    simp only [Tr.depth] at hf
    simp only [txt, List.cons_append, List.append_assoc, List.nil_append] at h
    have d1 := (drop_at h).2
    obtain ⟨k1, k2⟩ := lnum_full (rest := 44 :: (txt x ++ 44 :: (txt y ++ 41 :: rest))) d1 (show isD 44 = false by decide) hn.1 (by omega)
    have d2 : s.drop (p + 1 + (Lib.itoa n).length) = 44 :: (txt x ++ 44 :: (txt y ++ 41 :: rest)) := by rw [← List.drop_drop, d1, List.drop_left]
    have d3 := (drop_at d2).2
    have ix := ihx f _ (m - n) _ d3 (show isD 44 = false by decide) hok.2.1 (by omega) (by omega)
    have d4 : s.drop (p + 1 + (Lib.itoa n).length + 1 + (txt x).length) = 44 :: (txt y ++ 41 :: rest) := by rw [← List.drop_drop, d3, List.drop_left]
    have d5 := (drop_at d4).2
    have iy := ihy f _ (m - n) _ d5 (show isD 41 = false by decide) hok.2.2 (by omega) (by omega)
    have d6 : s.drop (p + 1 + (Lib.itoa n).length + 1 + (txt x).length + 1 + (txt y).length) = 41 :: rest := by rw [← List.drop_drop, d5, List.drop_left]
    rw [lrd_node (drop_at h).1, k1, k2, kont_step _ _ _ _ _ (by simp), if_pos (drop_at d2).1, ix, Option.bind_some, kont_step _ _ _ _ _ (by simp)]
    simp only [List.nil_append]
    rw [if_pos (drop_at d4).1, iy, Option.bind_some]
    simp only [List.cons_append, List.nil_append, kont]
    rw [if_pos (drop_at d6).1]
    simp only [Option.some.injEq, Prod.mk.injEq, true_and]
    simp only [txt, List.length_cons, List.length_append, List.length_nil]
    omega
/-- Read, and shown again: the text must be that. -/
def rparse (s : List UInt8) : Option Tr := (lrd s 33 0).bind fun x => if x.2 = s.length then (if okT x.1 = true ∧ txt x.1.norm = s then some x.1 else none) else none
theorem rparse_eq (s : List UInt8) : rparse s = parse s := by
  have key : ∀ t, rparse s = some t ↔ parse s = some t := by
    intro t
    rw [parse_iff]
    unfold rparse
    constructor
    · intro h
      obtain ⟨⟨x, q⟩, hx, h⟩ := Option.bind_eq_some_iff.1 h
      simp only at h
      split at h
      · split at h
        · rename_i hq ho
          injection h with h
          subst h
          have hok := okT_norm ho.1
          have hokn := (okT_iff _).1 hok
          have := lrd_full s x.norm 33 0 4611686018427387904 [] (by rw [← ho.2]; simp) trivial hokn.2.1 (by omega) (by omega)
          rw [hx] at this
          injection this with this
          have e : x = x.norm := congrArg Prod.fst this
          refine ⟨?_, ?_, ho.1⟩
          · rw [e]; exact ho.2.symm
          · rw [e]; exact nf_norm _
        · cases h
      · cases h
    · rintro ⟨h1, h2, h3⟩
      have hok := (okT_iff _).1 h3
      have := lrd_full s t 33 0 4611686018427387904 [] (by rw [h1]; simp) trivial hok.2.1 (by omega) (by omega)
      rw [this, Option.bind_some]
      simp only
      rw [if_pos (by rw [h1]; omega), if_pos ⟨h3, by rw [norm_nf h2]; exact h1.symm⟩]
  cases h : rparse s with
  | none =>
    cases h2 : parse s with
    | none => rfl
    | some t => rw [(key t).2 h2] at h; cases h
  | some t => exact ((key t).1 h).symm
end Go.Proofs.YtflghlmikpfnpaaDoor.E

namespace Go.Proofs.YtflghlmikpfnpaaDoor.E
open Go.RowKit

def ul (s : ByteArray) : List UInt8 := s.data.toList
theorem ul_length (s : ByteArray) : (ul s).length = s.size := by unfold ul; rw [Array.length_toList]; rfl
theorem ul_at (s : ByteArray) (j : Nat) (h : j < s.size) : (ul s)[j]? = some (s[j]'h) := by
  unfold ul
  rw [Array.getElem?_toList, Array.getElem?_eq_getElem h]
  rfl
theorem ul_str (s : ByteArray) : strU (ul s) = s := by unfold strU ul; rw [Array.toArray_toList]
theorem ul_of (l : List UInt8) : ul (strU l) = l := by unfold strU ul; rfl
theorem scan_end {s : ByteArray} {j : Nat} (h : s.size ≤ j) (st : Bool) (n k : Nat) : scan ((ul s).drop j) st n k = some (n, k) := by
  rw [List.drop_eq_nil_of_le (by rw [ul_length]; exact h)]; rfl
theorem scan_at {s : ByteArray} {j : Nat} (h : j < s.size) (st : Bool) (n k : Nat) : scan ((ul s).drop j) st n k = if isD (s[j]'h) = true then (if (st = true ∧ n = 0) ∨ (4611686018427387904 - dgv (s[j]'h)) / 10 < n then none else scan ((ul s).drop (j + 1)) true (n * 10 + dgv (s[j]'h)) (k + 1)) else some (n, k) := by
  rw [at_drop (ul_at s j h)]; rfl

def numV (s : ByteArray) (p : Nat) : Value := .tuple #[.int .i64 ((txS (ul s)).num p).1.1, .int .i64 (((txS (ul s)).num p).2 : Int), .bool ((txS (ul s)).num p).1.2]
theorem numV_none {s : ByteArray} {p : Nat} (h : scan ((ul s).drop p) false 0 0 = none) : numV s p = .tuple #[.int .i64 0, .int .i64 (p : Int), .bool false] := by
  unfold numV txS
  simp only [h]
theorem numV_some {s : ByteArray} {p n k : Nat} (h : scan ((ul s).drop p) false 0 0 = some (n, k)) {V J : Int} {b : Bool} (hV : V = (n : Int)) (hJ : J = ((p + k : Nat) : Int)) (hb : b = decide (0 < k)) : numV s p = .tuple #[.int .i64 V, .int .i64 J, .bool b] := by
  unfold numV txS
  simp only [h]
  rw [hV, hJ, hb]

set_option maxRecDepth 100000 in
set_option maxHeartbeats 1600000 in
theorem takeNumber_any (s : ByteArray) (p : Nat) (w : World) (hs : s.size ≤ 140737488355328) (hp : p ≤ s.size) :
    Calls Tryd.prog 54 #[.string s, .int .i64 (p : Int)] w fun e w' => e = .returned (numV s p) ∧ w = w' := by
  go_enter Tryd.func54, Tryd.ntmps54
  go_wp2
  go_loopg [7, 8] (s.size - p) (fun m n i wr => ∃ (k : Nat) (V : Int), p + k ≤ s.size ∧ m = s.size - (p + k) ∧ n = .int .i64 V ∧ i = .int .i64 ((p + k : Nat) : Int) ∧ 0 ≤ V ∧ V ≤ 4611686018427387904 ∧ Hid (scan ((ul s).drop p) false 0 0 = scan ((ul s).drop (p + k)) (decide (0 < k)) V.toNat k) ∧ Hid (w = wr))
  case atStart => exact ⟨0, 0, by omega, by omega, rfl, rfl, by omega, by omega, rfl, rfl⟩
  case round =>
    obtain ⟨k, V, hk, hgk, rfl, rfl, hV0, hV1, hsc, hB⟩ := hrel
    have HG := Lib.hid hgk; clear hgk
    obtain ⟨j, hj⟩ : ∃ j, p + k = j := ⟨_, rfl⟩
    rw [hj] at hk hsc ⊢
    have HJ := Lib.hid hj
    have hpj : p ≤ j := by omega
    have hd0 : decide (0 < k) = decide (p < j) := by congr 1; apply propext; omega
    have HD0 := Lib.hid hd0
    have HVN : Hid ((V.toNat : Int) = V) := by show _ = _; omega
    by_cases hend : j = s.size
    · subst hend
      have HR : Hid (numV s p = .tuple #[.int .i64 V, .int .i64 (s.size : Int), .bool (decide (p < s.size))]) := numV_some (hsc.out.trans (scan_end (by omega) _ _ _)) HVN.out.symm (by rw [HJ.out]) HD0.out.symm
      clear hsc hj hd0
      go_wp2
      refine bodyPost_ret (v := .tuple #[.int .i64 V, .int .i64 (s.size : Int), .bool (decide (p < s.size))]) (by simp [results, Tryd.f54, go_sem]) rfl ?_
      exact ⟨by rw [HR.out], hB.out⟩
    · have hjs : j < s.size := by omega
      have hst := hsc.out.trans (scan_at hjs _ _ _)
      have HB0 := Lib.hid hB.out
      obtain ⟨x, hx⟩ : ∃ x, (s[j]'hjs).toNat = x := ⟨_, rfl⟩
      have hx256 : x < 256 := by rw [← hx]; exact (s[j]'hjs).toNat_lt
      have hisD : isD (s[j]'hjs) = (decide (48 ≤ x) && decide (x ≤ 57)) := by rw [← hx]; rfl
      have hdgv : dgv (s[j]'hjs) = x - 48 := by rw [← hx]; rfl
      rw [hisD, hdgv] at hst
      have HX := Lib.hid hx
      have hx2 : ((s[j]'hjs).toNat : Int) = (x : Int) := by rw [hx]
      clear hisD hdgv hx hsc
      by_cases h48 : 48 ≤ x
      · by_cases h57 : x ≤ 57
        · have hst2 := hst
          rw [if_pos (by simp [h48, h57])] at hst2
          have HST := Lib.hid hst2
          clear hst hst2 hj hd0
          obtain ⟨X, hX⟩ : ∃ X : Int, (x : Int) = X := ⟨_, rfl⟩
          have hi48 : (48 : Int) ≤ X := by omega
          have hi57 : X ≤ 57 := by omega
          rw [hX] at hx2
          clear hx256 h48 h57
          have HX2 := Lib.hid hX
          clear hX
          have HV1 := Lib.hid hV1
          clear hV1
          have HF : Hid ((((p < j ∧ V = 0) ∨ (4611686018427387904 - (X - 48)) / 10 < V) → ((decide (0 < k) = true ∧ V.toNat = 0) ∨ (4611686018427387904 - (x - 48)) / 10 < V.toNat)) ∧ (((decide (0 < k) = true ∧ V.toNat = 0) ∨ (4611686018427387904 - (x - 48)) / 10 < V.toNat) → ((p < j ∧ V = 0) ∨ (4611686018427387904 - (X - 48)) / 10 < V))) := by
            have e1 := HD0.out
            have e2 := HX2.out
            have e3 := HVN.out
            rw [e1]
            constructor
            · rintro (⟨h1, h2⟩ | h)
              · exact .inl ⟨decide_eq_true h1, by omega⟩
              · exact .inr (by omega)
            · rintro (⟨h1, h2⟩ | h)
              · exact .inl ⟨of_decide_eq_true h1, by omega⟩
              · exact .inr (by omega)
          have HN : Hid (V.toNat * 10 + (x - 48) = (V * 10 + (X - 48)).toNat) := by
            have e2 := HX2.out
            show _ = _
            omega
          by_cases hq : (4611686018427387904 - (X - 48)) / 10 < V
          · by_cases hpj2 : p < j
            · by_cases hv0 : V = 0
              · omega
              · have HR : Hid (numV s p = .tuple #[.int .i64 0, .int .i64 (p : Int), .bool false]) := numV_none (HST.out.trans (if_pos (HF.out.1 (by first | exact .inl ⟨hpj2, hv0⟩ | exact .inr hq))))
                clear HF HST
                go_wp2
                refine bodyPost_ret (v := .tuple #[.int .i64 0, .int .i64 (p : Int), .bool false]) (by simp [results, Tryd.f54, go_sem]) rfl ?_
                exact ⟨by rw [HR.out], hB.out⟩
            · have HR : Hid (numV s p = .tuple #[.int .i64 0, .int .i64 (p : Int), .bool false]) := numV_none (HST.out.trans (if_pos (HF.out.1 (by first | exact .inl ⟨hpj2, hv0⟩ | exact .inr hq))))
              clear HF HST
              go_wp2
              refine bodyPost_ret (v := .tuple #[.int .i64 0, .int .i64 (p : Int), .bool false]) (by simp [results, Tryd.f54, go_sem]) rfl ?_
              exact ⟨by rw [HR.out], hB.out⟩
          · by_cases hpj2 : p < j
            · by_cases hv0 : V = 0
              · subst hv0
                have hv0 : (0 : Int) = 0 := rfl
                have HR : Hid (numV s p = .tuple #[.int .i64 0, .int .i64 (p : Int), .bool false]) := numV_none (HST.out.trans (if_pos (HF.out.1 (by first | exact .inl ⟨hpj2, hv0⟩ | exact .inr hq))))
                clear HF HST
                go_wp2
                refine bodyPost_ret (v := .tuple #[.int .i64 0, .int .i64 (p : Int), .bool false]) (by simp [results, Tryd.f54, go_sem]) rfl ?_
                exact ⟨by rw [HR.out], hB.out⟩
              · have HR : Hid (scan ((ul s).drop p) false 0 0 = scan ((ul s).drop (p + (k + 1))) (decide (0 < k + 1)) (V * 10 + (X - 48)).toNat (k + 1)) := by
                  show _ = _
                  rw [HST.out, if_neg (fun h => by have := HF.out.2 h; omega), HN.out, show p + (k + 1) = j + 1 by have := HJ.out; omega, decide_eq_true (Nat.succ_pos k)]
                have HLE : Hid (V * 10 + (X - 48) ≤ 4611686018427387904) := by show _ ≤ _; omega
                have HGE : Hid (0 ≤ V * 10 + (X - 48)) := by show _ ≤ _; omega
                clear HF HST HN
                go_wp2
                go_roundg (s.size - (p + (k + 1)))
                case measure => have := HG.out; have := HJ.out; omega
                case rel => exact ⟨k + 1, V * 10 + (X - 48), by have := HJ.out; omega, rfl, rfl, by have := HJ.out; congr 1; omega, HGE.out, HLE.out, HR, hB⟩
            · have HR : Hid (scan ((ul s).drop p) false 0 0 = scan ((ul s).drop (p + (k + 1))) (decide (0 < k + 1)) (V * 10 + (X - 48)).toNat (k + 1)) := by
                show _ = _
                rw [HST.out, if_neg (fun h => by have := HF.out.2 h; omega), HN.out, show p + (k + 1) = j + 1 by have := HJ.out; omega, decide_eq_true (Nat.succ_pos k)]
              have HLE : Hid (V * 10 + (X - 48) ≤ 4611686018427387904) := by show _ ≤ _; omega
              have HGE : Hid (0 ≤ V * 10 + (X - 48)) := by show _ ≤ _; omega
              clear HF HST HN
              go_wp2
              go_roundg (s.size - (p + (k + 1)))
              case measure => have := HG.out; have := HJ.out; omega
              case rel => exact ⟨k + 1, V * 10 + (X - 48), by have := HJ.out; omega, rfl, rfl, by have := HJ.out; congr 1; omega, HGE.out, HLE.out, HR, hB⟩
        · have HR : Hid (numV s p = .tuple #[.int .i64 V, .int .i64 (j : Int), .bool (decide (p < j))]) := numV_some (hst.trans (if_neg (by simp [h57]))) HVN.out.symm (by rw [HJ.out]) HD0.out.symm
          have hi48 : (48 : Int) ≤ (x : Int) := by omega
          have hi57 : ¬ (x : Int) ≤ 57 := by omega
          clear hst hj hd0
          go_wp2
          refine bodyPost_ret (v := .tuple #[.int .i64 V, .int .i64 (j : Int), .bool (decide (p < j))]) (by simp [results, Tryd.f54, go_sem]) rfl ?_
          exact ⟨by rw [HR.out], hB.out⟩
      · have HR : Hid (numV s p = .tuple #[.int .i64 V, .int .i64 (j : Int), .bool (decide (p < j))]) := numV_some (hst.trans (if_neg (by simp [h48]))) HVN.out.symm (by rw [HJ.out]) HD0.out.symm
        have hi48 : ¬ (48 : Int) ≤ (x : Int) := by omega
        clear hst hj hd0
        go_wp2
        refine bodyPost_ret (v := .tuple #[.int .i64 V, .int .i64 (j : Int), .bool (decide (p < j))]) (by simp [results, Tryd.f54, go_sem]) rfl ?_
        exact ⟨by rw [HR.out], hB.out⟩
end Go.Proofs.YtflghlmikpfnpaaDoor.E

namespace Go.Proofs.YtflghlmikpfnpaaDoor.E
open Go.RowKit

def numRV (s : ByteArray) (p : Nat) : Value := .tuple #[.int .i64 (cutN (lnum (ul s) p).1), .int .i64 ((p + (lnum (ul s) p).2 : Nat) : Int)]
theorem numRV_of {s : ByteArray} {p n k : Nat} (h : lnum (ul s) p = (n, k)) {V J : Int} (hV : V = cutN n) (hJ : J = ((p + k : Nat) : Int)) : numRV s p = .tuple #[.int .i64 V, .int .i64 J] := by
  unfold numRV
  rw [h, hV, hJ]
theorem lsc_end {s : ByteArray} {j : Nat} (h : s.size ≤ j) (f n k : Nat) : lsc f ((ul s).drop j) n k = (n, k) := by
  rw [List.drop_eq_nil_of_le (by rw [ul_length]; exact h)]
  cases f <;> rfl
theorem lsc_at {s : ByteArray} {j : Nat} (h : j < s.size) (f n k : Nat) : lsc (f + 1) ((ul s).drop j) n k = if isD (s[j]'h) = true then lsc f ((ul s).drop (j + 1)) (10 * n + dgv (s[j]'h)) (k + 1) else (n, k) := by
  rw [at_drop (ul_at s j h)]; rfl

set_option maxRecDepth 100000 in
set_option maxHeartbeats 1600000 in
theorem rnumber_any (s : ByteArray) (p : Nat) (w : World) (hs : s.size ≤ 140737488355328) (hp : p ≤ s.size) :
    Calls Tryd.prog 79 #[.string s, .int .i64 (p : Int)] w fun e w' => e = .returned (numRV s p) ∧ w = w' := by
  go_enter Tryd.func79, Tryd.ntmps79
  go_wp2
  go_loopg [6, 7] 19 (fun m n i wr => ∃ (k : Nat) (V : Int), p + k ≤ s.size ∧ k ≤ 19 ∧ m = 19 - k ∧ n = .int .u64 V ∧ i = .int .i64 ((p + k : Nat) : Int) ∧ 0 ≤ V ∧ Hid (V.toNat < 10 ^ k) ∧ Hid (lnum (ul s) p = lsc (19 - k) ((ul s).drop (p + k)) V.toNat k) ∧ Hid (w = wr))
  case atStart => exact ⟨0, 0, by omega, by omega, by omega, rfl, rfl, by omega, by show _ < _; decide, rfl, rfl⟩
  case round =>
    obtain ⟨k, V, hk, hk19, hgk, rfl, rfl, hV0, hVk, hsc, hB⟩ := hrel
    have HG := Lib.hid hgk; clear hgk
    obtain ⟨j, hj⟩ : ∃ j, p + k = j := ⟨_, rfl⟩
    rw [hj] at hk hsc ⊢
    have HJ := Lib.hid hj
    have hpj : p ≤ j := by omega
    have hV1 : V ≤ 9999999999999999999 := by
      have := hVk.out
      have : 10 ^ k ≤ 10 ^ 19 := Nat.pow_le_pow_right (by omega) hk19
      omega
    by_cases hend : j = s.size
    · subst hend
      have HL : Hid (lnum (ul s) p = (V.toNat, k)) := hsc.out.trans (lsc_end (by omega) _ _ _)
      clear hsc hj
      by_cases hv : 4611686018427387905 < V
      · have HR : Hid (numRV s p = .tuple #[.int .i64 4611686018427387905, .int .i64 (s.size : Int)]) := numRV_of HL.out (by unfold cutN; omega) (by rw [HJ.out])
        clear HL
        go_wp2
        refine bodyPost_ret (v := .tuple #[.int .i64 4611686018427387905, .int .i64 (s.size : Int)]) (by simp [results, Tryd.f79, go_sem]; omega) rfl ?_
        exact ⟨by rw [HR.out], hB.out⟩
      · have HR : Hid (numRV s p = .tuple #[.int .i64 V, .int .i64 (s.size : Int)]) := numRV_of HL.out (by unfold cutN; omega) (by rw [HJ.out])
        have hv2 : V ≤ 4611686018427387905 := by omega
        clear HL
        go_wp2
        refine bodyPost_ret (v := .tuple #[.int .i64 V, .int .i64 (s.size : Int)]) (by simp [results, Tryd.f79, go_sem]; omega) rfl ?_
        exact ⟨by rw [HR.out], hB.out⟩
    · have hjs : j < s.size := by omega
      by_cases hk2 : k = 19
      · have HL : Hid (lnum (ul s) p = (V.toNat, k)) := by show _ = _; rw [hsc.out, hk2]; rfl
        have hji : (j : Int) - (p : Int) = 19 := by omega
        have hji2 : ¬ (j : Int) - (p : Int) < 19 := by omega
        clear hsc hj
        by_cases hv : 4611686018427387905 < V
        · have HR : Hid (numRV s p = .tuple #[.int .i64 4611686018427387905, .int .i64 (j : Int)]) := numRV_of HL.out (by unfold cutN; omega) (by rw [HJ.out])
          clear HL
          go_wp2
          refine bodyPost_ret (v := .tuple #[.int .i64 4611686018427387905, .int .i64 (j : Int)]) (by simp [results, Tryd.f79, go_sem]; omega) rfl ?_
          exact ⟨by rw [HR.out], hB.out⟩
        · have HR : Hid (numRV s p = .tuple #[.int .i64 V, .int .i64 (j : Int)]) := numRV_of HL.out (by unfold cutN; omega) (by rw [HJ.out])
          have hv2 : V ≤ 4611686018427387905 := by omega
          clear HL
          go_wp2
          refine bodyPost_ret (v := .tuple #[.int .i64 V, .int .i64 (j : Int)]) (by simp [results, Tryd.f79, go_sem]; omega) rfl ?_
          exact ⟨by rw [HR.out], hB.out⟩
      · have hst := hsc.out
        rw [show 19 - k = (18 - k) + 1 by omega, lsc_at hjs] at hst
        obtain ⟨x, hx⟩ : ∃ x, (s[j]'hjs).toNat = x := ⟨_, rfl⟩
        have hx256 : x < 256 := by rw [← hx]; exact (s[j]'hjs).toNat_lt
        have hisD : isD (s[j]'hjs) = (decide (48 ≤ x) && decide (x ≤ 57)) := by rw [← hx]; rfl
        have hdgv : dgv (s[j]'hjs) = x - 48 := by rw [← hx]; rfl
        rw [hisD, hdgv] at hst
        obtain ⟨X, hX⟩ : ∃ X : Int, (x : Int) = X := ⟨_, rfl⟩
        have hx2 : ((s[j]'hjs).toNat : Int) = X := by rw [hx, hX]
        have hji2 : (j : Int) - (p : Int) < 19 := by omega
        have hXl : 0 ≤ X := by omega
        have hXh : X < 256 := by omega
        clear hisD hdgv hx hsc hj
        by_cases h48 : 48 ≤ x
        · have hi48 : 48 ≤ X := by omega
          by_cases h57 : x ≤ 57
          · have hi57 : X ≤ 57 := by omega
            rw [if_pos (by simp [h48, h57])] at hst
            have hV18 : V ≤ 999999999999999999 := by
              have := hVk.out
              have : 10 ^ k ≤ 10 ^ 18 := Nat.pow_le_pow_right (by omega) (by omega)
              omega
            have hm0 : 0 ≤ 10 * V := by omega
            have hm1 : 10 * V ≤ 18446744073709551615 := by omega
            have hm2 : 10 * V + (X - 48) ≤ 18446744073709551615 := by omega
            have HST : Hid (lnum (ul s) p = lsc (19 - (k + 1)) ((ul s).drop (p + (k + 1))) (10 * V + (X - 48)).toNat (k + 1)) := by
              show _ = _
              rw [hst, show 19 - (k + 1) = 18 - k by omega, show p + (k + 1) = j + 1 by have := HJ.out; omega]
              congr 1
              omega
            have HVK : Hid ((10 * V + (X - 48)).toNat < 10 ^ (k + 1)) := by
              have := hVk.out
              show _ < _
              rw [Nat.pow_succ]
              omega
            have hm3 : 0 ≤ 10 * V + (X - 48) := by omega
            clear hst hX hx256 h48 h57 hVk
            go_wp2
            go_roundg (19 - (k + 1))
            case measure => have := HG.out; omega
            case rel => exact ⟨k + 1, 10 * V + (X - 48), by have := HJ.out; omega, by omega, rfl, rfl, by have := HJ.out; congr 1; omega, hm3, HVK, HST, hB⟩
          · have hi57 : ¬ X ≤ 57 := by omega
            have HL : Hid (lnum (ul s) p = (V.toNat, k)) := hst.trans (if_neg (by simp [h57]))
            clear hst hX
            by_cases hv : 4611686018427387905 < V
            · have HR : Hid (numRV s p = .tuple #[.int .i64 4611686018427387905, .int .i64 (j : Int)]) := numRV_of HL.out (by unfold cutN; omega) (by rw [HJ.out])
              clear HL
              go_wp2
              refine bodyPost_ret (v := .tuple #[.int .i64 4611686018427387905, .int .i64 (j : Int)]) (by simp [results, Tryd.f79, go_sem]; omega) rfl ?_
              exact ⟨by rw [HR.out], hB.out⟩
            · have HR : Hid (numRV s p = .tuple #[.int .i64 V, .int .i64 (j : Int)]) := numRV_of HL.out (by unfold cutN; omega) (by rw [HJ.out])
              have hv2 : V ≤ 4611686018427387905 := by omega
              clear HL
              go_wp2
              refine bodyPost_ret (v := .tuple #[.int .i64 V, .int .i64 (j : Int)]) (by simp [results, Tryd.f79, go_sem]; omega) rfl ?_
              exact ⟨by rw [HR.out], hB.out⟩
        · have hi48 : ¬ 48 ≤ X := by omega
          have HL : Hid (lnum (ul s) p = (V.toNat, k)) := hst.trans (if_neg (by simp [h48]))
          clear hst hX
          by_cases hv : 4611686018427387905 < V
          · have HR : Hid (numRV s p = .tuple #[.int .i64 4611686018427387905, .int .i64 (j : Int)]) := numRV_of HL.out (by unfold cutN; omega) (by rw [HJ.out])
            clear HL
            go_wp2
            refine bodyPost_ret (v := .tuple #[.int .i64 4611686018427387905, .int .i64 (j : Int)]) (by simp [results, Tryd.f79, go_sem]; omega) rfl ?_
            exact ⟨by rw [HR.out], hB.out⟩
          · have HR : Hid (numRV s p = .tuple #[.int .i64 V, .int .i64 (j : Int)]) := numRV_of HL.out (by unfold cutN; omega) (by rw [HJ.out])
            have hv2 : V ≤ 4611686018427387905 := by omega
            clear HL
            go_wp2
            refine bodyPost_ret (v := .tuple #[.int .i64 V, .int .i64 (j : Int)]) (by simp [results, Tryd.f79, go_sem]; omega) rfl ?_
            exact ⟨by rw [HR.out], hB.out⟩
end Go.Proofs.YtflghlmikpfnpaaDoor.E

namespace Go.Proofs.YtflghlmikpfnpaaDoor.E
open Go.RowKit

/-- A tree's two cells. -/
structure El where
  o : Int
  A : Option Addr
  n : Nat
  c : Nat
def El.v (e : El) : Value := tv e.o e.A e.n e.c
def cellsE (l : List El) : List Value := l.flatMap fun e => [.int .i64 e.o, .slice e.A e.n e.c]
theorem cellsE_length (l : List El) : (cellsE l).length = l.length * 2 := by
  induction l with
  | nil => rfl
  | cons p t ih => simp [cellsE] at ih ⊢; omega
theorem cellsE_get : ∀ (l : List El) (j : Nat) (r : El), l[j]? = some r → (cellsE l)[j * 2]? = some (.int .i64 r.o) ∧ (cellsE l)[j * 2 + 1]? = some (.slice r.A r.n r.c)
  | [], j, p, h => by simp at h
  | q :: t, 0, p, h => by simp at h; subst h; simp [cellsE]
  | q :: t, j + 1, p, h => by
    have ih := cellsE_get t j p (by simpa using h)
    have e : cellsE (q :: t) = .int .i64 q.o :: .slice q.A q.n q.c :: cellsE t := by simp [cellsE]
    rw [e, show (j + 1) * 2 = j * 2 + 1 + 1 by omega]
    simp only [List.getElem?_cons_succ]
    exact ih
def GrE (w : World) (base : Nat) (A : Option Addr) (c : Nat) (l : List El) : Prop := w.ownsRow base 24 2 (.slice A l.length c) l.length (cellsE l)
theorem GrE.nil (w : World) (base : Nat) : GrE w base none 0 [] := ⟨by simp [cellsE], .inl ⟨rfl, rfl⟩⟩
theorem GrE.cases {w : World} {base : Nat} {A : Option Addr} {c : Nat} {l : List El} (h : GrE w base A c l) : (A = none ∧ l = [] ∧ c = 0) ∨ ∃ g cur, A = some ⟨g, 0, none⟩ ∧ base ≤ g ∧ w.heap[g]? = some (.cells cur 24 (0, 0)) ∧ l.length ≤ c ∧ c ≤ maxLen ∧ cur.size = c * 2 ∧ cur.toList.take (l.length * 2) = cellsE l := by
  rcases h.2 with ⟨e, h0⟩ | ⟨g, cap, cur, e, hb, hc, h1, h2, h3, h4⟩
  · injection e with e1 e2 e3
    exact .inl ⟨e1, List.eq_nil_of_length_eq_zero e2, e3⟩
  · injection e with e1 e2 e3
    subst e1; subst e3
    exact .inr ⟨g, cur, rfl, hb, hc, h1, h2, h3, h4⟩
theorem GrE.cells {w : World} {base c : Nat} {A : Option Addr} {l : List El} (h : GrE w base A c l) (hl : 0 < l.length) : ∃ g, A = some ⟨g, 0, none⟩ ∧ base ≤ g ∧ g < w.heap.size ∧ ∀ j p, l[j]? = some p → w.cell? ⟨g, j * 2, none⟩ = some (.int .i64 p.o) ∧ w.cell? ⟨g, j * 2 + 1, none⟩ = some (.slice p.A p.n p.c) := by
  rcases h.cases with ⟨rfl, rfl, rfl⟩ | ⟨g, cur, rfl, hb, hc, h1, h2, h3, h4⟩
  · simp at hl
  · refine ⟨g, rfl, hb, (Array.getElem?_eq_some_iff.1 hc).1, fun j p hp => ?_⟩
    have hj := (List.getElem?_eq_some_iff.1 hp).1
    have hcell : ∀ k, k < l.length * 2 → w.cell? ⟨g, k, none⟩ = (cellsE l)[k]? := fun k hk => by
      rw [cell_of_row w g k cur 24 (0, 0) hc, ← h4, List.getElem?_take, if_pos hk]; simp
    obtain ⟨g0, g1⟩ := cellsE_get l j p hp
    exact ⟨by rw [hcell _ (by omega), g0], by rw [hcell _ (by omega), g1]⟩
/-- Where a slice lies. -/
def blk (A : Option Addr) : Option Nat := A.map Addr.block
theorem blk_own (A : Option Addr) (n c : Nat) : (Value.slice A n c).ownBlock = blk A := by cases A <;> rfl
theorem GrE.lt {w : World} {base c : Nat} {A : Option Addr} {l : List El} (h : GrE w base A c l) : ∀ k, blk A = some k → base ≤ k ∧ k < w.heap.size := by
  have := World.ownsRow.lt h
  rw [blk_own] at this
  exact this
theorem GrE.below {w w' : World} {base c B : Nat} {A : Option Addr} {l : List El} (h : GrE w base A c l) (hb : Below B w w') (hB : w.heap.size ≤ B) : GrE w' base A c l := by
  refine ⟨h.1, ?_⟩
  rcases h.2 with ⟨e, h0⟩ | ⟨g, cap, cur, e, hb', hc, h1⟩
  · exact .inl ⟨e, h0⟩
  · have := (Array.getElem?_eq_some_iff.1 hc).1
    exact .inr ⟨g, cap, cur, e, hb', (hb.block g (by omega)).trans hc, h1⟩
theorem info24 : (Tryd.prog.info? 24).map (fun i => (i.zero, i.size, i.bytes)) = some (some (.agg #[.int .i64 0, .slice none 0 0]), 2, 32) := by kernel_rfl
theorem oneCell_cellsE (l : List El) : ∀ v ∈ cellsE l, v.oneCell' = true := by
  intro v hv
  obtain ⟨p, _, h⟩ := List.mem_flatMap.1 hv
  simp only [List.mem_cons, List.not_mem_nil, or_false] at h
  rcases h with rfl | rfl <;> rfl
/-- append(out, t): one tree, in a block of its own. Where the new slice lies: where it lay, or in a new block. -/
theorem GrE.one {w : World} {base c : Nat} {A : Option Addr} {l : List El} (h : GrE w base A c l) (r : El) (ty : TypeId) (hb : l.length ≤ 10000000) (hbase : base ≤ w.heap.size) :
    ∃ A' c' w', (Builtin.append_ #[22, 22] ty #[.slice A l.length c, .slice (some ⟨w.heap.size, 0, none⟩) 1 1]).run Tryd.prog (w.alloc (.cells #[.int .i64 r.o, .slice r.A r.n r.c] 24)) = .ok (.slice A' (l.length + 1) c') w' ∧ GrE w' base A' c' (l ++ [r]) ∧ Below base w w' ∧ (∀ k, k < w.heap.size → blk A ≠ some k → w'.heap[k]? = w.heap[k]?) ∧ w.heap.size ≤ w'.heap.size ∧ (blk A' = blk A ∨ ∃ k, blk A' = some k ∧ w.heap.size ≤ k) := by
  obtain ⟨i0, hi, hz0, hz1, hz2⟩ := info_parts info24
  have hB0 : Below base w (w.alloc (.cells #[.int .i64 r.o, .slice r.A r.n r.c] 24)) := (Below.refl _ w).alloc hbase _
  have hBt : Below w.heap.size w (w.alloc (.cells #[.int .i64 r.o, .slice r.A r.n r.c] 24)) := (Below.refl _ w).alloc (Nat.le_refl _) _
  have hcell : ∀ j u, (cellsE [r])[j]? = some u → (w.alloc (.cells #[.int .i64 r.o, .slice r.A r.n r.c] 24)).cell? ((⟨w.heap.size, 0, none⟩ : Addr).add j) = some u := by
    intro j u hu
    have e : (⟨w.heap.size, 0, none⟩ : Addr).add j = ⟨w.heap.size, j, none⟩ := by
      unfold Addr.add; split
      · rename_i h; subst h; rfl
      · simp
    rw [e, cell_of_row _ _ j _ 24 (0, 0) (heap_alloc_new w _)]
    simpa [cellsE] using hu
  obtain ⟨v', w', hrun, ho, hg, hn, hat⟩ := run_append_own_at (P := Tryd.prog) (w.alloc (.cells #[.int .i64 r.o, .slice r.A r.n r.c] 24)) base 22 ty 24 i0 (.agg #[.int .i64 0, .slice none 0 0]) 2 32 Tryd.underlying22 hi hz0 hz1 hz2 rfl (by decide) _ _ _ (h.below hBt (Nat.le_refl _)) _ 1 1 (cellsE [r]) (by simp [cellsE]) hcell (oneCell_cellsE [r]) (by unfold maxLen; omega) (by omega) (by simp; omega)
  have hB : Below base w w' := hB0.grown hg (by simp; omega) (fun k e => by rw [blk_own] at e; exact (h.lt k e).1)
  have e2 : cellsE (l ++ [r]) = cellsE l ++ cellsE [r] := by simp [cellsE]
  have e3 : (l ++ [r]).length = l.length + 1 := by simp
  rw [blk_own] at hg hat
  rcases ho.2 with ⟨e, h0⟩ | ⟨g', cap', cur, e, _⟩
  · omega
  · rw [e] at hrun ho hat
    refine ⟨_, _, w', hrun, by unfold GrE; rw [e2, e3]; exact ho, hB, fun k hk hne => ?_, ?_, ?_⟩
    · exact (hg.block k (by simp; omega) (fun e => hne e.symm)).trans (hBt.block k hk)
    · have := hg.size; simp only [World.size_alloc] at this; omega
    · rw [blk_own] at hat
      rcases hat with hat | hat
      · exact .inl hat
      · exact .inr ⟨_, hat, by simp⟩
theorem GrE.set {w : World} {base c : Nat} {A : Option Addr} {l : List El} (h : GrE w base A c l) {p : Addr} (hp : p.block < base) (u : Value) : GrE (w.setCell p u) base A c l := by
  refine ⟨h.1, ?_⟩
  rcases h.2 with ⟨e, h0⟩ | ⟨g, cap, cur, e, hb', hc, h1⟩
  · exact .inl ⟨e, h0⟩
  · exact .inr ⟨g, cap, cur, e, hb', (Below.heap_setCell w p u g (by omega)).trans hc, h1⟩
/-- Trees of a call's own kids: of the list's elements, in blocks made since, not where the list lies. -/
def KidsIn (w0 : Nat) (w : World) (A : Option Addr) (l : List El) (ks : List Tr) : Prop := l.length = ks.length ∧ ∀ (j : Nat) (e : El) (t : Tr), l[j]? = some e → ks[j]? = some t → InP (fun b => w0 ≤ b ∧ b < w.heap.size ∧ blk A ≠ some b) w t e.v
theorem KidsIn.nil (w0 : Nat) (w : World) (A : Option Addr) : KidsIn w0 w A [] [] := ⟨rfl, fun j e t h => by simp at h⟩
theorem KidsIn.stay {w0 : Nat} {w w' : World} {A : Option Addr} {l : List El} {ks : List Tr} (h : KidsIn w0 w A l ks) (hb : Below w.heap.size w w') : KidsIn w0 w' A l ks :=
  ⟨h.1, fun j e t h1 h2 => ((h.2 j e t h1 h2).stay hb).more fun _ hb' => ⟨hb'.1, Nat.lt_of_lt_of_le hb'.2.1 hb.size, hb'.2.2⟩⟩
theorem KidsIn.set {w0 : Nat} {w : World} {A : Option Addr} {l : List El} {ks : List Tr} (h : KidsIn w0 w A l ks) {g i : Nat} {u : Value} (hg : Box2 w g) : KidsIn w0 (w.setCell ⟨g, i, none⟩ u) A l ks :=
  ⟨h.1, fun j e t h1 h2 => (InP.set2 hg (h.2 j e t h1 h2)).more fun b hb' => ⟨hb'.1, by rw [size_set]; exact hb'.2.1, hb'.2.2⟩⟩
theorem KidsIn.push {w0 : Nat} {w w' : World} {A A' : Option Addr} {l : List El} {ks : List Tr} {e : El} {t : Tr} (h : KidsIn w0 w A l ks) (he : InP (fun b => w0 ≤ b ∧ b < w.heap.size ∧ blk A ≠ some b) w t e.v)
    (hs : ∀ k, k < w.heap.size → blk A ≠ some k → w'.heap[k]? = w.heap[k]?) (hz : w.heap.size ≤ w'.heap.size) (hA : blk A' = blk A ∨ ∃ k, blk A' = some k ∧ w.heap.size ≤ k) : KidsIn w0 w' A' (l ++ [e]) (ks ++ [t]) := by
  have step : ∀ {t : Tr} {v : Value}, InP (fun b => w0 ≤ b ∧ b < w.heap.size ∧ blk A ≠ some b) w t v → InP (fun b => w0 ≤ b ∧ b < w'.heap.size ∧ blk A' ≠ some b) w' t v := fun h =>
    (h.keep fun p v hp hc => (World.cell?_of_block (hs _ hp.2.1 hp.2.2)).trans hc).more fun b hb => ⟨hb.1, Nat.lt_of_lt_of_le hb.2.1 hz, fun e => by
      rcases hA with hA | ⟨k, hA, hk⟩
      · exact hb.2.2 (hA ▸ e)
      · rw [hA] at e; injection e with e; have := hb.2.1; omega⟩
  refine ⟨by simp [h.1], fun j e' t' h1 h2 => ?_⟩
  have hl := h.1
  by_cases hj : j < l.length
  · rw [List.getElem?_append_left hj] at h1
    rw [List.getElem?_append_left (by omega)] at h2
    exact step (h.2 j e' t' h1 h2)
  · have hj2 := (List.getElem?_eq_some_iff.1 h1).1
    simp only [List.length_append, List.length_cons, List.length_nil] at hj2
    obtain rfl : j = l.length := by omega
    rw [List.getElem?_append_right (Nat.le_refl _), Nat.sub_self] at h1
    rw [List.getElem?_append_right (by omega), hl, Nat.sub_self] at h2
    simp at h1 h2
    subst h1; subst h2
    exact step he
/-- Two kids in a list of the call's own make a node. -/
theorem node_of {w0 base c : Nat} {w : World} {A : Option Addr} {l : List El} {x y : Tr} {n : Int} (h : GrE w base A c l) (hk : KidsIn w0 w A l [x, y]) (hb : w0 ≤ base) : InP (fun b => w0 ≤ b ∧ b < w.heap.size) w (.node n x y) (tv n A l.length c) := by
  have hl : l.length = 2 := hk.1
  obtain ⟨g, rfl, h1, h2, hc⟩ := h.cells (by omega)
  rw [hl]
  have e0 : l[0]? = some (l[0]'(by omega)) := List.getElem?_eq_getElem _
  have e1 : l[1]? = some (l[1]'(by omega)) := List.getElem?_eq_getElem _
  have k0 := hk.2 0 _ x e0 rfl
  have k1 := hk.2 1 _ y e1 rfl
  have c0 := hc 0 _ e0
  have c1 := hc 1 _ e1
  exact ⟨g, 0, c, rfl, ⟨by omega, h2⟩, ⟨_, _, _, _, c0.1, c0.2, k0.more fun b hb => ⟨hb.1, hb.2.1⟩⟩, ⟨_, _, _, _, c1.1, c1.2, k1.more fun b hb => ⟨hb.1, hb.2.1⟩⟩⟩
end Go.Proofs.YtflghlmikpfnpaaDoor.E

namespace Go.Proofs.YtflghlmikpfnpaaDoor.E
open Go.RowKit

/-- What reading a tree answers. -/
def RdR (r : Option (Tr × Nat)) (w : World) (e : Ending) (w' : World) : Prop :=
  Below w.heap.size w w' ∧ ((∃ t q v, r = some (t, q) ∧ e = .returned (.tuple #[v, .int .i64 (q : Int)]) ∧ InP (New w w') w' t v) ∨ (r = none ∧ e = .returned (.tuple #[tv 0 none 0 0, .int .i64 (-1)])))
/-- A node that is made: the answer's variable, the node's own with the kids so far. -/
structure LS (w : World) (n : Int) (A : Option Addr) (c : Nat) (l : List El) (ks : List Tr) (W : World) : Prop where
  bel : Below w.heap.size w W
  res : Box2 W w.heap.size
  box : W.heap[w.heap.size + 1]? = some (.cells #[.int .i64 n, .slice A l.length c] 24 (0, 0))
  gr : GrE W (w.heap.size + 2) A c l
  kids : KidsIn (w.heap.size + 2) W A l ks
theorem LS.size {w W : World} {n : Int} {A : Option Addr} {c : Nat} {l : List El} {ks : List Tr} (h : LS w n A c l ks W) : w.heap.size + 2 ≤ W.heap.size := (Array.getElem?_eq_some_iff.1 h.box).1
theorem LS.next {w W W' : World} {n : Int} {A : Option Addr} {c : Nat} {l : List El} {ks : List Tr} (h : LS w n A c l ks W) (hb : Below W.heap.size W W') : LS w n A c l ks W' :=
  have hs := h.size
  ⟨h.bel.trans (hb.mono h.bel.size), h.res.below hb (by omega), (hb.block _ (by omega)).trans h.box, h.gr.below hb (Nat.le_refl _), h.kids.stay hb⟩
theorem LS.both {w W : World} {n : Int} {A : Option Addr} {c : Nat} {l : List El} {ks : List Tr} (h : LS w n A c l ks W) : Box2 W w.heap.size ∧ Below w.heap.size w W := ⟨h.res, h.bel⟩
theorem LS.box2 {w W : World} {n : Int} {A : Option Addr} {c : Nat} {l : List El} {ks : List Tr} (h : LS w n A c l ks W) : Box2 W (w.heap.size + 1) := ⟨_, _, h.box, rfl⟩
theorem LS.cells {w W : World} {n : Int} {A : Option Addr} {c : Nat} {l : List El} {ks : List Tr} (h : LS w n A c l ks W) : W.cell? ⟨w.heap.size + 1, 0, none⟩ = some (.int .i64 n) ∧ W.cell? ⟨w.heap.size + 1, 1, none⟩ = some (.slice A l.length c) :=
  ⟨by rw [cell_of_row W _ 0 _ 24 (0, 0) h.box]; rfl, by rw [cell_of_row W _ 1 _ 24 (0, 0) h.box]; rfl⟩
theorem LS.begin (w : World) (n : Int) (o : Obj) (ho : o = .cells #[.int .i64 0, .slice none 0 0] 24) : LS w n none 0 [] [] ((w.alloc o).alloc (.cells #[.int .i64 n, .slice none 0 0] 24)) := by
  subst ho
  refine ⟨((Below.refl _ w).alloc (Nat.le_refl _) _).alloc (by simp) _, (Box2.new w (.int .i64 0) (.slice none 0 0) 24).below ((Below.refl _ _).alloc (Nat.le_refl _) _) (by simp), ?_, GrE.nil _ _, KidsIn.nil _ _ _⟩
  have := heap_alloc_new (w.alloc (.cells #[.int .i64 0, .slice none 0 0] 24)) (.cells #[.int .i64 n, .slice none 0 0] 24)
  rw [World.size_alloc] at this
  exact this
theorem LS.push {w W w' : World} {n : Int} {A A' : Option Addr} {c c' : Nat} {l : List El} {ks : List Tr} (h : LS w n A c l ks W) {e : El} {t : Tr} (he : InP (fun b => w.heap.size + 2 ≤ b ∧ b < W.heap.size ∧ blk A ≠ some b) W t e.v)
    (hg : GrE w' (w.heap.size + 2) A' c' (l ++ [e])) (hB : Below (w.heap.size + 2) W w') (hs : ∀ k, k < W.heap.size → blk A ≠ some k → w'.heap[k]? = W.heap[k]?) (hz : W.heap.size ≤ w'.heap.size) (hA : blk A' = blk A ∨ ∃ k, blk A' = some k ∧ W.heap.size ≤ k) :
    LS w n A' c' (l ++ [e]) (ks ++ [t]) (w'.setCell ⟨w.heap.size + 1, 1, none⟩ (.slice A' (l.length + 1) c')) := by
  have hb2 : Box2 w' (w.heap.size + 1) := h.box2.below hB (by omega)
  have hbx := (hB.block (w.heap.size + 1) (by omega)).trans h.box
  refine ⟨((h.bel.trans (hB.mono (by omega)))).setCell (p := ⟨w.heap.size + 1, 1, none⟩) (by show _ ≤ _ + 1; omega) _, (h.res.below hB (by omega)).far (by omega) _, ?_, hg.set (p := ⟨w.heap.size + 1, 1, none⟩) (by show _ + 1 < _ + 2; omega) _, (h.kids.push he hs hz hA).set hb2⟩
  rw [List.length_append, List.length_singleton]
  simp [World.setCell, Array.getElem?_modify, hbx]
theorem lsc_le : ∀ (f : Nat) (r : List UInt8) (n k : Nat), (lsc f r n k).2 ≤ k + r.length
  | 0, r, n, k => by simp [lsc]
  | f + 1, [], n, k => by simp [lsc]
  | f + 1, b :: r, n, k => by
    rw [lsc]
    split
    · have := lsc_le f r (10 * n + dgv b) (k + 1); rw [List.length_cons]; omega
    · simp
theorem lnum_le (s : List UInt8) (p : Nat) (h : p ≤ s.length) : p + (lnum s p).2 ≤ s.length := by
  have := lsc_le 19 (s.drop p) 0 0
  rw [List.length_drop] at this
  unfold lnum
  omega
theorem lrd_le (s : List UInt8) (f p : Nat) (t : Tr) (q : Nat) (h : lrd s f p = some (t, q)) : q ≤ s.length := by
  cases f with
  | zero => simp [lrd] at h
  | succ f =>
    cases hb : s[p]? with
    | none => rw [lrd_none hb] at h; cases h
    | some b =>
      have hp := (List.getElem?_eq_some_iff.1 hb).1
      by_cases h40 : b = 40
      · subst h40
        rw [lrd_node hb, kont] at h
        split at h
        · obtain ⟨x, _, h⟩ := Option.bind_eq_some_iff.1 h
          split at h
          · obtain ⟨y, _, h⟩ := Option.bind_eq_some_iff.1 h
            split at h
            · rename_i hy
              have := (List.getElem?_eq_some_iff.1 hy).1
              simp at h
              omega
            · cases h
          · cases h
        · cases h
      · rw [lrd_leaf hb h40] at h
        split at h
        · cases h
        · have := lnum_le s p (by omega)
          simp at h
          omega

set_option maxRecDepth 100000 in
set_option maxHeartbeats 6400000 in
theorem rread_any (s : ByteArray) (hs : s.size ≤ 140737488355328) : ∀ (f p : Nat) (D : Int) (w : World), D = (f : Int) - 1 → f ≤ 33 → p ≤ s.size → Calls Tryd.prog 55 #[.string s, .int .i64 (p : Int), .int .i64 D] w (RdR (lrd (ul s) f p) w) := by
  intro f
  induction f with
  | zero =>
    intro p D w hD _ hp
    have hD' : D = -1 := by omega
    clear hD
    subst hD'
    have HN : Hid (lrd (ul s) 0 p = none) := rfl
    have HB : Hid (Below w.heap.size w (w.alloc (.cells #[.int .i64 0, .slice none 0 0] 24))) := (Below.refl _ w).alloc (Nat.le_refl _) _
    by_cases hps : p < s.size
    · go_enter Tryd.func55, Tryd.ntmps55
      go_wp2
      refine bodyPost_ret (v := .tuple #[tv 0 none 0 0, .int .i64 (-1)]) (by simp [results, Tryd.f55, go_sem, tv]) rfl ?_
      exact ⟨HB.out, .inr ⟨HN.out, rfl⟩⟩
    · go_enter Tryd.func55, Tryd.ntmps55
      go_wp2
      refine bodyPost_ret (v := .tuple #[tv 0 none 0 0, .int .i64 (-1)]) (by simp [results, Tryd.f55, go_sem, tv]) rfl ?_
      exact ⟨HB.out, .inr ⟨HN.out, rfl⟩⟩
  | succ f ih =>
    intro p D w hD hf hp
    have hD0 : 0 ≤ D := by omega
    have hD1 : D ≤ 32 := by omega
    have HB : Hid (Below w.heap.size w (w.alloc (.cells #[.int .i64 0, .slice none 0 0] 24))) := (Below.refl _ w).alloc (Nat.le_refl _) _
    by_cases hps : p < s.size
    · have hat := ul_at s p hps
      obtain ⟨X, hX⟩ : ∃ X : Int, ((s[p]'hps).toNat : Int) = X := ⟨_, rfl⟩
      by_cases h40 : X = 40
      · have hb40 : (s[p]'hps) = 40 := by apply UInt8.toNat_inj.1; rw [show (40 : UInt8).toNat = 40 from rfl]; omega
        rw [hb40] at hat
        have HE := Lib.hid (lrd_node (f := f) hat)
        have hle := lnum_le (ul s) (p + 1) (by rw [ul_length]; omega)
        rw [ul_length] at hle
        have hcn : Calls Tryd.prog 79 #[.string s, .int .i64 ((p : Int) + 1)] (w.alloc (.cells #[.int .i64 0, .slice none 0 0] 24)) fun e w' => e = .returned (numRV s (p + 1)) ∧ (w.alloc (.cells #[.int .i64 0, .slice none 0 0] 24)) = w' := rnumber_any s (p + 1) _ hs (by omega)
        unfold numRV at hcn
        obtain ⟨n, hn⟩ : ∃ n, cutN (lnum (ul s) (p + 1)).1 = n := ⟨_, rfl⟩
        obtain ⟨q0, hq0⟩ : ∃ q, p + 1 + (lnum (ul s) (p + 1)).2 = q := ⟨_, rfl⟩
        rw [hn, hq0] at hcn HE
        rw [hq0] at hle
        have HIH : Hid (∀ (p : Nat) (w : World), p ≤ s.size → Calls Tryd.prog 55 #[.string s, .int .i64 (p : Int), .int .i64 (D - 1)] w (RdR (lrd (ul s) f p) w)) := fun p w hp => ih p (D - 1) w (by omega) (by omega) hp
        subst h40
        clear hat hb40 hn hq0 ih hD
        go_enter Tryd.func55, Tryd.ntmps55
        go_wp2_with fail
        refine hcn.mono ?_
        rintro e w1 ⟨rfl, rfl⟩
        have HL0 := Lib.hid (LS.begin w n _ rfl)
        clear hcn
        go_wp2
        go_loopg [11, 13] 2 (fun m v i wr => ∃ (j q : Nat) (A : Option Addr) (c : Nat) (l : List El) (ks : List Tr), j ≤ 2 ∧ m = 2 - j ∧ v = .int .i64 (q : Int) ∧ i = .int .i64 (j : Int) ∧ q ≤ s.size ∧ Hid (ks.length = j) ∧ Hid (lrd (ul s) (f + 1) p = kont (ul s) f n ks q) ∧ Hid (LS w n A c l ks wr))
        case atStart => exact ⟨0, q0, none, 0, [], [], by omega, rfl, rfl, rfl, hle, rfl, HE.out, HL0.out⟩
        case round =>
          obtain ⟨j, q, A, c, l, ks, hj, hgk, rfl, rfl, hq, HKL, HK, HL⟩ := hrel
          have HGK := Lib.hid hgk; clear hgk
          by_cases hj2 : j < 2
          · have HST := Lib.hid (kont_step (ul s) f n ks q (by rw [HKL.out]; exact hj2))
            by_cases hqs : q < s.size
            · obtain ⟨Y, hY⟩ : ∃ Y : Int, ((s[q]'hqs).toNat : Int) = Y := ⟨_, rfl⟩
              have HAQ := Lib.hid (ul_at s q hqs)
              have hYb : 0 ≤ Y ∧ Y < 256 := by have := (s[q]'hqs).toNat_lt; omega
              by_cases h44 : Y = 44
              · have HK2 : Hid (lrd (ul s) (f + 1) p = (lrd (ul s) f (q + 1)).bind fun x => kont (ul s) f n (ks ++ [x.1]) x.2) := by
                  show _ = _
                  rw [HK.out, HST.out, if_pos]
                  rw [HAQ.out]
                  congr 1
                  apply UInt8.toNat_inj.1; rw [show (44 : UInt8).toNat = 44 from rfl]; omega
                have hcr := HIH.out (q + 1) wr (by omega)
                subst h44
                rw [show ((q + 1 : Nat) : Int) = (q : Int) + 1 by omega] at hcr
                clear HK HST HAQ hYb
                go_wp2_with fail
                refine hcr.mono ?_
                rintro e w2 ⟨hb2, hcase⟩
                have HL2 := Lib.hid (HL.out.next hb2)
                rcases hcase with ⟨x, q2, v, hr, rfl, hin⟩ | ⟨hr, rfl⟩
                · obtain ⟨A1, n1, c1, rfl⟩ := hin.form
                  have hq2 := lrd_le _ _ _ _ _ hr
                  rw [ul_length] at hq2
                  have HK3 : Hid (lrd (ul s) (f + 1) p = kont (ul s) f n (ks ++ [x]) q2) := by show _ = _; rw [HK2.out, hr]; rfl
                  have hb3 : Below w2.heap.size w2 (w2.alloc (.cells #[.int .i64 x.N, .slice A1 n1 c1] 24)) := (Below.refl _ w2).alloc (Nat.le_refl _) _
                  obtain ⟨W3, hW3⟩ : ∃ W3, w2.alloc (.cells #[.int .i64 x.N, .slice A1 n1 c1] 24) = W3 := ⟨_, rfl⟩
                  have z0 : W3.cell? ⟨w2.heap.size, 0, none⟩ = some (.int .i64 x.N) := by rw [← hW3]; simp [go_sem]
                  have z1 : W3.cell? ⟨w2.heap.size, 1, none⟩ = some (.slice A1 n1 c1) := by rw [← hW3]; simp [go_sem]
                  have hs3 : W3.heap.size = w2.heap.size + 1 := by rw [← hW3]; simp
                  rw [hW3] at hb3
                  have hL3 := HL2.out.next hb3
                  have hlt := HL.out.gr.lt
                  have hLs := HL.out.size
                  have hin3 : InP (fun b => w.heap.size + 2 ≤ b ∧ b < W3.heap.size ∧ blk A ≠ some b) W3 x (tv x.N A1 n1 c1) := (hin.stay hb3).more fun b hb => ⟨by have := hb.1; omega, by have := hb.2; omega, fun e => by have := hlt b e; have := hb.1; omega⟩
                  have hlen : l.length ≤ 2 := by have := HL.out.kids.1; have := HKL.out; omega
                  obtain ⟨A', c', w', hap, hg', hB', hsame, hsz, hA⟩ := hL3.gr.one ⟨x.N, A1, n1, c1⟩ 22 (by omega) hL3.size
                  have HL4 := Lib.hid (hL3.push (e := ⟨x.N, A1, n1, c1⟩) hin3 hg' hB' hsame hsz hA)
                  obtain ⟨z2, z3⟩ := hL3.cells
                  have hb2' : Box2 w' (w.heap.size + 1) := hL3.box2.below hB' (by omega)
                  obtain ⟨u0, u1, ⟨y0, y1⟩, y2, y3⟩ := hb2'.facts
                  have HAP := Lib.hid hap
                  have HW3 := Lib.hid hW3
                  simp only at HAP
                  clear hcr hb2 hb3 hr hin hin3 hL3 hlt hap hg' hB' hsame hsz hA HL HL2 HK2 hb2' hs3
                  generalize x.N = xn at *
                  unfold tv
                  go_wp2_with (at_builtin; refine wpList_append_run rfl _ _ _ _ rfl _ _ rfl rfl HAP.out ?_; clear HAP)
                  go_roundg (2 - (j + 1))
                  case measure => have := HGK.out; omega
                  case rel => exact ⟨j + 1, q2, A', c', _, _, by omega, rfl, rfl, by congr 1, hq2, by show _ = _; rw [List.length_append, List.length_singleton, HKL.out], HK3, HL4⟩
                · have hL3 := HL2.out.next ((Below.refl _ w2).alloc (Nat.le_refl _) (.cells #[.int .i64 0, .slice none 0 0] 24))
                  have HN : Hid (lrd (ul s) (f + 1) p = none) := by show _ = _; rw [HK2.out, hr]; rfl
                  obtain ⟨u0, u1, ⟨y0, y1⟩, y2, y3⟩ := (hL3.both).1.facts
                  have HFIN : Hid (∀ u1 u2, Below w.heap.size w (((w2.alloc (.cells #[.int .i64 0, .slice none 0 0] 24)).setCell ⟨w.heap.size, 0, none⟩ u1).setCell ⟨w.heap.size, 1, none⟩ u2)) := fun u1 u2 => ((hL3.both).2.setCell (p := ⟨w.heap.size, 0, none⟩) (Nat.le_refl _) _).setCell (p := ⟨w.heap.size, 1, none⟩) (Nat.le_refl _) _
                  clear hcr hb2 hr hL3 HL HL2 HK2
                  unfold tv
                  go_wp2
                  refine bodyPost_ret (v := .tuple #[tv 0 none 0 0, .int .i64 (-1)]) (by simp [results, Tryd.f55, go_sem, tv, y0, y1]) rfl ?_
                  exact ⟨HFIN.out _ _, .inr ⟨HN.out, rfl⟩⟩
              · have hne : (Y != 44) = true := by simp [h44]
                have HN : Hid (lrd (ul s) (f + 1) p = none) := by show _ = _; rw [HK.out, HST.out, if_neg]; rw [HAQ.out]; intro e; injection e with e; rw [e] at hY; exact h44 (by rw [← hY]; rfl)
                obtain ⟨u0, u1, ⟨y0, y1⟩, y2, y3⟩ := (HL.out.both).1.facts
                have HFIN : Hid (∀ u1 u2, Below w.heap.size w (((wr).setCell ⟨w.heap.size, 0, none⟩ u1).setCell ⟨w.heap.size, 1, none⟩ u2)) := fun u1 u2 => ((HL.out.both).2.setCell (p := ⟨w.heap.size, 0, none⟩) (Nat.le_refl _) _).setCell (p := ⟨w.heap.size, 1, none⟩) (Nat.le_refl _) _
                clear HK HST HAQ HL
                go_wp2
                refine bodyPost_ret (v := .tuple #[tv 0 none 0 0, .int .i64 (-1)]) (by simp [results, Tryd.f55, go_sem, tv, y0, y1]) rfl ?_
                exact ⟨HFIN.out _ _, .inr ⟨HN.out, rfl⟩⟩
            · have hqe : q = s.size := by omega
              have HN : Hid (lrd (ul s) (f + 1) p = none) := by show _ = _; rw [HK.out, HST.out, if_neg]; rw [List.getElem?_eq_none (by rw [ul_length]; omega)]; simp
              obtain ⟨u0, u1, ⟨y0, y1⟩, y2, y3⟩ := (HL.out.both).1.facts
              have HFIN : Hid (∀ u1 u2, Below w.heap.size w (((wr).setCell ⟨w.heap.size, 0, none⟩ u1).setCell ⟨w.heap.size, 1, none⟩ u2)) := fun u1 u2 => ((HL.out.both).2.setCell (p := ⟨w.heap.size, 0, none⟩) (Nat.le_refl _) _).setCell (p := ⟨w.heap.size, 1, none⟩) (Nat.le_refl _) _
              clear HK HST HL
              go_wp2
              refine bodyPost_ret (v := .tuple #[tv 0 none 0 0, .int .i64 (-1)]) (by simp [results, Tryd.f55, go_sem, tv, y0, y1]) rfl ?_
              exact ⟨HFIN.out _ _, .inr ⟨HN.out, rfl⟩⟩
          · obtain rfl : j = 2 := by omega
            obtain ⟨x, y, rfl⟩ : ∃ x y, ks = [x, y] := by
              match ks, HKL.out with
              | [x, y], _ => exact ⟨x, y, rfl⟩
            have HST : Hid (lrd (ul s) (f + 1) p = if (ul s)[q]? = some 41 then some (.node n x y, q + 1) else none) := HK.out
            clear HK
            by_cases hqs : q < s.size
            · obtain ⟨Y, hY⟩ : ∃ Y : Int, ((s[q]'hqs).toNat : Int) = Y := ⟨_, rfl⟩
              have HAQ := Lib.hid (ul_at s q hqs)
              have hYb : 0 ≤ Y ∧ Y < 256 := by have := (s[q]'hqs).toNat_lt; omega
              by_cases h41 : Y = 41
              · have HN : Hid (lrd (ul s) (f + 1) p = some (.node n x y, q + 1)) := by
                  show _ = _
                  rw [HST.out, if_pos]
                  rw [HAQ.out]
                  congr 1
                  apply UInt8.toNat_inj.1; rw [show (41 : UInt8).toNat = 41 from rfl]; omega
                have hnode := node_of (n := n) HL.out.gr HL.out.kids (Nat.le_refl _)
                obtain ⟨z2, z3⟩ := HL.out.cells
                obtain ⟨u0, u1, ⟨y0, y1⟩, y2, y3⟩ := HL.out.res.facts
                have HFIN : Hid (∀ u1 u2, Below w.heap.size w ((wr.setCell ⟨w.heap.size, 0, none⟩ u1).setCell ⟨w.heap.size, 1, none⟩ u2) ∧ InP (New w ((wr.setCell ⟨w.heap.size, 0, none⟩ u1).setCell ⟨w.heap.size, 1, none⟩ u2)) ((wr.setCell ⟨w.heap.size, 0, none⟩ u1).setCell ⟨w.heap.size, 1, none⟩ u2) (.node n x y) (tv n A l.length c)) := fun u1 u2 => ⟨(HL.out.bel.setCell (p := ⟨w.heap.size, 0, none⟩) (Nat.le_refl _) _).setCell (p := ⟨w.heap.size, 1, none⟩) (Nat.le_refl _) _, (InP.set2 (HL.out.res.set _) (InP.set2 HL.out.res hnode)).more fun b hb => ⟨by have := hb.1; omega, by rw [size_set, size_set]; exact hb.2⟩⟩
                subst h41
                clear HST HAQ HL hnode
                go_wp2
                refine bodyPost_ret (v := .tuple #[tv n A l.length c, .int .i64 ((q : Int) + 1)]) (by simp [results, Tryd.f55, go_sem, tv, y0, y1]) rfl ?_
                exact ⟨(HFIN.out _ _).1, .inl ⟨.node n x y, q + 1, _, HN.out, rfl, (HFIN.out _ _).2⟩⟩
              · have hne : (Y != 41) = true := by simp [h41]
                have HN : Hid (lrd (ul s) (f + 1) p = none) := by show _ = _; rw [HST.out, if_neg]; rw [HAQ.out]; intro e; injection e with e; rw [e] at hY; exact h41 (by rw [← hY]; rfl)
                obtain ⟨u0, u1, ⟨y0, y1⟩, y2, y3⟩ := (HL.out.both).1.facts
                have HFIN : Hid (∀ u1 u2, Below w.heap.size w (((wr).setCell ⟨w.heap.size, 0, none⟩ u1).setCell ⟨w.heap.size, 1, none⟩ u2)) := fun u1 u2 => ((HL.out.both).2.setCell (p := ⟨w.heap.size, 0, none⟩) (Nat.le_refl _) _).setCell (p := ⟨w.heap.size, 1, none⟩) (Nat.le_refl _) _
                clear HST HAQ HL
                go_wp2
                refine bodyPost_ret (v := .tuple #[tv 0 none 0 0, .int .i64 (-1)]) (by simp [results, Tryd.f55, go_sem, tv, y0, y1]) rfl ?_
                exact ⟨HFIN.out _ _, .inr ⟨HN.out, rfl⟩⟩
            · have hqe : q = s.size := by omega
              have HN : Hid (lrd (ul s) (f + 1) p = none) := by show _ = _; rw [HST.out, if_neg]; rw [List.getElem?_eq_none (by rw [ul_length]; omega)]; simp
              obtain ⟨u0, u1, ⟨y0, y1⟩, y2, y3⟩ := (HL.out.both).1.facts
              have HFIN : Hid (∀ u1 u2, Below w.heap.size w (((wr).setCell ⟨w.heap.size, 0, none⟩ u1).setCell ⟨w.heap.size, 1, none⟩ u2)) := fun u1 u2 => ((HL.out.both).2.setCell (p := ⟨w.heap.size, 0, none⟩) (Nat.le_refl _) _).setCell (p := ⟨w.heap.size, 1, none⟩) (Nat.le_refl _) _
              clear HST HL
              go_wp2
              refine bodyPost_ret (v := .tuple #[tv 0 none 0 0, .int .i64 (-1)]) (by simp [results, Tryd.f55, go_sem, tv, y0, y1]) rfl ?_
              exact ⟨HFIN.out _ _, .inr ⟨HN.out, rfl⟩⟩
      · have hb40 : (s[p]'hps) ≠ 40 := fun e => h40 (by rw [← hX, e]; rfl)
        have HE := Lib.hid (lrd_leaf (f := f) hat hb40)
        have hcn := rnumber_any s p (w.alloc (.cells #[.int .i64 0, .slice none 0 0] 24)) hs hp
        unfold numRV at hcn
        obtain ⟨⟨n, k⟩, hnk⟩ : ∃ x, lnum (ul s) p = x := ⟨_, rfl⟩
        have hkb := lnum_le (ul s) p (by rw [ul_length]; exact hp)
        rw [ul_length, hnk] at hkb
        rw [hnk] at hcn HE
        simp only at hcn HE hkb
        have hne : (X != 40) = true := by simp [h40]
        obtain ⟨V, hV⟩ : ∃ V, cutN n = V := ⟨_, rfl⟩
        rw [hV] at hcn HE
        have hXb : 0 ≤ X ∧ X < 256 := by have := (s[p]'hps).toNat_lt; omega
        clear hat hb40 hnk hV ih hD
        go_enter Tryd.func55, Tryd.ntmps55
        go_wp2_with fail
        refine hcn.mono ?_
        rintro e w1 ⟨rfl, rfl⟩
        clear hcn
        by_cases hk : k = 0
        · have HN : Hid (lrd (ul s) (f + 1) p = none) := by show _ = _; rw [HE.out, if_pos hk]
          subst hk
          clear HE
          go_wp2
          refine bodyPost_ret (v := .tuple #[tv 0 none 0 0, .int .i64 (-1)]) (by simp [results, Tryd.f55, go_sem, tv]) rfl ?_
          exact ⟨HB.out, .inr ⟨HN.out, rfl⟩⟩
        · have HN : Hid (lrd (ul s) (f + 1) p = some (.leaf V, p + k)) := by show _ = _; rw [HE.out, if_neg hk]
          have hpk : ¬ ((p + k : Nat) : Int) = (p : Int) := by omega
          clear HE
          go_wp2
          refine bodyPost_ret (v := .tuple #[tv V none 0 0, .int .i64 ((p : Int) + (k : Int))]) (by simp [results, Tryd.f55, go_sem, tv]) rfl ?_
          exact ⟨(Below.refl _ w).alloc (Nat.le_refl _) _, .inl ⟨.leaf V, p + k, _, HN.out, rfl, ⟨none, 0, rfl⟩⟩⟩
    · have HN : Hid (lrd (ul s) (f + 1) p = none) := lrd_none (List.getElem?_eq_none (by rw [ul_length]; omega))
      go_enter Tryd.func55, Tryd.ntmps55
      go_wp2
      refine bodyPost_ret (v := .tuple #[tv 0 none 0 0, .int .i64 (-1)]) (by simp [results, Tryd.f55, go_sem, tv]) rfl ?_
      exact ⟨HB.out, .inr ⟨HN.out, rfl⟩⟩
end Go.Proofs.YtflghlmikpfnpaaDoor.E
