/-
  Plain mathematics of opening a sealed record.
-/
import Derived.Test.YthnffebjjnbakaaDoorText
import Derived.Lib.Strings
namespace Go.Proofs.YthnffebjjnbakaaDoor
open Go.RowKit

theorem byt_extract (s : ByteArray) (a b : Nat) : byt (s.extract a b) = ((byt s).drop a).take (b - a) := by
  unfold byt
  rw [Lib.extract_data, List.map_take, List.map_drop]
theorem byt_drop (s : ByteArray) (a : Nat) : byt (s.extract a s.size) = (byt s).drop a := by
  rw [byt_extract, List.take_of_length_le]
  rw [List.length_drop, byt_length]; exact Nat.le_refl _

/-- A number behind the first byte. -/
theorem takeN_tail (x : Nat) (t : List Nat) : M.takeN (x :: t) 1 = (M.takeN t 0).map fun q => (q.1, q.2 + 1) := by
  unfold M.takeN
  rw [if_pos (by decide), if_pos (by decide)]
  show Option.map _ (M.parse t) = Option.map _ (Option.map _ (M.parse t))
  cases M.parse t with
  | none => rfl
  | some q => simp [Nat.add_comm]
theorem takeN_nil (a : Int) : M.takeN [] a = none := by
  unfold M.takeN
  split
  · simp [M.parse]
  · rfl
theorem takeN_take (l : List Nat) (hl : ∀ x ∈ l, x < 256) (m : Nat) (hm : 10 ≤ m) : M.takeN (l.take m) 1 = M.takeN l 1 := by
  unfold M.takeN
  rw [if_pos (by decide), if_pos (by decide)]
  show Option.map _ (M.parse ((l.take m).drop 1)) = Option.map _ (M.parse (l.drop 1))
  rw [List.drop_take, M.parse_take _ _ (fun x hx => hl x (List.mem_of_mem_drop hx)) (by omega)]

/-- What Open answers. -/
def M.openR (r : List Nat) (m : Int) : Except Nat (Nat × List Nat × Nat) :=
  match M.takeN r 1 with
  | none => .error 20
  | some (n, p) => if (n : Int) ≤ m ∧ p + n + 4 ≤ r.length then
      (if (r.drop (p + n)).take 4 = M.le4 (M.crc (r.take (p + n))) then .ok (r[0]?.getD 0, (r.drop p).take n, p + n + 4) else .error 21)
    else .error 20
def M.openV (l : List Nat) (a m : Int) : Except Nat (Nat × List Nat × Nat) :=
  if 0 ≤ a ∧ a ≤ l.length then (match M.openR (l.drop a.toNat) m with | .error e => .error e | .ok (k, b, q) => .ok (k, b, a.toNat + q)) else .error 20
def opnR : Except Nat (Nat × List Nat × Nat) → Value
  | .error e => .tuple #[.int .u8 0, .string (strB []), .int .i64 0, .int .i64 (e : Int)]
  | .ok (k, b, p) => .tuple #[.int .u8 (k : Int), .string (strB b), .int .i64 (p : Int), .int .i64 0]

/-- Where a number stands behind the first byte, and so many bytes behind it, they are the head of a record. -/
theorem head_of {r : List Nat} (hr : ∀ x ∈ r, x < 256) {n p : Nat} (h : M.takeN r 1 = some (n, p)) (hl : p + n ≤ r.length) : 2 ≤ p ∧ r.take (p + n) = M.head (r[0]?.getD 0) ((r.drop p).take n) := by
  obtain ⟨-, h1, h2, h3, h4⟩ := takeN_some hr h
  have hc := M.code_len n
  cases r with
  | nil => rw [takeN_nil] at h; cases h
  | cons x t =>
    rw [show (1 : Int).toNat = 1 from rfl] at h2 h4
    have hp : p = (p - 1) + 1 := by omega
    refine ⟨by omega, ?_⟩
    have hlen : ((x :: t).drop p |>.take n).length = n := by rw [List.length_take, List.length_drop]; omega
    unfold M.head
    rw [hlen]
    rw [show p + n = (p - 1 + n) + 1 by omega, List.take_succ_cons]
    congr 1
    rw [List.drop_succ_cons, List.drop_zero] at h4
    rw [← h4, List.take_add]
    congr 2
    conv => rhs; rw [hp, List.drop_succ_cons]
theorem take4 (r : List Nat) (q : Nat) : r.take (q + 4) = r.take q ++ (r.drop q).take 4 := List.take_add

/-- The two tests say the same. -/
theorem seal_iff {r : List Nat} (hr : ∀ x ∈ r, x < 256) {n p : Nat} (h : M.takeN r 1 = some (n, p)) (hl : p + n + 4 ≤ r.length) :
    (M.sealed (r[0]?.getD 0) ((r.drop p).take n) = r.take (p + n + 4)) ↔ (r.drop (p + n)).take 4 = M.le4 (M.crc (r.take (p + n))) := by
  obtain ⟨-, hh⟩ := head_of hr h (by omega)
  unfold M.sealed
  rw [← hh, take4]
  constructor
  · intro e; exact (List.append_cancel_left e).symm
  · intro e; rw [e]

/-- What was opened is what was sealed. -/
theorem open_sealed {l : List Nat} (hl : ∀ x ∈ l, x < 256) {a m : Int} {k q : Nat} {b : List Nat} (h : M.openV l a m = .ok (k, b, q)) : 0 ≤ a ∧ q ≤ l.length ∧ a.toNat ≤ q ∧ k < 256 ∧ (∀ x ∈ b, x < 256) ∧ (b.length : Int) ≤ m ∧ b.length ≤ l.length ∧ (l.drop a.toNat).take (q - a.toNat) = M.sealed k b := by
  unfold M.openV at h
  split at h
  · rename_i h0
    have hr : ∀ x ∈ l.drop a.toNat, x < 256 := fun x hx => hl x (List.mem_of_mem_drop hx)
    have hdl : (l.drop a.toNat).length = l.length - a.toNat := List.length_drop
    generalize l.drop a.toNat = r at *
    unfold M.openR at h
    cases hT : M.takeN r 1 with
    | none => rw [hT] at h; cases h
    | some np =>
      obtain ⟨n, p⟩ := np
      rw [hT] at h
      dsimp only at h
      by_cases h1 : (n : Int) ≤ m ∧ p + n + 4 ≤ r.length
      · rw [if_pos h1] at h
        by_cases h2 : (r.drop (p + n)).take 4 = M.le4 (M.crc (r.take (p + n)))
        · rw [if_pos h2] at h
          simp only [Except.ok.injEq, Prod.mk.injEq] at h
          obtain ⟨rfl, rfl, rfl⟩ := h
          have hs := (seal_iff hr hT h1.2).2 h2
          have hbl : ((r.drop p).take n).length = n := by rw [List.length_take, List.length_drop]; omega
          refine ⟨h0.1, by omega, by omega, ?_, fun x hx => hr x (List.mem_of_mem_drop (List.mem_of_mem_take hx)), by rw [hbl]; exact h1.1, by rw [hbl]; omega, ?_⟩
          · have : 0 < r.length := by omega
            rw [List.getElem?_eq_getElem this]; exact hr _ (List.getElem_mem this)
          · rw [hs, Nat.add_sub_cancel_left]
        · rw [if_neg h2] at h; cases h
      · rw [if_neg h1] at h; cases h
  · cases h
/-- What was sealed is opened, whatever stands behind it. -/
theorem sealed_open (k : Nat) (b t : List Nat) (m : Int) (hl : b.length < 18446744073709551616) (hm : (b.length : Int) ≤ m) : M.openR (M.sealed k b ++ t) m = .ok (k, b, (M.sealed k b).length) := by
  have e : M.sealed k b ++ t = k :: (M.code b.length ++ (b ++ (M.le4 (M.crc (M.head k b)) ++ t))) := by simp [M.sealed, M.head]
  have hT : M.takeN (M.sealed k b ++ t) 1 = some (b.length, 1 + (M.code b.length).length) := by
    rw [e, takeN_tail]
    unfold M.takeN
    rw [if_pos (by decide)]
    show Option.map _ (Option.map _ (M.parse (M.code b.length ++ _))) = _
    rw [M.parse_code _ hl]
    simp [Nat.add_comm]
  have hsl := M.sealed_length k b
  unfold M.openR
  rw [hT]
  dsimp only
  rw [if_pos ⟨hm, by rw [List.length_append, hsl]; omega⟩]
  have h1 : (M.sealed k b ++ t).take (1 + (M.code b.length).length + b.length) = M.head k b := by
    rw [← M.head_length k b, M.sealed, List.append_assoc, List.take_append_of_le_length (Nat.le_refl _), List.take_length]
  have h2 : ((M.sealed k b ++ t).drop (1 + (M.code b.length).length + b.length)).take 4 = M.le4 (M.crc (M.head k b)) := by
    rw [← M.head_length k b, M.sealed, List.append_assoc, List.drop_left]
    exact List.take_left (l₁ := M.le4 (M.crc (M.head k b)))
  rw [h1, if_pos h2, hsl]
  have h3 : ((M.sealed k b ++ t).drop (1 + (M.code b.length).length)).take b.length = b := by
    rw [e, Nat.add_comm 1, List.drop_succ_cons, List.drop_left, List.take_left]
  have h4 : (M.sealed k b ++ t)[0]?.getD 0 = k := by rw [e]; rfl
  rw [h3, h4]
end Go.Proofs.YthnffebjjnbakaaDoor
