/-
  The reference's lay.
  The reference's Lay.
-/
import Derived.Test.YtflghlmikpfnpaaDoorZLy
import Derived.Test.YtflghlmikpfnpaaDoorESmall
import Derived.Deep.LoopGhost
import Derived.Test.YtflghlmikpfnpaaDoorERops
import Derived.Test.YtflghlmikpfnpaaDoorEText
namespace Go.Proofs.YtflghlmikpfnpaaDoor.E
open Go.RowKit

theorem row_up {w w' : World} {A : Option Addr} {l : List Nat} (h : Row w w.heap.size A l) (hb : Below w.heap.size w w') : Row w' w'.heap.size A l := (h.below hb).more hb.size
/-- How far a node's bits are laid: its own, one kid's, both. -/
def pre (n : Int) (x y : Tr) : Nat → List Nat
  | 0 => 1 :: gam n.toNat
  | 1 => (1 :: gam n.toNat) ++ bitsE x
  | _ => ((1 :: gam n.toNat) ++ bitsE x) ++ bitsE y
theorem pre_all (n : Int) (x y : Tr) : pre n x y 2 = bitsE (.node n x y) := by simp [pre, bitsE]
/-- Laid so far, and no number was too great. -/
def Far (l : List Nat) (n : Nat) (N : Int) (x y : Tr) (j : Nat) (L : List Nat) (K : Nat) : Prop := L = M.putL l n (pre N x y j) ∧ K = n + (pre N x y j).length ∧ (1 ≤ j → smallT x = true) ∧ (2 ≤ j → smallT y = true)

set_option maxRecDepth 100000 in
set_option maxHeartbeats 6400000 in
theorem rlay_any : ∀ (t : Tr) (m : Int) (v : Value) (A : Option Addr) (c : Nat) (l : List Nat) (n : Nat) (w : World), Row w w.heap.size A l → M.Valid l n → l.length + (bitsE t).length ≤ 140737489400000 → t.okc m = true → m ≤ 4611686018427387904 → InT w w.heap.size t v →
    Calls Tryd.prog 61 #[.slice A l.length c, .int .i64 (n : Int), v] w (LayR (layE l n t) w) := by
  intro t
  induction t with
  | leaf N =>
    rintro m v A c l n w hr hV hl hok hm ⟨A1, c1, rfl⟩
    have hN := okc_N _ _ hok
    simp only [Tr.N] at hN
    simp only [bitsE, List.length_cons] at hl
    have hX0 := (XS.begin w).boxed (.int .i64 N) (.slice A1 0 c1) 24
    simp only [List.nil_append] at hX0
    have hc := rPut_yes A c l n 0 1 (w.alloc (.cells #[.int .i64 N, .slice A1 0 c1] 24)) (row_up hr hX0.bel) (by omega) hV (by decide) (by decide)
    rw [digs_bit 0 (by decide)] at hc
    have hV1 := M.put_valid [0] hr.1 hV (by simp)
    have hl1 := put_len hV [0]
    simp only [List.length_singleton] at hV1 hl1
    have HE : Hid (M.putL l n (bitsE (.leaf N)) = M.putL (M.putL l n [0]) (n + 1) (gam N.toNat)) := by
      show _ = _
      rw [show bitsE (.leaf N) = [0] ++ gam N.toNat from rfl, M.putL_append]; rfl
    have HE2 : Hid (n + (bitsE (.leaf N)).length = n + 1 + (gam N.toNat).length) := by show _ = _; simp only [bitsE, List.length_cons]; omega
    obtain ⟨L1, hL1⟩ : ∃ L1, M.putL l n [0] = L1 := ⟨_, rfl⟩
    obtain ⟨k1, hk1⟩ : ∃ k, n + 1 = k := ⟨_, rfl⟩
    rw [hL1, hk1] at hc hV1 HE
    rw [hL1] at hl1
    rw [hk1] at HE2
    obtain ⟨V, hVn⟩ : ∃ V : Nat, N = (V : Int) := ⟨N.toNat, by omega⟩
    subst hVn
    simp only [Int.toNat_natCast] at HE HE2 hl
    have hn2 := hV1.1
    have HX0 := Lib.hid hX0
    have HV1 := Lib.hid hV1
    have HNO : Hid (¬ V < 4611686018427387904 → ¬ (M.rightB L1 (k1 : Int) = true ∧ (V : Int) < 4611686018427387904)) := fun h h2 => by omega
    have HLE : Hid (layE l n (.leaf (V : Int)) = if V < 4611686018427387904 then some (M.putL L1 k1 (gam V), k1 + (gam V).length) else none) := by
      show _ = _
      unfold layE smallT
      rw [HE.out, HE2.out]
      by_cases h : V < 4611686018427387904
      · rw [if_pos (decide_eq_true (by omega)), if_pos h]
      · rw [if_neg (by simp; omega), if_neg h]
    obtain ⟨X, hX⟩ : ∃ X : Int, (V : Int) = X := ⟨_, rfl⟩
    have HX := Lib.hid hX
    have hX1 : 0 ≤ X := by omega
    have hX2 : X ≤ 4611686018427387904 := by omega
    have f0 := HX0.out.get (g := w.heap.size) (i := 0) (v := .int .i64 (V : Int)) (by simp)
    have f1 := HX0.out.get (g := w.heap.size) (i := 1) (v := .slice A1 0 c1) (by simp)
    rw [hX] at f0
    clear hX0 hr hV hV1 hL1 hk1 HE HE2 hok hN
    unfold tv
    rw [hX] at hc HX0 ⊢
    go_enter Tryd.func61, Tryd.ntmps61
    go_wp2_with fail
    refine hc.mono ?_
    rintro e w1 ⟨A3, c3, rfl, hr3, hb3⟩
    have HX1 := Lib.hid (HX0.out.next hb3)
    have g0 := HX1.out.get (g := w.heap.size) (i := 0) (v := .int .i64 X) (by simp)
    have g1 := HX1.out.get (g := w.heap.size) (i := 1) (v := .slice A1 0 c1) (by simp)
    have HR3 := Lib.hid hr3
    clear hc hb3 HX0 f0 f1 hr3
    by_cases hs : V < 4611686018427387904
    · have hco := rPutOwn_yes A3 c3 L1 k1 V w1 HR3.out (by omega) HV1.out hs
      have HN : Hid (layE l n (.leaf (V : Int)) = some (M.putL L1 k1 (gam V), k1 + (gam V).length)) := HLE.out.trans (if_pos hs)
      rw [hX] at hco
      obtain ⟨L2, hL2⟩ : ∃ L, M.putL L1 k1 (gam V) = L := ⟨_, rfl⟩
      obtain ⟨k2, hk2⟩ : ∃ k, k1 + (gam V).length = k := ⟨_, rfl⟩
      rw [hL2, hk2] at hco HN
      clear hL2 hk2 HLE HNO HV1 hs hl hl1 hn2 hX
      go_wp2_with fail
      refine hco.mono ?_
      rintro e w2 ⟨A4, c4, rfl, hr4, hb4⟩
      have HX2 := Lib.hid (HX1.out.next hb4)
      have h1 := HX2.out.get (g := w.heap.size) (i := 1) (v := .slice A1 0 c1) (by simp)
      have HR4 := Lib.hid hr4
      clear hco hb4 HX1 g0 g1 HR3 hr4
      go_wp2
      go_loopg [0, 1, 10, 11] 0 (fun m b p e i wr => m = 0 ∧ b = .slice A4 L2.length c4 ∧ p = .int .i64 (k2 : Int) ∧ e = .int .i64 0 ∧ i = .int .i64 0 ∧ wr = w2)
      case atStart => exact ⟨rfl, rfl, rfl, rfl, rfl, rfl⟩
      case round =>
        obtain ⟨hgk, rfl, rfl, rfl, rfl, rfl⟩ := hrel
        clear hgk
        go_wp2
        refine bodyPost_ret (v := .tuple #[.slice A4 L2.length c4, .int .i64 (k2 : Int), .int .i64 0]) (by simp [results, Tryd.f61, go_sem]) rfl ?_
        rw [← HX.out, HN.out]
        exact ⟨HX2.out.bel, .inl ⟨L2, k2, A4, c4, rfl, rfl, HR4.out⟩⟩
    · have hco := rPutOwn_no A3 c3 L1 (k1 : Int) (V : Int) w1 HR3.out (by omega) (by omega) (by omega) (HNO.out hs)
      have HN : Hid (layE l n (.leaf (V : Int)) = none) := HLE.out.trans (if_neg hs)
      rw [hX] at hco
      clear HLE HNO HV1 hs hl hl1 hn2 hX
      go_wp2_with fail
      refine hco.mono ?_
      rintro e w2 ⟨rfl, rfl⟩
      clear hco HR3
      go_wp2
      go_loopg [0, 1, 10, 11] 0 (fun m b p e i wr => m = 0 ∧ b = .slice none 0 0 ∧ p = .int .i64 0 ∧ e = .int .i64 2 ∧ i = .int .i64 0 ∧ wr = w1)
      case atStart => exact ⟨rfl, rfl, rfl, rfl, rfl, rfl⟩
      case round =>
        obtain ⟨hgk, rfl, rfl, rfl, rfl, rfl⟩ := hrel
        clear hgk
        go_wp2
        refine bodyPost_ret (v := .tuple #[.slice none 0 0, .int .i64 0, .int .i64 2]) (by simp [results, Tryd.f61, go_sem]) rfl ?_
        rw [← HX.out, HN.out]
        exact ⟨HX1.out.bel, .inr ⟨rfl, rfl⟩⟩
  | node N x y ihx ihy =>
    rintro m v A c l n w hr hV hl hok hm ⟨b, off, c1, rfl, hb, ⟨o1, A6, n6, d6, e1, e2, e3⟩, ⟨o2, A7, n7, d7, g1, g2, g3⟩⟩
    have hN := okc_N _ _ hok
    simp only [Tr.N] at hN
    simp only [Tr.okc, Bool.and_eq_true_iff] at hok
    have hgl := gam_len N.toNat (by omega)
    have hbl : (bitsE (.node N x y)).length = 1 + (gam N.toNat).length + (bitsE x).length + (bitsE y).length := by simp only [bitsE, List.length_cons, List.length_append]; omega
    rw [hbl] at hl
    have hb' : b < w.heap.size := hb
    have hX0 := (XS.begin w).boxed (.int .i64 N) (.slice (some ⟨b, off, none⟩) 2 c1) 24
    simp only [List.nil_append] at hX0
    have HX0 : Hid (XS w [(w.heap.size, 0, .int .i64 N), (w.heap.size, 1, .slice (some ⟨b, off, none⟩) 2 c1)] [] (w.alloc (.cells #[.int .i64 N, .slice (some ⟨b, off, none⟩) 2 c1] 24))) := hX0.sub (fun _ h => h) (by simp)
    have HF : Hid (∀ W, XS w [(w.heap.size, 0, .int .i64 N), (w.heap.size, 1, .slice (some ⟨b, off, none⟩) 2 c1)] [] W → W.cell? ⟨w.heap.size, 0, none⟩ = some (.int .i64 N) ∧ W.cell? ⟨w.heap.size, 1, none⟩ = some (.slice (some ⟨b, off, none⟩) 2 c1) ∧ W.cell? ⟨b, off, none⟩ = some (.int .i64 o1) ∧ W.cell? ⟨b, off + 1, none⟩ = some (.slice A6 n6 d6) ∧ W.cell? ⟨b, off + 2, none⟩ = some (.int .i64 o2) ∧ W.cell? ⟨b, off + 2 + 1, none⟩ = some (.slice A7 n7 d7)) := fun W hW => by
      have low : ∀ i, W.cell? ⟨b, i, none⟩ = w.cell? ⟨b, i, none⟩ := fun i => hW.bel.cell hb
      exact ⟨hW.get (by simp), hW.get (by simp), (low _).trans e1, (low _).trans e2, (low _).trans g1, (low _).trans g2⟩
    have hpre : ∀ j, ∀ q ∈ pre N x y j, q < 2 := fun j q hq => by
      have h2 : ∀ q ∈ bitsE (.node N x y), q < 2 := bitsE_lt _
      apply h2
      rw [← pre_all]
      match j, hq with
      | 0, hq => exact List.mem_append_left _ (List.mem_append_left _ hq)
      | 1, hq => exact List.mem_append_left _ hq
      | _ + 2, hq => exact hq
    have hvalid : ∀ j L K, Far l n N x y j L K → M.Valid L K ∧ L.length ≤ l.length + (pre N x y j).length := fun j L K h => by
      obtain ⟨rfl, rfl, _⟩ := h
      exact ⟨M.put_valid _ hr.1 hV (hpre j), put_len hV _⟩
    have HI0 : Hid (∀ W A' c' L K, XS w [(w.heap.size, 0, .int .i64 N), (w.heap.size, 1, .slice (some ⟨b, off, none⟩) 2 c1)] [] W → Row W W.heap.size A' L → Far l n N x y 0 L K → Calls Tryd.prog 61 #[.slice A' L.length c', .int .i64 (K : Int), .agg #[.int .i64 o1, .slice A6 n6 d6]] W (LayR (layE L K x) W)) := fun W A' c' L K hW hrow hfar => by
      have hv := hvalid 0 L K hfar
      have hp : (pre N x y 0).length = 1 + (gam N.toNat).length := by simp only [pre, List.length_cons]; omega
      exact ihx (m - N) _ A' c' L K W hrow hv.1 (by omega) hok.2.1 (by omega) (e3.up hW.bel)
    have HI1 : Hid (∀ W A' c' L K, XS w [(w.heap.size, 0, .int .i64 N), (w.heap.size, 1, .slice (some ⟨b, off, none⟩) 2 c1)] [] W → Row W W.heap.size A' L → Far l n N x y 1 L K → Calls Tryd.prog 61 #[.slice A' L.length c', .int .i64 (K : Int), .agg #[.int .i64 o2, .slice A7 n7 d7]] W (LayR (layE L K y) W)) := fun W A' c' L K hW hrow hfar => by
      have hv := hvalid 1 L K hfar
      have hp : (pre N x y 1).length = 1 + (gam N.toNat).length + (bitsE x).length := by simp only [pre, List.length_cons, List.length_append]; omega
      exact ihy (m - N) _ A' c' L K W hrow hv.1 (by omega) hok.2.2 (by omega) (g3.up hW.bel)
    have HG0 : Hid (∀ L K L5 K5, Far l n N x y 0 L K → layE L K x = some (L5, K5) → Far l n N x y 1 L5 K5) := fun L K L5 K5 h h5 => by
      obtain ⟨rfl, rfl, _⟩ := h
      unfold layE at h5
      split at h5
      · rename_i hsx
        simp only [Option.some.injEq, Prod.mk.injEq] at h5
        obtain ⟨rfl, rfl⟩ := h5
        refine ⟨?_, ?_, fun _ => hsx, fun h => by omega⟩
        · rw [show pre N x y 1 = pre N x y 0 ++ bitsE x from rfl, M.putL_append]
        · rw [show pre N x y 1 = pre N x y 0 ++ bitsE x from rfl, List.length_append]; omega
      · cases h5
    have HG1 : Hid (∀ L K L5 K5, Far l n N x y 1 L K → layE L K y = some (L5, K5) → Far l n N x y 2 L5 K5) := fun L K L5 K5 h h5 => by
      obtain ⟨rfl, rfl, hsx, _⟩ := h
      unfold layE at h5
      split at h5
      · rename_i hsy
        simp only [Option.some.injEq, Prod.mk.injEq] at h5
        obtain ⟨rfl, rfl⟩ := h5
        refine ⟨?_, ?_, fun _ => hsx (by omega), fun _ => hsy⟩
        · rw [show pre N x y 2 = pre N x y 1 ++ bitsE y from rfl, M.putL_append]
        · rw [show pre N x y 2 = pre N x y 1 ++ bitsE y from rfl, List.length_append]; omega
      · cases h5
    have hbad : ∀ L K (z : Tr), layE L K z = none → smallT z = false := fun L K z h => by
      unfold layE at h
      split at h
      · cases h
      · rename_i h2; simpa using h2
    have HB0 : Hid (∀ L K, Far l n N x y 0 L K → layE L K x = none → smallT (.node N x y) = false) := fun L K _ h => by simp only [smallT, hbad L K x h, Bool.false_and, Bool.and_false]
    have HB1 : Hid (∀ L K, Far l n N x y 1 L K → layE L K y = none → smallT (.node N x y) = false) := fun L K _ h => by simp only [smallT, hbad L K y h, Bool.and_false]
    have hc := rPut_yes A c l n 1 1 (w.alloc (.cells #[.int .i64 N, .slice (some ⟨b, off, none⟩) 2 c1] 24)) (row_up hr hX0.bel) (by omega) hV (by decide) (by decide)
    rw [digs_bit 1 (by decide)] at hc
    have hV1 := M.put_valid [1] hr.1 hV (by simp)
    have hl1 := put_len hV [1]
    simp only [List.length_singleton] at hV1 hl1
    have HP0 : Hid (M.putL (M.putL l n [1]) (n + 1) (gam N.toNat) = M.putL l n (pre N x y 0) ∧ n + 1 + (gam N.toNat).length = n + (pre N x y 0).length) := by
      refine ⟨?_, by simp only [pre, List.length_cons]; omega⟩
      rw [show pre N x y 0 = [1] ++ gam N.toNat from rfl, M.putL_append]; rfl
    obtain ⟨L1, hL1⟩ : ∃ L1, M.putL l n [1] = L1 := ⟨_, rfl⟩
    obtain ⟨k1, hk1⟩ : ∃ k, n + 1 = k := ⟨_, rfl⟩
    rw [hL1, hk1] at hc hV1 HP0
    rw [hL1] at hl1
    have hn2 := hV1.1
    have HV1 := Lib.hid hV1
    obtain ⟨f0, f1, _⟩ := HF.out _ HX0.out
    clear ihx ihy e1 e2 e3 g1 g2 g3 hX0 hpre hvalid hbad hr hV hV1 hL1 hk1 hok
    unfold tv
    go_enter Tryd.func61, Tryd.ntmps61
    go_wp2_with fail
    refine hc.mono ?_
    rintro e w1 ⟨A3, c3, rfl, hr3, hb3⟩
    have HX1 := Lib.hid (HX0.out.next hb3)
    have HR3 := Lib.hid hr3
    clear hc hb3 HX0 f0 f1 hr3
    obtain ⟨f0, f1, f2, f3, f4, f5⟩ := HF.out _ HX1.out
    by_cases hs : N < 4611686018427387904
    · have hco : Calls Tryd.prog 85 #[.slice A3 L1.length c3, .int .i64 (k1 : Int), .int .u64 N] w1 (Gives (M.putL L1 k1 (gam N.toNat)) (k1 + (gam N.toNat).length) w1) := by
        have := rPutOwn_yes A3 c3 L1 k1 N.toNat w1 HR3.out (by omega) HV1.out (by omega)
        rw [show ((N.toNat : Nat) : Int) = N by omega] at this
        exact this
      rw [HP0.out.1, HP0.out.2] at hco
      have HFIN : Hid (∀ L K, Far l n N x y 2 L K → layE l n (.node N x y) = some (L, K)) := fun L K h => by
        obtain ⟨rfl, rfl, hsx, hsy⟩ := h
        unfold layE
        rw [if_pos (by simp [smallT, hs, hsx (by omega), hsy (by omega)]), pre_all]
      have HF0 : Hid (Far l n N x y 0 (M.putL l n (pre N x y 0)) (n + (pre N x y 0).length)) := ⟨rfl, rfl, fun h => by omega, fun h => by omega⟩
      obtain ⟨L2, hL2⟩ : ∃ L, M.putL l n (pre N x y 0) = L := ⟨_, rfl⟩
      obtain ⟨k2, hk2⟩ : ∃ k, n + (pre N x y 0).length = k := ⟨_, rfl⟩
      rw [hL2, hk2] at hco HF0
      clear hL2 hk2 HV1 hl hl1 hn2 hgl hbl HP0
      go_wp2_with fail
      refine hco.mono ?_
      rintro e w2 ⟨A4, c4, rfl, hr4, hb4⟩
      have HX2 := Lib.hid (HX1.out.next hb4)
      have HR4 := Lib.hid hr4
      clear hco hb4 HX1 HR3 hr4 f0 f1 f2 f3 f4 f5
      go_wp2
      go_loopg [0, 1, 10, 11] 2 (fun m bb p e i wr => ∃ (j : Nat) (A1 : Option Addr) (c2 : Nat) (L : List Nat) (K : Nat) (E : Int), j ≤ 2 ∧ m = 2 - j ∧ bb = .slice A1 L.length c2 ∧ p = .int .i64 (K : Int) ∧ e = .int .i64 E ∧ i = .int .i64 (j : Int) ∧ Hid (XS w [(w.heap.size, 0, .int .i64 N), (w.heap.size, 1, .slice (some ⟨b, off, none⟩) 2 c1)] [] wr) ∧ ((E = 0 ∧ Hid (Row wr wr.heap.size A1 L) ∧ Hid (Far l n N x y j L K)) ∨ (E = 2 ∧ A1 = none ∧ c2 = 0 ∧ L = [] ∧ K = 0 ∧ Hid (smallT (.node N x y) = false))))
      case atStart => exact ⟨0, A4, c4, L2, k2, 0, by omega, rfl, rfl, rfl, rfl, rfl, HX2, .inl ⟨rfl, HR4, HF0⟩⟩
      case round =>
        obtain ⟨j, A1, c2, L, K, E, hj, hgk, rfl, rfl, rfl, rfl, HX, hst⟩ := hrel
        have HGK := Lib.hid hgk; clear hgk
        rcases hst with ⟨rfl, HROW, HFAR⟩ | ⟨rfl, rfl, rfl, rfl, rfl, HBAD⟩
        · obtain rfl | rfl | rfl : j = 0 ∨ j = 1 ∨ j = 2 := by omega
          · skip
            have hcx := HI0.out wr A1 c2 L K HX.out HROW.out HFAR.out
            obtain ⟨f0, f1, f2, f3, f4, f5⟩ := HF.out _ HX.out
            clear HROW
            go_wp2_with fail
            refine hcx.mono ?_
            rintro e w5 ⟨hb5, hcase⟩
            have HX5 := Lib.hid (HX.out.next hb5)
            rcases hcase with ⟨L5, K5, A5, c5, hr5, rfl, hrow5⟩ | ⟨hr5, rfl⟩
            · have HR5 := Lib.hid hrow5
              have HS5 := Lib.hid (HG0.out L K L5 K5 HFAR.out hr5)
              clear hcx hb5 hr5 hrow5 HX HFAR f0 f1 f2 f3 f4 f5
              go_wp2
              go_roundg (2 - 1)
              case measure => have := HGK.out; omega
              case rel => exact ⟨1, A5, c5, L5, K5, 0, by omega, rfl, rfl, rfl, rfl, rfl, HX5, .inl ⟨rfl, HR5, HS5⟩⟩
            · have HS5 := Lib.hid (HB0.out L K HFAR.out hr5)
              clear hcx hb5 hr5 HX HFAR f0 f1 f2 f3 f4 f5
              go_wp2
              go_roundg (2 - 1)
              case measure => have := HGK.out; omega
              case rel => exact ⟨1, none, 0, [], 0, 2, by omega, rfl, rfl, rfl, rfl, rfl, HX5, .inr ⟨rfl, rfl, rfl, rfl, rfl, HS5⟩⟩
          · skip
            have hcx := HI1.out wr A1 c2 L K HX.out HROW.out HFAR.out
            obtain ⟨f0, f1, f2, f3, f4, f5⟩ := HF.out _ HX.out
            clear HROW
            go_wp2_with fail
            refine hcx.mono ?_
            rintro e w5 ⟨hb5, hcase⟩
            have HX5 := Lib.hid (HX.out.next hb5)
            rcases hcase with ⟨L5, K5, A5, c5, hr5, rfl, hrow5⟩ | ⟨hr5, rfl⟩
            · have HR5 := Lib.hid hrow5
              have HS5 := Lib.hid (HG1.out L K L5 K5 HFAR.out hr5)
              clear hcx hb5 hr5 hrow5 HX HFAR f0 f1 f2 f3 f4 f5
              go_wp2
              go_roundg (2 - 2)
              case measure => have := HGK.out; omega
              case rel => exact ⟨2, A5, c5, L5, K5, 0, by omega, rfl, rfl, rfl, rfl, rfl, HX5, .inl ⟨rfl, HR5, HS5⟩⟩
            · have HS5 := Lib.hid (HB1.out L K HFAR.out hr5)
              clear hcx hb5 hr5 HX HFAR f0 f1 f2 f3 f4 f5
              go_wp2
              go_roundg (2 - 2)
              case measure => have := HGK.out; omega
              case rel => exact ⟨2, none, 0, [], 0, 2, by omega, rfl, rfl, rfl, rfl, rfl, HX5, .inr ⟨rfl, rfl, rfl, rfl, rfl, HS5⟩⟩
          · have HN := Lib.hid (HFIN.out L K HFAR.out)
            obtain ⟨f0, f1, f2, f3, f4, f5⟩ := HF.out _ HX.out
            clear HFAR
            go_wp2
            refine bodyPost_ret (v := .tuple #[.slice A1 L.length c2, .int .i64 (K : Int), .int .i64 0]) (by simp [results, Tryd.f61, go_sem]) rfl ?_
            rw [HN.out]
            exact ⟨HX.out.bel, .inl ⟨L, K, A1, c2, rfl, rfl, HROW.out⟩⟩
        · have HN : Hid (layE l n (.node N x y) = none) := by show _ = _; unfold layE; rw [if_neg (by rw [HBAD.out]; simp)]
          obtain ⟨f0, f1, f2, f3, f4, f5⟩ := HF.out _ HX.out
          by_cases hj2 : j < 2
          · go_wp2
            refine bodyPost_ret (v := .tuple #[.slice none 0 0, .int .i64 0, .int .i64 2]) (by simp [results, Tryd.f61, go_sem]) rfl ?_
            rw [HN.out]
            exact ⟨HX.out.bel, .inr ⟨rfl, rfl⟩⟩
          · go_wp2
            refine bodyPost_ret (v := .tuple #[.slice none 0 0, .int .i64 0, .int .i64 2]) (by simp [results, Tryd.f61, go_sem]) rfl ?_
            rw [HN.out]
            exact ⟨HX.out.bel, .inr ⟨rfl, rfl⟩⟩
    · have hco := rPutOwn_no A3 c3 L1 (k1 : Int) N w1 HR3.out (by omega) (by omega) (by omega) (fun h => hs h.2)
      have HBAD0 : Hid (smallT (.node N x y) = false) := by show _ = _; simp [smallT, hs]
      clear HV1 hl hl1 hn2 hgl hbl HP0
      go_wp2_with fail
      refine hco.mono ?_
      rintro e w2 ⟨rfl, rfl⟩
      clear hco HR3 f0 f1 f2 f3 f4 f5 HI0 HI1 HG0 HG1 HB0 HB1
      go_wp2
      go_loopg [0, 1, 10, 11] 0 (fun m b p e i wr => m = 0 ∧ b = .slice none 0 0 ∧ p = .int .i64 0 ∧ e = .int .i64 2 ∧ i = .int .i64 0 ∧ wr = w1)
      case atStart => exact ⟨rfl, rfl, rfl, rfl, rfl, rfl⟩
      case round =>
        obtain ⟨hgk, rfl, rfl, rfl, rfl, rfl⟩ := hrel
        clear hgk
        have HN : Hid (layE l n (.node N x y) = none) := by show _ = _; unfold layE; rw [if_neg (by rw [HBAD0.out]; simp)]
        obtain ⟨f0, f1, f2, f3, f4, f5⟩ := HF.out _ HX1.out
        go_wp2
        refine bodyPost_ret (v := .tuple #[.slice none 0 0, .int .i64 0, .int .i64 2]) (by simp [results, Tryd.f61, go_sem]) rfl ?_
        rw [HN.out]
        exact ⟨HX1.out.bel, .inr ⟨rfl, rfl⟩⟩
end Go.Proofs.YtflghlmikpfnpaaDoor.E

namespace Go.Proofs.YtflghlmikpfnpaaDoor.E
open Go.RowKit

/-- What Lay answers: bytes, how many bits, an error's number. -/
def layO (l : List Nat) (n : Int) (T : Option Tr) : List Nat × Nat × Int :=
  if M.rightB l n = true then (match T with
    | some t => if smallT t.norm = true then (M.putL l n.toNat (bitsE t.norm), n.toNat + (bitsE t.norm).length, 0) else ([], 0, 50)
    | none => ([], 0, 2)) else ([], 0, 2)
def AnsB (r : List Nat × Nat × Int) (w : World) (e : Ending) (w' : World) : Prop :=
  ∃ A c, e = .returned (.tuple #[.slice A r.1.length c, .int .i64 (r.2.1 : Int), .int .i64 r.2.2]) ∧ Row w' w'.heap.size A r.1 ∧ Below w.heap.size w w'
set_option maxRecDepth 100000 in
theorem make_own (L : Nat) (hL : L ≤ 140737488355328) (w : World) : ∃ W, (Instr.makeSlice 38 (.int .i64 0) (.int .i64 (L : Int))).run Tryd.prog w = .ok (.slice (some ⟨w.heap.size, 0, none⟩) 0 L) W ∧ OwnB W w.heap.size w.heap.size L [] ∧ Below w.heap.size w W := by
  obtain ⟨i0, hi, hz0, hz1, hz2⟩ := info_parts info5
  have h := run_make (P := Tryd.prog) w 38 5 i0 (.int .u8 0) Tryd.underlying38 hi hz0 .i64 .i64 0 (L : Int) (by omega) (by omega) (by rw [hz2]; omega) (by omega)
  refine ⟨_, h.trans (by rw [show ((L : Int)).toNat = L by omega]; rfl), ?_, (Below.refl _ w).alloc (Nat.le_refl _) _⟩
  refine ⟨by simp [cellsB], .inr ⟨w.heap.size, L, _, rfl, Nat.le_refl _, heap_alloc_new w _, Nat.zero_le _, by unfold maxLen; omega, ?_, by simp [cellsB]⟩⟩
  rw [size_madeCells, hz1]

set_option maxRecDepth 100000 in
set_option maxHeartbeats 6400000 in
theorem rLay_tree (A : Option Addr) (c : Nat) (l : List Nat) (n : Int) (T : Option Tr) (v : Value) (w : World) (hr : Row w w.heap.size A l) (hl : l.length ≤ 140737488351232) (h0 : -9223372036854775808 ≤ n) (h1 : n < 9223372036854775808) (hv : Arg w T v) :
    Calls Tryd.prog 30 #[.slice A l.length c, .int .i64 n, v] w (AnsB (layO l n T) w) := by
  obtain ⟨o, B, m, d, rfl⟩ := hv.form
  have HX := Lib.hid ((XS.begin w).boxed (.int .i64 o) (.slice B m d) 24)
  simp only [List.nil_append] at HX
  have hcr := Go.Proofs.YtflghlmikpfnpaaDoor.rright_any A c l n (w.alloc (.cells #[.int .i64 o, .slice B m d] 24)) _ (row_up hr HX.out.bel) (by omega) h0 h1
  have hcn := rnorm_arg (hv.up HX.out.bel)
  have HR := Lib.hid hr
  have HSM : Hid (∀ t, T = some t → okT t = true) := fun t ht => by subst ht; exact hv.inT.2
  have HRB : Hid (M.rightB l n = true → 0 ≤ n ∧ M.Valid l n.toNat) := fun h => M.rightB_true h
  have HLO : Hid (layO l n T = if M.rightB l n = true then (match T with | some t => if smallT t.norm = true then (M.putL l n.toNat (bitsE t.norm), n.toNat + (bitsE t.norm).length, (0 : Int)) else ([], 0, (50 : Int)) | none => ([], 0, (2 : Int))) else ([], 0, (2 : Int))) := rfl
  obtain ⟨q, hq⟩ : ∃ q, M.rightB l n = q := ⟨_, rfl⟩
  rw [hq] at hcr HRB HLO
  unfold tv at hcn ⊢
  clear hr hv hq h0 h1
  go_enter Tryd.func30, Tryd.ntmps30
  go_wp2_with fail
  refine hcr.mono ?_
  rintro e w1 ⟨rfl, rfl⟩
  clear hcr
  have p0 := HX.out.get (g := w.heap.size) (i := 0) (v := .int .i64 o) (by simp)
  have p1 := HX.out.get (g := w.heap.size) (i := 1) (v := .slice B m d) (by simp)
  go_wp2_with fail
  refine hcn.mono ?_
  rintro e w2 ⟨v2, rfl, h2, hb2⟩
  obtain ⟨B2, m2, d2, rfl⟩ := h2.form
  obtain ⟨o2, ho2⟩ : ∃ o, (normR T).1.N = o := ⟨_, rfl⟩
  rw [ho2] at h2 ⊢
  have HX2 := Lib.hid ((HX.out.next hb2).boxed (.int .i64 o2) (.slice B2 m2 d2) 24)
  simp only [List.cons_append, List.nil_append] at HX2
  have H2 := Lib.hid (h2.old.up ((Below.refl _ w2).alloc (Nat.le_refl _) (.cells #[.int .i64 o2, .slice B2 m2 d2] 24)))
  clear hcn HX hb2 h2 ho2 p0 p1
  unfold tv
  cases q with
  | false =>
    have HE : Hid (layO l n T = ([], 0, 2)) := by show _ = _; rw [HLO.out]; rfl
    clear HLO HRB HSM H2
    obtain ⟨z, hz⟩ : ∃ z, (normR T).2 = z := ⟨_, rfl⟩
    rw [hz]
    clear hz
    go_wp2
    refine bodyPost_ret (v := .tuple #[.slice none 0 0, .int .i64 0, .int .i64 2]) (by simp [results, Tryd.f30, go_sem]) rfl ?_
    rw [HE.out]
    exact ⟨none, 0, rfl, Row.none_ _ _ _, HX2.out.bel⟩
  | true =>
    cases T with
    | none =>
      have HE : Hid (layO l n none = ([], 0, 2)) := by show _ = _; rw [HLO.out]; rfl
      rw [show normR none = (.leaf 0, 2) from rfl]
      clear HLO HRB HSM H2
      go_wp2
      refine bodyPost_ret (v := .tuple #[.slice none 0 0, .int .i64 0, .int .i64 2]) (by simp [results, Tryd.f30, go_sem]) rfl ?_
      rw [HE.out]
      exact ⟨none, 0, rfl, Row.none_ _ _ _, HX2.out.bel⟩
    | some t =>
      rw [show normR (some t) = (t.norm, 0) from rfl] at *
      obtain ⟨hn0, hV⟩ := HRB.out rfl
      obtain ⟨N, rfl⟩ : ∃ N : Nat, n = (N : Int) := ⟨n.toNat, by omega⟩
      simp only [Int.toNat_natCast] at hV
      have hokn := (okT_iff _).1 (okT_norm (HSM.out t rfl))
      have HE : Hid (layO l (N : Int) (some t) = match layE l N t.norm with | some q => (q.1, q.2, (0 : Int)) | none => ([], 0, (50 : Int))) := by
        show _ = _
        rw [HLO.out]
        unfold layE
        simp only [if_true, Int.toNat_natCast]
        by_cases h : smallT t.norm = true
        · rw [if_pos h, if_pos h]
        · rw [if_neg h, if_neg h]
      have hbl := bitsE_len t.norm 4611686018427387904 hokn.2.1 (by omega)
      have hN : N ≤ 1125899906842624 := by have := hV.1; omega
      have HV := Lib.hid hV
      have hlen : l.length + (bitsE t.norm).length ≤ 140737489400000 := by omega
      have HLEN := Lib.hid hlen
      have HOKN := Lib.hid hokn
      have hXD : XS w [(w.heap.size, 0, .int .i64 o), (w.heap.size, 1, .slice B m d), (w2.heap.size, 0, .int .i64 o2), (w2.heap.size, 1, .slice B2 m2 d2)] [] (w2.alloc (.cells #[.int .i64 o2, .slice B2 m2 d2] 24)).drew := HX2.out.drew.sub (fun _ h => h) (by simp)
      have HB2 := Lib.hid (H2.out.up ((Below.refl (w2.alloc (.cells #[.int .i64 o2, .slice B2 m2 d2] 24)).heap.size (w2.alloc (.cells #[.int .i64 o2, .slice B2 m2 d2] 24))).drew))
      simp only at HB2
      clear HLO HRB HSM H2 HX2 hV hbl hlen hn0 hokn
      go_wp2
      refine wp_region_held_drew (S := fun W => XS w [(w.heap.size, 0, .int .i64 o), (w.heap.size, 1, .slice B m d), (w2.heap.size, 0, .int .i64 o2), (w2.heap.size, 1, .slice B2 m2 d2)] [] W) (by kernel_rfl) hXD (fun hS => ?_)
      clear hXD
      generalize (w2.alloc (.cells #[.int .i64 o2, .slice B2 m2 d2] 24)).drew = wd at hS HB2 ⊢
      refine wpAnyH_take (i := 0) (v := ?_) rfl (by kernel_rfl) (by kernel_rfl) (by kernel_rfl) (fun _ _ _ h => h) (Yields.yieldsIf (Or.inl ⟨by kernel_rfl, ?_⟩)) hS ?_
      rotate_left
      · first | (intro w; go_simp; done) | (intro w; go_simp; with_reducible rfl)
      refine wpAnyH_take (i := 1) (v := ?_) rfl (by kernel_rfl) (by kernel_rfl) (by kernel_rfl) (fun _ _ _ h => h) (Yields.yieldsIf (Or.inl ⟨by kernel_rfl, ?_⟩)) hS ?_
      rotate_left
      · first | (intro w; go_simp; done) | (intro w; go_simp; with_reducible rfl)
      refine wpAnyH_take (i := 3) (v := ?_) rfl (by kernel_rfl) (by kernel_rfl) (by kernel_rfl) (fun _ _ _ h => h) (Yields.yieldsIf (Or.inl ⟨by kernel_rfl, ?_⟩)) hS ?_
      rotate_left
      · first | (intro w; go_simp; done) | (intro w; go_simp; with_reducible rfl)
      refine wpAnyH_take (i := 5) (v := ?_) rfl (by kernel_rfl) (by kernel_rfl) (by kernel_rfl) (fun _ _ _ h => h) (Yields.yieldsIf (Or.inl ⟨by kernel_rfl, ?_⟩)) hS ?_
      rotate_left
      · first | (intro w; go_simp; done) | (intro w; go_simp; with_reducible rfl)
      refine wpAnyH_take (i := 6) (v := ?_) rfl (by kernel_rfl) (by kernel_rfl) (by kernel_rfl) (fun _ _ _ h => h) (Or.inl ⟨by kernel_rfl, fun W hW => ?_⟩) hS ?_
      rotate_left
      · have p0 := hW.get (g := w2.heap.size) (i := 0) (v := .int .i64 o2) (by simp)
        have p1 := hW.get (g := w2.heap.size) (i := 1) (v := .slice B2 m2 d2) (by simp)
        first | (go_simp; done) | (go_simp; with_reducible rfl)
      obtain ⟨W3, hmk, hg3, hb3⟩ := make_own l.length (by omega) wd
      obtain ⟨g4, c4, w4, hap, hg4, hb4⟩ := hg3.append A c l _ (row_up (row_up HR.out hS.bel) hb3) 38 (by simp; omega) hb3.size
      simp only [List.length_nil, Nat.zero_add, List.nil_append] at hap hg4
      have hb34 : Below wd.heap.size wd w4 := hb3.grown hb4 hb3.size (fun k e => by injection e with e; omega)
      have hS3 := hS.next hb3
      have HS4 := Lib.hid (hS.next hb34)
      have hrow : Row w4 w4.heap.size (some ⟨g4, 0, none⟩) l := hg4.row HR.out.1 hg4.lt.2
      have hc := rlay_any t.norm 4611686018427387904 _ (some ⟨g4, 0, none⟩) c4 l N w4 hrow HV.out HLEN.out HOKN.out.2.1 (by omega) (HB2.out.up hb34)
      have HAP := Lib.hid hap
      have HS3 := Lib.hid hS3
      unfold tv at hc
      clear hg3 hb3 hg4 hb4 hb34 hS3 hrow hap HB2 hS HV HLEN HOKN
      refine wpAnyH_ready (rs := [2]) (by kernel_rfl) (by simp) ?_
      refine AllReadyH.cons rfl (fun K hK => ?_) AllReadyH.nil
      go_simp
      go_wp2
      refine hK.out _ _ HS3.out (fun _ => ?_)
      clear hK K HS3
      refine wpAnyH_ready (rs := [4]) (by kernel_rfl) (by simp) ?_
      refine AllReadyH.cons rfl (fun K hK => ?_) AllReadyH.nil
      refine oper_append_run _ _ _ _ rfl _ _ rfl rfl HAP.out ?_
      clear HAP hmk
      go_simp
      refine hK.out _ _ HS4.out (fun hS => ?_)
      clear hK K HS4
      obtain ⟨r, hre⟩ : ∃ r, layE l N t.norm = r := ⟨_, rfl⟩
      rw [hre] at HE hc
      clear hre
      cases r with
      | some q =>
        obtain ⟨L5, K5⟩ := q
        have HC : Hid (Calls Tryd.prog 61 #[.slice (some ⟨g4, 0, none⟩) l.length c4, .int .i64 (N : Int), .agg #[.int .i64 o2, .slice B2 m2 d2]] w4 fun e w' => Below w4.heap.size w4 w' ∧ ∃ A c, e = .returned (.tuple #[.slice A L5.length c, .int .i64 (K5 : Int), .int .i64 0]) ∧ Row w' w'.heap.size A L5) := hc.mono fun e w' ⟨hb, h⟩ => by
          rcases h with ⟨L, K, A, c, h, he, hr⟩ | ⟨h, _⟩
          · simp only [Option.some.injEq, Prod.mk.injEq] at h
            obtain ⟨rfl, rfl⟩ := h
            exact ⟨hb, A, c, he, hr⟩
          · cases h
        have HE5 : Hid (layO l (N : Int) (some t) = (L5, K5, 0)) := HE.out
        clear hc HE
        refine wpAnyH_ready (rs := [7]) (by kernel_rfl) (by simp) ?_
        refine AllReadyH.cons rfl (fun K hK => ?_) AllReadyH.nil
        go_simp
        go_wp2_with (go_at_call 61; refine (HC.out).mono ?_; rintro e w5 ⟨hb5, A5, c5, rfl, hrow5⟩)
        have hS3 := hS.next hb5
        have HR5 := Lib.hid hrow5
        clear hb5 hS HC hrow5
        refine hK.out _ _ hS3 (fun hS => ?_)
        clear hK K hS3
        refine wpAnyH_take (i := 8) (v := ?_) rfl (by kernel_rfl) (by kernel_rfl) (by kernel_rfl) (fun _ _ _ h => h) (Yields.yieldsIf (Or.inl ⟨by kernel_rfl, ?_⟩)) hS ?_
        rotate_left
        · first | (intro w; go_simp; done) | (intro w; go_simp; with_reducible rfl)
        refine wpAnyH_take (i := 9) (v := ?_) rfl (by kernel_rfl) (by kernel_rfl) (by kernel_rfl) (fun _ _ _ h => h) (Yields.yieldsIf (Or.inl ⟨by kernel_rfl, ?_⟩)) hS ?_
        rotate_left
        · first | (intro w; go_simp; done) | (intro w; go_simp; with_reducible rfl)
        refine wpAnyH_take (i := 10) (v := ?_) rfl (by kernel_rfl) (by kernel_rfl) (by kernel_rfl) (fun _ _ _ h => h) (Yields.yieldsIf (Or.inl ⟨by kernel_rfl, ?_⟩)) hS ?_
        rotate_left
        · first | (intro w; go_simp; done) | (intro w; go_simp; with_reducible rfl)
        refine wpAnyH_take (i := 11) (v := ?_) rfl (by kernel_rfl) (by kernel_rfl) (by kernel_rfl) (fun _ _ _ h => h) (Yields.yieldsIf (Or.inl ⟨by kernel_rfl, ?_⟩)) hS ?_
        rotate_left
        · first | (intro w; go_simp; done) | (intro w; go_simp; with_reducible rfl)
        refine wpAnyH_take (i := 12) (v := ?_) rfl (by kernel_rfl) (by kernel_rfl) (by kernel_rfl) (fun _ _ _ h => h) (Yields.yieldsIf (Or.inl ⟨by kernel_rfl, ?_⟩)) hS ?_
        rotate_left
        · first | (intro w; go_simp; done) | (intro w; go_simp; with_reducible rfl)
        refine wpAnyH_take (i := 13) (v := ?_) rfl (by kernel_rfl) (by kernel_rfl) (by kernel_rfl) (fun _ _ _ h => h) (Yields.yieldsIf (Or.inl ⟨by kernel_rfl, ?_⟩)) hS ?_
        rotate_left
        · first | (intro w; go_simp; done) | (intro w; go_simp; with_reducible rfl)
        refine wpAnyH_take (i := 14) (v := ?_) rfl (by kernel_rfl) (by kernel_rfl) (by kernel_rfl) (fun _ _ _ h => h) (Yields.yieldsIf (Or.inl ⟨by kernel_rfl, ?_⟩)) hS ?_
        rotate_left
        · first | (intro w; go_simp; done) | (intro w; go_simp; with_reducible rfl)
        refine wpAnyH_done (by kernel_rfl) ?_ _
        have HBE := Lib.hid hS.bel
        clear hS
        go_wp2
        refine bodyPost_ret (v := .tuple #[.slice A5 L5.length c5, .int .i64 (K5 : Int), .int .i64 0]) (by simp [results, Tryd.f30, go_sem]) rfl ?_
        rw [HE5.out]
        exact ⟨A5, c5, rfl, HR5.out, HBE.out⟩
      | none =>
        have HC : Hid (Calls Tryd.prog 61 #[.slice (some ⟨g4, 0, none⟩) l.length c4, .int .i64 (N : Int), .agg #[.int .i64 o2, .slice B2 m2 d2]] w4 fun e w' => Below w4.heap.size w4 w' ∧ e = .returned (.tuple #[.slice none 0 0, .int .i64 0, .int .i64 2])) := hc.mono fun e w' ⟨hb, h⟩ => by
          rcases h with ⟨L, K, A, c, h, he, hr⟩ | ⟨_, h⟩
          · cases h
          · exact ⟨hb, h⟩
        have HE5 : Hid (layO l (N : Int) (some t) = ([], 0, 50)) := HE.out
        clear hc HE
        refine wpAnyH_ready (rs := [7]) (by kernel_rfl) (by simp) ?_
        refine AllReadyH.cons rfl (fun K hK => ?_) AllReadyH.nil
        go_simp
        go_wp2_with (go_at_call 61; refine (HC.out).mono ?_; rintro e w5 ⟨hb5, rfl⟩)
        have hS3 := hS.next hb5
        clear hb5 hS HC
        refine hK.out _ _ hS3 (fun hS => ?_)
        clear hK K hS3
        refine wpAnyH_take (i := 8) (v := ?_) rfl (by kernel_rfl) (by kernel_rfl) (by kernel_rfl) (fun _ _ _ h => h) (Yields.yieldsIf (Or.inl ⟨by kernel_rfl, ?_⟩)) hS ?_
        rotate_left
        · first | (intro w; go_simp; done) | (intro w; go_simp; with_reducible rfl)
        refine wpAnyH_take (i := 9) (v := ?_) rfl (by kernel_rfl) (by kernel_rfl) (by kernel_rfl) (fun _ _ _ h => h) (Yields.yieldsIf (Or.inl ⟨by kernel_rfl, ?_⟩)) hS ?_
        rotate_left
        · first | (intro w; go_simp; done) | (intro w; go_simp; with_reducible rfl)
        refine wpAnyH_take (i := 10) (v := ?_) rfl (by kernel_rfl) (by kernel_rfl) (by kernel_rfl) (fun _ _ _ h => h) (Yields.yieldsIf (Or.inl ⟨by kernel_rfl, ?_⟩)) hS ?_
        rotate_left
        · first | (intro w; go_simp; done) | (intro w; go_simp; with_reducible rfl)
        refine wpAnyH_take (i := 11) (v := ?_) rfl (by kernel_rfl) (by kernel_rfl) (by kernel_rfl) (fun _ _ _ h => h) (Yields.yieldsIf (Or.inl ⟨by kernel_rfl, ?_⟩)) hS ?_
        rotate_left
        · first | (intro w; go_simp; done) | (intro w; go_simp; with_reducible rfl)
        refine wpAnyH_take (i := 12) (v := ?_) rfl (by kernel_rfl) (by kernel_rfl) (by kernel_rfl) (fun _ _ _ h => h) (Yields.yieldsIf (Or.inl ⟨by kernel_rfl, ?_⟩)) hS ?_
        rotate_left
        · first | (intro w; go_simp; done) | (intro w; go_simp; with_reducible rfl)
        refine wpAnyH_take (i := 13) (v := ?_) rfl (by kernel_rfl) (by kernel_rfl) (by kernel_rfl) (fun _ _ _ h => h) (Yields.yieldsIf (Or.inl ⟨by kernel_rfl, ?_⟩)) hS ?_
        rotate_left
        · first | (intro w; go_simp; done) | (intro w; go_simp; with_reducible rfl)
        refine wpAnyH_take (i := 14) (v := ?_) rfl (by kernel_rfl) (by kernel_rfl) (by kernel_rfl) (fun _ _ _ h => h) (Yields.yieldsIf (Or.inl ⟨by kernel_rfl, ?_⟩)) hS ?_
        rotate_left
        · first | (intro w; go_simp; done) | (intro w; go_simp; with_reducible rfl)
        refine wpAnyH_done (by kernel_rfl) ?_ _
        have HBE := Lib.hid hS.bel
        clear hS
        go_wp2
        refine bodyPost_ret (v := .tuple #[.slice none 0 0, .int .i64 0, .int .i64 50]) (by simp [results, Tryd.f30, go_sem]) rfl ?_
        rw [HE5.out]
        exact ⟨none, 0, rfl, Row.none_ _ _ _, HBE.out⟩
end Go.Proofs.YtflghlmikpfnpaaDoor.E
