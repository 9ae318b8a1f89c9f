/-
  What comes in: slices of bytes.
  EventBits: the walk of the law.
  The law EventBits answers true for every input, and leaves what it was given as it was; the tables that its library reads are tied to the program's own text. Conditions: none beside the form's own.
-/
import Derived.Test.YtflghlmikpfnpaaDoorEGate
import Derived.Test.YtflghlmikpfnpaaDoorLeaf
import Derived.Test.YtflghlmikpfnpaaDoorZLay
import Derived.Test.YtflghlmikpfnpaaDoorZTk
import Derived.Test.YtflghlmikpfnpaaDoorEThree
namespace Go.Proofs.YtflghlmikpfnpaaDoor.E
open Go.ChangeShapes Go.WideShapes Go.ChangeAt Go.RowKit Go.Deep

theorem openB {H : Type} {enc : TypeId × Value → H} {W : World} {a : Option Addr} {len cap : Nat} {d : DataW H} {p : List MemPlace} (h : DataW.Trod enc Tryd.prog W 0 (fun _ => true) true 38 (.slice a len cap) d p) :
    ∃ l : List Nat, len = l.length ∧ Row W W.heap.size a l ∧ (l.length = 0 ∨ ∃ elems spare, d = .slice elems spare ∧ l.length ≤ elems.length + spare.length) ∧ l.length ≤ cap := by
  obtain ⟨fuel, hf⟩ := h
  rcases open_ints Tryd.underlying38 Tryd.underlying5 (by kernel_rfl) hf with ⟨hcs, _⟩ | ⟨x, l, c, zs, hcs, _, hl, hm, hz, hx, hcell, hwz⟩
  · simp [Value.cells] at hcs
    obtain ⟨rfl, rfl, rfl⟩ := hcs
    exact ⟨[], rfl, Row.none_ _ _ _, .inl rfl, by simp⟩
  · simp [Value.cells] at hcs
    obtain ⟨rfl, rfl, rfl⟩ := hcs
    simp only [if_true] at hz
    simp only [Prod.mk.injEq] at hx
    have hlen : len = ((zs.take len).map Int.toNat).length := by simp; omega
    have hby : ∀ z ∈ zs, 0 ≤ z ∧ z < 256 := by
      intro z hzm
      have := hwz z hzm
      have := bounds_u8 this
      omega
    refine ⟨(zs.take len).map Int.toNat, hlen, ⟨?_, fun hpos => ?_⟩, ?_, by rw [← hlen]; exact hl⟩
    · intro y hy
      obtain ⟨z, hz1, rfl⟩ := List.mem_map.1 hy
      have := hby z (List.mem_of_mem_take hz1)
      omega
    · have hlp : 0 < len := by omega
      have hc0 := hcell 0 (by omega)
      obtain ⟨b, off, spot⟩ := x
      have hspot : spot = none := by simpa [Addr.add] using World.cell?_spot hc0
      subst hspot
      have hc0' : W.cell? ⟨b, off, none⟩ = some (.int .u8 (zs.getD 0 0)) := by simpa [Addr.add] using hc0
      refine ⟨b, off, rfl, World.block_lt_of_cell? W _ hc0', fun j hj => ?_⟩
      have hj2 : j < len := by omega
      have hjz : j < zs.length := by omega
      have hadd : (⟨b, off, none⟩ : Addr).add j = ⟨b, off + j, none⟩ := by
        unfold Addr.add; split
        · rename_i h; subst h; rfl
        · rfl
      have := hcell j hjz
      rw [hadd] at this
      rw [this]
      have hb := hby _ (List.getElem_mem hjz)
      simp [hj2, hjz]
      omega
    · refine .inr ⟨_, _, hx.1, ?_⟩
      simp [lits]

end Go.Proofs.YtflghlmikpfnpaaDoor.E

namespace Go.Proofs.YtflghlmikpfnpaaDoor.E
open Go.RowKit

set_option maxRecDepth 100000 in
set_option maxHeartbeats 3200000 in
theorem bits_walk (A : Option Addr) (c : Nat) (l : List Nat) (n : Int) (T : Option Tr) (v : Value) (a : Int) (w : World) (htab : Tab w) (hr : Row w w.heap.size A l) (hl : l.length ≤ 140737488351232) (lc : l.length ≤ c) (bn : -9223372036854775808 ≤ n ∧ n ≤ 9223372036854775807) (hv : Arg w T v) (_ba : -9223372036854775808 ≤ a ∧ a ≤ 9223372036854775807) :
    Calls Tryd.prog 6 #[.slice A l.length c, .int .i64 n, v, .int .i64 a] w fun e w' => e = .returned (.bool true) ∧ Below w.heap.size w w' := by
  obtain ⟨o, B, m, d, rfl⟩ := hv.form
  have HX := Lib.hid ((XS.begin w).boxed (.int .i64 o) (.slice B m d) 24)
  simp only [List.nil_append] at HX
  have HTB := Lib.hid htab
  have HV := Lib.hid hv
  have HR := Lib.hid hr
  have HL := Lib.hid hl
  have HLC := Lib.hid lc
  have HN : Hid (-9223372036854775808 ≤ n ∧ n < 9223372036854775808) := ⟨by omega, by omega⟩
  obtain ⟨q, hq⟩ : ∃ q, layO l n T = q := ⟨_, rfl⟩
  obtain ⟨L, z1, z2⟩ := q
  have HQ := Lib.hid hq
  obtain ⟨q, hp⟩ : ∃ q, takeR l n a = q := ⟨_, rfl⟩
  obtain ⟨t3, y1, y2⟩ := q
  have HP := Lib.hid hp
  clear hv hr hl bn _ba lc hq hp htab
  unfold tv
  go_enter Tryd.func6, Tryd.ntmps6
  go_wp2_with fail
  refine (shown_any _ (HTB.out.up HX.out.bel)).mono ?_
  rintro e w1 ⟨rfl, hb1⟩
  have HX1 := Lib.hid (HX.out.next hb1)
  clear hb1 HX
  have p0 := HX1.out.get (g := w.heap.size) (i := 0) (v := .int .i64 o) (by simp)
  have p1 := HX1.out.get (g := w.heap.size) (i := 1) (v := .slice B m d) (by simp)
  have hc := lay_tree A c l n T _ w1 (row_up HR.out HX1.out.bel) HLC.out HL.out HN.out.1 HN.out.2 (HV.out.up HX1.out.bel)
  rw [HQ.out] at hc
  unfold tv at hc
  go_wp2_with fail
  refine hc.mono ?_
  rintro e w2 ⟨A2, c2, rfl, h2, hb2⟩
  simp only at h2 ⊢
  have HX2 := Lib.hid (HX1.out.next hb2)
  have H2 := Lib.hid h2
  clear hb2 HX1 hc p0 p1 h2
  have p0 := HX2.out.get (g := w.heap.size) (i := 0) (v := .int .i64 o) (by simp)
  have p1 := HX2.out.get (g := w.heap.size) (i := 1) (v := .slice B m d) (by simp)
  have hc := rLay_tree A c l n T _ w2 (row_up HR.out HX2.out.bel) HL.out HN.out.1 HN.out.2 (HV.out.up HX2.out.bel)
  rw [HQ.out] at hc
  unfold tv at hc
  go_wp2_with fail
  refine hc.mono ?_
  rintro e w3 ⟨A3, c3, rfl, h3, hb3⟩
  simp only at h3 ⊢
  have HX3 := Lib.hid (HX2.out.next hb3)
  have G2 := Lib.hid (row_up H2.out hb3)
  have G3 := Lib.hid h3
  clear hb3 HX2 hc p0 p1 h3 H2
  have hc := takeP_any A c l n a w3 (row_up HR.out HX3.out.bel) HL.out HN.out.1 HN.out.2
  rw [HP.out] at hc
  go_wp2_with fail
  refine hc.mono ?_
  rintro e w4 ⟨v4, rfl, h4, hb4⟩
  obtain ⟨A4, n4, c4, rfl⟩ := h4.form
  simp only at h4
  obtain ⟨o4, ho4⟩ : ∃ o, t3.N = o := ⟨_, rfl⟩
  rw [ho4] at h4 ⊢
  have hd4 : Below w4.heap.size w4 (w4.alloc (.cells #[.int .i64 o4, .slice A4 n4 c4] 24)) := (Below.refl _ w4).alloc (Nat.le_refl _) _
  have HX4 := Lib.hid ((HX3.out.next hb4).boxed (.int .i64 o4) (.slice A4 n4 c4) 24)
  simp only [List.nil_append, List.cons_append] at HX4
  have F2 := Lib.hid (row_up (row_up G2.out hb4) hd4)
  have F3 := Lib.hid (row_up (row_up G3.out hb4) hd4)
  have T4 := Lib.hid (h4.old.up hd4)
  clear hb4 hd4 h4 G2 G3 HX3 hc ho4
  unfold tv
  have hc := rTakeE_any A c l n a (w4.alloc (.cells #[.int .i64 o4, .slice A4 n4 c4] 24)) (row_up HR.out HX4.out.bel) HL.out HN.out.1 HN.out.2
  rw [HP.out] at hc
  go_wp2_with fail
  refine hc.mono ?_
  rintro e w5 ⟨v5, rfl, h5, hb5⟩
  obtain ⟨A5, n5, c5, rfl⟩ := h5.form
  simp only at h5
  obtain ⟨o5, ho5⟩ : ∃ o, t3.N = o := ⟨_, rfl⟩
  rw [ho5] at h5 ⊢
  have hd5 : Below w5.heap.size w5 (w5.alloc (.cells #[.int .i64 o5, .slice A5 n5 c5] 24)) := (Below.refl _ w5).alloc (Nat.le_refl _) _
  have HX5 := Lib.hid ((HX4.out.next hb5).boxed (.int .i64 o5) (.slice A5 n5 c5) 24)
  simp only [List.nil_append, List.cons_append] at HX5
  have E2 := row_up (row_up F2.out hb5) hd5
  have E3 := row_up (row_up F3.out hb5) hd5
  have T5 := h5.old.up hd5
  have S4 := (T4.out.up hb5).up hd5
  have hce := equal_any _ _ _ _ _ _ _ S4 T5
  rw [eqT_refl] at hce
  have hs2 := run_str A2 c2 L _ _ E2
  have hs3 := run_str A3 c3 L _ _ E3
  unfold tv at hce ⊢
  have p2 := HX5.out.get (g := w4.heap.size) (i := 0) (v := .int .i64 o4) (by simp)
  have p3 := HX5.out.get (g := w4.heap.size) (i := 1) (v := .slice A4 n4 c4) (by simp)
  have p4 := HX5.out.get (g := w5.heap.size) (i := 0) (v := .int .i64 o5) (by simp)
  have p5 := HX5.out.get (g := w5.heap.size) (i := 1) (v := .slice A5 n5 c5) (by simp)
  obtain ⟨S, hS⟩ : ∃ S, strB L = S := ⟨_, rfl⟩
  rw [hS] at hs2 hs3
  have hSS : (S.toList == S.toList) = true := by simp
  clear hb5 hd5 h5 F2 F3 HX4 hc T4 E2 E3 T5 S4 hS ho5
  go_wp2_with fail
  refine hce.mono ?_
  rintro e w6 ⟨rfl, hb6⟩
  have HX6 := Lib.hid (HX5.out.next hb6)
  clear hb6 HX5 p2 p3 p4 p5 hce hs2 hs3
  go_wp2
  go_ret
  exact ⟨ret_bool (by simp), HX6.out.bel⟩
end Go.Proofs.YtflghlmikpfnpaaDoor.E

namespace Go.Proofs.YtflghlmikpfnpaaDoor.eventBits
open Go.ChangeShapes Go.WideShapes Go.ChangeAt Go.RowKit Go.Proofs.YtflghlmikpfnpaaDoor.E
set_option linter.unusedVariables false

set_option maxRecDepth 100000 in
theorem lifted (os : Os) (started : os.Started) (H : Type) (enc : TypeId × Value → H) :
    ReturnsInHanded {} Tryd.checked os 6 .any (fun w args => (Rows.eventBitsSpec.pre enc Tryd.prog Tryd.f6 [] false w args ∧ laidMetH Tryd.prog laid3 w) ∧ sizedMet enc Tryd.prog Tryd.f6 (OpenSpec.ofChange Rows.eventBitsSpec) false w args)
      (Rows.eventBitsSpec.post enc Tryd.prog Tryd.f6 false true false false) := by
  refine returnsInHanded_of_change_and (C := Tryd.checked) (X := fun w _ => laidMetH Tryd.prog laid3 w) (fun _ _ _ hh h => h.of_heap hh) own started (by kernel_rfl) Tryd.func6
    (ChangeSpec.witness_shaped (enc := enc) (C := Tryd.checked) (os := os) (X := fun w _ => laidMetH Tryd.prog laid3 w) false (World.doorLaid Tryd.prog 24 os) #[.slice none 0 0, .int .i64 0, .agg #[.int .i64 0, .slice none 0 0], .int .i64 0] 8 rfl (World.shaped_of_RefB (by kernel_rfl) (by kernel_rfl)) (by kernel_rfl) (by kernel_rfl) (by kernel_rfl) (door_met os _)) ?_
  intro W base args ds gs before hval0 hW _ hsz0 hL _
  have hval : ∀ (j : Nat) t v, Tryd.f6.params[j]? = some t → args[j]? = some v → Value.okWide Tryd.prog W .any base t v := hval0
  have hsz : (DataW.weightsEach Tryd.prog (Tryd.f6.params.toList ++ Rows.eventBitsSpec.plain.varTypes Tryd.prog) (ds ++ gs)).all (· ≤ reachBytes) = true := hsz0
  have hW' := hW
  obtain ⟨p, q, hA0, hV, rfl, hfz, hnd⟩ := hW
  have hA : DataW.TrodAll enc Tryd.prog W 0 (fun _ => true) true Tryd.f6.params.toList args.toList ds p := hA0
  rw [Tryd.params6] at hA hval hsz
  obtain ⟨v0, vs0, d0, ds0, p0, q0, hargs, rfl, rfl, h0, r0⟩ := trodAll_cons hA
  obtain ⟨v1, vs1, d1, ds1, p1, q1, rfl, rfl, rfl, h1, r1⟩ := trodAll_cons r0
  obtain ⟨v2, vs2, d2, ds2, p2, q2, rfl, rfl, rfl, h2, r2⟩ := trodAll_cons r1
  obtain ⟨v3, vs3, d3, ds3, p3, q3, rfl, rfl, rfl, h3, r3⟩ := trodAll_cons r2
  obtain ⟨rfl, rfl, rfl⟩ := trodAll_nil r3
  obtain rfl : args = #[v0, v1, v2, v3] := by cases args; simp_all
  obtain ⟨rfl, rfl⟩ := trodVars_none hV
  obtain ⟨a0, len0, cap0, rfl⟩ := okWide_slice Tryd.underlying38 (hval 0 38 v0 rfl rfl)
  have k0 := h0
  have lt0 : ∀ x ∈ p0, x.block < W.heap.size := by obtain ⟨m, hm⟩ := k0; exact DataW.trod_lt m _ _ _ hm
  obtain ⟨l0, rfl, row0, hle0, lc0⟩ := openB h0
  have reach0 : l0.length ≤ 140737488351232 := by
    rcases hle0 with h | ⟨elems, spare, h, hle⟩
    · omega
    · have := sized_slice hsz (j := 0) (t := 38) (e := 5) rfl (by rw [h]; rfl) Tryd.underlying38
      rw [bytes5] at this
      simp only [reachBytes] at this
      omega
  obtain ⟨a1, rfl, rfl, rfl, w1⟩ := open_int Tryd.underlying3 (hval 1 3 v1 rfl rfl) h1
  have b1 := bounds_i64 w1
  have k2 := h2
  have lt2 : ∀ x ∈ p2, x.block < W.heap.size := by obtain ⟨m, hm⟩ := k2; exact DataW.trod_lt m _ _ _ hm
  have arg2 := argI (hval 2 24 v2 rfl rfl) h2
  obtain ⟨T2, arg2⟩ := arg2
  obtain ⟨a3, rfl, rfl, rfl, w3⟩ := open_int Tryd.underlying3 (hval 3 3 v3 rfl rfl) h3
  have b3 := bounds_i64 w3
  clear hA0 hval0 hsz hsz0
  refine (bits_walk a0 cap0 l0 a1 T2 v2 a3 W (tab_of hL) row0 reach0 lc0 b1 arg2 b3).mono fun e W' ⟨he, bel⟩ => ?_
  subst he
  exact ⟨_, rfl, _, _, _, [], _, [], hW', trodAll_mk1 (shut_bool Tryd.underlying4 _), (trodAll_cons_mk (Below.trod laidOut (by kernel_rfl) (of_decide_eq_true (by kernel_rfl)) k0 bel lt0) (trodAll_cons_mk (shut_int Tryd.underlying3 w1) (trodAll_cons_mk (Below.trod laidOut (by kernel_rfl) (of_decide_eq_true (by kernel_rfl)) k2 bel lt2) (trodAll_cons_mk (shut_int Tryd.underlying3 w3) trodAll_mk0)))), rfl, bel.frame _, fun h => by cases h⟩

theorem over : Rows.eventBitsRow.holds Tryd.pinned (OpenSpec.ofChange Rows.eventBitsSpec) :=
  OpenClaim.holds_of_wide 6 Tryd.f6 rfl rfl rfl rfl rfl rfl rfl ⟨rfl, rfl, rfl, rfl, rfl⟩ rfl rfl rfl rfl rfl (by kernel_rfl) Tryd.func6 (by kernel_rfl)
    (of_decide_eq_true (by kernel_rfl)) (by unfold Func.isWrapper; first | (rw [if_pos (by decide +kernel)]; kernel_rfl) | (rw [if_neg (by decide +kernel)]; exact ⟨rfl, rfl⟩))
    (fun os started H enc _ => lifted os started H enc)

theorem proved : Rows.EventBitsCardSaid :=
  Claim7.holds_tied_plain_at .later [] [.data, .data, .data] true (true, "f73f9f6dd49a73373b1000461e477c02230f8f2a90d306b3bf6b56b414b907ff") false
    over (fun _ h => by cases h) (by kernel_rfl) (fun _ h => by cases h) eventBits_row_tie rfl ⟨rfl, rfl⟩ (by kernel_rfl) rfl
    (fun f fn hf hfn => by
      obtain rfl : f = 6 := Option.some.inj ((show Tryd.prog.funcNamed "pannier/pannierlaw05.EventBits" = some 6 by kernel_rfl).symm.trans hf) |>.symm
      obtain rfl : fn = Tryd.f6 := (Option.some.inj (Tryd.func6.symm.trans hfn)).symm
      exact ⟨by kernel_rfl, fun j t ht => by
        rw [Tryd.params6] at ht
        have hm : t ∈ [38, 3, 24, 3] := List.mem_of_getElem? (by simpa using ht)
        simp only [List.mem_cons, List.not_mem_nil, or_false] at hm
        rcases hm with rfl | rfl | rfl | rfl
        · exact (show Tryd.prog.wantsStandIn 38 = false by kernel_rfl)
        · exact (show Tryd.prog.wantsStandIn 3 = false by kernel_rfl)
        · exact (show Tryd.prog.wantsStandIn 24 = false by kernel_rfl)
        · exact (show Tryd.prog.wantsStandIn 3 = false by kernel_rfl)⟩)
    (by kernel_rfl)
#print axioms proved
end Go.Proofs.YtflghlmikpfnpaaDoor.eventBits
