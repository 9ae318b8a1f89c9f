/-
  deliver.
-/
import Derived.Test.YtdffifkleaekhaaPKeep
import Derived.Lib.AppendZeros
namespace Go.Proofs.Ytdffifkleaekhaa.O
open Go.RowKit Go.Proofs.Ytdffifkleaekhaa.V
set_option linter.unusedVariables false
set_option linter.unusedSimpArgs false

theorem putV_pos_len (v : List D) (s : ByteArray) (n : Int) : 0 < (putV ordA v s n).length := by
  cases v with
  | nil => simp [putV]
  | cons d t => simp only [putV]; split <;> simp
/-- With's answer: where it lies. -/
theorem with_lies {K : List D} {s : ByteArray} {n : Int} (hK : (withO K (s, n)).2 = 0) {A : Option Addr} {c B : Nat} {w : World} (hk : Vc.ok ⟨A, c, (withO K (s, n)).1⟩ w w.heap.size) (hf : ∀ k, blk A = some k → B ≤ k) : Lies A B w.heap.size := fun k h => by
  obtain ⟨_, _, _, _, e⟩ := with_zero hK
  have hp : 0 < (withO K (s, n)).1.length := by rw [e]; exact putV_pos_len _ _ _
  obtain ⟨g, off, e2, hg, _⟩ := hk.1 hp
  simp only at e2
  refine ⟨hf k h, ?_⟩
  rw [e2] at h
  simp [blk] at h
  omega

set_option maxRecDepth 100000 in
set_option maxHeartbeats 3200000 in
theorem deliver_any {p : Pv} {w : World} {b : Nat} (h : p.At w b) (s : ByteArray) (n : Int) (hK : (withO p.K (s, n)).2 = 0) (hl : p.ds.length ≤ 1000000) :
    Calls Try.prog 63 #[.pointer (some ⟨b, 0, none⟩), .agg #[.string s, .int .i64 n]] w fun e w' => ∃ Ad cd Ak ck, e = .returned (.tuple #[]) ∧ Step p w { p with Ad := Ad, cd := cd, Ak := Ak, ck := ck, ds := p.ds ++ [(s, n)], K := (withO p.K (s, n)).1 } w' b := by
  have hb1 : Below w.heap.size w (w.alloc (.cells #[.string s, .int .i64 n] 23)) := (Below.refl _ w).alloc (Nat.le_refl _) _
  have ht1 : Two (w.alloc (.cells #[.string s, .int .i64 n] 23)) w.heap.size (.string s) (.int .i64 n) := Two.new w _ _
  have HST0 : Hid (Step p w p ((w.alloc (.cells #[.string s, .int .i64 n] 23)).drew) b) := Step.of h hb1.drew
  have HBX : Hid (¬ p.own b w.heap.size ∧ w.heap.size ≠ b) := ⟨fun ho => by have := (h.own_lt _ ho).2; omega, by have := (h.own_lt b (.inl rfl)).2; omega⟩
  have HKL := Lib.hid (And.intro hK hl)
  obtain ⟨W1, hW1⟩ : ∃ W1, w.alloc (.cells #[.string s, .int .i64 n] 23) = W1 := ⟨_, rfl⟩
  have HWE := Lib.hid hW1
  rw [hW1] at hb1 ht1 HST0
  have HC : Hid (∀ W, But (p.own b) W1.drew W → W.cell? ⟨w.heap.size, 0, none⟩ = some (.string s) ∧ W.cell? ⟨w.heap.size, 1, none⟩ = some (.int .i64 n)) := fun W hW =>
    ⟨hW.cell (p := ⟨w.heap.size, 0, none⟩) HBX.out.1 ht1.c0, hW.cell (p := ⟨w.heap.size, 1, none⟩) HBX.out.1 ht1.c1⟩
  clear hW1 hb1 ht1 hK hl h
  go_enter Try.func63, Try.ntmps63
  go_upto_region 1 with fail
  rw [HWE.out]
  have hS0 : But (p.own b) W1.drew W1.drew := But.refl _ _
  refine wp_region_held_drew (S := fun W => But (p.own b) W1.drew W) (by kernel_rfl) hS0 (fun hS => ?_)
  clear hS0
  generalize W1.drew = Wd at *
  obtain ⟨kl, hkl⟩ : ∃ kl, p.K.length = kl := ⟨_, rfl⟩
  have HKN := Lib.hid hkl
  obtain ⟨Ak, hAk⟩ : ∃ A, p.Ak = A := ⟨_, rfl⟩
  obtain ⟨ck, hck⟩ : ∃ A, p.ck = A := ⟨_, rfl⟩
  have HAK := Lib.hid (And.intro hAk hck)
  have HC3 : Hid (Wd.cell? ⟨b, 3, none⟩ = some (.slice Ak kl ck)) := by
    have h0 := HST0.out.at_.box.at.c3
    rw [hkl, hAk, hck] at h0; exact h0
  clear hkl hAk hck
  refine wpAnyH_take (i := 0) (v := ?_) rfl (by kernel_rfl) (by kernel_rfl) (by kernel_rfl) (fun _ _ _ h => h) (Yields.yieldsIf (Or.inl ⟨by kernel_rfl, ?_⟩)) hS ?_
  rotate_left
  · first | (intro w; go_simp; done) | (intro w; go_simp; with_reducible rfl)
  refine wpAnyH_take (i := 1) (v := ?_) rfl (by kernel_rfl) (by kernel_rfl) (by kernel_rfl) (fun _ _ _ h => h) (Yields.yieldsIf (Or.inl ⟨by kernel_rfl, ?_⟩)) hS ?_
  rotate_left
  · first | (intro w; go_simp; done) | (intro w; go_simp; with_reducible rfl)
  refine wpAnyH_take (i := 2) (v := ?_) rfl (by kernel_rfl) (by kernel_rfl) (by kernel_rfl) (fun _ _ _ h => h) (Yields.yieldsIf (Or.inl ⟨by kernel_rfl, ?_⟩)) hS ?_
  rotate_left
  · first | (intro w; go_simp; done) | (intro w; go_simp; with_reducible rfl)
  refine wpAnyH_take (i := 3) (v := ?_) rfl (by kernel_rfl) (by kernel_rfl) (by kernel_rfl) (fun _ _ _ h => h) (Yields.yieldsIf (Or.inl ⟨by kernel_rfl, ?_⟩)) hS ?_
  rotate_left
  · first | (intro w; go_simp; done) | (intro w; go_simp; with_reducible rfl)
  refine wpAnyH_take (i := 5) (v := ?_) rfl (by kernel_rfl) (by kernel_rfl) (by kernel_rfl) (fun _ _ _ h => h) (Or.inl ⟨by kernel_rfl, fun W hW => ?_⟩) hS ?_
  rotate_left
  · obtain ⟨c0, c1⟩ := HC.out W hW
    first | (go_simp; done) | (go_simp; with_reducible rfl)
  try go_simp
  refine wpAnyH_ready (rs := [4]) (by kernel_rfl) (by simp) ?_
  refine AllReadyH.cons rfl (fun K hK => ?_) AllReadyH.nil
  have k3 := HC3.out
  go_simp
  have hS3 : But (p.own b) Wd Wd := But.refl _ _
  clear k3
  refine hK.out _ _ hS3 (fun hS => ?_)
  clear hK K hS3
  try go_simp
  refine wpAnyH_ready (rs := [6]) (by kernel_rfl) (by simp) ?_
  refine AllReadyH.cons rfl (fun K hK => ?_) AllReadyH.nil
  have hcall := with_fresh s n HST0.out.at_.k
  rw [HKN.out, HAK.out.1, HAK.out.2] at hcall
  go_simp
  go_wp2_with fail
  refine hcall.mono ?_
  rintro e wa ⟨⟨A4, c4, rfl, ok4, fr4⟩, hba⟩
  clear hcall
  have HFK : Hid (Step p Wd { p with Ak := A4, ck := c4, K := (withO p.K (s, n)).1 } (wa.setCell ⟨b, 3, none⟩ (.slice A4 (withO p.K (s, n)).1.length c4)) b) := HST0.out.at_.knows hba ok4 (with_lies HKL.out.1 ok4 fr4)
  have hS3 : But (p.own b) Wd wa := But.of hba
  have HFR : Hid (wa.frozen? ⟨b, 3, none⟩ = false ∧ ∃ v, wa.cell? ⟨b, 3, none⟩ = some v) := ⟨(HST0.out.at_.up hba).box.fr.f3, _, (HST0.out.at_.up hba).box.at.c3⟩
  clear ok4 fr4 hba
  obtain ⟨k4, hk4⟩ : ∃ k4, (withO p.K (s, n)).1.length = k4 := ⟨_, rfl⟩
  rw [hk4] at HFK ⊢
  clear hk4
  refine hK.out _ _ hS3 (fun hS => ?_)
  clear hK K hS3
  refine wpAnyH_take (i := 7) (v := ?_) rfl (by kernel_rfl) (by kernel_rfl) (by kernel_rfl) (fun _ _ _ h => h) (Yields.yieldsIf (Or.inl ⟨by kernel_rfl, ?_⟩)) hS ?_
  rotate_left
  · first | (intro w; go_simp; done) | (intro w; go_simp; with_reducible rfl)
  refine wpAnyH_take (i := 8) (v := ?_) rfl (by kernel_rfl) (by kernel_rfl) (by kernel_rfl) (fun _ _ _ h => h) (Yields.yieldsIf (Or.inl ⟨by kernel_rfl, ?_⟩)) hS ?_
  rotate_left
  · first | (intro w; go_simp; done) | (intro w; go_simp; with_reducible rfl)
  refine wpAnyH_take (i := 9) (v := ?_) rfl (by kernel_rfl) (by kernel_rfl) (by kernel_rfl) (fun _ _ _ h => h) (Yields.yieldsIf (Or.inl ⟨by kernel_rfl, ?_⟩)) hS ?_
  rotate_left
  · first | (intro w; go_simp; done) | (intro w; go_simp; with_reducible rfl)
  refine wpAnyH_take (i := 10) (v := ?_) rfl (by kernel_rfl) (by kernel_rfl) (by kernel_rfl) (fun _ _ _ h => h) (Yields.yieldsIf (Or.inl ⟨by kernel_rfl, ?_⟩)) hS ?_
  rotate_left
  · first | (intro w; go_simp; done) | (intro w; go_simp; with_reducible rfl)
  refine wpAnyH_take (i := 11) (v := ?_) rfl (by kernel_rfl) (by kernel_rfl) (by kernel_rfl) (fun _ _ _ h => h) (Yields.yieldsIf (Or.inl ⟨by kernel_rfl, ?_⟩)) hS ?_
  rotate_left
  · first | (intro w; go_simp; done) | (intro w; go_simp; with_reducible rfl)
  try go_simp
  refine wpAnyH_ready (rs := [12]) (by kernel_rfl) (by simp) ?_
  refine AllReadyH.cons rfl (fun K hK => ?_) AllReadyH.nil
  obtain ⟨f3, v3, g3⟩ := HFR.out
  go_simp
  go_wp2_with fail
  have hS3 : But (p.own b) Wd (wa.setCell ⟨b, 3, none⟩ (.slice A4 k4 c4)) := HFK.out.but
  clear f3 g3
  refine hK.out _ _ hS3 (fun hS => ?_)
  clear hK K hS3
  try go_simp
  refine wpAnyH_done (by kernel_rfl) ?_ _
  have HST1 : Hid (Step p w { p with Ak := A4, ck := c4, K := (withO p.K (s, n)).1 } (wa.setCell ⟨b, 3, none⟩ (.slice A4 k4 c4)).drew b) := HST0.out.trans (HFK.out.then (Below.refl _ _).drew)
  have HB1 : Hid (But (p.own b) Wd (wa.setCell ⟨b, 3, none⟩ (.slice A4 k4 c4)).drew) := HFK.out.but.drew
  clear HFK HST0 HC3 HFR hS
  generalize wa.setCell ⟨b, 3, none⟩ (.slice A4 k4 c4) = wb at *
  obtain ⟨p1, hp1⟩ : ∃ p1, { p with Ak := A4, ck := c4, K := (withO p.K (s, n)).1 } = p1 := ⟨_, rfl⟩
  rw [hp1] at HST1
  have HP1 := Lib.hid hp1
  clear hp1
  go_upto_region 2 with fail
  have hS0 : But (p1.own b) wb.drew wb.drew := But.refl _ _
  have HC2 : Hid (∀ W, But (p1.own b) wb.drew W → W.cell? ⟨w.heap.size, 0, none⟩ = some (.string s) ∧ W.cell? ⟨w.heap.size, 1, none⟩ = some (.int .i64 n)) := fun W hW => by
    have hb : But (p1.own b) wb.drew W := hW
    have hn : ¬ p1.own b w.heap.size := by rw [← HP1.out]; exact HBX.out.1
    obtain ⟨e0, e1⟩ := HC.out _ HB1.out
    exact ⟨hb.cell (p := ⟨w.heap.size, 0, none⟩) hn e0, hb.cell (p := ⟨w.heap.size, 1, none⟩) hn e1⟩
  refine wp_region_held_drew (S := fun W => But (p1.own b) wb.drew W) (by kernel_rfl) hS0 (fun hS => ?_)
  clear hS0 HC HB1
  generalize wb.drew = We at *
  have HL1 : Hid (p1.ds = p.ds) := by show _ = _; rw [← HP1.out]
  obtain ⟨dl, hdl⟩ : ∃ dl, p1.ds.length = dl := ⟨_, rfl⟩
  have HDL := Lib.hid hdl
  obtain ⟨Ad, hAd⟩ : ∃ A, p1.Ad = A := ⟨_, rfl⟩
  obtain ⟨cd, hcd⟩ : ∃ A, p1.cd = A := ⟨_, rfl⟩
  have HAD := Lib.hid (And.intro hAd hcd)
  obtain ⟨A', c', w', hrun, hg', hbl', hsm', hsz', hwh'⟩ := GrD.one HST1.out.at_.gd (s, n) 24 (by rw [HL1.out]; have := HKL.out.2; omega) (by have := (HST1.out.at_.own_lt b (.inl rfl)).2; omega)
  rw [hdl, hAd, hcd] at hrun
  simp only at hrun
  have HRUN := Lib.hid hrun
  have HG : Hid (Step p1 We { p1 with Ad := A', cd := c', ds := p1.ds ++ [(s, n)] } (w'.setCell ⟨b, 1, none⟩ (.slice A' (p1.ds ++ [(s, n)]).length c')) b) := HST1.out.at_.gives hg' hsm' hbl' hwh'
  have HFR2 : Hid (w'.frozen? ⟨b, 1, none⟩ = false ∧ ∃ v, w'.cell? ⟨b, 1, none⟩ = some v) := by
    have h0 : B4 w' b _ _ _ _ := (hsm' b (HST1.out.at_.own_lt b (.inl rfl)).2 HST1.out.at_.apart.2.1).trans HST1.out.at_.box
    exact ⟨h0.fr.f1, _, h0.at.c1⟩
  have HBW : Hid (But (p1.own b) We w') := ⟨hbl'.os, hbl'.tape, hbl'.output, hbl'.size, fun k hk hx => hsm' k hk fun e => hx (.inr (.inr (.inl e)))⟩
  have hlen : (p1.ds ++ [(s, n)]).length = dl + 1 := by rw [List.length_append, hdl]; rfl
  rw [hlen] at HG
  clear hdl hAd hcd hrun hg' hbl' hsm' hwh' hlen hsz'
  refine wpAnyH_take (i := 0) (v := ?_) rfl (by kernel_rfl) (by kernel_rfl) (by kernel_rfl) (fun _ _ _ h => h) (Yields.yieldsIf (Or.inl ⟨by kernel_rfl, ?_⟩)) hS ?_
  rotate_left
  · first | (intro w; go_simp; done) | (intro w; go_simp; with_reducible rfl)
  refine wpAnyH_take (i := 1) (v := ?_) rfl (by kernel_rfl) (by kernel_rfl) (by kernel_rfl) (fun _ _ _ h => h) (Yields.yieldsIf (Or.inl ⟨by kernel_rfl, ?_⟩)) hS ?_
  rotate_left
  · first | (intro w; go_simp; done) | (intro w; go_simp; with_reducible rfl)
  refine wpAnyH_take (i := 2) (v := ?_) rfl (by kernel_rfl) (by kernel_rfl) (by kernel_rfl) (fun _ _ _ h => h) (Yields.yieldsIf (Or.inl ⟨by kernel_rfl, ?_⟩)) hS ?_
  rotate_left
  · first | (intro w; go_simp; done) | (intro w; go_simp; with_reducible rfl)
  refine wpAnyH_take (i := 3) (v := ?_) rfl (by kernel_rfl) (by kernel_rfl) (by kernel_rfl) (fun _ _ _ h => h) (Yields.yieldsIf (Or.inl ⟨by kernel_rfl, ?_⟩)) hS ?_
  rotate_left
  · first | (intro w; go_simp; done) | (intro w; go_simp; with_reducible rfl)
  refine wpAnyH_take (i := 5) (v := ?_) rfl (by kernel_rfl) (by kernel_rfl) (by kernel_rfl) (fun _ _ _ h => h) (Or.inl ⟨by kernel_rfl, fun W hW => ?_⟩) hS ?_
  rotate_left
  · obtain ⟨c0, c1⟩ := HC2.out W hW
    first | (go_simp; done) | (go_simp; with_reducible rfl)
  try go_simp
  refine wpAnyH_ready (rs := [4, 6]) (by kernel_rfl) (by simp) ?_
  refine AllReadyH.cons rfl (fun K hK => ?_) (AllReadyH.cons rfl (fun K hK => ?_) AllReadyH.nil)
  · have k1 : (We).cell? ⟨b, 1, none⟩ = some (.slice Ad dl cd) := by
      have h0 := (show p1.At (We) b from HST1.out.at_).box.at.c1
      rw [HDL.out, HAD.out.1, HAD.out.2] at h0; exact h0
    go_simp
    have hS3 : But (p1.own b) We (We) := But.refl _ _
    clear k1
    refine hK.out _ _ hS3 (fun hS => ?_)
    clear hK K hS3
    try go_simp
    refine wpAnyH_ready (rs := [6]) (by kernel_rfl) (by simp) ?_
    refine AllReadyH.cons rfl (fun K hK => ?_) AllReadyH.nil
    go_simp
    go_wp2_with fail
    have hS3 : But (p1.own b) We (We.alloc (.cells #[.string s, .int .i64 n] 23)) := (But.refl _ We).alloc _
    refine hK.out _ _ hS3 (fun hS => ?_)
    clear hK K hS3
    try go_simp
    refine wpAnyH_ready (rs := [7]) (by kernel_rfl) (by simp) ?_
    refine AllReadyH.cons rfl (fun K hK => ?_) AllReadyH.nil
    refine Go.Lib.wp_append_run _ _ _ _ _ rfl _ _ rfl rfl _ _ HRUN.out ?_
    have hS3 : But (p1.own b) We w' := HBW.out
    refine hK.out _ _ hS3 (fun hS => ?_)
    clear hK K hS3
    refine wpAnyH_take (i := 8) (v := ?_) rfl (by kernel_rfl) (by kernel_rfl) (by kernel_rfl) (fun _ _ _ h => h) (Yields.yieldsIf (Or.inl ⟨by kernel_rfl, ?_⟩)) hS ?_
    rotate_left
    · first | (intro w; go_simp; done) | (intro w; go_simp; with_reducible rfl)
    refine wpAnyH_take (i := 9) (v := ?_) rfl (by kernel_rfl) (by kernel_rfl) (by kernel_rfl) (fun _ _ _ h => h) (Yields.yieldsIf (Or.inl ⟨by kernel_rfl, ?_⟩)) hS ?_
    rotate_left
    · first | (intro w; go_simp; done) | (intro w; go_simp; with_reducible rfl)
    try go_simp
    refine wpAnyH_ready (rs := [10]) (by kernel_rfl) (by simp) ?_
    refine AllReadyH.cons rfl (fun K hK => ?_) AllReadyH.nil
    obtain ⟨f1, v1, g1⟩ := HFR2.out
    go_simp
    go_wp2_with fail
    have hS3 : But (p1.own b) We (w'.setCell ⟨b, 1, none⟩ (.slice A' (dl + 1) c')) := HG.out.but
    clear f1 g1
    refine hK.out _ _ hS3 (fun hS => ?_)
    clear hK K hS3
    try go_simp
    refine wpAnyH_done (by kernel_rfl) ?_ _
    go_wp2
    go_end0
    refine ⟨A', c', A4, c4, rfl, ?_⟩
    have hfin := HST1.out.trans HG.out
    rw [← HP1.out] at hfin
    exact hfin
  · go_simp
    go_wp2_with fail
    have hS3 : But (p1.own b) We (We.alloc (.cells #[.string s, .int .i64 n] 23)) := (But.refl _ We).alloc _
    refine hK.out _ _ hS3 (fun hS => ?_)
    clear hK K hS3
    try go_simp
    refine wpAnyH_ready (rs := [4]) (by kernel_rfl) (by simp) ?_
    refine AllReadyH.cons rfl (fun K hK => ?_) AllReadyH.nil
    have k1 : (We.alloc (.cells #[.string s, .int .i64 n] 23)).cell? ⟨b, 1, none⟩ = some (.slice Ad dl cd) := by
      have h0 := (show p1.At (We.alloc (.cells #[.string s, .int .i64 n] 23)) b from HST1.out.at_.up ((Below.refl _ We).alloc (Nat.le_refl _) (.cells #[.string s, .int .i64 n] 23))).box.at.c1
      rw [HDL.out, HAD.out.1, HAD.out.2] at h0; exact h0
    go_simp
    have hS3 : But (p1.own b) We (We.alloc (.cells #[.string s, .int .i64 n] 23)) := (But.refl _ We).alloc _
    clear k1
    refine hK.out _ _ hS3 (fun hS => ?_)
    clear hK K hS3
    try go_simp
    refine wpAnyH_ready (rs := [7]) (by kernel_rfl) (by simp) ?_
    refine AllReadyH.cons rfl (fun K hK => ?_) AllReadyH.nil
    refine Go.Lib.wp_append_run _ _ _ _ _ rfl _ _ rfl rfl _ _ HRUN.out ?_
    have hS3 : But (p1.own b) We w' := HBW.out
    refine hK.out _ _ hS3 (fun hS => ?_)
    clear hK K hS3
    refine wpAnyH_take (i := 8) (v := ?_) rfl (by kernel_rfl) (by kernel_rfl) (by kernel_rfl) (fun _ _ _ h => h) (Yields.yieldsIf (Or.inl ⟨by kernel_rfl, ?_⟩)) hS ?_
    rotate_left
    · first | (intro w; go_simp; done) | (intro w; go_simp; with_reducible rfl)
    refine wpAnyH_take (i := 9) (v := ?_) rfl (by kernel_rfl) (by kernel_rfl) (by kernel_rfl) (fun _ _ _ h => h) (Yields.yieldsIf (Or.inl ⟨by kernel_rfl, ?_⟩)) hS ?_
    rotate_left
    · first | (intro w; go_simp; done) | (intro w; go_simp; with_reducible rfl)
    try go_simp
    refine wpAnyH_ready (rs := [10]) (by kernel_rfl) (by simp) ?_
    refine AllReadyH.cons rfl (fun K hK => ?_) AllReadyH.nil
    obtain ⟨f1, v1, g1⟩ := HFR2.out
    go_simp
    go_wp2_with fail
    have hS3 : But (p1.own b) We (w'.setCell ⟨b, 1, none⟩ (.slice A' (dl + 1) c')) := HG.out.but
    clear f1 g1
    refine hK.out _ _ hS3 (fun hS => ?_)
    clear hK K hS3
    try go_simp
    refine wpAnyH_done (by kernel_rfl) ?_ _
    go_wp2
    go_end0
    refine ⟨A', c', A4, c4, rfl, ?_⟩
    have hfin := HST1.out.trans HG.out
    rw [← HP1.out] at hfin
    exact hfin

end Go.Proofs.Ytdffifkleaekhaa.O
