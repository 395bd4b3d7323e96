/- mean.Holds. -/
import Derived.Test.YtgcngmlndijppaaMean4
import Derived.Test.YtgcngmlndijppaaCnd2
import Derived.Test.YtgcngmlndijppaaRef16R
import Derived.Deep.RegionWith
namespace Go.Proofs.Ytgcngmlndijppaa
open Go.RowKit Go.ChangeShapes
set_option linter.unusedVariables false

set_option maxRecDepth 100000 in
theorem mnZero (kind : Int) (ka : Option Addr) (kn kc : Nat) (arg : Int) (mask : Nat) (sign : ByteArray) (value : Nat) (w : World) : Calls Try.prog 22 #[.agg #[.int .i64 kind, .slice ka kn kc, .int .i64 arg, .int .u64 (mask : Nat), .string sign, .int .u64 (value : Nat)]] w fun e w' => e = .returned (.bool (zeroV kind kn arg mask sign value)) ∧ Below w.heap.size w w' := by
  by_cases h : kind = 0
  · subst h
    by_cases h : arg = 0
    · subst h
      by_cases h : mask = 0
      · subst h
        by_cases h : sign = ⟨#[]⟩
        · subst h
          by_cases h : value = 0
          · subst h
            by_cases h : kn = 0
            · subst h
              go_enter Try.func22, Try.ntmps22
              go_wp2_with fail
              go_ret
              exact ⟨rfl, (Below.refl _ _).alloc (Nat.le_refl _) _⟩
            · have e : zeroV 0 kn 0 0 ⟨#[]⟩ 0 = false := by unfold zeroV bareV; simp [h]
              have e1 : ((kn : Int) == 0) = false := by rw [beq_eq_false_iff_ne]; omega
              have E := Lib.hid e
              clear e h
              go_enter Try.func22, Try.ntmps22
              go_wp2_with fail
              go_ret
              exact ⟨by rw [E.out]; rfl, (Below.refl _ _).alloc (Nat.le_refl _) _⟩
          · have e : zeroV 0 kn 0 0 ⟨#[]⟩ value = false := by unfold zeroV bareV; simp [h]
            have e1 : ((value : Int) == 0) = false := by rw [beq_eq_false_iff_ne]; omega
            have E := Lib.hid e
            clear e h
            go_enter Try.func22, Try.ntmps22
            go_wp2_with fail
            go_ret
            exact ⟨by rw [E.out]; rfl, (Below.refl _ _).alloc (Nat.le_refl _) _⟩
        · have e : zeroV 0 kn 0 0 sign value = false := by unfold zeroV bareV; simp [h]
          have e1 : (sign.toList == []) = false := by rw [← bare_tests]; exact ba_tne h
          have E := Lib.hid e
          clear e h
          go_enter Try.func22, Try.ntmps22
          go_wp2_with fail
          go_ret
          exact ⟨by rw [E.out]; rfl, (Below.refl _ _).alloc (Nat.le_refl _) _⟩
      · have e : zeroV 0 kn 0 mask sign value = false := by unfold zeroV bareV; simp [h]
        have e1 : ((mask : Int) == 0) = false := by rw [beq_eq_false_iff_ne]; omega
        have E := Lib.hid e
        clear e h
        go_enter Try.func22, Try.ntmps22
        go_wp2_with fail
        go_ret
        exact ⟨by rw [E.out]; rfl, (Below.refl _ _).alloc (Nat.le_refl _) _⟩
    · have e : zeroV 0 kn arg mask sign value = false := by unfold zeroV bareV; simp [h]
      have e1 : (arg == 0) = false := by rw [beq_eq_false_iff_ne]; exact h
      have E := Lib.hid e
      clear e h
      go_enter Try.func22, Try.ntmps22
      go_wp2_with fail
      go_ret
      exact ⟨by rw [E.out]; rfl, (Below.refl _ _).alloc (Nat.le_refl _) _⟩
  · have e : zeroV kind kn arg mask sign value = false := by unfold zeroV bareV; simp [h]
    have e1 : (kind == 0) = false := by rw [beq_eq_false_iff_ne]; exact h
    have E := Lib.hid e
    clear e h
    go_enter Try.func22, Try.ntmps22
    go_wp2_with fail
    go_ret
    exact ⟨by rw [E.out]; rfl, (Below.refl _ _).alloc (Nat.le_refl _) _⟩
set_option maxRecDepth 100000 in
set_option maxHeartbeats 1000000 in
theorem mnDoes (c : Cnd) (v : Value) (w : World) (x : Cal) (hx : x.ok) (h : IsCnd w v c) : Calls Try.prog 11 #[v, x.value] w fun e w' => e = .returned (.bool (c.does x.args)) ∧ Below w.heap.size w w' := by
  obtain ⟨hb, k, rfl, hk⟩ := id h
  obtain ⟨ka, kn, kc, rfl, hkn, _⟩ := id hk
  obtain ⟨nr, arch, ip, a0, a1, a2, a3, a4, a5, rfl⟩ := Cal.list6 hx
  obtain ⟨W, hW, f0, f1, hBW⟩ := two_at w (.cells #[.int .i64 c.kind, .slice ka kn kc, .int .i64 c.arg, .int .u64 (c.mask : Nat), .string c.sign, .int .u64 (c.value : Nat)] 25) (callO nr arch ip a0 a1 a2 a3 a4 a5)
  have hzz : c.zero = zeroV c.kind kn c.arg c.mask c.sign c.value := by unfold Cnd.zero; rw [hkn]
  have hd : c.does [a0, a1, a2, a3, a4, a5] = (c.zero || (c.right && c.holds [a0, a1, a2, a3, a4, a5])) := rfl
  have hZ := fun u => mnZero c.kind ka kn kc c.arg c.mask c.sign c.value u
  rw [← hzz] at hZ
  have hR := fun u (hu : Below W.heap.size W u) => tyRight_any c _ u (h.below (hBW.trans (hu.mono hBW.size)))
  have hS := fun u => signs_any u
  have hH := fun u r (hu : Below W.heap.size W u) hf hm => mnHolds c.size c (Nat.le_refl _) hf _ u _ hx r (h.below (hBW.trans (hu.mono hBW.size))) hm
  have hrf : c.right = true → c.fine = true := fun h => by unfold Cnd.right at h; rw [Bool.and_eq_true] at h; exact h.2
  generalize c.does _ = D at *
  show Calls _ _ #[.agg #[.int .i64 c.kind, .slice ka kn kc, .int .i64 c.arg, .int .u64 (c.mask : Nat), .string c.sign, .int .u64 (c.value : Nat)], callV nr arch ip a0 a1 a2 a3 a4 a5] _ _
  change ∀ u r, Below W.heap.size W u → _ → _ → Calls _ _ #[.agg #[.int .i64 c.kind, .slice ka kn kc, .int .i64 c.arg, .int .u64 (c.mask : Nat), .string c.sign, .int .u64 (c.value : Nat)], callV nr arch ip a0 a1 a2 a3 a4 a5, .map (some r)] _ _ at hH
  change ∀ u, Below W.heap.size W u → Calls _ _ #[.agg #[.int .i64 c.kind, .slice ka kn kc, .int .i64 c.arg, .int .u64 (c.mask : Nat), .string c.sign, .int .u64 (c.value : Nat)]] _ _ at hR
  unfold callV at hH ⊢
  unfold callO at hW f1
  have hcells : ∀ u, Below W.heap.size W u → u.cell? ⟨w.heap.size, 0, none⟩ = some (.int .i64 c.kind) ∧ u.cell? ⟨w.heap.size, 1, none⟩ = some (.slice ka kn kc) ∧ u.cell? ⟨w.heap.size, 2, none⟩ = some (.int .i64 c.arg) ∧ u.cell? ⟨w.heap.size, 3, none⟩ = some (.int .u64 (c.mask : Nat)) ∧ u.cell? ⟨w.heap.size, 4, none⟩ = some (.string c.sign) ∧ u.cell? ⟨w.heap.size, 5, none⟩ = some (.int .u64 (c.value : Nat)) ∧ u.cell? ⟨w.heap.size + 1, 0, none⟩ = some (.int .u32 (nr : Nat)) ∧ u.cell? ⟨w.heap.size + 1, 1, none⟩ = some (.int .u32 (arch : Nat)) ∧ u.cell? ⟨w.heap.size + 1, 2, none⟩ = some (.int .u64 (ip : Nat)) ∧ u.cell? ⟨w.heap.size + 1, 3, none⟩ = some (.int .u64 (a0 : Nat)) ∧ u.cell? ⟨w.heap.size + 1, 4, none⟩ = some (.int .u64 (a1 : Nat)) ∧ u.cell? ⟨w.heap.size + 1, 5, none⟩ = some (.int .u64 (a2 : Nat)) ∧ u.cell? ⟨w.heap.size + 1, 6, none⟩ = some (.int .u64 (a3 : Nat)) ∧ u.cell? ⟨w.heap.size + 1, 7, none⟩ = some (.int .u64 (a4 : Nat)) ∧ u.cell? ⟨w.heap.size + 1, 8, none⟩ = some (.int .u64 (a5 : Nat)) := fun u hu => ⟨below_cell hu f0 0 rfl, below_cell hu f0 1 rfl, below_cell hu f0 2 rfl, below_cell hu f0 3 rfl, below_cell hu f0 4 rfl, below_cell hu f0 5 rfl, below_cell hu f1 0 rfl, below_cell hu f1 1 rfl, below_cell hu f1 2 rfl, below_cell hu f1 3 rfl, below_cell hu f1 4 rfl, below_cell hu f1 5 rfl, below_cell hu f1 6 rfl, below_cell hu f1 7 rfl, below_cell hu f1 8 rfl⟩
  have HCL := Lib.hid hcells
  have hbW := Below.refl W.heap.size W
  have HZ := Lib.hid hZ; have HR := Lib.hid hR; have HS := Lib.hid hS; have HH := Lib.hid hH; have HBW := Lib.hid hBW; have HD := Lib.hid hd; have HRF := Lib.hid hrf; have F0 := Lib.hid f0; have F1 := Lib.hid f1
  clear hZ hR hS hH hBW hd hrf f0 f1 hcells h hk hb hzz hx hkn
  go_enter Try.func11, Try.ntmps11
  go_upto_region 1 with fail
  rw [← hW]
  clear hW
  obtain ⟨g0, g1, g2, g3, g4, g5, g6, g7, g8, g9, g10, g11, g12, g13, g14⟩ := HCL.out W hbW
  go_wp2_with fail
  refine (HZ.out _).mono ?_
  rintro e w2 ⟨rfl, hb2⟩
  clear g0 g1 g2 g3 g4 g5 g6 g7 g8 g9 g10 g11 g12 g13 g14
  obtain ⟨g0, g1, g2, g3, g4, g5, g6, g7, g8, g9, g10, g11, g12, g13, g14⟩ := HCL.out w2 hb2
  have HX2 := Lib.hid hb2
  clear HZ hb2 hbW F0 F1
  generalize c.zero = Z at *
  cases Z
  · generalize hrg : c.right = Rg at *
    cases Rg
    · go_upto_region 3 with fail
      have hbw2 := HX2.out
      clear g0 g1 g2 g3 g4 g5 g6 g7 g8 g9 g10 g11 g12 g13 g14
      have k : ∀ x : KeepT w2, Below W.heap.size W x.val := fun x => hbw2.trans (x.below.mono hbw2.size)
      have kc := fun x => HCL.out _ (k x)
      have HRK := Lib.hid (fun x => HR.out _ (k x))
      have g0 := fun x => (kc x).1
      have g1 := fun x => (kc x).2.1
      have g2 := fun x => (kc x).2.2.1
      have g3 := fun x => (kc x).2.2.2.1
      have g4 := fun x => (kc x).2.2.2.2.1
      have g5 := fun x => (kc x).2.2.2.2.2.1
      have KK := Lib.hid k
      clear k kc
      have hb22 := Below.refl w2.heap.size w2
      refine wp_region_keep (w0 := w2) (by kernel_rfl) (by kernel_rfl) hb22 ?_
      repeat (go_big_quiet_step ((first | (go_at_call 23; exact keepCall (HRK.out _)))))
      refine wpQuiet_nil ?_
      rintro w3 ⟨x, rfl⟩
      have HB3 := Lib.hid (HBW.out.trans ((KK.out x).mono HBW.out.size))
      generalize x.val = w3 at *
      clear g0 g1 g2 g3 g4 g5
      go_wp2_with fail
      go_ret
      exact ⟨by rw [HD.out]; rfl, HB3.out⟩
    · have hfine := HRF.out rfl
      have HFN := Lib.hid hfine
      have hdr := HX2.out.drew
      have HDR := Lib.hid hdr
      clear hfine hdr
      go_upto_region 3 with fail
      go_region_with (first
        | (go_at_call 23; refine (HR.out _ ?_).mono ?_; exact HDR.out; rintro e w3 ⟨rfl, hb3⟩; have hy3 := HDR.out.trans ((show Below w2.drew.heap.size w2.drew w3 from hb3).mono HDR.out.size); obtain ⟨p0, p1, p2, p3, p4, p5, p6, p7, p8, p9, p10, p11, p12, p13, p14⟩ := HCL.out w3 hy3)
        | (go_at_call 25; refine (HS.out _).mono ?_; rintro e w4 ⟨r, rfl, hm4, hb4, hr4⟩; have hy4 := hy3.trans (hb4.mono hy3.size); obtain ⟨q0, q1, q2, q3, q4, q5, q6, q7, q8, q9, q10, q11, q12, q13, q14⟩ := HCL.out w4 hy4)
        | (go_at_call 24; refine (HH.out _ r hy4 HFN.out hm4).mono ?_; rintro e w5 ⟨rfl, hb5⟩; have hy5 := hy4.trans (hb5.mono hy4.size)))
      all_goals
        have hf5 := HBW.out.trans (hy5.mono HBW.out.size)
        have HF5 := Lib.hid hf5
        clear hf5 hb3 hb4 hb5 hy3 hy4 hy5 p0 p1 p2 p3 p4 p5 p6 p7 p8 p9 p10 p11 p12 p13 p14 q0 q1 q2 q3 q4 q5 q6 q7 q8 q9 q10 q11 q12 q13 q14
        go_wp2_with fail
        go_ret
        exact ⟨by rw [HD.out]; rfl, HF5.out⟩
  · go_wp2_with fail
    go_ret
    exact ⟨by rw [HD.out]; rfl, (HBW.out.trans (HX2.out.mono HBW.out.size))⟩
end Go.Proofs.Ytgcngmlndijppaa
