/- The walk of EntryBack. -/
import Derived.Test.YtfpfcjgdihlieaaEnL
import Derived.Test.YtfpfcjgdihlieaaEnA
namespace Go.Proofs.Ytfpfcjgdihlieaa.lawEntryBack
open Go.RowKit
set_option linter.unusedVariables false

def CutR (w : World) (L : List En) (s : ByteArray) (a b : Value) (wx : World) : Prop := b = .string s ∧ IsEns wx a L ∧ Below w.heap.size w wx
set_option maxRecDepth 100000 in
set_option maxHeartbeats 2000000 in
theorem walk (v0 : Value) (l0 : List En) (s0 : ByteArray) (w : World) (w0 : IsEns w v0 l0) (w1 : s0.size ≤ maxLen) :
    Calls Try.prog 5 #[v0, .string s0] w fun e w' => e = .returned (.bool true) ∧ Below w.heap.size w w' := by
  unfold maxLen at w1
  obtain ⟨p, hp, hp1, hp2, hp3⟩ := min_if s0.size 3000 (by omega)
  have hpp : min (s0.size : Int) 3000 = p := by omega
  have hpI : (p : Int) ≤ s0.size := by omega
  have hxI : (s0.size : Int) ≤ 9223372036854775807 := by omega
  have HFW := Lib.hid (enFew l0 v0 w.drew (w0.below (Below.refl _ _).drew))
  have HAL := Lib.hid (fun u => enAlive u)
  have hl20 := fewE_len l0
  have hvl := fewE_vers l0
  generalize fewE l0 = L at *
  have HVL := Lib.hid hvl
  clear w0 hvl hp3
  go_enter Try.func5, Try.ntmps5
  go_upto_region 1 with fail
  go_cut [0, 1] (fun a b wx => CutR w L (s0.extract 0 p) a b wx)
  case first =>
    go_region_with (go_at_call 7; refine Calls.mono HFW.out ?_; rintro e w3 ⟨v3, rfl, hen, hb3⟩)
    all_goals
      go_wp2_with fail
      go_meet
      exact ⟨rfl, hen, (Below.refl _ _).drew.trans hb3⟩
  case rest =>
  obtain ⟨rfl, hen, hb2⟩ := hcut
  obtain ⟨s, hs⟩ : ∃ s, s0.extract 0 p = s := ⟨_, rfl⟩
  rw [hs]
  have hsz : s.size ≤ 3000 := by rw [← hs, ByteArray.size_extract]; omega
  have HEN := Lib.hid hen; have HB2 := Lib.hid hb2
  obtain ⟨A, n, cap, rfl, hln, _⟩ := id hen
  clear hs hp hp1 hp2 hpp hpI hxI w1 hen hb2 HFW
  have HUN := Lib.hid (fun u => enUnpack s u hsz)
  have hss : (s.toList == s.toList) = true := by simp
  have hways : (rightE L = false) ∨ (rightE L = true) := by cases rightE L <;> simp
  rcases hways with hr | hr
  · have HPK := Lib.hid (fun u hu => enPack_bad L (.slice A n cap) u hu hr)
    clear hr
    go_wp2_with fail
    refine (HPK.out _ HEN.out).mono ?_
    rintro e w4 ⟨rfl, hb4⟩
    have HW := Lib.hid (HB2.out.trans (hb4.mono HB2.out.size))
    clear hb4 HEN HB2 HPK hln
    go_wp2_with fail
    refine (HUN.out _).mono ?_
    rintro e w7 ⟨hb7, hpost⟩
    have HW7 := Lib.hid (HW.out.trans (hb7.mono HW.out.size))
    clear hb7 HW
    cases hu : unpE s with
    | none =>
      rw [hu] at hpost
      simp only at hpost
      subst hpost
      clear hu
      go_wp2_with fail
      refine (HAL.out _).mono ?_
      rintro e w8 ⟨rfl, hb8⟩
      have HW8 := Lib.hid (HW7.out.trans (hb8.mono HW7.out.size))
      clear hb8 HW7
      go_wp2_with fail
      go_ret
      exact ⟨rfl, HW8.out⟩
    | some m =>
      rw [hu] at hpost
      obtain ⟨v7, rfl, hen7⟩ := hpost
      obtain ⟨hr7, hpk⟩ := unp_some hu
      obtain ⟨A7, n7, cap7, rfl, _⟩ := id hen7
      have HP7 := Lib.hid (enPack_ok m _ w7 hen7 hr7)
      have HR7 := Lib.hid (fun u hu => enRight m (.slice A7 n7 cap7) u hu)
      rw [hpk] at HP7
      rw [hr7] at HR7
      have HE7 := Lib.hid hen7
      clear hu hr7 hpk hen7
      go_wp2_with fail
      refine HP7.out.mono ?_
      rintro e w8 ⟨rfl, hb8⟩
      have HW8 := Lib.hid (HW7.out.trans (hb8.mono HW7.out.size))
      have HE8 := Lib.hid (HE7.out.below hb8)
      clear hb8 HW7 HE7
      go_wp2_with fail
      refine (HAL.out _).mono ?_
      rintro e w9 ⟨rfl, hb9⟩
      have HW9 := Lib.hid (HW8.out.trans (hb9.mono HW8.out.size))
      have HE9 := Lib.hid (HE8.out.below hb9)
      clear hb9 HW8 HE8
      go_wp2_with fail
      refine (HR7.out _ HE9.out).mono ?_
      rintro e w10 ⟨rfl, hb10⟩
      have HW10 := Lib.hid (HW9.out.trans (hb10.mono HW9.out.size))
      clear hb10 HW9 HE9
      go_wp2_with fail
      go_ret
      exact ⟨rfl, HW10.out⟩
  · have HPK := Lib.hid (fun u hu => enPack_ok L (.slice A n cap) u hu hr)
    have hl8 : L.length ≤ 8 := by unfold rightE at hr; rw [Bool.and_eq_true, decide_eq_true_eq] at hr; exact hr.1
    have hlen := packB_le L hl8 (by unfold rightE at hr; rw [Bool.and_eq_true] at hr; exact okE_mem L none hr.2)
    have hu := unp_pack L hr
    obtain ⟨S, hS⟩ : ∃ S, (ByteArray.mk (packB L).toArray) = S := ⟨_, rfl⟩
    have hSz : S.size ≤ 640 := by rw [← hS, ba_size]; omega
    rw [hS] at HPK hu
    have hSI : (S.size : Int) ≤ 640 := by omega
    have HU := Lib.hid hu
    clear hr hu hS hlen
    go_wp2_with fail
    refine (HPK.out _ HEN.out).mono ?_
    rintro e w4 ⟨rfl, hb4⟩
    have HW := Lib.hid (HB2.out.trans (hb4.mono HB2.out.size))
    have HE4 := Lib.hid (HEN.out.below hb4)
    clear hb4 HEN HB2 HPK
    go_wp2_with fail
    refine (enUnpack S _ (by omega)).mono ?_
    rintro e w5 ⟨hb5, hpost⟩
    rw [HU.out] at hpost
    obtain ⟨v5, rfl, hen5⟩ := hpost
    obtain ⟨A5, n5, cap5, rfl, _⟩ := id hen5
    have HW5 := Lib.hid (HW.out.trans (hb5.mono HW.out.size))
    have HE5 := Lib.hid (HE4.out.below hb5)
    have HE5' := Lib.hid hen5
    clear hb5 hen5 HE4 HW HU
    go_wp2_with fail
    refine (refLikeSame L _ _ w5 HE5.out HE5'.out (by omega) (fun e he => by have := HVL.out e he; omega)).mono ?_
    rintro e w6 ⟨rfl, hb6⟩
    have HW := Lib.hid (HW5.out.trans (hb6.mono HW5.out.size))
    clear hb6 HE5 HE5' HW5 hln
    go_wp2_with fail
    refine (HUN.out _).mono ?_
    rintro e w7 ⟨hb7, hpost⟩
    have HW7 := Lib.hid (HW.out.trans (hb7.mono HW.out.size))
    clear hb7 HW
    cases hu : unpE s with
    | none =>
      rw [hu] at hpost
      simp only at hpost
      subst hpost
      clear hu
      go_wp2_with fail
      refine (HAL.out _).mono ?_
      rintro e w8 ⟨rfl, hb8⟩
      have HW8 := Lib.hid (HW7.out.trans (hb8.mono HW7.out.size))
      clear hb8 HW7
      go_wp2_with fail
      go_ret
      exact ⟨rfl, HW8.out⟩
    | some m =>
      rw [hu] at hpost
      obtain ⟨v7, rfl, hen7⟩ := hpost
      obtain ⟨hr7, hpk⟩ := unp_some hu
      obtain ⟨A7, n7, cap7, rfl, _⟩ := id hen7
      have HP7 := Lib.hid (enPack_ok m _ w7 hen7 hr7)
      have HR7 := Lib.hid (fun u hu => enRight m (.slice A7 n7 cap7) u hu)
      rw [hpk] at HP7
      rw [hr7] at HR7
      have HE7 := Lib.hid hen7
      clear hu hr7 hpk hen7
      go_wp2_with fail
      refine HP7.out.mono ?_
      rintro e w8 ⟨rfl, hb8⟩
      have HW8 := Lib.hid (HW7.out.trans (hb8.mono HW7.out.size))
      have HE8 := Lib.hid (HE7.out.below hb8)
      clear hb8 HW7 HE7
      go_wp2_with fail
      refine (HAL.out _).mono ?_
      rintro e w9 ⟨rfl, hb9⟩
      have HW9 := Lib.hid (HW8.out.trans (hb9.mono HW8.out.size))
      have HE9 := Lib.hid (HE8.out.below hb9)
      clear hb9 HW8 HE8
      go_wp2_with fail
      refine (HR7.out _ HE9.out).mono ?_
      rintro e w10 ⟨rfl, hb10⟩
      have HW10 := Lib.hid (HW9.out.trans (hb10.mono HW9.out.size))
      clear hb10 HW9 HE9
      go_wp2_with fail
      go_ret
      exact ⟨rfl, HW10.out⟩
end Go.Proofs.Ytfpfcjgdihlieaa.lawEntryBack
