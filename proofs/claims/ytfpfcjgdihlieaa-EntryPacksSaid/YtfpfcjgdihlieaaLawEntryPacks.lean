/- The walk of EntryPacks. -/
import Derived.Test.YtfpfcjgdihlieaaEnO
import Derived.Test.YtfpfcjgdihlieaaEnI
import Derived.Test.YtfpfcjgdihlieaaEnL
import Derived.Test.YtfpfcjgdihlieaaEnA
namespace Go.Proofs.Ytfpfcjgdihlieaa.lawEntryPacks
open Go.RowKit
set_option linter.unusedVariables false

def CutR (w : World) (L : List En) (s : ByteArray) (a b : Value) (wx : World) : Prop := b = .string s ∧ IsEns wx a L ∧ Below w.heap.size w wx
theorem none_ens (w : World) : IsEns w (.slice none 0 0) [] := ⟨none, 0, 0, rfl, rfl, Nat.le_refl _, by omega, fun _ => rfl, .inl rfl⟩
theorem right_facts {m : List En} (h : rightE m = true) : m.length ≤ 100000 ∧ ∀ e ∈ m, e.vers.length ≤ 100000 := by
  unfold rightE at h
  rw [Bool.and_eq_true, decide_eq_true_eq] at h
  exact ⟨by omega, fun e he => by have := (entOk_facts e (okE_mem m none h.2 e he)).1; omega⟩
set_option maxRecDepth 100000 in
set_option maxHeartbeats 2000000 in
theorem walk (v0 : Value) (l0 : List En) (s0 : ByteArray) (w : World) (w0 : IsEns w v0 l0) (w1 : s0.size ≤ maxLen) :
    Calls Try.prog 3 #[v0, .string s0] w fun e w' => e = .returned (.bool true) ∧ Below w.heap.size w w' := by
  unfold maxLen at w1
  obtain ⟨p, hp, hp1, hp2, hp3⟩ := min_if s0.size 3000 (by omega)
  have hpp : min (s0.size : Int) 3000 = p := by omega
  have hpI : (p : Int) ≤ s0.size := by omega
  have hxI : (s0.size : Int) ≤ 9223372036854775807 := by omega
  have HFW := Lib.hid (enFew l0 v0 w.drew (w0.below (Below.refl _ _).drew))
  have HAL := Lib.hid (fun u => enAlive u)
  have hl20 := fewE_len l0
  generalize fewE l0 = L at *
  clear w0 hp3
  go_enter Try.func3, Try.ntmps3
  go_upto_region 1 with fail
  go_cut [0, 1] (fun a b wx => CutR w L (s0.extract 0 p) a b wx)
  case first =>
    go_region_with (go_at_call 7; refine Calls.mono HFW.out ?_; rintro e w3 ⟨v3, rfl, hen, hb3⟩)
    all_goals
      go_wp2_with fail
      go_meet
      exact ⟨rfl, hen, (Below.refl _ _).drew.trans hb3⟩
  case rest =>
  obtain ⟨rfl, hen, hb2⟩ := hcut
  obtain ⟨s, hs⟩ : ∃ s, s0.extract 0 p = s := ⟨_, rfl⟩
  rw [hs]
  have hsz : s.size ≤ 3000 := by rw [← hs, ByteArray.size_extract]; omega
  have HEN := Lib.hid hen; have HB2 := Lib.hid hb2
  obtain ⟨A, n, cap, rfl, hln, _⟩ := id hen
  clear hs hp hp1 hp2 hpp hpI hxI w1 hen hb2 HFW
  have HUN := Lib.hid (fun u => enUnpack s u hsz)
  have HRU := Lib.hid (fun u => refUnpack s u hsz)
  have HER := Lib.hid (fun u hu => enRight L (.slice A n cap) u hu)
  have HRR := Lib.hid (fun u hu => refRight L (.slice A n cap) u hu (by omega))
  have hways : (rightE L = false) ∨ (rightE L = true) := by cases rightE L <;> simp
  rcases hways with hr | hr
  · have HPK := Lib.hid (fun u hu => enPack_bad L (.slice A n cap) u hu hr)
    rw [hr] at HER HRR
    clear hr hln
    go_wp2_with fail
    refine (HPK.out _ HEN.out).mono ?_
    rintro e w4 ⟨rfl, hb4⟩
    have HW := Lib.hid (HB2.out.trans (hb4.mono HB2.out.size))
    have HE := Lib.hid (HEN.out.below hb4)
    clear hb4 HEN HB2 HPK
    go_wp2_with fail
    refine (HUN.out _).mono ?_
    rintro e w5 ⟨hb5, hpost⟩
    obtain ⟨m, va, c, rfl, hm, hml, hmv, hpost2⟩ : ∃ (m : List En) (va : Value) (c : Int), e = .returned (.tuple #[va, .int .i64 c]) ∧ IsEns w5 va m ∧ m.length ≤ 100000 ∧ (∀ e ∈ m, e.vers.length ≤ 100000) ∧ (∀ e' w', UnpPost s w5 e' w' → ∃ vb, e' = .returned (.tuple #[vb, .int .i64 c]) ∧ IsEns w' vb m) := by
      cases hu : unpE s with
      | none =>
        rw [hu] at hpost
        exact ⟨[], _, _, hpost, none_ens _, by simp, by simp, fun e' w' ⟨_, h⟩ => by rw [hu] at h; exact ⟨_, h, none_ens _⟩⟩
      | some m =>
        rw [hu] at hpost
        obtain ⟨v7, h7, hen7⟩ := hpost
        exact ⟨m, _, _, h7, hen7, (right_facts (unp_some hu).1).1, (right_facts (unp_some hu).1).2, fun e' w' ⟨_, h⟩ => by rw [hu] at h; exact h⟩
    have HW5 := Lib.hid (HW.out.trans (hb5.mono HW.out.size))
    have HE5 := Lib.hid (HE.out.below hb5)
    have HM5 := Lib.hid hm; have HML := Lib.hid hml; have HMV := Lib.hid hmv; have HP2 := Lib.hid hpost2
    obtain ⟨A5, n5, c5, rfl, _⟩ := id hm
    clear hb5 HW HE hm hml hmv hpost2 hpost
    have hcc : (c != c) = false := by simp
    go_wp2_with fail
    refine (HRU.out _).mono ?_
    intro e w6 hpost
    have hb6 := hpost.1
    obtain ⟨vb, rfl, hvb⟩ := HP2.out _ _ hpost
    have HW6 := Lib.hid (HW5.out.trans (hb6.mono HW5.out.size))
    have HE6 := Lib.hid (HE5.out.below hb6)
    have HM6 := Lib.hid (HM5.out.below hb6)
    have HV6 := Lib.hid hvb
    obtain ⟨A6, n6, c6, rfl, _⟩ := id hvb
    clear hb6 HW5 HE5 HM5 hvb HP2 hpost
    go_wp2_with fail
    refine (HER.out _ HE6.out).mono ?_
    rintro e w7 ⟨rfl, hb7⟩
    have HW7 := Lib.hid (HW6.out.trans (hb7.mono HW6.out.size))
    have HE7 := Lib.hid (HE6.out.below hb7)
    have HM7 := Lib.hid (HM6.out.below hb7)
    have HV7 := Lib.hid (HV6.out.below hb7)
    clear hb7 HW6 HE6 HM6 HV6
    go_wp2_with fail
    refine (HRR.out _ HE7.out).mono ?_
    rintro e w8 ⟨rfl, hb8⟩
    have HW8 := Lib.hid (HW7.out.trans (hb8.mono HW7.out.size))
    have HE8 := Lib.hid (HE7.out.below hb8)
    have HM8 := Lib.hid (HM7.out.below hb8)
    have HV8 := Lib.hid (HV7.out.below hb8)
    clear hb8 HW7 HE7 HM7 HV7
    go_wp2_with fail
    refine (refLikeSame m _ _ w8 HM8.out HV8.out HML.out HMV.out).mono ?_
    rintro e w9 ⟨rfl, hb9⟩
    have HW9 := Lib.hid (HW8.out.trans (hb9.mono HW8.out.size))
    have HE9 := Lib.hid (HE8.out.below hb9)
    clear hb9 HW8 HE8 HM8 HV8
    go_wp2_with fail
    refine (HAL.out _).mono ?_
    rintro e w11 ⟨rfl, hb11⟩
    have HW11 := Lib.hid (HW9.out.trans (hb11.mono HW9.out.size))
    have HE11 := Lib.hid (HE9.out.below hb11)
    clear hb11 HW9 HE9
    go_wp2_with fail
    refine (HRR.out _ HE11.out).mono ?_
    rintro e w12 ⟨rfl, hb12⟩
    have HW12 := Lib.hid (HW11.out.trans (hb12.mono HW11.out.size))
    clear hb12 HW11 HE11
    go_wp2_with fail
    go_ret
    exact ⟨rfl, HW12.out⟩
  · have HPK := Lib.hid (fun u hu => enPack_ok L (.slice A n cap) u hu hr)
    have HBY := Lib.hid (fun u hu => refBytes08 L (.slice A n cap) u hu hr)
    rw [hr] at HER HRR
    obtain ⟨S, hS⟩ : ∃ S, (ByteArray.mk (packB L).toArray) = S := ⟨_, rfl⟩
    rw [hS] at HPK HBY
    have hss : (S.toList == S.toList) = true := by simp
    clear hr hln hS
    go_wp2_with fail
    refine (HPK.out _ HEN.out).mono ?_
    rintro e w4 ⟨rfl, hb4⟩
    have HW := Lib.hid (HB2.out.trans (hb4.mono HB2.out.size))
    have HE := Lib.hid (HEN.out.below hb4)
    clear hb4 HEN HB2 HPK
    go_wp2_with fail
    refine (HUN.out _).mono ?_
    rintro e w5 ⟨hb5, hpost⟩
    obtain ⟨m, va, c, rfl, hm, hml, hmv, hpost2⟩ : ∃ (m : List En) (va : Value) (c : Int), e = .returned (.tuple #[va, .int .i64 c]) ∧ IsEns w5 va m ∧ m.length ≤ 100000 ∧ (∀ e ∈ m, e.vers.length ≤ 100000) ∧ (∀ e' w', UnpPost s w5 e' w' → ∃ vb, e' = .returned (.tuple #[vb, .int .i64 c]) ∧ IsEns w' vb m) := by
      cases hu : unpE s with
      | none =>
        rw [hu] at hpost
        exact ⟨[], _, _, hpost, none_ens _, by simp, by simp, fun e' w' ⟨_, h⟩ => by rw [hu] at h; exact ⟨_, h, none_ens _⟩⟩
      | some m =>
        rw [hu] at hpost
        obtain ⟨v7, h7, hen7⟩ := hpost
        exact ⟨m, _, _, h7, hen7, (right_facts (unp_some hu).1).1, (right_facts (unp_some hu).1).2, fun e' w' ⟨_, h⟩ => by rw [hu] at h; exact h⟩
    have HW5 := Lib.hid (HW.out.trans (hb5.mono HW.out.size))
    have HE5 := Lib.hid (HE.out.below hb5)
    have HM5 := Lib.hid hm; have HML := Lib.hid hml; have HMV := Lib.hid hmv; have HP2 := Lib.hid hpost2
    obtain ⟨A5, n5, c5, rfl, _⟩ := id hm
    clear hb5 HW HE hm hml hmv hpost2 hpost
    have hcc : (c != c) = false := by simp
    go_wp2_with fail
    refine (HRU.out _).mono ?_
    intro e w6 hpost
    have hb6 := hpost.1
    obtain ⟨vb, rfl, hvb⟩ := HP2.out _ _ hpost
    have HW6 := Lib.hid (HW5.out.trans (hb6.mono HW5.out.size))
    have HE6 := Lib.hid (HE5.out.below hb6)
    have HM6 := Lib.hid (HM5.out.below hb6)
    have HV6 := Lib.hid hvb
    obtain ⟨A6, n6, c6, rfl, _⟩ := id hvb
    clear hb6 HW5 HE5 HM5 hvb HP2 hpost
    go_wp2_with fail
    refine (HER.out _ HE6.out).mono ?_
    rintro e w7 ⟨rfl, hb7⟩
    have HW7 := Lib.hid (HW6.out.trans (hb7.mono HW6.out.size))
    have HE7 := Lib.hid (HE6.out.below hb7)
    have HM7 := Lib.hid (HM6.out.below hb7)
    have HV7 := Lib.hid (HV6.out.below hb7)
    clear hb7 HW6 HE6 HM6 HV6
    go_wp2_with fail
    refine (HRR.out _ HE7.out).mono ?_
    rintro e w8 ⟨rfl, hb8⟩
    have HW8 := Lib.hid (HW7.out.trans (hb8.mono HW7.out.size))
    have HE8 := Lib.hid (HE7.out.below hb8)
    have HM8 := Lib.hid (HM7.out.below hb8)
    have HV8 := Lib.hid (HV7.out.below hb8)
    clear hb8 HW7 HE7 HM7 HV7
    go_wp2_with fail
    refine (refLikeSame m _ _ w8 HM8.out HV8.out HML.out HMV.out).mono ?_
    rintro e w9 ⟨rfl, hb9⟩
    have HW9 := Lib.hid (HW8.out.trans (hb9.mono HW8.out.size))
    have HE9 := Lib.hid (HE8.out.below hb9)
    clear hb9 HW8 HE8 HM8 HV8
    go_wp2_with fail
    refine (HAL.out _).mono ?_
    rintro e w11 ⟨rfl, hb11⟩
    have HW11 := Lib.hid (HW9.out.trans (hb11.mono HW9.out.size))
    have HE11 := Lib.hid (HE9.out.below hb11)
    clear hb11 HW9 HE9
    go_wp2_with fail
    refine (HRR.out _ HE11.out).mono ?_
    rintro e w12 ⟨rfl, hb12⟩
    have HW12 := Lib.hid (HW11.out.trans (hb12.mono HW11.out.size))
    have HE12 := Lib.hid (HE11.out.below hb12)
    clear hb12 HW11 HE11
    go_wp2_with fail
    refine (HBY.out _ HE12.out).mono ?_
    rintro e w13 ⟨rfl, hb13⟩
    have HW13 := Lib.hid (HW12.out.trans (hb13.mono HW12.out.size))
    clear hb13 HW12 HE12
    go_wp2_with fail
    go_ret
    exact ⟨rfl, HW13.out⟩
end Go.Proofs.Ytfpfcjgdihlieaa.lawEntryPacks
