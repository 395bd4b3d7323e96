/- lex.Number: the walk. -/
import Derived.Test.YtpkpbohkdkmoiaaDoorLx6
namespace Go.Proofs.YtpkpbohkdkmoiaaDoor
open Go.RowKit
set_option linter.unusedVariables false

theorem lxParseNone (w : World) (hE : Errs w) :
    Calls Tryd.prog 20 #[.string ⟨#[]⟩, .int .i64 16, .int .i64 64] w fun e w' => (∃ a b, e = .returned (.tuple #[.int .u64 0, .iface a b])) ∧ Below w.heap.size w w' := by
  obtain ⟨a, b, c, d, h1, h2⟩ := hE
  have HI := Lib.hid (fun u => AnyPu.internal_strconv_ParseUint_empty { Tryd.laysPu14 with } 16 64 u)
  have HT := Lib.hid (AnyPu.strconv_toError_syntax { Tryd.laysPu14 with } ⟨#[80, 97, 114, 115, 101, 85, 105, 110, 116]⟩ ⟨#[]⟩ 16 64 _ w (by decide) h1 (Or.inr ⟨_, _, rfl⟩))
  clear h1 h2
  go_enter Tryd.func20, Tryd.ntmps20
  go_wp2_with fail
  refine (HI.out _).mono ?_
  rintro e w2 ⟨rfl, rfl⟩
  go_wp2_with fail
  refine HT.out.mono ?_
  rintro e w2 ⟨N, rfl, h3, h4, h5⟩
  go_wp2_with fail
  go_ret2
  exact ⟨⟨_, _, rfl⟩, h5⟩
theorem bytes_or {w w' : World} {t : TypeId} {s : ByteArray} (h : w' = w ∨ w' = Lib.bytesWorld w t s) : Below w.heap.size w w' := by
  rcases h with rfl | rfl
  · exact Below.refl _ _
  · exact Lib.bytesWorld_below _ _ _
/-- strconv.ParseUint of decimal digits -/
theorem lxParseDec (s : ByteArray) (w : World) (hs : s.size ≤ 1000000) (hd : ∀ c ∈ s.data.toList, digB c.toNat = true) (hne : s.data.toList ≠ []) (hm : decN s.data.toList ≤ 18446744073709551615) :
    Calls Tryd.prog 20 #[.string s, .int .i64 10, .int .i64 64] w fun e w' => e = .returned (.tuple #[.int .u64 (decN s.data.toList : Nat), .nilIface]) ∧ Below w.heap.size w w' := by
  refine (Tryd.strconv_ParseUint_10_at64_ok s (by omega) _ (parse_ok _ hne hd hm) w).mono ?_
  rintro e w2 ⟨rfl, hw⟩
  exact ⟨rfl, bytes_or hw⟩
theorem lxParseBad (s : ByteArray) (w : World) (hs : s.size ≤ 1000000) (hE : Errs w) (hd : ∀ c ∈ s.data.toList, digB c.toNat = true) (hb : ¬ (s.data.toList ≠ [] ∧ decN s.data.toList ≤ 18446744073709551615)) :
    Calls Tryd.prog 20 #[.string s, .int .i64 10, .int .i64 64] w fun e w' => (∃ a b n, e = .returned (.tuple #[.int .u64 n, .iface a b])) ∧ Below w.heap.size w w' := by
  obtain ⟨a, b, c, d, h1, h2⟩ := hE
  by_cases hne : s.data.toList = []
  · refine (Any.strconv_ParseUint_10_at64_syntax Tryd.laysPu14 s (by omega) (by unfold Lib.parseUintB; rw [if_pos hne]) _ w h1 (Or.inr ⟨_, _, rfl⟩)).mono ?_
    rintro e w2 ⟨N, rfl, h3, h4, h5⟩
    exact ⟨⟨_, _, _, rfl⟩, h5⟩
  · refine (Tryd.strconv_ParseUint_10_at64_range s (by omega) (parse_range _ hne hd (fun h => hb ⟨hne, h⟩)) _ w h2 (Or.inr ⟨_, _, rfl⟩)).mono ?_
    rintro e w2 ⟨N, rfl, h3, h4, h5⟩
    exact ⟨⟨_, _, _, rfl⟩, h5⟩
set_option maxRecDepth 100000 in
set_option maxHeartbeats 1000000 in
theorem lxNumber (s : ByteArray) (w : World) (hs : s.size ≤ 1000000) (hE : Errs w) :
    Calls Tryd.prog 11 #[.string s] w fun e w' => e = .returned (.tuple #[.int .u64 ((numS' s).getD 0 : Nat), .bool (numS' s).isSome]) ∧ Below w.heap.size w w' := by
  have hl := ba_len s
  have hsI : (s.size : Int) ≤ 1000000 := by omega
  have HCP := Lib.hid (fun u => Tryd.strings_CutPrefix s ⟨#[48, 120]⟩ u)
  obtain ⟨R, hR⟩ : ∃ R, numS' s = R := ⟨_, rfl⟩
  unfold numS' numL at hR
  rw [show numS' s = R by unfold numS' numL; exact hR]
  have hpre : Lib.hasPrefix s.data.toList [48, 120] = isHex s.data.toList := rfl
  have hcut : Lib.trimPrefix s.data.toList [48, 120] = if isHex s.data.toList = true then s.data.toList.drop 2 else s.data.toList := rfl
  by_cases hx : isHex s.data.toList = true
  · rw [if_pos hx] at hR
    obtain ⟨D, hD⟩ : ∃ D : ByteArray, (⟨(s.data.toList.drop 2).toArray⟩ : ByteArray) = D := ⟨_, rfl⟩
    have hDl : D.data.toList = s.data.toList.drop 2 := by rw [← hD]
    have hDs : D.size = (s.data.toList.drop 2).length := by rw [← hD, ba_size]
    have hDm : D.size ≤ 1000000 := by rw [hDs, List.length_drop]; omega
    have HC2 : Hid (∀ u, Calls Tryd.prog 18 #[.string s, .string ⟨#[48, 120]⟩] u fun e w' => e = .returned (.tuple #[.string D, .bool true]) ∧ w' = u) := Lib.hid fun u => by
      refine (HCP.out u).mono ?_
      rintro e w' ⟨rfl, rfl⟩
      refine ⟨?_, rfl⟩
      show Ending.returned (.tuple #[.string ⟨(Lib.trimPrefix s.data.toList [48, 120]).toArray⟩, .bool (Lib.hasPrefix s.data.toList [48, 120])]) = _
      rw [hcut, hpre, hx, if_pos rfl, hD]
    rw [← hDl] at hR
    rw [← hDl] at hDs
    clear hcut hpre hD hDl HCP hx
    by_cases h16 : D.size ≤ 16
    case neg =>
      rw [if_neg (by omega)] at hR
      subst hR
      have h16I : (16 : Int) < D.size := by omega
      clear hDs hDm h16 hE hl
      go_enter Tryd.func11, Tryd.ntmps11
      go_wp2_with fail
      refine (HC2.out _).mono ?_
      rintro e w2 ⟨rfl, rfl⟩
      go_wp2_with fail
      go_ret2
      exact ⟨rfl, Below.refl _ _⟩
    have h16I : (D.size : Int) ≤ 16 := by omega
    obtain ⟨t, hT, htE⟩ := lxTrimHex D w hDm
    by_cases hall : (D.data.toList.all fun c => hexB c.toNat) = true
    case neg =>
      rw [if_neg (fun h => hall h.2.2)] at hR
      subst hR
      rw [show (D.data.toList.all fun c => hexB c.toNat) = false by simpa using hall] at htE
      have HT := Lib.hid hT
      clear hDs hDm h16 hE hl hT hall
      go_enter Tryd.func11, Tryd.ntmps11
      go_wp2_with fail
      refine (HC2.out _).mono ?_
      rintro e w2 ⟨rfl, rfl⟩
      go_wp2_with fail
      refine HT.out.mono ?_
      rintro e w2 ⟨rfl, hb⟩
      go_wp2_with fail
      go_ret2
      exact ⟨rfl, hb⟩
    rw [hall] at htE
    have HT := Lib.hid hT
    by_cases h0 : 0 < D.size
    · rw [if_pos ⟨by omega, by omega, hall⟩] at hR
      subst hR
      have HP := Lib.hid (fun u => lxParseHex D u h0 h16 (fun j hj => by
        have := List.all_eq_true.1 hall (D.data.toList[j]'(by omega)) (List.getElem_mem _)
        simpa [ByteArray.getElem_eq_getElem_data] using this))
      generalize hexN D.data.toList = n at *
      clear hDs hDm h16 hE hl hT hall h0
      go_enter Tryd.func11, Tryd.ntmps11
      go_wp2_with fail
      refine (HC2.out _).mono ?_
      rintro e w2 ⟨rfl, rfl⟩
      go_wp2_with fail
      refine HT.out.mono ?_
      rintro e w2 ⟨rfl, hb⟩
      go_wp2_with fail
      refine (HP.out _).mono ?_
      rintro e w3 ⟨rfl, hb3⟩
      go_wp2_with fail
      go_ret2
      exact ⟨rfl, hb.trans (hb3.mono hb.size)⟩
    · rw [if_neg (by omega)] at hR
      subst hR
      have hz : D.size = 0 := by omega
      have hD0 : D = ⟨#[]⟩ := ByteArray.ext (Array.eq_empty_of_size_eq_zero hz)
      clear hz
      subst hD0
      clear hDs hDm h16 hl hT hall h0 h16I
      go_enter Tryd.func11, Tryd.ntmps11
      go_wp2_with fail
      refine (HC2.out _).mono ?_
      rintro e w2 ⟨rfl, rfl⟩
      go_wp2_with fail
      refine HT.out.mono ?_
      rintro e w3 ⟨rfl, hb⟩
      go_wp2_with fail
      refine (lxParseNone _ (hE.keep hb)).mono ?_
      rintro e w4 ⟨⟨a, b, rfl⟩, hb3⟩
      go_wp2_with fail
      go_ret2
      exact ⟨rfl, hb.trans (hb3.mono hb.size)⟩
  · rw [if_neg hx] at hR
    have HC2 : Hid (∀ u, Calls Tryd.prog 18 #[.string s, .string ⟨#[48, 120]⟩] u fun e w' => e = .returned (.tuple #[.string s, .bool false]) ∧ w' = u) := Lib.hid fun u => by
      refine (HCP.out u).mono ?_
      rintro e w' ⟨rfl, rfl⟩
      refine ⟨?_, rfl⟩
      show Ending.returned (.tuple #[.string ⟨(Lib.trimPrefix s.data.toList [48, 120]).toArray⟩, .bool (Lib.hasPrefix s.data.toList [48, 120])]) = _
      rw [hcut, hpre, if_neg hx, show isHex s.data.toList = false by simpa using hx, ← ba_eq s]
    clear hcut hpre HCP hx
    by_cases h1 : 1 < s.size
    · have h1I : (1 : Int) < s.size := by omega
      have hi0 : ∀ u : World, Sem.run Tryd.prog (Instr.index 9 (.string s) (.int .i64 0)) u = .ok (.int .u8 (s[0].toNat : Int)) u := fun u => lxIdxS s 0 (by omega) u
      have hd0 : s.data.toList.head? = some s[0] := by
        rw [List.head?_eq_getElem?, List.getElem?_eq_getElem (by omega)]
        simp [ByteArray.getElem_eq_getElem_data]
      rw [hd0] at hR
      by_cases h48 : s[0] = 48
      · rw [h48] at hi0 hR
        rw [if_neg (fun h => h.2.1 ⟨by omega, rfl⟩)] at hR
        subst hR
        clear hE hl hd0 h48 h1
        go_enter Tryd.func11, Tryd.ntmps11
        go_wp2_with fail
        refine (HC2.out _).mono ?_
        rintro e w2 ⟨rfl, rfl⟩
        go_wp2_with fail
        go_ret2
        exact ⟨rfl, Below.refl _ _⟩
      · have hno : ¬ (1 < s.data.toList.length ∧ some s[0] = some 48) := fun h => h48 (Option.some.inj h.2)
        have hc8 : ((s[0].toNat : Int) == 48) = false := by
          rw [beq_eq_false_iff_ne]
          intro e
          apply h48
          apply UInt8.toNat_inj.1
          show s[0].toNat = 48
          omega
        generalize s[0] = c0 at *
        generalize (c0.toNat : Int) = c1 at *
        clear hd0 h48 h1
        obtain ⟨t, hT, htE⟩ := lxTrimDec s w hs
        by_cases hall : (s.data.toList.all fun c => digB c.toNat) = true
        case neg =>
          rw [if_neg (fun h => hall h.2.2.1)] at hR
          subst hR
          rw [show (s.data.toList.all fun c => digB c.toNat) = false by simpa using hall] at htE
          have HT := Lib.hid hT
          clear hE hl hT hall
          go_enter Tryd.func11, Tryd.ntmps11
          go_wp2_with fail
          refine (HC2.out _).mono ?_
          rintro e w2 ⟨rfl, rfl⟩
          go_wp2_with fail
          refine HT.out.mono ?_
          rintro e w2 ⟨rfl, hb⟩
          go_wp2_with fail
          go_ret2
          exact ⟨rfl, hb⟩
        rw [hall] at htE
        have HT := Lib.hid hT
        by_cases hgood : s.data.toList ≠ [] ∧ decN s.data.toList ≤ 18446744073709551615
        · rw [if_pos ⟨hgood.1, hno, hall, hgood.2⟩] at hR
          subst hR
          have HP := Lib.hid (fun u => lxParseDec s u hs (fun c hc => List.all_eq_true.1 hall c hc) hgood.1 hgood.2)
          generalize decN s.data.toList = n at *
          clear hE hl hT hall hno hgood
          go_enter Tryd.func11, Tryd.ntmps11
          go_wp2_with fail
          refine (HC2.out _).mono ?_
          rintro e w2 ⟨rfl, rfl⟩
          go_wp2_with fail
          refine HT.out.mono ?_
          rintro e w2 ⟨rfl, hb⟩
          go_wp2_with fail
          refine (HP.out _).mono ?_
          rintro e w3 ⟨rfl, hb3⟩
          go_wp2_with fail
          go_ret2
          exact ⟨rfl, hb.trans (hb3.mono hb.size)⟩
        · rw [if_neg (fun h => hgood ⟨h.1, h.2.2.2⟩)] at hR
          subst hR
          have HP := Lib.hid (fun u hu => lxParseBad s u hs hu (fun c hc => List.all_eq_true.1 hall c hc) hgood)
          clear hl hT hall hno hgood
          go_enter Tryd.func11, Tryd.ntmps11
          go_wp2_with fail
          refine (HC2.out _).mono ?_
          rintro e w2 ⟨rfl, rfl⟩
          go_wp2_with fail
          refine HT.out.mono ?_
          rintro e w3 ⟨rfl, hb⟩
          go_wp2_with fail
          refine (HP.out _ (hE.keep hb)).mono ?_
          rintro e w4 ⟨⟨a, b, n, rfl⟩, hb3⟩
          go_wp2_with fail
          go_ret2
          exact ⟨rfl, hb.trans (hb3.mono hb.size)⟩
    · have h1I : (s.size : Int) ≤ 1 := by omega
      have hno : ¬ (1 < s.data.toList.length ∧ s.data.toList.head? = some 48) := fun h => by omega
      clear h1
      obtain ⟨t, hT, htE⟩ := lxTrimDec s w hs
      by_cases hall : (s.data.toList.all fun c => digB c.toNat) = true
      case neg =>
        rw [if_neg (fun h => hall h.2.2.1)] at hR
        subst hR
        rw [show (s.data.toList.all fun c => digB c.toNat) = false by simpa using hall] at htE
        have HT := Lib.hid hT
        clear hE hl hT hall
        go_enter Tryd.func11, Tryd.ntmps11
        go_wp2_with fail
        refine (HC2.out _).mono ?_
        rintro e w2 ⟨rfl, rfl⟩
        go_wp2_with fail
        refine HT.out.mono ?_
        rintro e w2 ⟨rfl, hb⟩
        go_wp2_with fail
        go_ret2
        exact ⟨rfl, hb⟩
      rw [hall] at htE
      have HT := Lib.hid hT
      by_cases hgood : s.data.toList ≠ [] ∧ decN s.data.toList ≤ 18446744073709551615
      · rw [if_pos ⟨hgood.1, hno, hall, hgood.2⟩] at hR
        subst hR
        have HP := Lib.hid (fun u => lxParseDec s u hs (fun c hc => List.all_eq_true.1 hall c hc) hgood.1 hgood.2)
        generalize decN s.data.toList = n at *
        clear hE hl hT hall hno hgood
        go_enter Tryd.func11, Tryd.ntmps11
        go_wp2_with fail
        refine (HC2.out _).mono ?_
        rintro e w2 ⟨rfl, rfl⟩
        go_wp2_with fail
        refine HT.out.mono ?_
        rintro e w2 ⟨rfl, hb⟩
        go_wp2_with fail
        refine (HP.out _).mono ?_
        rintro e w3 ⟨rfl, hb3⟩
        go_wp2_with fail
        go_ret2
        exact ⟨rfl, hb.trans (hb3.mono hb.size)⟩
      · rw [if_neg (fun h => hgood ⟨h.1, h.2.2.2⟩)] at hR
        subst hR
        have HP := Lib.hid (fun u hu => lxParseBad s u hs hu (fun c hc => List.all_eq_true.1 hall c hc) hgood)
        clear hl hT hall hno hgood
        go_enter Tryd.func11, Tryd.ntmps11
        go_wp2_with fail
        refine (HC2.out _).mono ?_
        rintro e w2 ⟨rfl, rfl⟩
        go_wp2_with fail
        refine HT.out.mono ?_
        rintro e w3 ⟨rfl, hb⟩
        go_wp2_with fail
        refine (HP.out _ (hE.keep hb)).mono ?_
        rintro e w4 ⟨⟨a, b, n, rfl⟩, hb3⟩
        go_wp2_with fail
        go_ret2
        exact ⟨rfl, hb.trans (hb3.mono hb.size)⟩
end Go.Proofs.YtpkpbohkdkmoiaaDoor
