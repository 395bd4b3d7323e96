/- The reference's Number. -/
import Derived.Test.YtpkpbohkdkmoiaaDoorRf14
import Derived.Test.YtpkpbohkdkmoiaaDoorLx4
namespace Go.Proofs.YtpkpbohkdkmoiaaDoor
open Go.RowKit
set_option linter.unusedVariables false

theorem numS_dec (s : ByteArray) (h : ¬ isHex s.data.toList = true) : numS' s = if s.data.toList ≠ [] ∧ ¬ (1 < s.data.toList.length ∧ s.data.toList.head? = some 48) then numG 10 s.data.toList 0 else none := by
  unfold numS' numL
  rw [if_neg h]
  by_cases h1 : s.data.toList ≠ [] ∧ ¬ (1 < s.data.toList.length ∧ s.data.toList.head? = some 48)
  · rw [if_pos h1, numG_dec s.data.toList 0 _ (by omega) rfl]
    by_cases h2 : (s.data.toList.all fun c => digB c.toNat) = true ∧ decN s.data.toList ≤ 18446744073709551615
    · rw [if_pos ⟨h1.1, h1.2, h2.1, h2.2⟩]
      unfold decN at h2 ⊢
      rw [if_pos h2]
    · rw [if_neg (fun hh => h2 ⟨hh.2.2.1, hh.2.2.2⟩)]
      unfold decN at h2
      rw [if_neg h2]
  · rw [if_neg h1, if_neg (fun hh => h1 ⟨hh.1, hh.2.1⟩)]
theorem numS_hex (s : ByteArray) (h : isHex s.data.toList = true) : numS' s = if (s.data.toList.drop 2).length ≤ 16 ∧ s.data.toList.drop 2 ≠ [] then numG 16 (s.data.toList.drop 2) 0 else none := by
  unfold numS' numL
  rw [if_pos h]
  generalize s.data.toList.drop 2 = l
  by_cases h1 : l.length ≤ 16 ∧ l ≠ []
  · have h0 : 0 < l.length := by
      cases l with
      | nil => exact absurd rfl h1.2
      | cons a l => simp
    rw [if_pos h1, numG_hex l 0 _ 0 (by decide) (by omega) rfl]
    by_cases h2 : (l.all fun c => hexB c.toNat) = true
    · rw [if_pos ⟨h0, h1.1, h2⟩, if_pos h2]; rfl
    · rw [if_neg (fun hh => h2 hh.2.2), if_neg h2]
  · rw [if_neg h1, if_neg (fun hh => h1 ⟨hh.2.1, fun e => by rw [e] at hh; simp at hh⟩)]
theorem val_le (c : Nat) (h : c ≤ 255) : valN c ≤ 99 := by
  unfold valN digB
  split
  · rename_i h1; simp only [decide_eq_true_eq] at h1; omega
  · split <;> omega
theorem cut_head (s : ByteArray) (h : 2 ≤ s.size) : ((s.extract 0 2).toList == [48, 120]) = isHex s.data.toList := by
  have hl := ba_len s
  rw [ByteArray.toList_eq, ba_extract_list]
  unfold isHex
  cases hx : s.data.toList with
  | nil => rw [hx] at hl; simp at hl; omega
  | cons a t =>
    cases t with
    | nil => rw [hx] at hl; simp at hl; omega
    | cons b t =>
      rw [Bool.eq_iff_iff, beq_iff_eq, List.isPrefixOf_iff_prefix]
      constructor
      · intro h
        have h1 : [a, b] = [48, 120] := by simpa using h
        injection h1 with h2 h3
        injection h3 with h4 h5
        subst h2 h4
        exact ⟨t, rfl⟩
      · rintro ⟨u, hu⟩
        injection hu with h2 h3
        injection h3 with h4 h5
        subst h2 h4
        simp
theorem short_head (s : ByteArray) (h : ¬ 2 ≤ s.size) : isHex s.data.toList = false := by
  have hl := ba_len s
  unfold isHex
  cases hx : s.data.toList with
  | nil => rfl
  | cons a t =>
    cases t with
    | nil => simp [List.isPrefixOf]
    | cons b t => rw [hx] at hl; simp at hl; omega
set_option maxRecDepth 100000 in
set_option maxHeartbeats 4000000 in
theorem rfNumber (s : ByteArray) (w : World) (hs : s.size ≤ 1000000) :
    Calls Tryd.prog 12 #[.string s] w fun e w' => e = .returned (.tuple #[.int .u64 ((numS' s).getD 0 : Nat), .bool (numS' s).isSome]) ∧ w = w' := by
  have hl := ba_len s
  have hsI : (s.size : Int) ≤ 1000000 := by omega
  obtain ⟨X, hX⟩ : ∃ X, numS' s = X := ⟨_, rfl⟩
  rw [hX]
  by_cases hx : isHex s.data.toList = true
  · have h2 : 2 ≤ s.size := by
      by_cases h : 2 ≤ s.size
      · exact h
      · rw [short_head s h] at hx; cases hx
    have h2I : (2 : Int) ≤ s.size := by omega
    rw [numS_hex s hx] at hX
    have hch := cut_head s h2
    rw [hx] at hch
    obtain ⟨D, hD⟩ : ∃ D, s.extract 2 s.size = D := ⟨_, rfl⟩
    have hDl : D.data.toList = s.data.toList.drop 2 := by
      rw [← hD, ba_extract_list, List.take_of_length_le (by simp)]
    rw [← hDl, ba_len] at hX
    have hDs : D.size = s.size - 2 := by rw [← hD, ByteArray.size_extract]; omega
    have HD := Lib.hid hD
    clear hDl hx hl
    by_cases h16 : D.size ≤ 16
    case neg =>
      rw [if_neg (fun h => h16 h.1)] at hX
      subst hX
      have h16I : (16 : Int) < D.size := by omega
      clear hD h16 hDs
      go_enter Tryd.func12, Tryd.ntmps12
      go_upto_region 6 with fail
      rw [HD.out]
      go_wp2_with fail
      go_ret2
      exact ⟨rfl, rfl⟩
    have h16I : (D.size : Int) ≤ 16 := by omega
    by_cases h0 : D.data.toList = []
    · rw [if_neg (fun h => h.2 h0)] at hX
      subst hX
      have hem : D.toList.isEmpty = true := by rw [ByteArray.toList_eq, h0]; rfl
      clear hD h16 hDs h0
      go_enter Tryd.func12, Tryd.ntmps12
      go_upto_region 6 with fail
      rw [HD.out]
      go_wp2_with fail
      go_ret2
      exact ⟨rfl, rfl⟩
    rw [if_pos ⟨h16, h0⟩] at hX
    have hem : D.toList.isEmpty = false := by
      rw [ByteArray.toList_eq]
      cases hh : D.data.toList with
      | nil => exact absurd hh h0
      | cons _ _ => rfl
    have HX := Lib.hid (show X = numG 16 (D.data.toList.drop 0) 0 from hX.symm)
    clear hX hD h16 h0 hDs
    go_enter Tryd.func12, Tryd.ntmps12
    go_upto_region 6 with fail
    rw [HD.out]
    go_wp2_with fail
    go_loop [6, 7] (fun z6 z7 => ∃ n i : Nat, z6 = .int .u64 n ∧ z7 = .int .i64 i ∧ i ≤ D.size ∧ Hid (n ≤ 18446744073709551615) ∧ Hid (X = numG 16 (D.data.toList.drop i) n)) (fun _ z7 => D.size - (intOf z7).toNat)
    case atStart => exact ⟨0, 0, rfl, rfl, by omega, Lib.hid (by omega), HX⟩
    case round =>
      clear HX
      obtain ⟨n, i, rfl, rfl, hi, HN, HX⟩ := hrel
      by_cases hlt : i < D.size
      · have hltI : (i : Int) < D.size := by omega
        have hidx : ∀ u : World, Sem.run Tryd.prog (Instr.index 9 (.string D) (.int .i64 (i : Int))) u = .ok (.int .u8 (D[i].toNat : Int)) u := fun u => lxIdxS D i hlt u
        have hdr : D.data.toList.drop i = D[i] :: D.data.toList.drop (i + 1) := by
          rw [List.drop_eq_getElem_cons (by rw [ba_len]; omega)]
          simp [ByteArray.getElem_eq_getElem_data]
        have hx := HX.out
        rw [hdr] at hx
        unfold numG at hx
        have h255 : D[i].toNat ≤ 255 := by have := UInt8.toNat_lt D[i]; omega
        have HV := Lib.hid (fun u => rfValue D[i].toNat u h255)
        have hvl := val_le D[i].toNat h255
        generalize D[i].toNat = c at *
        generalize valN c = v at *
        clear h255 hdr HX
        by_cases hv : 16 ≤ v
        · rw [if_pos hv] at hx
          subst hx
          have hvI : (16 : Int) ≤ v := by omega
          clear HN hv hvl
          go_wp2_with fail
          refine (HV.out _).mono ?_
          rintro e w1 ⟨rfl, rfl⟩
          go_wp2_with fail
          go_ret2
          exact ⟨rfl, rfl⟩
        rw [if_neg hv] at hx
        obtain ⟨m, hm⟩ : ∃ m, 18446744073709551615 - v = m := ⟨_, rfl⟩
        obtain ⟨q, hq⟩ : ∃ q, m / 16 = q := ⟨_, rfl⟩
        have hmv : 18446744073709551615 - v < 18446744073709551616 := by omega
        rw [hm, hq] at hx
        have e1 : IntKind.u64.wrap (18446744073709551615 - (v : Int)) = (m : Int) := by
          rw [show (18446744073709551615 : Int) - (v : Int) = (m : Int) by omega]
          exact IntWalk.u64_in _ ⟨by omega, by omega⟩
        have e2 : (m : Int).tdiv 16 = (q : Int) := by rw [← hq]; exact rfl
        have e3 : IntKind.u64.wrap ((m : Int).tdiv 16) = (q : Int) := by rw [e2]; exact IntWalk.u64_in _ ⟨by omega, by omega⟩
        have e3' : IntKind.u64.wrap (q : Int) = (q : Int) := IntWalk.u64_in _ ⟨by omega, by omega⟩
        have f1 : ((v : Int) < 16) = True := eq_true (by omega)
        have f2 : ((16 : Int) ≤ v) = False := eq_false (by omega)
        have f3 : decide ((16 : Int) ≤ v) = false := decide_eq_false (by omega)
        have f4 : decide (16 ≤ v) = false := decide_eq_false (by omega)
        have f5 : (16 ≤ v) = False := eq_false (by omega)
        by_cases ho : q < n
        · rw [if_pos ho] at hx
          subst hx
          have hoI : (q : Int) < n := by omega
          have hoD : decide (q < n) = true := decide_eq_true ho
          clear HN hv hvl ho hm hq hmv
          go_wp2_with fail
          refine (HV.out _).mono ?_
          rintro e w1 ⟨rfl, rfl⟩
          go_wp2_with fail
          go_ret2
          exact ⟨rfl, rfl⟩
        · rw [if_neg ho] at hx
          have hno : 16 * n + v ≤ 18446744073709551615 := by
            by_cases hh : 18446744073709551615 < 16 * n + v
            · exact absurd ((over_iff 16 n v (by decide) (by omega)).2 hh) (by rw [hm, hq]; exact ho)
            · omega
          obtain ⟨k, hk⟩ : ∃ k, 16 * n = k := ⟨_, rfl⟩
          obtain ⟨z, hz⟩ : ∃ z, 16 * n + v = z := ⟨_, rfl⟩
          rw [hz] at hx
          have HZ := Lib.hid (show z ≤ 18446744073709551615 by omega)
          have e4 : IntKind.u64.wrap (16 * (n : Int)) = (k : Int) := by
            rw [show 16 * (n : Int) = (k : Int) by omega]
            exact IntWalk.u64_in _ ⟨by omega, by omega⟩
          have e5 : IntKind.u64.wrap ((k : Int) + (v : Int)) = (z : Int) := by
            rw [show (k : Int) + (v : Int) = (z : Int) by omega]
            exact IntWalk.u64_in _ ⟨by omega, by omega⟩
          have HX2 := Lib.hid hx
          have hoI : ((q : Int) < n) = False := eq_false (by omega)
          have hoD : decide (q < n) = false := decide_eq_false ho
          clear HN hv hvl ho hm hq hmv hno hk hz hx
          go_wp2_with fail
          refine (HV.out _).mono ?_
          rintro e w1 ⟨rfl, rfl⟩
          go_wp2_with fail
          go_round
          case rel => exact ⟨z, i + 1, rfl, by go_num, by omega, HZ, HX2⟩
          case measure => simp [intOf]; omega
      · obtain rfl : i = D.size := by omega
        have hx := HX.out
        rw [List.drop_eq_nil_of_le (by rw [ba_len]; omega)] at hx
        unfold numG at hx
        subst hx
        clear HN
        go_wp2_with fail
        go_ret2
        exact ⟨rfl, rfl⟩
  · rw [numS_dec s hx] at hX
    obtain ⟨D, hD⟩ : ∃ D, s = D := ⟨_, rfl⟩
    subst hD
    have hch : 2 ≤ s.size → ((s.extract 0 2).toList == [48, 120]) = false := fun h => by
      rw [cut_head s h]; simpa using hx
    by_cases h0 : s.data.toList = []
    · rw [if_neg (fun h => h.1 h0)] at hX
      subst hX
      have hem : s.toList.isEmpty = true := by rw [ByteArray.toList_eq, h0]; rfl
      have hsz : s.size = 0 := by rw [← hl, h0]; rfl
      have hszI : (s.size : Int) < 2 := by omega
      clear h0 hx hch hsz hl
      go_enter Tryd.func12, Tryd.ntmps12
      go_wp2_with fail
      go_ret2
      exact ⟨rfl, rfl⟩
    have h1s : 1 ≤ s.size := by
      rw [← hl]
      cases hh : s.data.toList with
      | nil => exact absurd hh h0
      | cons _ _ => simp
    have hem : s.toList.isEmpty = false := by
      rw [ByteArray.toList_eq]
      cases hh : s.data.toList with
      | nil => exact absurd hh h0
      | cons _ _ => rfl
    by_cases h2 : 2 ≤ s.size
    · have h2I : (2 : Int) ≤ s.size := by omega
      have h1I : (1 : Int) < s.size := by omega
      have hchf := hch h2
      have hi0 : ∀ u : World, Sem.run Tryd.prog (Instr.index 9 (.string s) (.int .i64 0)) u = .ok (.int .u8 (s[0].toNat : Int)) u := fun u => lxIdxS s 0 (by omega) u
      have hd0 : s.data.toList.head? = some s[0] := by
        rw [List.head?_eq_getElem?, List.getElem?_eq_getElem (by omega)]
        simp [ByteArray.getElem_eq_getElem_data]
      rw [hd0] at hX
      by_cases h48 : s[0] = 48
      · rw [h48] at hi0 hX
        rw [if_neg (fun h => h.2 ⟨by omega, rfl⟩)] at hX
        subst hX
        clear h0 hx hch hl hd0 h48 h2
        go_enter Tryd.func12, Tryd.ntmps12
        go_wp2_with fail
        go_ret2
        exact ⟨rfl, rfl⟩
      rw [if_pos ⟨h0, fun h => h48 (Option.some.inj h.2)⟩] at hX
      have hc8 : ((s[0].toNat : Int) == 48) = false := by
        rw [beq_eq_false_iff_ne]
        intro e
        apply h48
        apply UInt8.toNat_inj.1
        show s[0].toNat = 48
        omega
      generalize (s[0].toNat : Int) = c0 at *
      have HX := Lib.hid (show X = numG 10 (s.data.toList.drop 0) 0 from hX.symm)
      clear hX h0 hx hch hl hd0 h48 h2 h1s
      go_enter Tryd.func12, Tryd.ntmps12
      go_upto_region 10 with fail
      clear hi0 hc8 hchf hem h2I h1I
      go_wp2_with fail
      go_loop [6, 7] (fun z6 z7 => ∃ n i : Nat, z6 = .int .u64 n ∧ z7 = .int .i64 i ∧ i ≤ s.size ∧ Hid (n ≤ 18446744073709551615) ∧ Hid (X = numG 10 (s.data.toList.drop i) n)) (fun _ z7 => s.size - (intOf z7).toNat)
      case atStart => exact ⟨0, 0, rfl, rfl, by omega, Lib.hid (by omega), HX⟩
      case round =>
        clear HX
        obtain ⟨n, i, rfl, rfl, hi, HN, HX⟩ := hrel
        by_cases hlt : i < s.size
        · have hltI : (i : Int) < s.size := by omega
          have hidx : ∀ u : World, Sem.run Tryd.prog (Instr.index 9 (.string s) (.int .i64 (i : Int))) u = .ok (.int .u8 (s[i].toNat : Int)) u := fun u => lxIdxS s i hlt u
          have hdr : s.data.toList.drop i = s[i] :: s.data.toList.drop (i + 1) := by
            rw [List.drop_eq_getElem_cons (by rw [ba_len]; omega)]
            simp [ByteArray.getElem_eq_getElem_data]
          have hx := HX.out
          rw [hdr] at hx
          unfold numG at hx
          have h255 : s[i].toNat ≤ 255 := by have := UInt8.toNat_lt s[i]; omega
          have HV := Lib.hid (fun u => rfValue s[i].toNat u h255)
          have hvl := val_le s[i].toNat h255
          generalize s[i].toNat = c at *
          generalize valN c = v at *
          clear h255 hdr HX
          by_cases hv : 10 ≤ v
          · rw [if_pos hv] at hx
            subst hx
            have hvI : (10 : Int) ≤ v := by omega
            clear HN hv hvl
            go_wp2_with fail
            refine (HV.out _).mono ?_
            rintro e w1 ⟨rfl, rfl⟩
            go_wp2_with fail
            go_ret2
            exact ⟨rfl, rfl⟩
          rw [if_neg hv] at hx
          obtain ⟨m, hm⟩ : ∃ m, 18446744073709551615 - v = m := ⟨_, rfl⟩
          obtain ⟨q, hq⟩ : ∃ q, m / 10 = q := ⟨_, rfl⟩
          have hmv : 18446744073709551615 - v < 18446744073709551616 := by omega
          rw [hm, hq] at hx
          have e1 : IntKind.u64.wrap (18446744073709551615 - (v : Int)) = (m : Int) := by
            rw [show (18446744073709551615 : Int) - (v : Int) = (m : Int) by omega]
            exact IntWalk.u64_in _ ⟨by omega, by omega⟩
          have e2 : (m : Int).tdiv 10 = (q : Int) := by rw [← hq]; exact rfl
          have e3 : IntKind.u64.wrap ((m : Int).tdiv 10) = (q : Int) := by rw [e2]; exact IntWalk.u64_in _ ⟨by omega, by omega⟩
          have e3' : IntKind.u64.wrap (q : Int) = (q : Int) := IntWalk.u64_in _ ⟨by omega, by omega⟩
          have f1 : ((v : Int) < 10) = True := eq_true (by omega)
          have f2 : ((10 : Int) ≤ v) = False := eq_false (by omega)
          have f3 : decide ((10 : Int) ≤ v) = false := decide_eq_false (by omega)
          have f4 : decide (10 ≤ v) = false := decide_eq_false (by omega)
          have f5 : (10 ≤ v) = False := eq_false (by omega)
          by_cases ho : q < n
          · rw [if_pos ho] at hx
            subst hx
            have hoI : (q : Int) < n := by omega
            have hoD : decide (q < n) = true := decide_eq_true ho
            clear HN hv hvl ho hm hq hmv
            go_wp2_with fail
            refine (HV.out _).mono ?_
            rintro e w1 ⟨rfl, rfl⟩
            go_wp2_with fail
            go_ret2
            exact ⟨rfl, rfl⟩
          · rw [if_neg ho] at hx
            have hno : 10 * n + v ≤ 18446744073709551615 := by
              by_cases hh : 18446744073709551615 < 10 * n + v
              · exact absurd ((over_iff 10 n v (by decide) (by omega)).2 hh) (by rw [hm, hq]; exact ho)
              · omega
            obtain ⟨k, hk⟩ : ∃ k, 10 * n = k := ⟨_, rfl⟩
            obtain ⟨z, hz⟩ : ∃ z, 10 * n + v = z := ⟨_, rfl⟩
            rw [hz] at hx
            have HZ := Lib.hid (show z ≤ 18446744073709551615 by omega)
            have e4 : IntKind.u64.wrap (10 * (n : Int)) = (k : Int) := by
              rw [show 10 * (n : Int) = (k : Int) by omega]
              exact IntWalk.u64_in _ ⟨by omega, by omega⟩
            have e5 : IntKind.u64.wrap ((k : Int) + (v : Int)) = (z : Int) := by
              rw [show (k : Int) + (v : Int) = (z : Int) by omega]
              exact IntWalk.u64_in _ ⟨by omega, by omega⟩
            have HX2 := Lib.hid hx
            have hoI : ((q : Int) < n) = False := eq_false (by omega)
            have hoD : decide (q < n) = false := decide_eq_false ho
            clear HN hv hvl ho hm hq hmv hno hk hz hx
            go_wp2_with fail
            refine (HV.out _).mono ?_
            rintro e w1 ⟨rfl, rfl⟩
            go_wp2_with fail
            go_round
            case rel => exact ⟨z, i + 1, rfl, by go_num, by omega, HZ, HX2⟩
            case measure => simp [intOf]; omega
        · obtain rfl : i = s.size := by omega
          have hx := HX.out
          rw [List.drop_eq_nil_of_le (by rw [ba_len]; omega)] at hx
          unfold numG at hx
          subst hx
          clear HN
          go_wp2_with fail
          go_ret2
          exact ⟨rfl, rfl⟩
    · have h2I : (s.size : Int) < 2 := by omega
      have h1I : ¬ (1 : Int) < s.size := by omega
      rw [if_pos ⟨h0, fun h => by omega⟩] at hX
      have HX := Lib.hid (show X = numG 10 (s.data.toList.drop 0) 0 from hX.symm)
      clear hX h0 hx hch hl h2 h1s
      go_enter Tryd.func12, Tryd.ntmps12
      go_upto_region 10 with fail
      clear hem h2I h1I
      go_wp2_with fail
      go_loop [6, 7] (fun z6 z7 => ∃ n i : Nat, z6 = .int .u64 n ∧ z7 = .int .i64 i ∧ i ≤ s.size ∧ Hid (n ≤ 18446744073709551615) ∧ Hid (X = numG 10 (s.data.toList.drop i) n)) (fun _ z7 => s.size - (intOf z7).toNat)
      case atStart => exact ⟨0, 0, rfl, rfl, by omega, Lib.hid (by omega), HX⟩
      case round =>
        clear HX
        obtain ⟨n, i, rfl, rfl, hi, HN, HX⟩ := hrel
        by_cases hlt : i < s.size
        · have hltI : (i : Int) < s.size := by omega
          have hidx : ∀ u : World, Sem.run Tryd.prog (Instr.index 9 (.string s) (.int .i64 (i : Int))) u = .ok (.int .u8 (s[i].toNat : Int)) u := fun u => lxIdxS s i hlt u
          have hdr : s.data.toList.drop i = s[i] :: s.data.toList.drop (i + 1) := by
            rw [List.drop_eq_getElem_cons (by rw [ba_len]; omega)]
            simp [ByteArray.getElem_eq_getElem_data]
          have hx := HX.out
          rw [hdr] at hx
          unfold numG at hx
          have h255 : s[i].toNat ≤ 255 := by have := UInt8.toNat_lt s[i]; omega
          have HV := Lib.hid (fun u => rfValue s[i].toNat u h255)
          have hvl := val_le s[i].toNat h255
          generalize s[i].toNat = c at *
          generalize valN c = v at *
          clear h255 hdr HX
          by_cases hv : 10 ≤ v
          · rw [if_pos hv] at hx
            subst hx
            have hvI : (10 : Int) ≤ v := by omega
            clear HN hv hvl
            go_wp2_with fail
            refine (HV.out _).mono ?_
            rintro e w1 ⟨rfl, rfl⟩
            go_wp2_with fail
            go_ret2
            exact ⟨rfl, rfl⟩
          rw [if_neg hv] at hx
          obtain ⟨m, hm⟩ : ∃ m, 18446744073709551615 - v = m := ⟨_, rfl⟩
          obtain ⟨q, hq⟩ : ∃ q, m / 10 = q := ⟨_, rfl⟩
          have hmv : 18446744073709551615 - v < 18446744073709551616 := by omega
          rw [hm, hq] at hx
          have e1 : IntKind.u64.wrap (18446744073709551615 - (v : Int)) = (m : Int) := by
            rw [show (18446744073709551615 : Int) - (v : Int) = (m : Int) by omega]
            exact IntWalk.u64_in _ ⟨by omega, by omega⟩
          have e2 : (m : Int).tdiv 10 = (q : Int) := by rw [← hq]; exact rfl
          have e3 : IntKind.u64.wrap ((m : Int).tdiv 10) = (q : Int) := by rw [e2]; exact IntWalk.u64_in _ ⟨by omega, by omega⟩
          have e3' : IntKind.u64.wrap (q : Int) = (q : Int) := IntWalk.u64_in _ ⟨by omega, by omega⟩
          have f1 : ((v : Int) < 10) = True := eq_true (by omega)
          have f2 : ((10 : Int) ≤ v) = False := eq_false (by omega)
          have f3 : decide ((10 : Int) ≤ v) = false := decide_eq_false (by omega)
          have f4 : decide (10 ≤ v) = false := decide_eq_false (by omega)
          have f5 : (10 ≤ v) = False := eq_false (by omega)
          by_cases ho : q < n
          · rw [if_pos ho] at hx
            subst hx
            have hoI : (q : Int) < n := by omega
            have hoD : decide (q < n) = true := decide_eq_true ho
            clear HN hv hvl ho hm hq hmv
            go_wp2_with fail
            refine (HV.out _).mono ?_
            rintro e w1 ⟨rfl, rfl⟩
            go_wp2_with fail
            go_ret2
            exact ⟨rfl, rfl⟩
          · rw [if_neg ho] at hx
            have hno : 10 * n + v ≤ 18446744073709551615 := by
              by_cases hh : 18446744073709551615 < 10 * n + v
              · exact absurd ((over_iff 10 n v (by decide) (by omega)).2 hh) (by rw [hm, hq]; exact ho)
              · omega
            obtain ⟨k, hk⟩ : ∃ k, 10 * n = k := ⟨_, rfl⟩
            obtain ⟨z, hz⟩ : ∃ z, 10 * n + v = z := ⟨_, rfl⟩
            rw [hz] at hx
            have HZ := Lib.hid (show z ≤ 18446744073709551615 by omega)
            have e4 : IntKind.u64.wrap (10 * (n : Int)) = (k : Int) := by
              rw [show 10 * (n : Int) = (k : Int) by omega]
              exact IntWalk.u64_in _ ⟨by omega, by omega⟩
            have e5 : IntKind.u64.wrap ((k : Int) + (v : Int)) = (z : Int) := by
              rw [show (k : Int) + (v : Int) = (z : Int) by omega]
              exact IntWalk.u64_in _ ⟨by omega, by omega⟩
            have HX2 := Lib.hid hx
            have hoI : ((q : Int) < n) = False := eq_false (by omega)
            have hoD : decide (q < n) = false := decide_eq_false ho
            clear HN hv hvl ho hm hq hmv hno hk hz hx
            go_wp2_with fail
            refine (HV.out _).mono ?_
            rintro e w1 ⟨rfl, rfl⟩
            go_wp2_with fail
            go_round
            case rel => exact ⟨z, i + 1, rfl, by go_num, by omega, HZ, HX2⟩
            case measure => simp [intOf]; omega
        · obtain rfl : i = s.size := by omega
          have hx := HX.out
          rw [List.drop_eq_nil_of_le (by rw [ba_len]; omega)] at hx
          unfold numG at hx
          subst hx
          clear HN
          go_wp2_with fail
          go_ret2
          exact ⟨rfl, rfl⟩
end Go.Proofs.YtpkpbohkdkmoiaaDoor
