/- Which rows may be; two rows alike; a new row. -/
import Derived.Test.YtgglejicbojiaaaDoorRoom
import Derived.Deep.QuietTactic
namespace Go.Proofs.YtgglejicbojiaaaDoor
open Go.RowKit
set_option linter.unusedVariables false

def IdxPost (l : List Bool) (w : World) (e : Ending) (w' : World) : Prop := ∃ r : Int, e = .returned (.int .i64 r) ∧ ((0 ≤ r ∧ r ≤ 9223372036854775807 ∧ l.all id = false) ∨ (r = -1 ∧ l.all id = true)) ∧ w = w'
set_option maxHeartbeats 400000 in
theorem boolIndex_any (v : Value) (l : List Bool) (w : World) (h : IsBools w v l) :
    Calls Tryd.prog 34 #[v, .bool false] w (IdxPost l w) := by
  obtain ⟨a, len, cap, rfl, hlen, hc1, hc2, hat⟩ := h
  have hlI : (len : Int) ≤ 9223372036854775807 := by omega
  have HA := Lib.hid hat; have HL := Lib.hid hlen
  clear hat hlen
  go_enter Tryd.func34, Tryd.ntmps34
  go_wp2
  go_loop [8] (fun c => ∃ k : Nat, k ≤ len ∧ c = .int .i64 k ∧ (l.take k).all id = true) (fun c => len - (intOf c).toNat)
  case atStart => exact ⟨0, by omega, rfl, rfl⟩
  case round =>
    obtain ⟨k, hk, rfl, hall⟩ := hrel
    have HALL := Lib.hid hall
    clear hall
    by_cases hlt : k < len
    · obtain ⟨b, off, rfl, hb, hat⟩ := HA.out.resolve_left (by omega)
      have hkl : k < l.length := by have := HL.out; omega
      have hc := hat k hkl
      clear hat
      cases hB : l[k]
      · rw [hB] at hc
        have hno : l.all id = false := by
          rw [Bool.eq_false_iff]
          intro h
          rw [List.all_eq_true] at h
          have := h _ (List.getElem_mem hkl)
          rw [hB] at this
          cases this
        have HN := Lib.hid hno
        clear hno hB
        go_wp2
        go_ret
        exact ⟨k, rfl, .inl ⟨by omega, by omega, HN.out⟩, rfl⟩
      · rw [hB] at hc
        have hsn : (l.take (k + 1)).all id = true := by
          rw [← List.take_append_getElem hkl, List.all_append, HALL.out, hB]; rfl
        have HS := Lib.hid hsn
        clear hsn hB
        go_wp2
        go_round
        case rel => exact ⟨k + 1, by omega, by go_num, HS.out⟩
        case measure => simp [intOf]; omega
    · obtain rfl : k = len := by omega
      have hall : l.all id = true := by have := HALL.out; rwa [List.take_of_length_le (by have := HL.out; omega)] at this
      have HX := Lib.hid hall
      clear hall
      go_wp2
      go_ret
      exact ⟨-1, rfl, .inr ⟨rfl, HX.out⟩, rfl⟩
theorem boolContains_any (v : Value) (l : List Bool) (w : World) (h : IsBools w v l) :
    Calls Tryd.prog 31 #[v, .bool false] w fun e w' => e = .returned (.bool (!l.all id)) ∧ w = w' := by
  have hx := boolIndex_any v l w h
  obtain ⟨a, len, cap, rfl, hlen, hc1, hc2, hat⟩ := h
  have HX := Lib.hid hx
  clear hx hlen hat
  go_enter Tryd.func31, Tryd.ntmps31
  go_wp2_with fail
  refine HX.out.mono ?_
  rintro e w' ⟨r, rfl, hr, rfl⟩
  rcases hr with ⟨h0, h1, hB⟩ | ⟨rfl, hB⟩
  · have HB := Lib.hid hB
    clear hB
    go_wp2_with fail
    go_ret
    exact ⟨by rw [HB.out]; rfl, rfl⟩
  · have HB := Lib.hid hB
    clear hB
    go_wp2_with fail
    go_ret
    exact ⟨by rw [HB.out]; rfl, rfl⟩

def rightB (l : List Bool) : Bool := decide (64 ≤ l.length ∧ l.length ≤ 256) && (l.take 54).all id
set_option maxHeartbeats 400000 in
theorem roomRight_any (v : Value) (l : List Bool) (w : World) (h : IsBools w v l) :
    Calls Tryd.prog 20 #[v] w fun e w' => e = .returned (.bool (rightB l)) ∧ w = w' := by
  obtain ⟨a, len, cap, rfl, hlen, hc1, hc2, htk⟩ := h.take
  have hlI : (len : Int) ≤ cap := by omega
  have hcI : (cap : Int) ≤ 9223372036854775807 := by omega
  by_cases hs : 64 ≤ len ∧ len ≤ 256
  · have hd : decide (64 ≤ (len : Int) ∧ (len : Int) ≤ 256) = true := decide_eq_true (by omega)
    have hr : rightB l = (l.take 54).all id := by
      unfold rightB
      rw [decide_eq_true (by omega)]; rfl
    have HK := Lib.hid (fun u hu => boolContains_any (.slice a 54 cap) (l.take 54) u hu)
    have HT := Lib.hid (htk 54 (by omega))
    have HR := Lib.hid hr
    have h54 : (54 : Int) ≤ cap := by omega
    clear hr htk h hlen hs
    generalize (l.take 54).all id = B at *
    go_enter Tryd.func20, Tryd.ntmps20
    go_wp2_with (first | (go_at_call 30; refine (roomSized_any _ _).mono ?_; rintro e w' ⟨rfl, rfl⟩))
    refine (HK.out _ HT.out).mono ?_
    rintro e w' ⟨rfl, rfl⟩
    cases B
    all_goals
      go_wp2_with fail
      go_ret
      exact ⟨by rw [HR.out]; rfl, rfl⟩
  · have hd : decide (64 ≤ (len : Int) ∧ (len : Int) ≤ 256) = false := decide_eq_false (by omega)
    have hr : rightB l = false := by
      unfold rightB
      rw [decide_eq_false (by omega)]; rfl
    have HR := Lib.hid hr
    clear hr htk h hlen hs
    go_enter Tryd.func20, Tryd.ntmps20
    go_wp2_with (first | (go_at_call 30; refine (roomSized_any _ _).mono ?_; rintro e w' ⟨rfl, rfl⟩))
    go_ret
    exact ⟨by rw [HR.out]; rfl, rfl⟩

set_option maxHeartbeats 400000 in
theorem refRight_any (v : Value) (l : List Bool) (w : World) (h : IsBools w v l) :
    Calls Tryd.prog 27 #[v] w fun e w' => e = .returned (.bool (rightB l)) ∧ w = w' := by
  obtain ⟨a, len, cap, rfl, hlen, hc1, hc2, hat⟩ := h
  have hlI : (len : Int) ≤ 9223372036854775807 := by omega
  by_cases hs : 64 ≤ len ∧ len ≤ 256
  · have hr : rightB l = (l.take 54).all id := by
      unfold rightB
      rw [decide_eq_true (by omega)]; rfl
    have HA := Lib.hid (hat.resolve_left (by omega)); have HL := Lib.hid hlen; have HR := Lib.hid hr
    obtain ⟨hs1, hs2⟩ := hs
    have hs1I : (64 : Int) ≤ len := by omega
    have hs2I : (len : Int) ≤ 256 := by omega
    clear hat hlen hr
    obtain ⟨b, off, rfl, hb, hat⟩ := HA.out
    have HAT := Lib.hid hat
    clear hat HA
    go_enter Tryd.func27, Tryd.ntmps27
    go_wp2
    go_loop [3] (fun c => ∃ k : Nat, k ≤ 54 ∧ c = .int .i64 k ∧ (l.take k).all id = true) (fun c => 54 - (intOf c).toNat)
    case atStart => exact ⟨0, by omega, rfl, rfl⟩
    case round =>
      obtain ⟨k, hk, rfl, hall⟩ := hrel
      have HALL := Lib.hid hall
      clear hall
      by_cases hlt : k < 54
      · have hkl : k < l.length := by have := HL.out; omega
        have hc := HAT.out k hkl
        cases hB : l[k]
        · rw [hB] at hc
          have hno : (l.take 54).all id = false := by
            rw [Bool.eq_false_iff]
            intro h
            rw [List.all_eq_true] at h
            have := h l[k] (by rw [List.mem_iff_getElem]; exact ⟨k, by rw [List.length_take]; omega, by simp⟩)
            rw [hB] at this
            cases this
          have HN := Lib.hid hno
          clear hno hB
          go_wp2
          go_ret
          exact ⟨by rw [HR.out, HN.out]; rfl, rfl⟩
        · rw [hB] at hc
          have hsn : (l.take (k + 1)).all id = true := by
            rw [← List.take_append_getElem hkl, List.all_append, HALL.out, hB]; rfl
          have HS := Lib.hid hsn
          clear hsn hB
          go_wp2
          go_round
          case rel => exact ⟨k + 1, by omega, by go_num, HS.out⟩
          case measure => simp [intOf]; omega
      · obtain rfl : k = 54 := by omega
        go_wp2
        go_ret
        exact ⟨by rw [HR.out, HALL.out]; rfl, rfl⟩
  · have hr : rightB l = false := by
      unfold rightB
      rw [decide_eq_false (by omega)]; rfl
    have HR := Lib.hid hr
    clear hr hat hlen
    by_cases h64 : len < 64
    · clear hs
      go_enter Tryd.func27, Tryd.ntmps27
      go_wp2
      go_ret
      exact ⟨by rw [HR.out]; rfl, rfl⟩
    · have h256 : (256 : Int) < len := by omega
      have h64 : (64 : Int) ≤ len := by omega
      clear hs
      go_enter Tryd.func27, Tryd.ntmps27
      go_wp2
      go_ret
      exact ⟨by rw [HR.out]; rfl, rfl⟩

set_option maxRecDepth 100000 in
set_option maxHeartbeats 1000000 in
theorem refSame_any (va vb : Value) (la lb : List Bool) (w : World) (ha : IsBools w va la) (hb : IsBools w vb lb) :
    Calls Tryd.prog 8 #[va, vb] w fun e w' => e = .returned (.bool (decide (la = lb))) ∧ Below w.heap.size w w' := by
  obtain ⟨a, len, cap, rfl, hlen, hc1, hc2, hat⟩ := ha
  obtain ⟨a', len', cap', rfl, hlen', hc1', hc2', hat'⟩ := hb
  have hlI : (len : Int) ≤ 9223372036854775807 := by omega
  have hlI' : (len' : Int) ≤ 9223372036854775807 := by omega
  by_cases hl : len = len'
  · subst hl
    have HX := Lib.hid (fun (h : la.take len = lb.take len) => show la = lb by rwa [List.take_of_length_le (by omega), List.take_of_length_le (by omega)] at h)
    have HA := Lib.hid hat; have HA' := Lib.hid hat'; have HL := Lib.hid hlen; have HL' := Lib.hid hlen'
    clear hat hat' hlen hlen'
    go_enter Tryd.func8, Tryd.ntmps8
    go_wp2_with fail
    go_loopw [13] (fun c wr => ∃ k : Nat, k ≤ len ∧ c = .int .i64 k ∧ la.take k = lb.take k ∧ Below w.heap.size w wr) (fun c _ => len - (intOf c).toNat)
    case atStart => exact ⟨0, by omega, rfl, rfl, Below.refl _ _⟩
    case round =>
      obtain ⟨k, hk, rfl, heq, hwr⟩ := hrel
      have HQ := Lib.hid heq
      clear heq
      by_cases hlt : k < len
      · obtain ⟨b, off, rfl, hbl, hat⟩ := HA.out.resolve_left (by omega)
        obtain ⟨b', off', rfl, hbl', hat'⟩ := HA'.out.resolve_left (by omega)
        have hkl : k < la.length := by have := HL.out; omega
        have hkl' : k < lb.length := by have := HL'.out; omega
        have hi := (hwr.cell (p := ⟨b, off + k, none⟩) hbl).trans (hat k hkl)
        have hi' := (hwr.cell (p := ⟨b', off' + k, none⟩) hbl').trans (hat' k hkl')
        clear hat hat'
        have hk0 : (0 : Int) ≤ k := by omega
        have hk1 : (k : Int) < len := by omega
        have hsn : la[k] = lb[k] → la.take (k + 1) = lb.take (k + 1) := fun h => by
          rw [← List.take_append_getElem hkl, ← List.take_append_getElem hkl', HQ.out, h]
        have hno : la[k] ≠ lb[k] → decide (la = lb) = false := fun h => decide_eq_false (fun e => h (by subst e; rfl))
        have HS := Lib.hid hsn; have HNO := Lib.hid hno
        clear hsn hno
        generalize la[k] = x at *
        generalize lb[k] = y at *
        cases x <;> cases y
        case false.false | true.true =>
          go_wp2_with fail
          go_quiet (fail)
          go_wp2_with fail
          go_roundw
          case rel => exact ⟨k + 1, by omega, by go_num, HS.out trivial, by first | exact hwr | exact belowN hwr _⟩
          case measure => simp [intOf]; omega
        all_goals
          have hd := HNO.out (by decide)
          have HD := Lib.hid hd
          clear hd
          go_wp2_with fail
          go_quiet (fail)
          go_wp2_with fail
          go_ret
          exact ⟨by rw [HD.out]; rfl, by first | exact hwr | exact belowN hwr _⟩
      · obtain rfl : k = len := by omega
        have hd : decide (la = lb) = true := decide_eq_true (HX.out HQ.out)
        have HD := Lib.hid hd
        clear hd
        go_wp2_with fail
        go_ret
        exact ⟨by rw [HD.out]; rfl, hwr⟩
  · have hd : decide (la = lb) = false := decide_eq_false (fun h => hl (by rw [h] at hlen; omega))
    have hlb : ((len : Int) != len') = true := by rw [bne_iff_ne]; omega
    have HD := Lib.hid hd
    clear hd hat hat' hlen hlen' hl
    go_enter Tryd.func8, Tryd.ntmps8
    go_wp2_with fail
    go_ret
    exact ⟨by rw [HD.out]; rfl, Below.refl _ _⟩

end Go.Proofs.YtgglejicbojiaaaDoor
