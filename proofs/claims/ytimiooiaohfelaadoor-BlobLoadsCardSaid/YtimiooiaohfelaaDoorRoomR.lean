/- Which rows may be; two rows alike; a new row. -/
import Derived.Test.YtimiooiaohfelaaDoorRoom
import Derived.Deep.QuietTactic
namespace Go.Proofs.YtimiooiaohfelaaDoor
open Go.RowKit
set_option linter.unusedVariables false

def IdxPost (l : List Bool) (w : World) (e : Ending) (w' : World) : Prop := ∃ r : Int, e = .returned (.int .i64 r) ∧ ((0 ≤ r ∧ r ≤ 9223372036854775807 ∧ l.all id = false) ∨ (r = -1 ∧ l.all id = true)) ∧ w = w'
set_option maxHeartbeats 400000 in
theorem boolIndex_any (v : Value) (l : List Bool) (w : World) (h : IsBools w v l) :
    Calls Tryd.prog 78 #[v, .bool false] w (IdxPost l w) := by
  obtain ⟨a, len, cap, rfl, hlen, hc1, hc2, hat⟩ := h
  have hlI : (len : Int) ≤ 9223372036854775807 := by omega
  have HA := Lib.hid hat; have HL := Lib.hid hlen
  clear hat hlen
  go_enter Tryd.func78, Tryd.ntmps78
  go_wp2
  go_loop [8] (fun c => ∃ k : Nat, k ≤ len ∧ c = .int .i64 k ∧ (l.take k).all id = true) (fun c => len - (intOf c).toNat)
  case atStart => exact ⟨0, by omega, rfl, rfl⟩
  case round =>
    obtain ⟨k, hk, rfl, hall⟩ := hrel
    have HALL := Lib.hid hall
    clear hall
    by_cases hlt : k < len
    · obtain ⟨b, off, rfl, hb, hat⟩ := HA.out.resolve_left (by omega)
      have hkl : k < l.length := by have := HL.out; omega
      have hc := hat k hkl
      clear hat
      cases hB : l[k]
      · rw [hB] at hc
        have hno : l.all id = false := by
          rw [Bool.eq_false_iff]
          intro h
          rw [List.all_eq_true] at h
          have := h _ (List.getElem_mem hkl)
          rw [hB] at this
          cases this
        have HN := Lib.hid hno
        clear hno hB
        go_wp2
        go_ret
        exact ⟨k, rfl, .inl ⟨by omega, by omega, HN.out⟩, rfl⟩
      · rw [hB] at hc
        have hsn : (l.take (k + 1)).all id = true := by
          rw [← List.take_append_getElem hkl, List.all_append, HALL.out, hB]; rfl
        have HS := Lib.hid hsn
        clear hsn hB
        go_wp2
        go_round
        case rel => exact ⟨k + 1, by omega, by go_num, HS.out⟩
        case measure => simp [intOf]; omega
    · obtain rfl : k = len := by omega
      have hall : l.all id = true := by have := HALL.out; rwa [List.take_of_length_le (by have := HL.out; omega)] at this
      have HX := Lib.hid hall
      clear hall
      go_wp2
      go_ret
      exact ⟨-1, rfl, .inr ⟨rfl, HX.out⟩, rfl⟩
theorem boolContains_any (v : Value) (l : List Bool) (w : World) (h : IsBools w v l) :
    Calls Tryd.prog 68 #[v, .bool false] w fun e w' => e = .returned (.bool (!l.all id)) ∧ w = w' := by
  have hx := boolIndex_any v l w h
  obtain ⟨a, len, cap, rfl, hlen, hc1, hc2, hat⟩ := h
  have HX := Lib.hid hx
  clear hx hlen hat
  go_enter Tryd.func68, Tryd.ntmps68
  go_wp2_with fail
  refine HX.out.mono ?_
  rintro e w' ⟨r, rfl, hr, rfl⟩
  rcases hr with ⟨h0, h1, hB⟩ | ⟨rfl, hB⟩
  · have HB := Lib.hid hB
    clear hB
    go_wp2_with fail
    go_ret
    exact ⟨by rw [HB.out]; rfl, rfl⟩
  · have HB := Lib.hid hB
    clear hB
    go_wp2_with fail
    go_ret
    exact ⟨by rw [HB.out]; rfl, rfl⟩

def rightB (l : List Bool) : Bool := decide (64 ≤ l.length ∧ l.length ≤ 256) && (l.take 54).all id
set_option maxHeartbeats 400000 in
theorem roomRight_any (v : Value) (l : List Bool) (w : World) (h : IsBools w v l) :
    Calls Tryd.prog 50 #[v] w fun e w' => e = .returned (.bool (rightB l)) ∧ w = w' := by
  obtain ⟨a, len, cap, rfl, hlen, hc1, hc2, htk⟩ := h.take
  have hlI : (len : Int) ≤ cap := by omega
  have hcI : (cap : Int) ≤ 9223372036854775807 := by omega
  by_cases hs : 64 ≤ len ∧ len ≤ 256
  · have hd : decide (64 ≤ (len : Int) ∧ (len : Int) ≤ 256) = true := decide_eq_true (by omega)
    have hr : rightB l = (l.take 54).all id := by
      unfold rightB
      rw [decide_eq_true (by omega)]; rfl
    have HK := Lib.hid (fun u hu => boolContains_any (.slice a 54 cap) (l.take 54) u hu)
    have HT := Lib.hid (htk 54 (by omega))
    have HR := Lib.hid hr
    have h54 : (54 : Int) ≤ cap := by omega
    clear hr htk h hlen hs
    generalize (l.take 54).all id = B at *
    go_enter Tryd.func50, Tryd.ntmps50
    go_wp2_with (first | (go_at_call 67; refine (roomSized_any _ _).mono ?_; rintro e w' ⟨rfl, rfl⟩))
    refine (HK.out _ HT.out).mono ?_
    rintro e w' ⟨rfl, rfl⟩
    cases B
    all_goals
      go_wp2_with fail
      go_ret
      exact ⟨by rw [HR.out]; rfl, rfl⟩
  · have hd : decide (64 ≤ (len : Int) ∧ (len : Int) ≤ 256) = false := decide_eq_false (by omega)
    have hr : rightB l = false := by
      unfold rightB
      rw [decide_eq_false (by omega)]; rfl
    have HR := Lib.hid hr
    clear hr htk h hlen hs
    go_enter Tryd.func50, Tryd.ntmps50
    go_wp2_with (first | (go_at_call 67; refine (roomSized_any _ _).mono ?_; rintro e w' ⟨rfl, rfl⟩))
    go_ret
    exact ⟨by rw [HR.out]; rfl, rfl⟩



end Go.Proofs.YtimiooiaohfelaaDoor
