/- Rows of sectors: what is asked of them. -/
import Derived.Test.YtimiooiaohfelaaDoorRow1
import Derived.Test.YtimiooiaohfelaaDoorRows
import Derived.Outline
namespace Go.Proofs.YtimiooiaohfelaaDoor
open Go.ChangeShapes Go.WideShapes Go.ChangeAt Go.RowKit Go.Joins Go.Deep
set_option linter.unusedVariables false

abbrev IsBools (w : World) (v : Value) (l : List Bool) : Prop := Reads1 Value.bool w v l
set_option maxRecDepth 4000 in
theorem openBools {H : Type} {enc : TypeId × Value → H} {W : World} {base : Nat} {v : Value} {d : DataW H} {p : List MemPlace}
    (hok : Value.okWide Tryd.prog W .any base 42 v) (h : DataW.Trod enc Tryd.prog W 0 (fun _ => true) true 42 v d p) : ∃ l, IsBools W v l := by
  obtain ⟨a, len, cap, rfl, hl, hm, hat⟩ := openElems (e := 4) 1 undef Tryd.underlying42 (by kernel_rfl) (by omega) hok h
  rcases hat with rfl | ⟨b, off, rfl, hb, hat⟩
  · exact ⟨[], _, 0, _, rfl, rfl, by omega, hm, .inl rfl⟩
  · obtain ⟨l, hll, hP⟩ := list_of (P := fun i (k : Bool) => W.cell? ⟨b, off + i, none⟩ = some (.bool k)) true len fun i hlt => by
      obtain ⟨cs, n, y, hcl, hc, htr⟩ := hat i hlt
      match cs, hcl with
      | [c0], _ =>
        obtain ⟨a0, e0, _⟩ := DataW.trod_bool Tryd.underlying4 htr
        simp at e0
        subst e0
        have := hc 0 (by omega)
        exact ⟨a0, by simpa using this⟩
    refine ⟨l, _, len, _, rfl, hll, hl, hm, .inr ⟨b, off, rfl, hb, fun i hi => ?_⟩⟩
    have := hP i (by omega)
    rwa [show l.getD i true = l[i] from by simp [List.getD, hi]] at this

theorem roomSized_any (n : Int) (w : World) : Calls Tryd.prog 67 #[.int .i64 n] w fun e w' => e = .returned (.bool (decide (64 ≤ n ∧ n ≤ 256))) ∧ w = w' := by
  by_cases h1 : 64 ≤ n <;> by_cases h8 : n ≤ 256
  all_goals
    go_enter Tryd.func67, Tryd.ntmps67
    go_wp2
    go_ret
    refine ⟨?_, rfl⟩
    simp [*]

/-- how many are free -/
def freeN (l : List Bool) : Nat := l.count false
theorem freeN_snoc (l : List Bool) (k : Nat) (h : k < l.length) : freeN (l.take (k + 1)) = freeN (l.take k) + (if l[k] then 0 else 1) := by
  rw [← List.take_append_getElem h, freeN, List.count_append, freeN]
  cases l[k] <;> simp
theorem freeN_le (l : List Bool) (k : Nat) : freeN (l.take k) ≤ k := by
  unfold freeN
  exact Nat.le_trans List.count_le_length (List.length_take_le _ _)

set_option maxHeartbeats 400000 in
theorem roomFree_any (v : Value) (l : List Bool) (w : World) (h : IsBools w v l) :
    Calls Tryd.prog 51 #[v] w fun e w' => e = .returned (.int .i64 (freeN l : Nat)) ∧ w = w' := by
  obtain ⟨a, len, cap, rfl, hlen, hc1, hc2, hat⟩ := h
  have hlI : (len : Int) ≤ 9223372036854775807 := by omega
  have HA := Lib.hid hat; have HL := Lib.hid hlen
  clear hat hlen
  go_enter Tryd.func51, Tryd.ntmps51
  go_wp2
  go_loop [3, 8] (fun n c => ∃ k : Nat, k ≤ len ∧ c = .int .i64 k ∧ n = .int .i64 (freeN (l.take k) : Nat)) (fun _ c => len - (intOf c).toNat)
  case atStart => exact ⟨0, by omega, rfl, rfl⟩
  case round =>
    obtain ⟨k, hk, rfl, rfl⟩ := hrel
    by_cases hlt : k < len
    · obtain ⟨b, off, rfl, hb, hat⟩ := HA.out.resolve_left (by omega)
      have hkl : k < l.length := by have := HL.out; omega
      have hc := hat k hkl
      have hsn := freeN_snoc l k hkl
      have hle := freeN_le l k
      have hle2 : (freeN (l.take k) : Int) ≤ k := by omega
      generalize freeN (l.take k) = F at *
      clear hat hle
      cases hB : l[k]
      · rw [hB] at hc hsn
        have HS := Lib.hid hsn
        clear hsn hB
        go_wp2
        go_round
        case rel => exact ⟨k + 1, by omega, by go_num, by rw [HS.out]; rfl⟩
        case measure => simp [intOf]; omega
      · rw [hB] at hc hsn
        have HS := Lib.hid hsn
        clear hsn hB
        go_wp2
        go_round
        case rel => exact ⟨k + 1, by omega, by go_num, by rw [HS.out]; rfl⟩
        case measure => simp [intOf]; omega
    · obtain rfl : k = len := by omega
      have hall : l.take k = l := List.take_of_length_le (by have := HL.out; omega)
      rw [hall]
      clear hall
      go_wp2
      go_ret
      exact ⟨rfl, rfl⟩
end Go.Proofs.YtimiooiaohfelaaDoor
