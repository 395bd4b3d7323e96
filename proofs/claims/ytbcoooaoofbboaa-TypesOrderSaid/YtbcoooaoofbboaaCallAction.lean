/- call.Action. -/
import Derived.Test.YtbcoooaoofbboaaMaps
import Derived.Test.YtbcoooaoofbboaaRows
namespace Go.Proofs.Ytbcoooaoofbboaa
open Go.RowKit
set_option linter.unusedVariables false

/-- an action's number, and the greatest datum -/
def actOf (s : ByteArray) : Option (Nat × Nat) :=
  if s = ⟨#[116, 114, 97, 99, 101]⟩ then some (2146435072, 65535)
  else if s = ⟨#[116, 114, 97, 112]⟩ then some (196608, 65535)
  else if s = ⟨#[101, 114, 114, 110, 111]⟩ then some (327680, 4095)
  else if s = ⟨#[97, 108, 108, 111, 119]⟩ then some (2147418112, 0)
  else if s = ⟨#[108, 111, 103]⟩ then some (2147221504, 0)
  else if s = ⟨#[107, 105, 108, 108, 95, 116, 104, 114, 101, 97, 100]⟩ then some (0, 0)
  else if s = ⟨#[107, 105, 108, 108]⟩ then some (2147483648, 0)
  else none
def actV (p : Nat × Nat) : Value := .agg #[.int .u32 (p.1 : Nat), .int .u64 (p.2 : Nat)]
/-- the number of an action with a datum -/
def actRes (s : ByteArray) (d : Int) : Option Nat := match actOf s with
  | none => none
  | some p => if d ≤ (p.2 : Nat) then some (p.1 + d.toNat) else none
theorem actOf_cases (s : ByteArray) (p : Nat × Nat) (h : actOf s = some p) : p.1 % 65536 = 0 ∧ p.2 < 65536 ∧ p.1 + 65536 ≤ 4294967296 := by
  unfold actOf at h
  repeat' (split at h; (injection h with h; subst h; exact ⟨by omega, by omega, by omega⟩))
  cases h
theorem zeroAct (w : World) : (zeroValue 69).run Try.prog w = .ok (.agg #[.int .u32 0, .int .u64 0]) w := by kernel_rfl
theorem or_act (n d : Nat) (hn : n % 65536 = 0) (hd : d < 65536) (h : n + 65536 ≤ 4294967296) : bits BinOp.or IntKind.u32 (n : Int) (d : Int) = ((n + d : Nat) : Int) := by
  rw [u32_or_nat n d (by omega) (by omega)]
  congr 1
  exact nat_join 16 n d hn hd

theorem act_step {c : Prop} [Decidable c] (v : Value) (p : Nat × Nat) (r : Option Value) (o : Option (Nat × Nat)) (h1 : actV p = v) (h2 : ¬ c → r = o.map actV) :
    (if c then some v else r) = (if c then some p else o).map actV := by
  by_cases h : c
  · rw [if_pos h, if_pos h, Option.map_some, h1]
  · rw [if_neg h, if_neg h, h2 h]
set_option maxHeartbeats 1000000 in
set_option maxRecDepth 100000 in
theorem callAction_any (s : ByteArray) (d : Int) (w : World) (h0 : 0 ≤ d) (h1 : d ≤ 18446744073709551615) :
    Calls Try.prog 24 #[.string s, .int .u64 d] w fun e w' => e = .returned (.tuple #[.int .u32 (((actRes s d).getD 0 : Nat) : Int), .bool (actRes s d).isSome]) ∧ Below w.heap.size w w' := by
  have hmm := @run_makeMap Try.prog
  have hbel := (Below.refl w.heap.size w).alloc (Nat.le_refl _) (.map #[] 0)
  have hm := HoldsMap.new strKeys w
  go_enter Try.func24, Try.ntmps24
  go_upto_region 2 with (refine wpList_mapSet (K := strKeys) hm hbel (Nat.le_refl _) (Nat.le_refl _) 70 9 69 _ _ _ _ _ rfl (.inr rfl) Try.underlying70 Try.underlying9 rfl rfl rfl ?_; clear hm hbel; intro wk hm hbel hg; clear hg)
  have hm' : HoldsMap strKeys wk w.heap.size (fun k => (actOf k).map actV) := hm.congr (fun k => by
    unfold actOf
    refine act_step _ _ _ _ rfl fun _ => ?_
    refine act_step _ _ _ _ rfl fun _ => ?_
    refine act_step _ _ _ _ rfl fun _ => ?_
    refine act_step _ _ _ _ rfl fun _ => ?_
    refine act_step _ _ _ _ rfl fun _ => ?_
    refine act_step _ _ _ _ rfl fun _ => ?_
    exact act_step _ _ _ _ rfl fun _ => rfl)
  have hlk := hm'.lookup (P := Try.prog) s Try.underlying70 Try.underlying9 (zeroAct _)
  clear hm hm'
  cases ha : actOf s with
  | none =>
    have hr : actRes s d = none := by simp [actRes, ha]
    have HR := Lib.hid hr
    rw [ha] at hlk
    simp only [strKeys, Option.map_none, Option.getD_none, Option.isSome_none] at hlk
    clear ha hr
    go_wp2_with fail
    go_ret2
    exact ⟨by rw [HR.out]; rfl, hbel.alloc hbel.size _⟩
  | some p =>
    obtain ⟨p1, p2, p3⟩ := actOf_cases s p ha
    obtain ⟨n, m⟩ := p
    have hr : actRes s d = if d ≤ (m : Nat) then some (n + d.toNat) else none := by simp [actRes, ha]
    have HR := Lib.hid hr
    rw [ha] at hlk
    simp only [strKeys, Option.map_some, Option.getD_some, Option.isSome_some, actV] at hlk
    dsimp only at p1 p2 p3
    have nI : (n : Int) ≤ 4294967295 := by omega
    have mI : (m : Int) ≤ 65535 := by omega
    obtain ⟨d, rfl⟩ := Int.eq_ofNat_of_zero_le h0
    by_cases hd : (d : Int) ≤ (m : Nat)
    · have hor := or_act n d p1 (by omega) p3
      clear ha hr p1 p2 p3
      go_wp2_with fail
      go_ret2
      have e : ((n : Int) + (d : Int)) = ((n + d : Nat) : Int) := by omega
      refine ⟨?_, hbel.alloc hbel.size _⟩
      rw [HR.out, if_pos hd, Option.getD_some, Option.isSome_some, Int.toNat_natCast, ← e]
      rfl
    · clear ha hr p1 p2 p3
      go_wp2_with fail
      go_ret2
      exact ⟨by rw [HR.out, if_neg (by omega)]; rfl, hbel.alloc hbel.size _⟩
end Go.Proofs.Ytbcoooaoofbboaa
