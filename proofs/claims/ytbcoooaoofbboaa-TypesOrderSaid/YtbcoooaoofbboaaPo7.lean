/- What the laws of policies need: Check in one form, policies with no rules and with a bare one. -/
import Derived.Test.YtbcoooaoofbboaaPo6
import Derived.Outline
namespace Go.Proofs.Ytbcoooaoofbboaa
open Go.RowKit Go.ChangeShapes
set_option linter.unusedVariables false

theorem few_names {p : Pol} (h : p.few = true) : ∀ m ∈ p.rules, m.names.length ≤ 1000 := fun m hm => by have := ((Pol.few_le h).2 m hm).1; omega
/-- Check, whatever it answers -/
theorem tyCheckF (p : Pol) (v : Value) (w : World) (h : IsPol w v p) (hnm : ∀ m ∈ p.rules, m.names.length ≤ 1000) :
    Calls Try.prog 15 #[v] w fun e w' => (∃ (x y : Nat) (A : Option Addr) (m c : Nat), e = .returned (.tuple #[.agg #[.int .u32 (x : Nat), .int .u32 (y : Nat), .slice A m c], .int .i64 p.err]) ∧ (p.err = 0 → x = p.typ.arch ∧ y = p.typ.dflt ∧ m = p.typ.rules.length)) ∧ Below w.heap.size w w' := by
  refine (tyCheck p v w h hnm).mono ?_
  rintro e w' ⟨h1, h2⟩
  refine ⟨?_, h2⟩
  unfold CheckPost at h1
  by_cases h0 : p.err = 0
  · rw [if_pos h0] at h1
    obtain ⟨k, rfl, hk⟩ := h1
    obtain ⟨A, m, c, rfl, hl, _⟩ := hk
    exact ⟨_, _, A, m, c, by rw [h0], fun _ => ⟨rfl, rfl, hl.symm⟩⟩
  · rw [if_neg h0] at h1
    exact ⟨0, 0, none, 0, 0, h1, fun h => absurd h h0⟩
theorem err_bare (p : Pol) (h : p.err = 0) : (⟨p.arch, p.dflt, p.data, []⟩ : Pol).err = 0 ∧ (⟨p.arch, p.dflt, p.data, []⟩ : Pol).typ.arch = p.typ.arch ∧ (⟨p.arch, p.dflt, p.data, []⟩ : Pol).typ.dflt = p.typ.dflt := by
  refine ⟨?_, rfl, rfl⟩
  unfold Pol.err at h ⊢
  rw [if_neg (show ¬ (⟨p.arch, p.dflt, p.data, []⟩ : Pol).long = true by simp [Pol.long])]
  cases hl : p.long with
  | true => rw [hl, if_pos rfl] at h; omega
  | false =>
    rw [hl, if_neg (by decide)] at h
    dsimp only
    generalize archOf p.arch = AO at *
    generalize actRes p.dflt (p.data : Int) = RO at *
    cases AO with
    | none => exact absurd h (by simp)
    | some a =>
      cases RO with
      | none => exact absurd h (by simp)
      | some d => rfl
theorem err_one (a d : ByteArray) (x : Nat) : (⟨a, d, x, [⟨d, x, [], cndZ⟩]⟩ : Pol).err = 63 := by
  unfold Pol.err
  have hz : cndZ.testN = 0 := by decide
  rw [if_neg (show ¬ (⟨a, d, x, [⟨d, x, [], cndZ⟩]⟩ : Pol).long = true by simp [Pol.long, Rul.lots, hz])]
  dsimp only
  cases archOf a with
  | none => rfl
  | some n =>
    cases actRes d (x : Int) with
    | none => rfl
    | some m => simp [Rul.ok]
theorem infoRul : (Try.prog.info? 46).map (fun i => (i.zero, i.size, i.bytes)) = some (some (.agg #[.string ⟨#[]⟩, .int .u64 0, .slice none 0 0, .int .i64 0, .slice none 0 0, .int .i64 0, .int .u64 0, .string ⟨#[]⟩, .int .u64 0]), 9, 120) := by kernel_rfl
/-- a row of the call's own with one bare rule -/
theorem own_one {w : World} {base : Nat} {v : Value} {d : ByteArray} {x : Nat} (hd : d.size ≤ 9223372036854775807) (hx : x ≤ 18446744073709551615) (h : w.ownsRow base 46 9 v 1 [.string d, .int .u64 (x : Nat), .slice none 0 0, .int .i64 0, .slice none 0 0, .int .i64 0, .int .u64 0, .string ⟨#[]⟩, .int .u64 0]) : ∃ A c, v = .slice A 1 c ∧ IsRuls w v [⟨d, x, [], cndZ⟩] := by
  rcases h.2 with ⟨rfl, h0⟩ | ⟨g, cap, cur, rfl, hg, hh, hn, hc, hcs, htake⟩
  · cases h0
  · refine ⟨_, _, rfl, _, 1, cap, rfl, rfl, hn, by unfold maxLen at hc; exact hc, (fun e => by cases e), .inr ⟨g, 0, rfl, lt_of_block hh, fun i hi => ?_⟩⟩
    obtain rfl : i = 0 := by omega
    refine ⟨⟨hd, hx, show cndZ.bounded from ⟨by decide, by decide, by decide, by decide, by decide⟩⟩, .slice none 0 0, .slice none 0 0, fun j u hj => ?_, ⟨none, 0, 0, rfl, rfl, by omega, by omega, by simp, .inl rfl⟩, ⟨none, 0, 0, rfl, rfl, by omega, by omega, fun _ => rfl, .inl rfl⟩⟩
    have := h.cells (g := g) rfl j u hj
    rw [addr_add] at this
    rwa [show 0 + 0 * 9 + j = 0 + j by omega]
end Go.Proofs.Ytbcoooaoofbboaa
