/- The machine's deed of any known code, and its call. -/
import Derived.Test.YtnlmdajoifjddaaVm8
import Derived.Test.YtnlmdajoifjddaaKnown
namespace Go.Proofs.Ytnlmdajoifjddaa
open Go.RowKit
set_option linter.unusedVariables false

theorem vm_deed (c : Nat) (hc : c ∈ codeList) (rec : ByteArray) (n : Nat) (m : Mach) (B k : Nat) (jt jf : Int) (w : World) (hM : IsM w B rec n m) (ha : m.a ≤ 4294967295) (hx : m.x ≤ 4294967295) (hk : k ≤ 4294967295) :
    Calls Try.prog 27 #[.pointer (some ⟨B, 0, none⟩), .agg #[.int .i64 (c : Int), .int .i64 jt, .int .i64 jf, .int .u32 (k : Int)]] w (Mk w B (deedD m c k jt jf)) := by
  unfold codeList at hc
  simp only [List.mem_cons, List.not_mem_nil, or_false] at hc
  rcases hc with rfl | rfl | rfl | rfl | rfl | rfl | rfl | rfl | rfl | rfl | rfl | rfl | rfl | rfl | rfl | rfl | rfl | rfl | rfl | rfl | rfl | rfl | rfl | rfl | rfl | rfl | rfl | rfl | rfl | rfl | rfl | rfl | rfl | rfl | rfl | rfl | rfl | rfl | rfl | rfl | rfl
  · exact vm_deedM rec n m B 32 k jt jf w hM ha hx hk (by decide)
  · exact vm_deedM rec n m B 128 k jt jf w hM ha hx hk (by decide)
  · exact vm_deedM rec n m B 0 k jt jf w hM ha hx hk (by decide)
  · exact vm_deedM rec n m B 96 k jt jf w hM ha hx hk (by decide)
  · exact vm_deedM rec n m B 1 k jt jf w hM ha hx hk (by decide)
  · exact vm_deedM rec n m B 97 k jt jf w hM ha hx hk (by decide)
  · exact vm_deedM rec n m B 129 k jt jf w hM ha hx hk (by decide)
  · exact vm_deedM rec n m B 2 k jt jf w hM ha hx hk (by decide)
  · exact vm_deedM rec n m B 3 k jt jf w hM ha hx hk (by decide)
  · exact vm_deedSK rec n m B 4 k jt jf w hM ha hx hk (by decide)
  · exact vm_deedSK rec n m B 20 k jt jf w hM ha hx hk (by decide)
  · exact vm_deedSK rec n m B 36 k jt jf w hM ha hx hk (by decide)
  · exact vm_deedSK rec n m B 52 k jt jf w hM ha hx hk (by decide)
  · exact vm_deedSK rec n m B 68 k jt jf w hM ha hx hk (by decide)
  · exact vm_deedSK rec n m B 84 k jt jf w hM ha hx hk (by decide)
  · exact vm_deedSK rec n m B 100 k jt jf w hM ha hx hk (by decide)
  · exact vm_deedSK rec n m B 116 k jt jf w hM ha hx hk (by decide)
  · exact vm_deedSK rec n m B 132 k jt jf w hM ha hx hk (by decide)
  · exact vm_deedSK rec n m B 164 k jt jf w hM ha hx hk (by decide)
  · exact vm_deedSX rec n m B 4 12 k jt jf w hM ha hx hk (by decide) rfl
  · exact vm_deedSX rec n m B 20 28 k jt jf w hM ha hx hk (by decide) rfl
  · exact vm_deedSX rec n m B 36 44 k jt jf w hM ha hx hk (by decide) rfl
  · exact vm_deedSX rec n m B 52 60 k jt jf w hM ha hx hk (by decide) rfl
  · exact vm_deedSX rec n m B 68 76 k jt jf w hM ha hx hk (by decide) rfl
  · exact vm_deedSX rec n m B 84 92 k jt jf w hM ha hx hk (by decide) rfl
  · exact vm_deedSX rec n m B 100 108 k jt jf w hM ha hx hk (by decide) rfl
  · exact vm_deedSX rec n m B 116 124 k jt jf w hM ha hx hk (by decide) rfl
  · exact vm_deedSX rec n m B 164 172 k jt jf w hM ha hx hk (by decide) rfl
  · exact vm_deedJK rec n m B 5 k jt jf w hM ha hx hk (by decide)
  · exact vm_deedJK rec n m B 21 k jt jf w hM ha hx hk (by decide)
  · exact vm_deedJK rec n m B 37 k jt jf w hM ha hx hk (by decide)
  · exact vm_deedJK rec n m B 53 k jt jf w hM ha hx hk (by decide)
  · exact vm_deedJK rec n m B 69 k jt jf w hM ha hx hk (by decide)
  · exact vm_deedJX rec n m B 21 29 k jt jf w hM ha hx hk (by decide) rfl
  · exact vm_deedJX rec n m B 37 45 k jt jf w hM ha hx hk (by decide) rfl
  · exact vm_deedJX rec n m B 53 61 k jt jf w hM ha hx hk (by decide) rfl
  · exact vm_deedJX rec n m B 69 77 k jt jf w hM ha hx hk (by decide) rfl
  · exact vm_deedR6 rec n m B k jt jf w hM ha hx hk
  · exact vm_deedR22 rec n m B k jt jf w hM ha hx hk
  · exact vm_deedM rec n m B 7 k jt jf w hM ha hx hk (by decide)
  · exact vm_deedM rec n m B 135 k jt jf w hM ha hx hk (by decide)
def Deed.small : Deed → Prop
  | .setA v => v ≤ 4294967295
  | .setX v => v ≤ 4294967295
  | .over v => -9223372036854775808 ≤ v ∧ v ≤ 9223372036854775807
  | .answer v => v ≤ 4294967295
  | .ldm k => k ≤ 4294967295
  | .lxm k => k ≤ 4294967295
  | .st k => k ≤ 4294967295
  | .stx k => k ≤ 4294967295
  | .abs k => k ≤ 4294967295
theorem IsDeed.calls {w : World} {B : Nat} {rec : ByteArray} {n : Nat} {m : Mach} {f : Value} {D : Deed} (hM : IsM w B rec n m) (hs : rec.size = 64) (hN : n ≤ 1000000) (hx : m.next ≤ 2000000) (hD : D.small) (h : IsDeed w B f D) :
    (∃ x y, f = .func (.func 53) #[] #[x, y] ∧ Calls Try.prog 53 #[x, y] w (DeedPost rec n m B D w)) ∨
    (∃ x y, f = .func (.func 57) #[] #[x, y] ∧ Calls Try.prog 57 #[x, y] w (DeedPost rec n m B D w)) ∨
    (∃ x y, f = .func (.func 55) #[] #[x, y] ∧ Calls Try.prog 55 #[x, y] w (DeedPost rec n m B D w)) ∨
    (∃ x y, f = .func (.func 54) #[] #[x, y] ∧ Calls Try.prog 54 #[x, y] w (DeedPost rec n m B D w)) ∨
    (∃ x y, f = .func (.func 46) #[] #[x, y] ∧ Calls Try.prog 46 #[x, y] w (DeedPost rec n m B D w)) ∨
    (∃ x y z, f = .func (.func 56) #[] #[x, y, z] ∧ Calls Try.prog 56 #[x, y, z] w (DeedPost rec n m B D w)) := by
  cases D with
  | setA v => obtain ⟨pn, pm, rfl, h1, h2⟩ := h; exact .inl ⟨_, _, rfl, vm_setA rec n m B v pn pm w hM h1 h2⟩
  | setX v => obtain ⟨pn, pm, rfl, h1, h2⟩ := h; exact .inr (.inl ⟨_, _, rfl, vm_setX rec n m B v pn pm w hM h1 h2⟩)
  | over v => obtain ⟨pn, pm, rfl, h1, h2⟩ := h; exact .inr (.inr (.inl ⟨_, _, rfl, vm_over rec n m B v pn pm w hM hN hx h1 h2⟩))
  | answer v => obtain ⟨pn, pm, rfl, h1, h2⟩ := h; exact .inr (.inr (.inr (.inl ⟨_, _, rfl, vm_answer rec n m B v pn pm w hM h1 h2⟩)))
  | ldm k => obtain ⟨pk, pd, pm, pq, rfl, h1, h2, h3, h4⟩ := h; exact .inr (.inr (.inr (.inr (.inr ⟨_, _, _, rfl, vm_cell2 rec n m B k pk pd pm pq w hM hD h1 h2 h3 h4⟩))))
  | lxm k => obtain ⟨pk, pd, pm, pq, rfl, h1, h2, h3, h4⟩ := h; exact .inr (.inr (.inr (.inr (.inr ⟨_, _, _, rfl, vm_cell3 rec n m B k pk pd pm pq w hM hD h1 h2 h3 h4⟩))))
  | st k => obtain ⟨pk, pd, pm, pq, rfl, h1, h2, h3, h4⟩ := h; exact .inr (.inr (.inr (.inr (.inr ⟨_, _, _, rfl, vm_cell4 rec n m B k pk pd pm pq w hM hD h1 h2 h3 h4⟩))))
  | stx k => obtain ⟨pk, pd, pm, pq, rfl, h1, h2, h3, h4⟩ := h; exact .inr (.inr (.inr (.inr (.inr ⟨_, _, _, rfl, vm_cell5 rec n m B k pk pd pm pq w hM hD h1 h2 h3 h4⟩))))
  | abs k => obtain ⟨pm, bi, c, j, f', rfl, hb, h1, h3⟩ := h; exact .inr (.inr (.inr (.inr (.inl ⟨_, _, rfl, vm_abs rec n m B bi k c j f' pm w hM hs hD hb h1 h3⟩))))
/-- a machine's numbers are small -/
def Mach.small (m : Mach) : Prop := m.a ≤ 4294967295 ∧ m.x ≤ 4294967295 ∧ m.ans ≤ 4294967295 ∧ ∀ v ∈ m.cells, v ≤ 4294967295
theorem ite_D {p : Prop} [Decidable p] {x y : Deed} (hx : x.small) (hy : y.small) : (if p then x else y).small := by split <;> assumption
theorem ite_le' {p : Prop} [Decidable p] {a b L : Nat} (ha : a ≤ L) (hb : b ≤ L) : (if p then a else b) ≤ L := by split <;> assumption
theorem sumV_small (c a v : Nat) (ha : a ≤ 4294967295) (hv : v ≤ 4294967295) : sumV c a v ≤ 4294967295 := by
  have h1 : a ||| v < 2 ^ 32 := Nat.or_lt_two_pow (by omega) (by omega)
  have h2 : a &&& v < 2 ^ 32 := Nat.and_lt_two_pow _ (by omega)
  have h3 : a ^^^ v < 2 ^ 32 := Nat.xor_lt_two_pow (by omega) (by omega)
  have hm : ∀ q : Nat, q % 4294967296 ≤ 4294967295 := fun q => by omega
  exact ite_le' (hm _) (ite_le' (hm _) (ite_le' (hm _) (ite_le' (Nat.le_trans (Nat.div_le_self a v) ha) (ite_le' (Nat.le_of_lt_succ h1) (ite_le' (Nat.le_of_lt_succ h2) (ite_le' (Nat.le_of_lt_succ h3) (ite_le' (hm _) (ite_le' (Nat.le_trans (Nat.div_le_self a _) ha) (hm _)))))))))
theorem deedD_small (m : Mach) (c k : Nat) (jt jf : Int) (hm : m.small) (hk : k ≤ 4294967295) (ht : -9223372036854775808 ≤ jt ∧ jt ≤ 9223372036854775807) (hf : -9223372036854775808 ≤ jf ∧ jf ≤ 9223372036854775807) : (deedD m c k jt jf).small := by
  obtain ⟨ha, hx, _, _⟩ := hm
  have hv : (if c / 8 % 2 = 1 then m.x else k) ≤ 4294967295 := by split <;> assumption
  have hko : (Deed.over (k : Int)).small := by show -9223372036854775808 ≤ (k : Int) ∧ (k : Int) ≤ 9223372036854775807; omega
  unfold deedD
  generalize (if c / 8 % 2 = 1 then m.x else k) = v at *
  generalize (if c / 8 % 2 = 1 then c - 8 else c) = c'
  have hfk : ∀ b : Bool, (Deed.over (if b then jt else jf)).small := fun b => by cases b <;> assumption
  have h64 : (64 : Nat) ≤ 4294967295 := by omega
  have hS : (sumD c' m.a v).small := by
    unfold sumD
    exact ite_D (Nat.zero_le _) (sumV_small c' m.a v ha hv)
  have hJ : (jumpD c' m.a v k jt jf).small := by
    unfold jumpD
    exact ite_D hko (hfk _)
  have hMv : (moveD m c k).small := by
    unfold moveD
    exact ite_D hk (ite_D hk (ite_D hk (ite_D hk (ite_D hk (ite_D h64 (ite_D h64 (ite_D hk (ite_D hk (ite_D hx ha)))))))))
  exact ite_D hS (ite_D hJ (ite_D ha (ite_D hk hMv)))
theorem ite_small {p : Prop} [Decidable p] {x y : Bool × Mach} (hx : x.2.small) (hy : y.2.small) : (if p then x else y).2.small := by split <;> assumption
theorem ite_small' {p : Prop} [Decidable p] {x y : Bool × Mach} (hx : p → x.2.small) (hy : y.2.small) : (if p then x else y).2.small := by
  split
  · exact hx ‹_›
  · exact hy
theorem word_small (rec : ByteArray) (k : Nat) (hs : rec.size = 64) (hk : wordOk k = true) : getL (cutL rec k 4) ≤ 4294967295 := by
  have hk4 : k + 4 ≤ rec.size := by unfold wordOk at hk; simp at hk; omega
  have h := getL_lt (cutL rec k 4)
  rw [cutL_length rec k 4 hk4] at h
  omega
theorem run_small (rec : ByteArray) (hs64 : rec.size = 64) (n : Nat) (m : Mach) (D : Deed) (hm : m.small) (hD : D.small) : (D.run rec n m).2.small := by
  obtain ⟨ha, hx, hs, hc⟩ := hm
  have hg : ∀ k, m.cells.getD k 0 ≤ 4294967295 := fun k => by
    rw [List.getD_eq_getElem?_getD]
    by_cases h : k < m.cells.length
    · rw [List.getElem?_eq_getElem h]; exact hc _ (List.getElem_mem h)
    · rw [List.getElem?_eq_none (by omega)]; exact Nat.zero_le _
  have hset : ∀ k v, v ≤ 4294967295 → ∀ u ∈ m.cells.set k v, u ≤ 4294967295 := fun k v hv u hu => by
    rcases List.mem_or_eq_of_mem_set hu with h | rfl
    · exact hc u h
    · exact hv
  cases D with
  | setA v => exact ⟨hD, hx, hs, hc⟩
  | setX v => exact ⟨ha, hD, hs, hc⟩
  | over v => exact ⟨ha, hx, hs, hc⟩
  | answer v => exact ⟨ha, hx, hD, hc⟩
  | ldm k => unfold Deed.run; simp only; exact ite_small ⟨hg k, hx, hs, hc⟩ ⟨ha, hx, hs, hc⟩
  | lxm k => unfold Deed.run; simp only; exact ite_small ⟨ha, hg k, hs, hc⟩ ⟨ha, hx, hs, hc⟩
  | st k => unfold Deed.run; simp only; exact ite_small ⟨ha, hx, hs, hset k _ ha⟩ ⟨ha, hx, hs, hc⟩
  | stx k => unfold Deed.run; simp only; exact ite_small ⟨ha, hx, hs, hset k _ hx⟩ ⟨ha, hx, hs, hc⟩
  | abs k => unfold Deed.run; simp only; exact ite_small' (fun hw => ⟨word_small rec k hs64 hw, hx, hs, hc⟩) ⟨Nat.zero_le _, hx, hs, hc⟩
end Go.Proofs.Ytnlmdajoifjddaa
