/- strconv.FormatUint in hexadecimal digits. -/
import Derived.Test.YtpkpbohkdkmoiaaDoorNu2
namespace Go.Proofs.YtpkpbohkdkmoiaaDoor
open Go.RowKit
set_option linter.unusedVariables false

/-- the one cell of the table that counts zeros -/
def TabZ (w : World) : Prop := w.cell? ⟨6, 15, none⟩ = some (.int .u8 4)
theorem TabZ.keep {w w' : World} (h : TabZ w) (hb : Below w.heap.size w w') : TabZ w' := (hb.cell (p := ⟨6, 15, none⟩) (Lib.lt_of_cell h)).trans h
def zerosTab : List Int := [0, 1, 56, 2, 57, 49, 28, 3, 61, 58, 42, 50, 38, 29, 17, 4, 62, 47, 59, 36, 45, 43, 51, 22, 53, 39, 33, 30, 24, 18, 12, 5,
  63, 55, 48, 27, 60, 41, 37, 16, 46, 35, 44, 21, 52, 32, 23, 11, 54, 26, 40, 15, 34, 20, 31, 10, 25, 14, 19, 9, 13, 8, 7, 6]
theorem tabz_of {W : World} {l : List (String × DataW Unit)} (h : laidMetH Tryd.prog l W) (hp : (l.all fun x => x.2.handleName?.isNone) = true)
    (h1 : ("math/bits.deBruijn64tab", Lib.tabData .u8 zerosTab) ∈ l) : TabZ W := by
  rw [MakeChecks.laidMetH_plain _ _ _ hp] at h
  obtain ⟨ps, hl, _, _⟩ := h
  obtain ⟨g, t, cs, fuel, p, e1, e2, e3, e4⟩ := laid_get l ps hl _ h1
  obtain rfl := Option.some.inj ((show Tryd.prog.globalNamed "math/bits.deBruijn64tab" = some 6 by kernel_rfl).symm.trans e1)
  obtain rfl := Option.some.inj ((show (Tryd.prog.globals[6]?).map (·.type) = some 103 by kernel_rfl).symm.trans e2)
  have hcs := Lib.cells_of_tab Tryd.underlying103 Tryd.underlying5 (by kernel_rfl) (by kernel_rfl) e4
  have h0 := World.var?_cell e1 e3 15
  unfold TabZ
  rw [h0, ← Array.getElem?_toList, hcs]
  rfl
theorem nuZeros (w : World) (hT : TabZ w) : Calls Tryd.prog 62 #[.int .u64 16] w fun e w' => e = .returned (.int .i64 4) ∧ w = w' := by
  unfold TabZ at hT
  have e1 : IntKind.u64.wrap (-16) = 18446744073709551600 := by decide
  have e2 : bits BinOp.and IntKind.u64 16 18446744073709551600 = 16 := by decide +kernel
  have e3 : IntKind.u64.wrap (4573923408821661840) = 4573923408821661840 := by decide
  go_enter Tryd.func62, Tryd.ntmps62
  go_wp2_with (go_in)
  go_ret
  exact ⟨rfl, rfl⟩
/-- a digit of the text of all digits -/
theorem digit_at (d : Nat) (h : d < 16) (u : World) : Sem.run Tryd.prog (Instr.index 9 (.string ⟨#[48, 49, 50, 51, 52, 53, 54, 55, 56, 57, 97, 98, 99, 100, 101, 102, 103, 104, 105, 106, 107, 108, 109, 110, 111, 112, 113, 114, 115, 116, 117, 118, 119, 120, 121, 122]⟩) (.int .u64 (d : Int))) u = .ok (.int .u8 ((hexc d).toNat : Int)) u := by
  rw [run_index_string u _ _ _ _ Tryd.underlying9]
  have hc : d = 0 ∨ d = 1 ∨ d = 2 ∨ d = 3 ∨ d = 4 ∨ d = 5 ∨ d = 6 ∨ d = 7 ∨ d = 8 ∨ d = 9 ∨ d = 10 ∨ d = 11 ∨ d = 12 ∨ d = 13 ∨ d = 14 ∨ d = 15 := by omega
  rcases hc with rfl | rfl | rfl | rfl | rfl | rfl | rfl | rfl | rfl | rfl | rfl | rfl | rfl | rfl | rfl | rfl <;> rfl
theorem and15 (x : Nat) (h : x ≤ 18446744073709551615) : bits BinOp.and IntKind.u64 (x : Int) 15 = ((x % 16 : Nat) : Int) := by
  have := u64_and_nat x 15 (by omega) (by omega)
  rw [show ((15 : Nat) : Int) = 15 from rfl] at this
  rw [this, show (15 : Nat) = 2 ^ 4 - 1 from rfl, Nat.and_two_pow_sub_one_eq_mod]
theorem nuPower (w : World) : Calls Tryd.prog 61 #[.int .i64 16] w fun e w' => e = .returned (.bool true) ∧ w = w' := by
  have e1 : bits BinOp.and IntKind.i64 16 15 = 0 := by decide +kernel
  go_enter Tryd.func61, Tryd.ntmps61
  go_wp2_with fail
  go_ret
  exact ⟨rfl, rfl⟩
theorem zero_row (n : Nat) : hexRow n 0 = Tryd.zeroCells83 := (hexRow_zero n).trans (by rfl)
set_option maxRecDepth 100000 in
set_option maxHeartbeats 4000000 in
theorem nuBits (n : Nat) (w : World) (hn : n ≤ 18446744073709551615) (hT : TabZ w) :
    Calls Tryd.prog 46 #[.slice none 0 0, .int .u64 (n : Int), .int .i64 16, .bool false, .bool false] w fun e w' =>
      (∃ k, 1 ≤ k ∧ k ≤ 16 ∧ n < 16 ^ k ∧ e = .returned (.tuple #[.slice none 0 0, .string ⟨(hexL n k).toArray⟩])) ∧ Below w.heap.size w w' := by
  have hb0 := (Below.refl w.heap.size w).alloc (Nat.le_refl _) (.cells Tryd.zeroCells83 83)
  have HZ := Lib.hid (nuZeros (w.alloc (.cells Tryd.zeroCells83 83)) (hT.keep hb0))
  have hX := heap_alloc_new w (.cells Tryd.zeroCells83 83)
  obtain ⟨X, hXX⟩ : ∃ X, w.heap.size = X := ⟨_, rfl⟩
  have HXX := Lib.hid hXX
  obtain ⟨V, hV⟩ : ∃ V, w.alloc (.cells Tryd.zeroCells83 83) = V := ⟨_, rfl⟩
  rw [hV] at HZ hb0 hX
  rw [← zero_row n, hXX] at hX
  have HV := Lib.hid hV; have HB0 := Lib.hid hb0; have HX := Lib.hid hX; have HN := Lib.hid hn
  clear hV hb0 hX hXX hT hn
  go_enter Tryd.func46, Tryd.ntmps46
  go_wp2_with fail
  refine (nuPower _).mono ?_
  rintro e w1 ⟨rfl, rfl⟩
  rw [HV.out, HXX.out]
  go_wp2_with fail
  refine HZ.out.mono ?_
  rintro e w1 ⟨rfl, rfl⟩
  go_wp2_with fail
  go_loopw [1, 13] (fun z1 z13 wr => ∃ k : Nat, k ≤ 15 ∧ z1 = .int .u64 ((n / 16 ^ k : Nat) : Int) ∧ z13 = .int .i64 ((65 - k : Nat) : Int) ∧ Hid (wr.heap[X]? = some (.cells (hexRow n k) 83 (0, 0))) ∧ Hid (Below w.heap.size w wr)) (fun z1 _ _ => (intOf z1).toNat)
  case atStart => exact ⟨0, by omega, by simp, rfl, HX, HB0⟩
  case round =>
    obtain ⟨k, hk, rfl, rfl, HC, HB⟩ := hrel
    obtain ⟨u, hu⟩ : ∃ u, n / 16 ^ k = u := ⟨_, rfl⟩
    have hup : u ≤ 18446744073709551615 := by rw [← hu]; exact Nat.le_trans (Nat.div_le_self _ _) HN.out
    rw [hu]
    obtain ⟨q, hq⟩ : ∃ q, 64 - k = q := ⟨_, rfl⟩
    have hqk : ((65 - k : Nat) : Int) - 1 = (q : Int) := by omega
    have hq64 : (q : Int) < 65 := by omega
    have hq0 : (0 : Int) ≤ q := by omega
    obtain ⟨d, hd⟩ : ∃ d, u % 16 = d := ⟨_, rfl⟩
    have hd16 : d < 16 := by omega
    have hset := hexRow_set n k (by omega)
    have hget := hexRow_get n k (by omega)
    rw [hu, hd, hq] at hset
    rw [hq] at hget
    have c0 := below_cell (Below.refl _ wr) HC.out q hget
    have f0 := block_frozen HC.out q
    have hst := block_set HC.out q (.int .u8 ((hexc d).toNat : Int))
    rw [hset] at hst
    have hXw : w.heap.size ≤ X := by rw [HXX.out]; exact Nat.le_refl _
    have HST := Lib.hid hst
    have HBS := Lib.hid (HB.out.setCell (p := ⟨X, q, none⟩) hXw (.int .u8 ((hexc d).toNat : Int)))
    clear hset hget hst
    have hdg := fun W => digit_at d hd16 W
    have hwu : IntKind.u64.wrap (u : Int) = u := IntWalk.u64_in _ ⟨by omega, by omega⟩
    rw [show ((65 - k : Nat) : Int) = (q : Int) + 1 by omega]
    by_cases h16 : 16 ≤ u
    · have h16I : (16 : Int) ≤ u := by omega
      have hk15 : k + 1 ≤ 15 := by
        by_cases hh : k + 1 ≤ 15
        · exact hh
        · have hk' : k = 15 := by omega
          subst hk'
          have : (16 : Nat) ^ 15 = 1152921504606846976 := by decide
          have h2 := HN.out
          rw [this] at hu
          omega
      have hand := and15 u hup
      rw [hd] at hand
      obtain ⟨v, hv⟩ : ∃ v, u / 16 = v := ⟨_, rfl⟩
      have hvI : (u : Int) / 16 = (v : Int) := by omega
      have hnv : n / 16 ^ (k + 1) = v := by rw [Nat.pow_succ, ← Nat.div_div_eq_div_mul, hu, hv]
      have hvu : v < u := by omega
      have HNV := Lib.hid hnv
      clear hnv hu hd hup hq
      go_wp2_with fail
      go_roundw
      case rel => exact ⟨k + 1, by omega, by rw [HNV.out], by rw [show ((65 - (k + 1) : Nat) : Int) = (q : Int) by omega], HST, HBS⟩
      case measure => simp [intOf]; omega
    · have h16I : (u : Int) < 16 := by omega
      obtain rfl : d = u := by omega
      have hlt : n < 16 ^ (k + 1) := by
        rw [Nat.pow_succ]
        have := Nat.div_lt_iff_lt_mul (x := n) (y := 16) (k := 16 ^ k) (Nat.pow_pos (by decide))
        rw [Nat.mul_comm]
        exact this.1 (by omega)
      have HLT := Lib.hid hlt
      obtain ⟨Z, hZ⟩ : ∃ Z, wr.setCell ⟨X, q, none⟩ (.int .u8 ((hexc d).toNat : Int)) = Z := ⟨_, rfl⟩
      rw [hZ] at HST HBS
      have HZZ := Lib.hid hZ
      have hcell : ∀ (j : Nat) (hj : j < (hexL n (k + 1)).length), Z.cell? ((⟨X, q, none⟩ : Addr).add j) = some (.int .u8 ((hexL n (k + 1))[j].toNat : Int)) := fun j hj => by
        rw [hexL_len] at hj
        rw [show (⟨X, q, none⟩ : Addr).add j = ⟨X, q + j, none⟩ from by unfold Addr.add; split <;> simp_all]
        refine below_cell (Below.refl _ Z) HST.out (q + j) ?_
        have := hexRow_tail n (k + 1) j (by omega) hj
        rwa [show 65 - (k + 1) + j = q + j by omega] at this
      have hcv := run_convert_bytes_back (P := Tryd.prog) Z 66 9 5 ⟨X, q, none⟩ (65 - q) (hexL n (k + 1)) Tryd.underlying66 Tryd.underlying5 Tryd.underlying9 hcell
      rw [hexL_len, show k + 1 = 65 - q by omega] at hcv
      have hkq : 65 - q = k + 1 := by omega
      have HKQ := Lib.hid hkq
      have hqle : (q : Int) ≤ 65 := by omega
      clear hcell hkq hlt hu hd hup hq hZ HC HX
      go_upto_region 28 with fail
      rw [HZZ.out]
      go_wp2_with fail
      go_ret2
      exact ⟨⟨65 - q, by rw [HKQ.out]; omega, by rw [HKQ.out]; omega, by rw [HKQ.out]; exact HLT.out, rfl⟩, HBS.out⟩
theorem nuFormat16 (n : Nat) (w : World) (hn : n ≤ 18446744073709551615) (hT : TabZ w) :
    Calls Tryd.prog 22 #[.int .u64 (n : Int), .int .i64 16] w fun e w' => (∃ k, 1 ≤ k ∧ k ≤ 16 ∧ n < 16 ^ k ∧ e = .returned (.string ⟨(hexL n k).toArray⟩)) ∧ Below w.heap.size w w' := by
  have H := Lib.hid (nuBits n w hn hT)
  clear hn hT
  go_enter Tryd.func22, Tryd.ntmps22
  go_wp2_with fail
  refine H.out.mono ?_
  rintro e w2 ⟨⟨k, h1, h2, h3, rfl⟩, hb⟩
  have H3 := Lib.hid h3
  clear h3
  go_wp2_with fail
  go_ret
  exact ⟨⟨k, h1, h2, H3.out, rfl⟩, hb⟩
theorem lxFormat16 (n : Nat) (w : World) (hn : n ≤ 18446744073709551615) (hT : TabZ w) :
    Calls Tryd.prog 15 #[.int .u64 (n : Int), .int .i64 16] w fun e w' => (∃ k, 1 ≤ k ∧ k ≤ 16 ∧ n < 16 ^ k ∧ e = .returned (.string ⟨(hexL n k).toArray⟩)) ∧ Below w.heap.size w w' := by
  have H := Lib.hid (nuFormat16 n w hn hT)
  clear hn hT
  go_enter Tryd.func15, Tryd.ntmps15
  go_wp2_with fail
  refine H.out.mono ?_
  rintro e w2 ⟨⟨k, h1, h2, h3, rfl⟩, hb⟩
  have H3 := Lib.hid h3
  clear h3
  go_wp2_with fail
  go_ret
  exact ⟨⟨k, h1, h2, H3.out, rfl⟩, hb⟩
end Go.Proofs.YtpkpbohkdkmoiaaDoor
