/- slices.breakPatternsOrdered at numbers of 32 bits, and what it draws on. -/
import Derived.Test.YtbcoooaoofbboaaSr2
import Derived.Test.YtbcoooaoofbboaaShelf
import Derived.Sort.WalkA14
import Derived.Sort.LotD5
import Derived.Laws.Bits64b
namespace Go.Proofs.Ytbcoooaoofbboaa
open Go.RowKit Go.Sort
set_option linter.unusedVariables false
set_option linter.unusedSimpArgs false

/-- a row, and a number of 64 bits in a box of its own -/
def SrU (w0 : World) (g : Nat) (d : Array Int) (B X : Nat) (wr : World) : Prop := Srt w0 g d wr ∧ wr.heap[B]? = some (.cells #[.int .u64 (X : Int)] 100 (0, 0)) ∧ w0.heap.size ≤ B
theorem SrU.put {w0 : World} {g : Nat} {d : Array Int} {B s : Nat} {wr : World} (h : SrU w0 g d B s wr) (s' : Nat) : SrU w0 g d B s' (wr.setCell ⟨B, 0, none⟩ (.int .u64 (s' : Int))) :=
  ⟨h.1.new (p := ⟨B, 0, none⟩) h.2.2 _, block_set h.2.1 0 _, h.2.2⟩
theorem SrU.drew {w0 : World} {g : Nat} {d : Array Int} {B s : Nat} {wr : World} (h : SrU w0 g d B s wr) : SrU w0 g d B s wr.drew := ⟨h.1.drew, h.2⟩
theorem SrU.ne {w0 : World} {g : Nat} {d : Array Int} {B s : Nat} {wr : World} (h : SrU w0 g d B s wr) : g ≠ B := by have := h.1.lt; have := h.2.2; omega
theorem SrU.swp {w0 : World} {g : Nat} {d : Array Int} {B s : Nat} {wr : World} (h : SrU w0 g d B s wr) {i j : Nat} (hi : i < d.size) (hj : j < d.size) :
    SrU w0 g (Go.Sort.swp d i j) B s ((wr.setCell ⟨g, i, none⟩ (.int .u32 d[j]!)).setCell ⟨g, j, none⟩ (.int .u32 d[i]!)) :=
  ⟨h.1.swp hi hj, (Below.heap_setCell _ _ _ _ (fun e => h.ne e.symm)).trans ((Below.heap_setCell _ _ _ _ (fun e => h.ne e.symm)).trans h.2.1), h.2.2⟩
set_option maxRecDepth 100000 in
set_option maxHeartbeats 2000000 in
theorem srNext (g : Nat) (w0 : World) (d : Array Int) (B X : Nat) (wr : World) (hS : SrU w0 g d B X wr) (hX : X < 18446744073709551616) :
    Calls Try.prog 69 #[.pointer (some ⟨B, 0, none⟩)] wr fun e w' => e = .returned (.int .u64 (xorNextN X : Nat)) ∧ SrU w0 g d B (xorNextN X) w' := by
  obtain ⟨A, hA⟩ : ∃ A : Nat, X ^^^ (X * 8192 % 18446744073709551616) = A := ⟨_, rfl⟩
  obtain ⟨C, hC⟩ : ∃ C : Nat, A ^^^ (A / 128) = C := ⟨_, rfl⟩
  obtain ⟨D, hD⟩ : ∃ D : Nat, C ^^^ (C * 131072 % 18446744073709551616) = D := ⟨_, rfl⟩
  have lA : A < 18446744073709551616 := by rw [← hA]; exact Nat.xor_lt_two_pow (n := 64) (by omega) (by omega)
  have lC : C < 18446744073709551616 := by rw [← hC]; exact Nat.xor_lt_two_pow (n := 64) (by omega) (by omega)
  have e1 : bits .xor .u64 (X : Int) (IntKind.u64.wrap ((X : Int) * 8192)) = (A : Int) := by
    rw [IntKind.wrap_u64, show ((X : Int) * 8192 % 18446744073709551616) = ((X * 8192 % 18446744073709551616 : Nat) : Int) by omega, bits_xor_u64_nat _ _ hX (by omega), hA]
  have e2 : bits .xor .u64 (A : Int) ((A : Int) / 128) = (C : Int) := by
    rw [show ((A : Int) / 128) = ((A / 128 : Nat) : Int) by omega, bits_xor_u64_nat _ _ lA (by omega), hC]
  have e3 : bits .xor .u64 (C : Int) (IntKind.u64.wrap ((C : Int) * 131072)) = (D : Int) := by
    rw [IntKind.wrap_u64, show ((C : Int) * 131072 % 18446744073709551616) = ((C * 131072 % 18446744073709551616 : Nat) : Int) by omega, bits_xor_u64_nat _ _ lC (by omega), hD]
  have hv : xorNextN X = D := by unfold xorNextN; simp only []; rw [hA, hC, hD]
  rw [hv]
  have HS := Lib.hid hS
  clear hA hC hD hv lA lC hX hS
  go_enter Try.func69, Try.ntmps69
  have q0 := below_cell (Below.refl _ wr) HS.out.2.1 0 rfl
  have f0 := block_frozen HS.out.2.1 0
  go_upto_region 1 with fail
  go_region
  have hs := (HS.out.put A).drew
  clear HS q0 f0
  obtain ⟨uA, hU⟩ : ∃ u, ((wr.setCell ⟨B, 0, none⟩ (.int .u64 (A : Int))).drew) = u := ⟨_, rfl⟩
  rw [hU] at hs ⊢
  clear hU
  have HS := Lib.hid hs
  clear hs
  have q0 := below_cell (Below.refl _ uA) HS.out.2.1 0 rfl
  have f0 := block_frozen HS.out.2.1 0
  go_upto_region 2 with fail
  go_region
  have hs := (HS.out.put C).drew
  clear HS q0 f0
  obtain ⟨uC, hU⟩ : ∃ u, ((uA.setCell ⟨B, 0, none⟩ (.int .u64 (C : Int))).drew) = u := ⟨_, rfl⟩
  rw [hU] at hs ⊢
  clear hU
  have HS := Lib.hid hs
  clear hs
  have q0 := below_cell (Below.refl _ uC) HS.out.2.1 0 rfl
  have f0 := block_frozen HS.out.2.1 0
  go_upto_region 3 with fail
  go_region
  have hs := (HS.out.put D).drew
  clear HS q0 f0
  obtain ⟨uD, hU⟩ : ∃ u, ((uC.setCell ⟨B, 0, none⟩ (.int .u64 (D : Int))).drew) = u := ⟨_, rfl⟩
  rw [hU] at hs ⊢
  clear hU
  have HS := Lib.hid hs
  clear hs
  have q0 := below_cell (Below.refl _ uD) HS.out.2.1 0 rfl
  have f0 := block_frozen HS.out.2.1 0
  go_wp2_with fail
  go_ret
  exact ⟨rfl, HS.out⟩
set_option maxRecDepth 100000 in
theorem srPow2 (n : Nat) (hn : n ≤ 1000000) (w : World) : Calls Try.prog 68 #[.int .i64 n] w fun e w' => e = .returned (.int .u64 ((1 <<< bitsLen n : Nat) : Int)) ∧ w' = w := by
  have hLen : ∀ w, Calls Try.prog 50 #[.int .u64 (n : Int)] w fun e w' => e = .returned (.int .i64 (bitsLen n : Nat)) ∧ w' = w := fun w => by
    have h := Try.bits_Len (n : Int) w (by omega) (by omega)
    rwa [Int.toNat_natCast, bitLen_eq _ (by omega)] at h
  have hk : bitsLen n ≤ 20 := (bitsLen_le_iff n 20).2 (by omega)
  have hnI : (n : Int) ≤ 1000000 := by omega
  have hp : IntKind.u64.wrap ((2 : Int) ^ bitsLen n) = ((1 <<< bitsLen n : Nat) : Int) := by
    have h : (2 : Nat) ^ bitsLen n ≤ 2 ^ 20 := Nat.pow_le_pow_right (by decide) hk
    rw [IntKind.wrap_u64, Nat.one_shiftLeft, show ((2 : Int) ^ bitsLen n) = ((2 ^ bitsLen n : Nat) : Int) by push_cast; rfl]
    generalize (2 : Nat) ^ bitsLen n = p at h
    omega
  go_enter Try.func68, Try.ntmps68
  go_wp2_with (first | (go_at_call 50; refine (hLen _).mono ?_; rintro e w' ⟨rfl, rfl⟩))
  go_ret
  exact ⟨rfl, rfl⟩
def brk (a l m : Nat) : Nat → Nat → UInt64 × Array Int → UInt64 × Array Int
  | 0, _, st => st
  | k + 1, idx, st => brk a l m k (idx + 1) (breakStep a l m st idx)
theorem brk_is (d : Array Int) (a b : Nat) (h : 8 ≤ b - a) : breakPatterns d a b = (brk a (b - a) (1 <<< bitsLen (b - a)) 3 (a + (b - a) / 4 * 2 - 1) (UInt64.ofNat (b - a), d)).2 := by
  unfold breakPatterns
  simp only [ge_iff_le]
  rw [if_pos h]
  rfl
/-- the place that is changed for another -/
def brkO (l m x : Nat) : Nat := if (xorNextN x &&& (m - 1)) ≥ l then (xorNextN x &&& (m - 1)) - l else xorNextN x &&& (m - 1)
theorem brk_step (a l m : Nat) (st : UInt64 × Array Int) (idx : Nat) : (breakStep a l m st idx).1.toNat = xorNextN st.1.toNat ∧ (breakStep a l m st idx).2 = swp st.2 idx (a + brkO l m st.1.toNat) := by
  unfold breakStep brkO
  simp only [xorNext_toNat]
  exact ⟨trivial, trivial⟩
theorem brkO_lt (l m x : Nat) (h1 : 0 < l) (hm : m ≤ 2 * l) (hm0 : 0 < m) : (xorNextN x &&& (m - 1)) < m ∧ brkO l m x < l := by
  have h : (xorNextN x &&& (m - 1)) ≤ m - 1 := Nat.and_le_right
  unfold brkO
  split <;> omega
set_option maxRecDepth 100000 in
set_option maxHeartbeats 4000000 in
theorem srBrk (g : Nat) (w0 : World) (d : Array Int) (n cap a b : Nat) (wr : World) (hS : Srt w0 g d wr) (hn : d.size = n) (hab : a + 12 < b) (hb : b ≤ n) (hsz : n ≤ 1000000) :
    Calls Try.prog 58 #[.slice (some ⟨g, 0, none⟩) n cap, .int .i64 a, .int .i64 b] wr fun e w' => e = .returned (.tuple #[]) ∧ Srt w0 g (breakPatterns d a b) w' := by
  obtain ⟨D, hD⟩ : ∃ D, breakPatterns d a b = D := ⟨_, rfl⟩
  rw [hD]
  obtain ⟨l, hl⟩ : ∃ l, b - a = l := ⟨_, rfl⟩
  have hlI : (b : Int) - (a : Int) = (l : Int) := by omega
  obtain ⟨p, hp⟩ : ∃ p, l / 4 = p := ⟨_, rfl⟩
  have hq1 : (l : Int) / 4 = (p : Int) := by omega
  have hq2 : (l : Int).tdiv 4 = (p : Int) := by rw [Int.tdiv_eq_ediv_of_nonneg (by omega)]; exact hq1
  obtain ⟨S, hSS⟩ : ∃ S, a + p * 2 - 1 = S := ⟨_, rfl⟩
  have hSz : (a : Int) + p * 2 = (S : Int) + 1 := by omega
  obtain ⟨m, hm⟩ : ∃ m, 1 <<< bitsLen l = m := ⟨_, rfl⟩
  have hml : m ≤ 2 * l ∧ 0 < m := by
    rw [← hm, Nat.one_shiftLeft]
    exact ⟨two_pow_bitsLen_le (by omega), Nat.two_pow_pos _⟩
  have hD2 : (brk a l m 3 S (UInt64.ofNat l, d)).2 = D := by
    rw [← hD, brk_is d a b (by omega), hl, hp, hSS, hm]
  have hX0 : (UInt64.ofNat l).toNat = l := by
    rw [UInt64.toNat_ofNat']; exact Nat.mod_eq_of_lt (by omega)
  obtain ⟨B, hB⟩ : ∃ B, wr.heap.size = B := ⟨_, rfl⟩
  have hs0 : SrU w0 g d B l (wr.alloc (.cells #[.int .u64 (l : Int)] 100)) := ⟨hS.alloc _, by rw [← hB]; exact heap_alloc_new wr _, by rw [← hB]; exact hS.size⟩
  have HS0 := Lib.hid hs0; have HB := Lib.hid hB; have HX0 := Lib.hid hX0; have HD := Lib.hid hD2; have HN := Lib.hid hn; have HML := Lib.hid hml
  have HP := Lib.hid (fun u => hm ▸ srPow2 l (by omega) u)
  have hl8 : (8 : Int) ≤ l := by omega
  have hnI : (n : Int) ≤ 1000000 := by omega
  have hlb : (l : Int) ≤ 1000000 := by omega
  have hpI : (p : Int) ≤ 250000 := by omega
  have haI : (a : Int) ≤ 1000000 := by omega
  have hal : a + l ≤ n := by omega
  have hSl : S + 2 < a + l := by omega
  have hSa : a ≤ S := by omega
  have hl0 : 0 < l := by omega
  have hmI : (m : Int) ≤ 2000000 := by omega
  have hm1 : (1 : Int) ≤ m := by omega
  have hSI : (S : Int) ≤ 1000000 := by omega
  clear hD hD2 hS hn hab hb hB hs0 hX0 hml hm hSS hp hl
  go_enter Try.func58, Try.ntmps58
  go_upto_region 3 with fail
  (try rw [HB.out])
  generalize hw1 : wr.alloc (.cells #[.int .u64 (l : Int)] 100) = w1 at HS0 ⊢
  clear hw1 HB
  go_wp2_with (first | (go_at_call 68; refine (HP.out _).mono ?_; rintro e w' ⟨rfl, rfl⟩))
  go_loopw [9] (fun z wr => ∃ (k idx : Nat) (st : UInt64 × Array Int), z = .int .i64 (idx : Int) ∧ idx + k = S + 3 ∧ k ≤ 3 ∧ Hid (st.2.size = n) ∧ Hid (SrU w0 g st.2 B st.1.toNat wr) ∧ Hid ((brk a l m k idx st).2 = D)) (fun z _ => S + 3 - (intOf z).toNat)
  case atStart => exact ⟨3, S, (UInt64.ofNat l, d), by first | rfl | (congr 1; omega), rfl, Nat.le_refl _, HN, Lib.hid (by rw [HX0.out]; exact HS0.out), HD⟩
  case round =>
    clear HN HS0 HD HX0 HP
    obtain ⟨k, idx, st, rfl, hk, hk3, HN, HS, HD⟩ := hrel
    cases k with
    | zero =>
      have hgt : ¬ (idx : Int) ≤ (S : Int) + 1 + 1 := by omega
      have HD' := Lib.hid (show st.2 = D from HD.out)
      have hs9 := HS.out.1
      clear HD HS
      go_wp2_with fail
      go_end0
      exact ⟨rfl, by rw [← HD'.out]; exact hs9⟩
    | succ k =>
      have hle : (idx : Int) ≤ (S : Int) + 1 + 1 := by omega
      obtain ⟨dk, hdk⟩ : ∃ dk, st.2 = dk := ⟨_, rfl⟩
      obtain ⟨X, hX⟩ : ∃ X, st.1.toNat = X := ⟨_, rfl⟩
      have hXl : X < 18446744073709551616 := by rw [← hX]; exact st.1.toNat_lt
      have hbs := brk_step a l m st idx
      obtain ⟨st2, hst2⟩ : ∃ st2, breakStep a l m st idx = st2 := ⟨_, rfl⟩
      have hD2 : (brk a l m k (idx + 1) st2).2 = D := by rw [← hst2]; exact HD.out
      rw [hst2, hX, hdk] at hbs
      have hn9 := HN.out
      have hs9 := HS.out
      rw [hdk] at hn9 hs9
      rw [hX] at hs9
      obtain ⟨X', hX'⟩ : ∃ X', xorNextN X = X' := ⟨_, rfl⟩
      have hnx := srNext g w0 dk B X _ hs9 hXl
      have hX'l := xorNextN_lt X hXl
      have hol := brkO_lt l m X hl0 HML.out.1 HML.out.2
      obtain ⟨O, hO⟩ : ∃ O, xorNextN X &&& (m - 1) = O := ⟨_, rfl⟩
      have hOd : brkO l m X = if O ≥ l then O - l else O := by unfold brkO; rw [hO]
      obtain ⟨Q, hQ⟩ : ∃ Q, brkO l m X = Q := ⟨_, rfl⟩
      rw [hQ] at hOd hol hbs
      rw [hO] at hol
      have hand : bits .and .u64 ((X' : Nat) : Int) ((m : Int) - 1) = (O : Int) := by
        rw [show (m : Int) - 1 = ((m - 1 : Nat) : Int) by omega, bits_and_u64_nat _ _ (by rw [← hX']; exact hX'l) (by omega), ← hX', hO]
      rw [hX'] at hnx hbs
      have HNX := Lib.hid hnx; have HN9 := Lib.hid hn9; have HBS := Lib.hid hbs; have HD2 := Lib.hid hD2
      have hOm : (O : Int) < m := by omega
      clear hnx hs9 hn9 hbs hD2 hdk hX hXl hX'l hX' hO hst2 HS HN HD
      go_upto_if 43 with (first | (go_at_call 69; refine HNX.out.mono ?_; rintro e w2 ⟨rfl, hs2⟩; have HS2 := Lib.hid hs2; clear hs2))
      go_cut [10] (fun z wx => z = .int .i64 (Q : Int) ∧ SrU w0 g dk B X' wx)
      case first =>
        by_cases hOl : O ≥ l
        · have hOI : (l : Int) ≤ (O : Int) := by omega
          have HQ : Hid ((O : Int) - l = (Q : Int)) := Lib.hid (by rw [hOd, if_pos hOl]; omega)
          clear hOd
          go_wp2_with fail
          go_meet
          exact ⟨by rw [HQ.out], HS2.out⟩
        · have hOI : ¬ (l : Int) ≤ (O : Int) := by omega
          have HQ : Hid (O = Q) := Lib.hid (by rw [hOd, if_neg hOl])
          clear hOd
          go_wp2_with fail
          go_meet
          exact ⟨by rw [HQ.out], HS2.out⟩
      case rest =>
        obtain ⟨rfl, hs2⟩ := hcut
        have HS := Lib.hid hs2
        obtain ⟨q, hq⟩ : ∃ q, a + Q = q := ⟨_, rfl⟩
        have hqI : (a : Int) + Q = (q : Int) := by omega
        have hqn : q < n := by omega
        have hin : idx < n := by omega
        rw [hq] at HBS
        clear hs2 HS2 HNX hOd hand hOm hq
        go_upto_region 10 with fail
        by_cases he : idx = q
        · obtain rfl := he
          have p0 := HS.out.1.cell (t := idx) (by rw [HN9.out]; omega)
          have f0 := HS.out.1.fr idx
          have k0 : (idx : Int) < n := by omega
          go_region
          have hs' := (HS.out.swp (i := idx) (j := idx) (by rw [HN9.out]; omega) (by rw [HN9.out]; omega)).drew
          have HS3 := Lib.hid hs'
          clear hs' HS p0 f0
          have HS4 : Hid (SrU w0 g st2.2 B st2.1.toNat _) := Lib.hid (by rw [HBS.out.1, HBS.out.2]; exact HS3.out)
          have HN4 := Lib.hid (show st2.2.size = n by rw [HBS.out.2, size_swp']; exact HN9.out)
          go_wp2_with fail
          exact ⟨⟨k, idx + 1, st2, by push_cast; rfl, by omega, by omega, HN4, HS4, HD2⟩, by simp [intOf]; omega⟩
        · have he2 : ¬ q = idx := fun h => he h.symm
          have p0 := HS.out.1.cell (t := idx) (by rw [HN9.out]; omega)
          have p1 := HS.out.1.cell (t := q) (by rw [HN9.out]; omega)
          have f0 := HS.out.1.fr idx
          have f1 := HS.out.1.fr q
          have k0 : (idx : Int) < n := by omega
          have k1 : (q : Int) < n := by omega
          go_region
          have hs' := (HS.out.swp (i := idx) (j := q) (by rw [HN9.out]; omega) (by rw [HN9.out]; omega)).drew
          clear p1 f1
          have HS3 := Lib.hid hs'
          clear hs' HS p0 f0
          have HS4 : Hid (SrU w0 g st2.2 B st2.1.toNat _) := Lib.hid (by rw [HBS.out.1, HBS.out.2]; exact HS3.out)
          have HN4 := Lib.hid (show st2.2.size = n by rw [HBS.out.2, size_swp']; exact HN9.out)
          go_wp2_with fail
          exact ⟨⟨k, idx + 1, st2, by push_cast; rfl, by omega, by omega, HN4, HS4, HD2⟩, by simp [intOf]; omega⟩
end Go.Proofs.Ytbcoooaoofbboaa
