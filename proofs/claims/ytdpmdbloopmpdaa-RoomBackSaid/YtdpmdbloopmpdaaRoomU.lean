/- The program's row of bytes. -/
import Derived.Test.YtdpmdbloopmpdaaRoomP
import Derived.Test.YtdpmdbloopmpdaaRef06U
import Derived.Test.YtdpmdbloopmpdaaRoomN
namespace Go.Proofs.Ytdpmdbloopmpdaa
open Go.RowKit
set_option linter.unusedVariables false

theorem bitsN_bit (l : List Bool) (a : Nat) (i : Nat) : ∀ j, bitsN l a j / 2 ^ i % 2 = if i < j ∧ l.getD (a + i) false = true then 1 else 0
  | 0 => by simp [bitsN]
  | j + 1 => by
    have ih := bitsN_bit l a i j
    have hlt := bitsN_lt l a j
    simp only [bitsN]
    rcases Nat.lt_trichotomy i j with h | rfl | h
    · have e : (if i < j + 1 ∧ l.getD (a + i) false = true then 1 else 0) = (if i < j ∧ l.getD (a + i) false = true then 1 else 0) := by
        have h1 : i < j + 1 := by omega
        simp [h, h1]
      rw [e, ← ih]
      obtain ⟨k, rfl⟩ : ∃ k, j = i + 1 + k := ⟨j - (i + 1), by omega⟩
      split
      · rw [show 2 ^ (i + 1 + k) = 2 ^ i * (2 * 2 ^ k) from by rw [Nat.pow_add, Nat.pow_succ, Nat.mul_assoc], Nat.add_mul_div_left _ _ (Nat.two_pow_pos i)]
        omega
      · rfl
    · by_cases hB : l.getD (a + i) false = true
      · rw [if_pos hB, if_pos ⟨by omega, hB⟩]
        have : bitsN l a i + 2 ^ i = bitsN l a i + 2 ^ i * 1 := by omega
        rw [this, Nat.add_mul_div_left _ _ (Nat.two_pow_pos i), Nat.div_eq_of_lt hlt]
      · rw [if_neg hB, if_neg (fun h => hB h.2), Nat.add_zero, Nat.div_eq_of_lt hlt]
    · have h1 : ¬ (i < j + 1) := by omega
      have h2 : bitsN l a j + (if l.getD (a + j) false = true then 2 ^ j else 0) < 2 ^ i := by
        have := bitsN_lt l a (j + 1)
        simp only [bitsN] at this
        exact Nat.lt_of_lt_of_le this (Nat.pow_le_pow_right (by omega) h)
      rw [Nat.div_eq_of_lt h2]
      simp [h1]
theorem bits_eq (x y : Nat) (hx : x ≤ 255) (hy : y ≤ 255) (h : ∀ i, i < 8 → x / 2 ^ i % 2 = y / 2 ^ i % 2) : x = y := by
  have h0 := h 0 (by omega); have h1 := h 1 (by omega); have h2 := h 2 (by omega); have h3 := h 3 (by omega)
  have h4 := h 4 (by omega); have h5 := h 5 (by omega); have h6 := h 6 (by omega); have h7 := h 7 (by omega)
  simp only [Nat.reducePow] at h0 h1 h2 h3 h4 h5 h6 h7
  omega
theorem bitB_far (s : ByteArray) (i : Nat) (h : 8 * s.size ≤ i) : bitB s i = false := by
  unfold bitB
  have : s.data.toList.getD (i / 8) 0 = 0 := by
    rw [List.getD, List.getElem?_eq_none (by rw [ba_len]; omega)]; rfl
  rw [this]
  simp
theorem bitB_get (s : ByteArray) (c j : Nat) (hj : j < 8) : bitB s (8 * c + j) = decide ((s.data.toList.getD c 0).toNat / 2 ^ j % 2 = 1) := by
  unfold bitB
  rw [show (8 * c + j) / 8 = c from by omega, show (8 * c + j) % 8 = j from by omega]
theorem byteN_bits (s : ByteArray) (n c j : Nat) (hj : j < 8) : byteN (bitsL s n) c / 2 ^ j % 2 = if 8 * c + j < n ∧ bitB s (8 * c + j) = true then 1 else 0 := by
  unfold byteN
  rw [bitsN_bit]
  have hl : (bitsL s n).length = n := by simp [bitsL]
  rw [hl]
  by_cases h : 8 * c + j < n
  · have e : (bitsL s n).getD (8 * c + j) false = bitB s (8 * c + j) := by simp [bitsL, List.getD, h]
    rw [e]
    have h2 : j < min 8 (n - 8 * c) := by omega
    simp [h, h2]
  · have h2 : ¬ j < min 8 (n - 8 * c) := by omega
    simp [h, h2]
theorem packB_size (l : List Bool) : (packB l).size = (l.length + 7) / 8 := by
  show ((packN l ((l.length + 7) / 8)).toArray).size = _
  simp [packN]
theorem packB_get (l : List Bool) (c : Nat) (h : c < (l.length + 7) / 8) : (packB l).data.toList.getD c 0 = UInt8.ofNat (byteN l c) := by
  show (packN l ((l.length + 7) / 8)).getD c 0 = _
  simp [packN, List.getD, h]
/-- the bytes of the row of the bytes are the bytes, just where the reference says so -/
theorem pack_iff (s : ByteArray) (n : Nat) : packB (bitsL s n) = s ↔ (n ≤ 8 * s.size ∧ 8 * s.size < n + 8 ∧ ∀ i : Nat, n ≤ i → i < 8 * s.size → bitB s i = false) := by
  have hl : (bitsL s n).length = n := by simp [bitsL]
  constructor
  · intro h
    have hsz : (packB (bitsL s n)).size = s.size := by rw [h]
    rw [packB_size, hl] at hsz
    refine ⟨by omega, by omega, fun i h1 h2 => ?_⟩
    have hc : i / 8 < ((bitsL s n).length + 7) / 8 := by rw [hl]; omega
    have hg := packB_get (bitsL s n) (i / 8) hc
    have hb := byteN_bits s n (i / 8) (i % 8) (by omega)
    rw [if_neg (by omega)] at hb
    have := bitB_get s (i / 8) (i % 8) (by omega)
    rw [show 8 * (i / 8) + i % 8 = i from by omega] at this
    rw [this, ← h, hg]
    have hv := packN_val (bitsL s n) (i / 8)
    have hv2 : (UInt8.ofNat (byteN (bitsL s n) (i / 8))).toNat = byteN (bitsL s n) (i / 8) := by omega
    rw [hv2, hb]
    rfl
  · rintro ⟨h1, h2, h3⟩
    have hll : (packB (bitsL s n)).data.toList.length = s.data.toList.length := by
      rw [ba_len, ba_len, packB_size, hl]; omega
    have hex : (packB (bitsL s n)).data.toList = s.data.toList := by
      refine List.ext_getElem hll fun c k1 k2 => ?_
      have hc : c < ((bitsL s n).length + 7) / 8 := by rw [ba_len, packB_size] at k1; exact k1
      have g1 := packB_get (bitsL s n) c hc
      rw [show (packB (bitsL s n)).data.toList.getD c 0 = (packB (bitsL s n)).data.toList[c] from by show ((packB (bitsL s n)).data.toList[c]?).getD 0 = _; rw [List.getElem?_eq_getElem k1]; rfl] at g1
      rw [g1]
      have g2 : s.data.toList.getD c 0 = s.data.toList[c] := by show (s.data.toList[c]?).getD 0 = _; rw [List.getElem?_eq_getElem k2]; rfl
      have hy := s.data.toList[c].toNat_lt
      have hv := packN_val (bitsL s n) c
      apply UInt8.toNat_inj.1
      have hv2 : (UInt8.ofNat (byteN (bitsL s n) c)).toNat = byteN (bitsL s n) c := by omega
      rw [hv2]
      refine bits_eq _ _ (byteN_lt _ _) (by omega) fun j hj => ?_
      have hb := byteN_bits s n c j hj
      have hbb := bitB_get s c j hj
      rw [g2] at hbb
      rw [hb]
      have hcs : c < s.size := by rw [ba_len] at k2; exact k2
      generalize s.data.toList[c].toNat / 2 ^ j = z at *
      by_cases hz : z % 2 = 1
      · have ht : bitB s (8 * c + j) = true := by rw [hbb]; exact decide_eq_true hz
        have hlt : 8 * c + j < n := by
          rcases Nat.lt_or_ge (8 * c + j) n with h | h
          · exact h
          · rw [h3 _ h (by omega)] at ht; cases ht
        rw [if_pos ⟨hlt, ht⟩, hz]
      · have ht : bitB s (8 * c + j) = false := by rw [hbb]; exact decide_eq_false hz
        rw [if_neg (by rw [ht]; simp)]
        omega
    have : (packB (bitsL s n)).data = s.data := by
      rw [← Array.toArray_toList (xs := (packB (bitsL s n)).data), hex]
    cases hp : packB (bitsL s n)
    rw [hp] at this
    cases s
    simp_all

/-- the row with its first k places read -/
def unpK (s : ByteArray) (n k : Nat) : List Bool := (List.range n).map fun i => decide (i < k) && bitB s i
theorem unpK_len (s : ByteArray) (n k : Nat) : (unpK s n k).length = n := by simp [unpK]
theorem unpK_zero (s : ByteArray) (n : Nat) : unpK s n 0 = newK n 0 := by
  unfold unpK newK
  exact List.map_congr_left fun i _ => by simp
theorem unpK_all (s : ByteArray) (n : Nat) : unpK s n n = bitsL s n := by
  unfold unpK bitsL
  refine List.map_congr_left fun i hi => ?_
  have := List.mem_range.1 hi
  simp [this]
theorem unpK_get (s : ByteArray) (n k : Nat) (h : k < n) : (((unpK s n k).map Value.bool).toArray)[k]? = some (.bool false) := by
  simp [unpK, h]
theorem unpK_set (s : ByteArray) (n k : Nat) (h : k < n) : (((unpK s n k).map Value.bool).toArray).setIfInBounds k (.bool (bitB s k)) = ((unpK s n (k + 1)).map Value.bool).toArray := by
  rw [arr_set]
  congr 2
  apply List.ext_getElem
  · simp [unpK]
  · intro i h1 h2
    simp only [unpK, List.getElem_set, List.getElem_map, List.getElem_range]
    by_cases hk : k = i
    · subst hk; simp
    · rw [if_neg hk]
      congr 1
      simp only [decide_eq_decide]
      omega

theorem and_one_all : ∀ z : Fin 256, (bits BinOp.and IntKind.u8 (z.val : Int) 1 == 1) = decide (z.val % 2 = 1) := by decide +kernel
theorem and_one (s : ByteArray) (q r : Nat) (hr : r < 8) (hq : q < s.size) : (bits BinOp.and IntKind.u8 ((s[q].toNat : Int) / 2 ^ r) 1 == 1) = bitB s (8 * q + r) := by
  rw [bitB_get s q r hr]
  have e : ((s[q].toNat : Int) / 2 ^ r) = ((s[q].toNat / 2 ^ r : Nat) : Int) := by simp
  have g : s.data.toList.getD q 0 = s[q] := by
    have : q < s.data.toList.length := by rw [ba_len]; exact hq
    show (s.data.toList[q]?).getD 0 = s[q]
    rw [List.getElem?_eq_getElem this]
    rfl
  rw [e, g]
  have h1 := s[q].toNat_lt
  have h2 : s[q].toNat / 2 ^ r ≤ s[q].toNat := Nat.div_le_self _ _
  exact and_one_all ⟨s[q].toNat / 2 ^ r, by omega⟩

set_option maxHeartbeats 1000000 in
set_option maxRecDepth 100000 in
theorem roomUnpack_any (s : ByteArray) (n : Int) (w : World) (hs : s.size ≤ 1000) (hn0 : -9223372036854775808 ≤ n) (hn1 : n ≤ 9223372036854775807) :
    Calls Try.prog 6 #[.string s, .int .i64 n] w fun e w' => (∃ v, e = .returned (.tuple #[v, .int .i64 (unpE06 s n)]) ∧ IsBools w' v (unpL06 s n)) ∧ Below w.heap.size w w' := by
  have hsI : (s.size : Int) ≤ 1000 := by omega
  by_cases hb : 0 ≤ n ∧ n / 8 ≤ s.size
  · obtain ⟨m, rfl⟩ := Int.eq_ofNat_of_zero_le hb.1
    have hm8 : (m : Int) / 8 ≤ s.size := hb.2
    have hmI : (m : Int) ≤ 8007 := by omega
    have hm0 : (0 : Int) ≤ m := by omega
    have hmk := make_bools m (by omega)
    clear hb
    go_enter Try.func6, Try.ntmps6
    go_wp2_with fail
    clear hmk
    go_loopw [21] (fun c wr => ∃ k : Nat, k ≤ m ∧ c = .int .i64 k ∧ wr = w.alloc (.cells ((unpK s m k).map Value.bool).toArray 4)) (fun c _ => m - (intOf c).toNat)
    case atStart => exact ⟨0, by omega, rfl, by rw [unpK_zero]⟩
    case round =>
      obtain ⟨k, hk, rfl, rfl⟩ := hrel
      by_cases hlt : k < m
      · obtain ⟨q, r, hr, rfl⟩ : ∃ q r, r < 8 ∧ k = 8 * q + r := ⟨k / 8, k % 8, by omega, by omega⟩
        have hget := unpK_get s m (8 * q + r) hlt
        have HS := Lib.hid (unpK_set s m (8 * q + r) hlt)
        have hltI : 8 * (q : Int) + r < m := by omega
        have hq8 : (8 * (q : Int) + r) / 8 = q := by omega
        have hr8 : (8 * (q : Int) + r) % 8 = r := by omega
        have hrI : (r : Int) ≤ 7 := by omega
        by_cases hqs : q < s.size
        · have hqI : (q : Int) < s.size := by omega
          go_wp2_with fail
          go_roundw
          case rel => exact ⟨8 * q + r + 1, by omega, by go_num, by rw [← HS.out, ← and_one s q r hr hqs, List.setIfInBounds_toArray]⟩
          case measure => simp [intOf]; omega
        · have hqI : (s.size : Int) ≤ q := by omega
          have HF := Lib.hid (bitB_far s (8 * q + r) (by omega))
          go_wp2_with fail
          go_roundw
          case rel => exact ⟨8 * q + r + 1, by omega, by go_num, by rw [← HS.out, HF.out, List.setIfInBounds_toArray]⟩
          case measure => simp [intOf]; omega
      · obtain rfl : k = m := by omega
        have hl : (bitsL s k).length = k := by simp [bitsL]
        have hrd : IsBools (w.alloc (.cells ((unpK s k k).map Value.bool).toArray 4)) (.slice (some ⟨w.heap.size, 0, none⟩) k k) (bitsL s k) := by
          rw [unpK_all]
          have hb := block_reads1 (enc := Value.bool) (l := bitsL s k) (heap_alloc_new w (.cells ((bitsL s k).map Value.bool).toArray 4)) (by omega)
          rwa [hl] at hb
        generalize unpK s k k = U at *
        have hp := roomPack_any (.slice (some ⟨w.heap.size, 0, none⟩) k k) (bitsL s k) _ hrd (by omega)
        have hbel : Below w.heap.size w (w.alloc (.cells (U.map Value.bool).toArray 4)) := (Below.refl _ _).alloc (Nat.le_refl _) _
        generalize w.alloc (.cells (U.map Value.bool).toArray 4) = W at *
        have HRD := Lib.hid hrd; have HB := Lib.hid hbel
        have hsz := hbel.size
        clear hrd hbel hl hlt hk
        by_cases he : packB (bitsL s k) = s
        · have hE : unpE06 s (k : Nat) = 0 := by
            obtain ⟨h1, h2, h3⟩ := (pack_iff s k).1 he
            unfold unpE06
            rw [if_pos ⟨by omega, by omega, by omega, fun i h4 h5 => h3 i (by omega) h5⟩]
          have hL : unpL06 s (k : Nat) = bitsL s k := by unfold unpL06; rw [if_pos hE]; congr 1
          rw [he] at hp
          have HE := Lib.hid hE; have HL := Lib.hid hL
          clear he hE hL
          go_wp2_with (first | (go_at_call 9; refine hp.mono ?_; rintro e w' ⟨rfl, hb⟩))
          go_ret2
          exact ⟨⟨_, by rw [HE.out]; rfl, by rw [HL.out]; exact Reads1.below HRD.out hb⟩, HB.out.trans (hb.mono hsz)⟩
        · have hne := ba_tne he
          have hE : unpE06 s (k : Nat) = 4 := by
            unfold unpE06
            rw [if_neg]
            rintro ⟨_, h1, h2, h3⟩
            exact he ((pack_iff s k).2 ⟨by omega, by omega, fun i h4 h5 => h3 i (by omega) h5⟩)
          have hL : unpL06 s (k : Nat) = [] := by unfold unpL06; rw [if_neg (by rw [hE]; decide)]
          have HE := Lib.hid hE; have HL := Lib.hid hL
          clear he hE hL
          generalize packB (bitsL s k) = S at *
          go_wp2_with (first | (go_at_call 9; refine hp.mono ?_; rintro e w' ⟨rfl, hb⟩))
          go_ret2
          exact ⟨⟨_, by rw [HE.out]; rfl, by rw [HL.out]; exact nilBools _⟩, HB.out.trans (hb.mono hsz)⟩
  · have he : unpE06 s n = 4 := by unfold unpE06; rw [if_neg (fun h => hb ⟨h.1, by omega⟩)]
    have hl : unpL06 s n = [] := by unfold unpL06; rw [if_neg (by rw [he]; decide)]
    rw [he, hl]
    clear he hl
    by_cases h1 : n < 0
    · clear hb
      go_enter Try.func6, Try.ntmps6
      go_wp2_with fail
      go_ret2
      exact ⟨⟨_, rfl, nilBools _⟩, Below.refl _ _⟩
    · have h2 : (s.size : Int) < n / 8 := by omega
      clear hb
      go_enter Try.func6, Try.ntmps6
      go_wp2_with fail
      go_ret2
      exact ⟨⟨_, rfl, nilBools _⟩, Below.refl _ _⟩
end Go.Proofs.Ytdpmdbloopmpdaa
