/- The reference's row of bytes. -/
import Derived.Test.YtdpmdbloopmpdaaRef06P
namespace Go.Proofs.Ytdpmdbloopmpdaa
open Go.RowKit
set_option linter.unusedVariables false

def bitB (s : ByteArray) (i : Nat) : Bool := decide ((s.data.toList.getD (i / 8) 0).toNat / 2 ^ (i % 8) % 2 = 1)
def bitsL (s : ByteArray) (n : Nat) : List Bool := (List.range n).map (bitB s)
theorem bitsL_snoc (s : ByteArray) (n : Nat) : bitsL s (n + 1) = bitsL s n ++ [bitB s n] := by simp [bitsL, List.range_succ]
theorem bitB_at (s : ByteArray) (q r : Nat) (hr : r < 8) (hq : q < s.size) : (((s[q].toNat : Int) / 2 ^ r).tmod 2 == 1) = bitB s (8 * q + r) := by
  unfold bitB
  rw [show (8 * q + r) / 8 = q from by omega, show (8 * q + r) % 8 = r from by omega]
  have e : ((s[q].toNat : Int) / 2 ^ r) = ((s[q].toNat / 2 ^ r : Nat) : Int) := by simp
  have g : s.data.toList.getD q 0 = s[q] := by
    have : q < s.data.toList.length := by rw [ba_len]; exact hq
    show (s.data.toList[q]?).getD 0 = s[q]
    rw [List.getElem?_eq_getElem this]
    rfl
  rw [e, g]
  generalize s[q].toNat / 2 ^ r = z
  rw [Int.tmod_eq_emod_of_nonneg (by omega)]
  rw [Bool.eq_iff_iff, beq_iff_eq, decide_eq_true_eq]
  omega
open Classical in
/-- whether the bytes are a row's of so many -/
noncomputable def unpE06 (s : ByteArray) (n : Int) : Int := if 0 ≤ n ∧ n ≤ 8 * s.size ∧ 8 * (s.size : Int) - 8 < n ∧ ∀ i : Nat, n ≤ i → i < 8 * s.size → bitB s i = false then 0 else 4
noncomputable def unpL06 (s : ByteArray) (n : Int) : List Bool := if unpE06 s n = 0 then bitsL s n.toNat else []
theorem infoBoolU : (Try.prog.info? 4).map (fun i => (i.zero, i.size, i.bytes)) = some (some (.bool false), 1, 1) := by kernel_rfl
theorem nilBools (w : World) : IsBools w (.slice none 0 0) [] := ⟨none, 0, 0, rfl, rfl, by omega, by omega, .inl rfl⟩

set_option maxHeartbeats 1000000 in
set_option maxRecDepth 100000 in
theorem refRoomUnpack_any (s : ByteArray) (n : Int) (w : World) (hs : s.size ≤ 1000) (hn0 : -9223372036854775808 ≤ n) (hn1 : n ≤ 9223372036854775807) :
    Calls Try.prog 7 #[.string s, .int .i64 n] w fun e w' => (∃ v, e = .returned (.tuple #[v, .int .i64 (unpE06 s n)]) ∧ IsBools w' v (unpL06 s n)) ∧ Below w.heap.size w w' := by
  obtain ⟨i0, hi, hz0, hz1, hz2⟩ := info_parts infoBoolU
  have hsI : (s.size : Int) ≤ 1000 := by omega
  by_cases hb : 0 ≤ n ∧ n ≤ 8 * s.size ∧ 8 * (s.size : Int) - 8 < n
  · obtain ⟨m, rfl⟩ := Int.eq_ofNat_of_zero_le hb.1
    obtain ⟨_, b1, b2⟩ := hb
    have hE0 : (∀ i : Nat, (m : Int) ≤ i → i < 8 * s.size → bitB s i = false) → unpE06 s (m : Nat) = 0 := fun h => by unfold unpE06; rw [if_pos ⟨by omega, b1, b2, h⟩]
    have hE4 : ∀ i : Nat, (m : Int) ≤ i → i < 8 * s.size → bitB s i = true → unpE06 s (m : Nat) = 4 := fun i h1 h2 h3 => by
      unfold unpE06
      rw [if_neg]
      rintro ⟨_, _, _, h⟩
      rw [h i h1 h2] at h3
      cases h3
    have HE0 := Lib.hid hE0; have HE4 := Lib.hid hE4
    have hmn : (m : Int).toNat = m := by omega
    have HL0 : Hid (unpE06 s (m : Nat) = 0 → unpL06 s (m : Nat) = bitsL s m) := Lib.hid (fun h => by unfold unpL06; rw [if_pos h, hmn])
    have HL4 : Hid (unpE06 s (m : Nat) = 4 → unpL06 s (m : Nat) = []) := Lib.hid (fun h => by unfold unpL06; rw [if_neg (by rw [h]; decide)])
    clear hE0 hE4 hmn
    go_enter Try.func7, Try.ntmps7
    go_wp2_with fail
    go_loopw [6, 7] (fun b x wr => ∃ i : Nat, i ≤ 8 * s.size ∧ x = .int .i64 i ∧ wr.ownsRow w.heap.size 4 1 b (min i m) ((bitsL s (min i m)).map .bool) ∧ (∀ k : Nat, (m : Int) ≤ k → k < i → bitB s k = false) ∧ Below w.heap.size w wr) (fun _ x _ => 8 * s.size - (intOf x).toNat)
    case atStart =>
      refine ⟨0, by omega, rfl, ?_, fun k _ h => by omega, (Below.refl _ _).alloc (Nat.le_refl _) _⟩
      rw [Nat.zero_min]
      exact World.ownsRow_made w #[] 0 (Nat.le_refl _) (by unfold maxLen; omega) rfl
    case round =>
      obtain ⟨i, hle, rfl, hown, hno, hbel⟩ := hrel
      by_cases hlt : i < 8 * s.size
      · obtain ⟨q, r, hr, rfl⟩ : ∃ q r, r < 8 ∧ i = 8 * q + r := ⟨i / 8, i % 8, by omega, by omega⟩
        have hltI : 8 * (q : Int) + r < 8 * s.size := by omega
        have hidx : q < s.size := by omega
        have hq8 : (8 * (q : Int) + r) / 8 = q := by omega
        have hr8 : (8 * (q : Int) + r) % 8 = r := by omega
        have hrI : (r : Int) ≤ 7 := by omega
        have hbit := bitB_at s q r hr hidx
        have hsn := bitsL_snoc s (8 * q + r)
        have HN := Lib.hid hno
        clear hno
        generalize hB : bitB s (8 * q + r) = B at *
        have HB := Lib.hid hB; have HSN := Lib.hid hsn
        clear hB hsn hle
        by_cases hm : 8 * q + r < m
        · have hmI : 8 * (q : Int) + r < m := by omega
          rw [show min (8 * q + r) m = 8 * q + r from by omega] at hown
          clear hlt
          go_wp2_with (first | (at_builtin; go_must (refine wpList_push _ _ 22 4 hown hbel (Nat.le_refl _) Try.underlying22 hi hz0 hz1 hz2 rfl (by decide) rfl rfl rfl rfl rfl ?c1 ?c2 ?_)))
          case c1 => exact rfl
          case c2 => omega
          intro v' w1 hown1 hbel1
          clear hown hbel
          go_wp2_with fail
          go_roundw
          case rel =>
            refine ⟨8 * q + r + 1, by omega, by go_num, ?_, fun k h1 h2 => by omega, hbel1⟩
            rw [show min (8 * q + r + 1) m = 8 * q + r + 1 from by omega, HSN.out, List.map_append]
            exact hown1
          case measure => simp [intOf]; omega
        · have hmI : (m : Int) ≤ 8 * (q : Int) + r := by omega
          rw [show min (8 * q + r) m = m from by omega] at hown
          cases B
          · clear hlt
            go_wp2_with fail
            go_roundw
            case rel =>
              refine ⟨8 * q + r + 1, by omega, by go_num, ?_, fun k h1 h2 => ?_, hbel⟩
              · rw [show min (8 * q + r + 1) m = m from by omega]; exact hown
              · by_cases hk : k < 8 * q + r
                · exact HN.out k h1 hk
                · rw [show k = 8 * q + r from by omega]; exact HB.out
            case measure => simp [intOf]; omega
          · have he := HE4.out (8 * q + r) (by omega) hlt HB.out
            have HE := Lib.hid he
            have HLE := Lib.hid (HL4.out he)
            clear he hlt
            go_wp2_with fail
            go_ret2
            exact ⟨⟨_, by rw [HE.out]; rfl, by rw [HLE.out]; exact nilBools _⟩, hbel⟩
      · obtain rfl : i = 8 * s.size := by omega
        rw [show min (8 * s.size) m = m from by omega] at hown
        have he := HE0.out hno
        have HE := Lib.hid he
        have HLE := Lib.hid (HL0.out he)
        have hrd : IsBools _ _ (bitsL s m) := own_reads1 hown (by simp [bitsL])
        have HRD := Lib.hid hrd
        clear he hno hlt hrd
        go_wp2_with fail
        go_ret2
        exact ⟨⟨_, by rw [HE.out]; rfl, by rw [HLE.out]; exact HRD.out⟩, hbel⟩
  · have he : unpE06 s n = 4 := by unfold unpE06; rw [if_neg (fun h => hb ⟨h.1, h.2.1, h.2.2.1⟩)]
    have hl : unpL06 s n = [] := by unfold unpL06; rw [if_neg (by rw [he]; decide)]
    rw [he, hl]
    clear he hl
    by_cases h1 : n < 0
    · clear hb
      go_enter Try.func7, Try.ntmps7
      go_wp2_with fail
      go_ret2
      exact ⟨⟨_, rfl, nilBools _⟩, Below.refl _ _⟩
    · by_cases h2 : 8 * (s.size : Int) < n
      · clear hb
        go_enter Try.func7, Try.ntmps7
        go_wp2_with fail
        go_ret2
        exact ⟨⟨_, rfl, nilBools _⟩, Below.refl _ _⟩
      · have h3 : n ≤ 8 * (s.size : Int) - 8 := by omega
        clear hb
        go_enter Try.func7, Try.ntmps7
        go_wp2_with fail
        go_ret2
        exact ⟨⟨_, rfl, nilBools _⟩, Below.refl _ _⟩
end Go.Proofs.Ytdpmdbloopmpdaa
