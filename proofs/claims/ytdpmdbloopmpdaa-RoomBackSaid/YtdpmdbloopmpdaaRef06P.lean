/- The reference's bytes of a row of bools. -/
import Derived.Test.YtdpmdbloopmpdaaRoom
import Derived.Test.YtdpmdbloopmpdaaRow1
namespace Go.Proofs.Ytdpmdbloopmpdaa
open Go.RowKit
set_option linter.unusedVariables false

theorem infoByte : (Try.prog.info? 5).map (fun i => (i.zero, i.size, i.bytes)) = some (some (.int .u8 0), 1, 1) := by kernel_rfl
/-- the number that so many bools make, from a place on -/
def bitsN (l : List Bool) (i : Nat) : Nat → Nat
  | 0 => 0
  | j + 1 => bitsN l i j + (if l.getD (i + j) false = true then 2 ^ j else 0)
theorem bitsN_lt (l : List Bool) (i j : Nat) : bitsN l i j < 2 ^ j := by
  induction j with
  | zero => simp [bitsN]
  | succ j ih =>
    simp only [bitsN]
    rw [Nat.pow_succ]
    split <;> omega
def byteN (l : List Bool) (c : Nat) : Nat := bitsN l (8 * c) (min 8 (l.length - 8 * c))
theorem byteN_lt (l : List Bool) (c : Nat) : byteN l c ≤ 255 := by
  have h := bitsN_lt l (8 * c) (min 8 (l.length - 8 * c))
  have h2 : 2 ^ min 8 (l.length - 8 * c) ≤ 2 ^ 8 := Nat.pow_le_pow_right (by omega) (by omega)
  unfold byteN
  omega
def packN (l : List Bool) (m : Nat) : List UInt8 := (List.range m).map fun c => UInt8.ofNat (byteN l c)
theorem packN_snoc (l : List Bool) (m : Nat) : packN l (m + 1) = packN l m ++ [UInt8.ofNat (byteN l m)] := by
  simp [packN, List.range_succ]
theorem packN_val (l : List Bool) (m : Nat) : ((UInt8.ofNat (byteN l m)).toNat : Int) = (byteN l m : Nat) := by
  have := byteN_lt l m
  simp [UInt8.toNat_ofNat']
  omega
def packB (l : List Bool) : ByteArray := ⟨(packN l ((l.length + 7) / 8)).toArray⟩

set_option maxHeartbeats 1000000 in
set_option maxRecDepth 100000 in
theorem refRoomPack_any (v : Value) (l : List Bool) (w : World) (h : IsBools w v l) (h2 : l.length ≤ 1000000) :
    Calls Try.prog 10 #[v] w fun e w' => e = .returned (.string (packB l)) ∧ Below w.heap.size w w' := by
  obtain ⟨i0, hi, hz0, hz1, hz2⟩ := info_parts infoByte
  obtain ⟨a, len, cap, rfl, hlen, hc1, hc2, hat⟩ := h
  have hlI : (len : Int) ≤ 1000000 := by omega
  have HA := Lib.hid hat; have HL := Lib.hid hlen
  clear hat hlen h2
  go_enter Try.func10, Try.ntmps10
  go_wp2_with fail
  go_loopw [3, 4] (fun b x wr => ∃ c : Nat, 8 * c ≤ len + 7 ∧ x = .int .i64 (8 * (c : Int)) ∧ wr.ownsRow w.heap.size 5 1 b c ((packN l c).map fun x => .int .u8 x.toNat) ∧ Below w.heap.size w wr) (fun _ x _ => len + 8 - (intOf x).toNat)
  case atStart => exact ⟨0, by omega, rfl, World.ownsRow_made w #[] 0 (Nat.le_refl _) (by unfold maxLen; omega) rfl, (Below.refl _ _).alloc (Nat.le_refl _) _⟩
  case round =>
    obtain ⟨c, hcm, rfl, hown, hbel⟩ := hrel
    have hcI : 8 * (c : Int) ≤ len + 7 := by omega
    by_cases hlt : 8 * c < len
    · have hltI : 8 * (c : Int) < len := by omega
      obtain ⟨b, off, rfl, hb, hat⟩ := HA.out.resolve_left (by omega)
      have HAT := Lib.hid hat
      have HO := Lib.hid hown; have HBE := Lib.hid hbel
      have hwb : ∀ p : Addr, p.block = b → wr.cell? p = w.cell? p := fun p hp => hbel.cell (by rw [hp]; exact hb)
      have HW := Lib.hid hwb
      clear hat hown hbel hwb hlt
      go_wp2_with fail
      go_loop [5, 6, 7] (fun x y z => ∃ j : Nat, j ≤ 8 ∧ 8 * c + j ≤ len ∧ x = .int .i64 (bitsN l (8 * c) j : Nat) ∧ y = .int .i64 (2 ^ j : Nat) ∧ z = .int .i64 (8 * (c : Int) + j)) (fun _ _ z => len + 8 - (intOf z).toNat)
      case atStart => exact ⟨0, by omega, by omega, rfl, rfl, by go_num⟩
      case round =>
        obtain ⟨j, hj, hjl, rfl, rfl, rfl⟩ := hrel
        have hbl := bitsN_lt l (8 * c) j
        have hp2 : 2 ^ j ≤ 256 := by
          have : 2 ^ j ≤ 2 ^ 8 := Nat.pow_le_pow_right (by omega) hj
          omega
        have hsn : bitsN l (8 * c) (j + 1) = bitsN l (8 * c) j + (if l.getD (8 * c + j) false = true then 2 ^ j else 0) := rfl
        have hp1 : 2 ^ (j + 1) = 2 * 2 ^ j := by rw [Nat.pow_succ, Nat.mul_comm]
        by_cases hend : j < 8 ∧ 8 * c + j < len
        · obtain ⟨h8, hkl⟩ := hend
          have hkl2 : 8 * c + j < l.length := by have := HL.out; omega
          have hc := (HW.out ⟨b, off + (8 * c + j), none⟩ rfl).trans (HAT.out _ hkl2)
          rw [show l.getD (8 * c + j) false = l[8 * c + j] from by simp [List.getD, hkl2]] at hsn
          have h8I : (j : Int) < 8 := by omega
          have hklI : 8 * (c : Int) + j < len := by omega
          have htn : (8 * (c : Int) + j).toNat = 8 * c + j := by omega
          generalize bitsN l (8 * c) j = N at *
          generalize hN1 : bitsN l (8 * c) (j + 1) = N1 at *
          have HN1 := Lib.hid hN1
          clear hN1
          generalize hB : l[8 * c + j] = B at *
          generalize hP : 2 ^ j = P at *
          have hNI : (N : Int) ≤ 256 := by omega
          have hPI : (P : Int) ≤ 256 := by omega
          clear hB hbl hp2
          have HS := Lib.hid hsn; have HP1 := Lib.hid hp1
          clear hsn hp1 h8 hkl
          cases B
          · go_wp2_with fail
            go_round
            case rel => exact ⟨j + 1, by omega, by omega, by rw [HN1.out, HS.out]; simp, by rw [HP1.out]; go_num, by go_num⟩
            case measure => simp [intOf]; omega
          · go_wp2_with fail
            go_round
            case rel => exact ⟨j + 1, by omega, by omega, by rw [HN1.out, HS.out]; simp, by rw [HP1.out]; go_num, by go_num⟩
            case measure => simp [intOf]; omega
        · have hjm : j = min 8 (l.length - 8 * c) := by have := HL.out; omega
          have hbn : bitsN l (8 * c) j = byteN l c := by rw [byteN, ← hjm]
          have hby := byteN_lt l c
          have hval := packN_val l c
          have hsnoc := packN_snoc l c
          rw [hbn]
          have hown := HO.out
          have hbel := HBE.out
          have HV := Lib.hid hval; have HSN := Lib.hid hsnoc
          have hbyI : (byteN l c : Int) ≤ 255 := by omega
          clear hsn hp1 hbl hbn hjm hval hsnoc hby hp2
          generalize 2 ^ j = P at *
          generalize hN : byteN l c = N at *
          clear hN
          by_cases h8 : j = 8
          · have hj8 : (8 : Int) ≤ j := by omega
            clear hend h8
            go_wp2_with (first | (at_builtin; go_must (refine wpList_push _ _ 40 5 hown hbel (Nat.le_refl _) Try.underlying40 hi hz0 hz1 hz2 rfl (by decide) rfl rfl rfl rfl rfl ?c1 ?c2 ?_)))
            case c1 => exact rfl
            case c2 => omega
            intro v' w1 hown1 hbel1
            clear hown hbel
            go_wp2_with fail
            go_roundw
            case rel =>
              refine ⟨c + 1, by omega, by go_num, ?_, hbel1⟩
              rw [HSN.out, List.map_append, List.map_cons, List.map_nil, HV.out]
              exact hown1
            case measure => simp [intOf]; omega
          · have hj8 : (j : Int) < 8 := by omega
            have hjl2 : (len : Int) ≤ 8 * (c : Int) + j := by omega
            clear hend h8
            go_wp2_with (first | (at_builtin; go_must (refine wpList_push _ _ 40 5 hown hbel (Nat.le_refl _) Try.underlying40 hi hz0 hz1 hz2 rfl (by decide) rfl rfl rfl rfl rfl ?c3 ?c4 ?_)))
            case c3 => exact rfl
            case c4 => omega
            intro v' w1 hown1 hbel1
            clear hown hbel
            go_wp2_with fail
            go_roundw
            case rel =>
              refine ⟨c + 1, by omega, by go_num, ?_, hbel1⟩
              rw [HSN.out, List.map_append, List.map_cons, List.map_nil, HV.out]
              exact hown1
            case measure => simp [intOf]; omega
    · have hce : (l.length + 7) / 8 = c := by have := HL.out; omega
      have hltI : (len : Int) ≤ 8 * (c : Int) := by omega
      have hcv := own_string (P := Try.prog) (src := 40) (dst := 9) (packN l c) hown Try.underlying40 Try.underlying5 Try.underlying9
      have hpk : packB l = ⟨(packN l c).toArray⟩ := by unfold packB; rw [hce]
      have HPK := Lib.hid hpk
      clear hce hpk hlt
      go_wp2_with fail
      go_ret
      exact ⟨by rw [HPK.out]; rfl, hbel⟩
end Go.Proofs.Ytdpmdbloopmpdaa
