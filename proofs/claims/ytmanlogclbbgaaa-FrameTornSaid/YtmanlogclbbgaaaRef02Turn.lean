/- ref.Turned. -/
import Derived.Test.YtmanlogclbbgaaaCrcMore
import Derived.Lib.ConvBytes
namespace Go.Proofs.Ytmanlogclbbgaaa
open Go.RowKit
set_option linter.unusedVariables false

/-- the bits of a pattern that fall within m bits, the k lowest ones -/
def patK (p m : Nat) : Nat → Nat
  | 0 => 0
  | k + 1 => if k < m ∧ p / 2 ^ k % 2 = 1 then patK p m k ^^^ 2 ^ k else patK p m k
theorem patK_lt (p m k : Nat) : patK p m k < 2 ^ (min k m) := by
  induction k with
  | zero => simp [patK]
  | succ k ih =>
    simp only [patK]
    split
    · rename_i h
      have e : min (k + 1) m = k + 1 := by omega
      rw [e]
      have e2 : min k m = k := by omega
      rw [e2] at ih
      exact Nat.xor_lt_two_pow (by rw [Nat.pow_succ]; omega) (by rw [Nat.pow_succ]; have := Nat.pow_pos (n := k) (show 0 < 2 by omega); omega)
    · exact Nat.lt_of_lt_of_le ih (Nat.pow_le_pow_right (by omega) (by omega))
/-- a bit turned in a byte -/
theorem getL_set (l : List UInt8) (i j : Nat) (x : UInt8) (hi : i < l.length) (hx : x.toNat = (l.getD i 0).toNat ^^^ 2 ^ j) : getL (l.set i x) = getL l ^^^ 2 ^ (8 * i + j) := by
  induction l generalizing i with
  | nil => simp at hi
  | cons b r ih =>
    cases i with
    | zero =>
      simp only [List.set_cons_zero]
      rw [getL_cons_xor, getL_cons_xor b r, hx]
      simp only [List.getD_cons_zero, Nat.mul_zero, Nat.zero_add]
      ac_rfl
    | succ i =>
      simp only [List.set_cons_succ]
      rw [getL_cons_xor, getL_cons_xor b r, ih i (by simpa using hi) (by simpa using hx), mul_xor, ← Nat.pow_add]
      rw [show 8 + (8 * i + j) = 8 * (i + 1) + j from by omega]
      ac_rfl

/-- a block's first cells are these bytes, and may be written -/
def HasBytes (w : World) (B : Nat) (l : List UInt8) : Prop :=
  (∀ j, j < l.length → w.cell? ⟨B, j, none⟩ = some (.int .u8 (l.getD j 0).toNat)) ∧ ∀ j, j < l.length → w.frozen? ⟨B, j, none⟩ = false
theorem HasBytes.set {w : World} {B : Nat} {l : List UInt8} (h : HasBytes w B l) (i : Nat) (x : UInt8) (hi : i < l.length) : HasBytes (w.setCell ⟨B, i, none⟩ (.int .u8 x.toNat)) B (l.set i x) := by
  refine ⟨fun j hj => ?_, fun j hj => by rw [World.frozen?_setCell]; exact h.2 j (by simpa using hj)⟩
  rw [List.length_set] at hj
  by_cases hij : i = j
  · subst hij
    rw [World.cell?_setCell_same _ _ _ (h.1 i hj)]
    simp [List.getD, hi]
  · rw [World.cell?_setCell_other _ _ _ _ (by simp), h.1 j hj]
    simp [List.getD, hij]
theorem HasBytes.string {P : Program} {w : World} {B : Nat} {l : List UInt8} (h : HasBytes w B l) {cap n : Nat} (hn : l.length = n) {src dst e : TypeId}
    (hs : P.underlying src = some (.slice e)) (he : P.underlying e = some (.int .u8)) (hd : P.underlying dst = some .string) :
    (convert src dst (.slice (some ⟨B, 0, none⟩) n cap)).run P w = .ok (.string ⟨l.toArray⟩) w := by
  have := run_convert_bytes_arg (P := P) w src e hs he B 0 n cap (l.map fun b => (b.toNat : Int)) (by simpa using hn)
    (by
      intro i hi
      have hil : i < l.length := by omega
      rw [Nat.zero_add, h.1 i hil]
      simp [List.getD, hil]) dst hd
  rw [this]
  congr 2
  simp [strOfNums, Function.comp_def]
theorem bytesWorld_has (w : World) (e : TypeId) (s : ByteArray) : HasBytes (Lib.bytesWorld w e s) w.heap.size s.data.toList := by
  refine ⟨fun j hj => Lib.bytesWorld_cell w e s j (by rwa [ba_len] at hj), fun j hj => ?_⟩
  rw [ba_len] at hj
  simp only [World.frozen?, Lib.bytesWorld_at_new]
  have : s.size ≤ (Lib.bytesCells w e s).size := by
    simp only [Lib.bytesCells, Array.size_append, Array.size_map]
    have : s.data.size = s.size := rfl
    omega
  simp; omega
theorem bytesWorld_below (w : World) (e : TypeId) (s : ByteArray) : Below w.heap.size w (Lib.bytesWorld w e s) :=
  ⟨by simp [Lib.bytesWorld, World.freeze]; rfl, by simp [Lib.bytesWorld, World.freeze], by simp [Lib.bytesWorld, World.freeze]; rfl, by rw [Lib.bytesWorld_size]; omega, fun k hk => Lib.bytesWorld_at_old w e s k hk⟩

theorem turn_byte (b : UInt8) (j : Nat) (hj : j < 8) : (b ^^^ UInt8.ofNat (2 ^ j)).toNat = b.toNat ^^^ 2 ^ j ∧
    bits BinOp.xor IntKind.u8 (b.toNat : Int) ((2 : Int) ^ j % 256) = ((b ^^^ UInt8.ofNat (2 ^ j)).toNat : Int) := by
  have hp : 2 ^ j < 256 := Nat.lt_of_lt_of_le (Nat.pow_lt_pow_right (by omega) hj) (by decide)
  have h1 : (b ^^^ UInt8.ofNat (2 ^ j)).toNat = b.toNat ^^^ 2 ^ j := by
    rw [UInt8.toNat_xor, UInt8.toNat_ofNat', Nat.mod_eq_of_lt hp]
  refine ⟨h1, ?_⟩
  rw [h1, ← u8_xor_nat b.toNat (2 ^ j) b.toNat_lt hp]
  congr 1
  have : ((2 : Int) ^ j) = ((2 ^ j : Nat) : Int) := by simp
  rw [this]
  generalize 2 ^ j = q at hp
  omega

theorem turned_any (s : ByteArray) (f p : Nat) (w : World) (hs : s.size ≤ 5000) (hf : f ≤ 8 * s.size) (hp : p < 4294967296) :
    Calls Try.prog 22 #[.string s, .int .i64 f, .int .u32 p] w fun e w' => (∃ t : ByteArray, t.size = s.size ∧ getL t.data.toList = getL s.data.toList ^^^ 2 ^ f * patK p (8 * s.size - f) 32 ∧ e = .returned (.string t)) ∧ Below w.heap.size w w' := by
  have hfI : (f : Int) ≤ 40000 := by omega
  have hsI : (s.size : Int) ≤ 5000 := by omega
  have hpI : (p : Int) ≤ 4294967295 := by omega
  have hcv := Lib.run_convert_string_bytes (P := Try.prog) w 9 68 5 s Try.underlying9 Try.underlying68 Try.underlying5
  have hh := bytesWorld_has w 5 s
  have hb := bytesWorld_below w 5 s
  generalize Lib.bytesWorld w 5 s = w1 at *
  generalize grownCap w s.size 0 5 = cap at *
  go_enter Try.func22, Try.ntmps22
  go_wp2_with fail
  go_loopw [8] (fun c wr => ∃ k : Nat, ∃ l : List UInt8, k ≤ 32 ∧ c = .int .i64 k ∧ l.length = s.size ∧ HasBytes wr w.heap.size l ∧ getL l = getL s.data.toList ^^^ 2 ^ f * patK p (8 * s.size - f) k ∧ Below w.heap.size w wr) (fun c _ => 32 - (intOf c).toNat)
  case atStart => exact ⟨0, s.data.toList, by omega, rfl, ba_len s, hh, by simp [patK], hb⟩
  case round =>
    clear hh hb hcv
    obtain ⟨k, l, hk, rfl, hl, hh, hg, hbel⟩ := hrel
    by_cases hlt : k < 32
    · have hkI : (k : Int) < 32 := by omega
      by_cases hin : f + k < 8 * s.size
      · have hinI : (f : Int) + k < 8 * s.size := by omega
        by_cases hbit : p / 2 ^ k % 2 = 1
        · obtain ⟨i, ei⟩ : ∃ i, i = (f + k) / 8 := ⟨_, rfl⟩
          obtain ⟨j, ej⟩ : ∃ j, j = (f + k) % 8 := ⟨_, rfl⟩
          have hiI : ((f : Int) + k) / 8 = (i : Int) := by omega
          have hjI : ((f : Int) + k) % 8 = (j : Int) := by omega
          have hil : i < l.length := by omega
          have hils : (i : Int) < s.size := by omega
          have hj8 : j < 8 := by omega
          have hc := hh.1 i hil
          have hfz := hh.2 i hil
          have hdc : ((p : Int) / 2 ^ k) = ((p / 2 ^ k : Nat) : Int) := by simp
          have hnn : (0 : Int) ≤ (p : Int) / 2 ^ k := by rw [hdc]; exact Int.natCast_nonneg _
          have hbI : ((p : Int) / 2 ^ k % 2 == 1) = true := by rw [hdc, beq_iff_eq]; omega
          have HH := Lib.hid hh; have HG := Lib.hid hg; have HB := Lib.hid hbit; have HL := Lib.hid hl
          clear hh hg hbit hdc ei ej hl
          have htb := turn_byte (l.getD i 0) j hj8
          have hli : l.getD i 0 = l[i] := by simp [List.getD, hil]
          have HT := Lib.hid htb; have HLI := Lib.hid hli
          clear htb hli
          go_wp2_with fail
          go_roundw
          case rel =>
            refine ⟨k + 1, l.set i (l.getD i 0 ^^^ UInt8.ofNat (2 ^ j)), by omega, by go_num, by rw [List.length_set]; exact HL.out, ?_, ?_, hbel.setCell (Nat.le_refl _) _⟩
            · rw [← HLI.out, HT.out.2]; exact HH.out.set i _ hil
            · rw [getL_set l i j _ hil HT.out.1, HG.out]
              simp only [patK]
              rw [if_pos ⟨by omega, HB.out⟩, mul_xor, ← Nat.pow_add, show 8 * i + j = f + k from by omega]
              ac_rfl
          case measure => simp [intOf]; omega
        · have hdc : ((p : Int) / 2 ^ k) = ((p / 2 ^ k : Nat) : Int) := by simp
          have hnn : (0 : Int) ≤ (p : Int) / 2 ^ k := by rw [hdc]; exact Int.natCast_nonneg _
          have hbI : ((p : Int) / 2 ^ k % 2 == 1) = false := by rw [hdc, beq_eq_false_iff_ne]; omega
          have HH := Lib.hid hh; have HG := Lib.hid hg; have HB := Lib.hid hbit; have HL := Lib.hid hl
          clear hh hg hbit hdc hl
          go_wp2_with fail
          go_roundw
          case rel =>
            refine ⟨k + 1, l, by omega, by go_num, HL.out, HH.out, ?_, hbel⟩
            rw [HG.out]; simp only [patK]; rw [if_neg (fun h => HB.out h.2)]
          case measure => simp [intOf]; omega
      · have hinI : ¬ (f : Int) + k < 8 * s.size := by omega
        have HH := Lib.hid hh; have HG := Lib.hid hg; have HL := Lib.hid hl
        clear hh hg hl
        go_wp2_with fail
        go_roundw
        case rel =>
          refine ⟨k + 1, l, by omega, by go_num, HL.out, HH.out, ?_, hbel⟩
          rw [HG.out]; simp only [patK]; rw [if_neg (fun h => by omega)]
        case measure => simp [intOf]; omega
    · obtain rfl : k = 32 := by omega
      have hst := hh.string (P := Try.prog) (cap := cap) hl Try.underlying68 Try.underlying5 Try.underlying9
      have HG := Lib.hid hg; have HL := Lib.hid hl
      clear hh hg hl
      go_wp2_with fail
      go_ret
      exact ⟨⟨⟨l.toArray⟩, by rw [ba_size]; exact HL.out, HG.out, rfl⟩, hbel⟩
end Go.Proofs.Ytmanlogclbbgaaa
