/- lex.Number. -/
import Derived.Test.YtpkpbohkdkmoiaaDoorLxP
import Derived.Test.YtpkpbohkdkmoiaaDoorShelf
import Derived.Shelf.Strings.SlTrimAscii
namespace Go.Proofs.YtpkpbohkdkmoiaaDoor
open Go.RowKit
set_option linter.unusedVariables false

/-- the errors that strconv keeps in variables -/
def Errs (w : World) : Prop := ∃ a b c d, w.cell? ⟨1, 0, none⟩ = some (.iface a b) ∧ w.cell? ⟨2, 0, none⟩ = some (.iface c d)
theorem Errs.keep {w w' : World} (h : Errs w) (hb : Below w.heap.size w w') : Errs w' := by
  obtain ⟨a, b, c, d, h1, h2⟩ := h
  exact ⟨a, b, c, d, (hb.cell (p := ⟨1, 0, none⟩) (Lib.lt_of_cell h1)).trans h1, (hb.cell (p := ⟨2, 0, none⟩) (Lib.lt_of_cell h2)).trans h2⟩
theorem decN_mono (l : List UInt8) : ∀ acc, acc ≤ l.foldl (fun n c => 10 * n + (c.toNat - 48)) acc := by
  induction l with
  | nil => intro acc; exact Nat.le_refl _
  | cons a l ih => intro acc; rw [List.foldl_cons]; have := ih (10 * acc + (a.toNat - 48)); omega
theorem parse_dec (l : List UInt8) (hd : ∀ c ∈ l, digB c.toNat = true) : ∀ acc F, acc ≤ 18446744073709551615 → l.foldl (fun n c => 10 * n + (c.toNat - 48)) acc = F →
    (F ≤ 18446744073709551615 → Lib.parseUintM 18446744073709551615 acc l = .ok F) ∧ (¬ F ≤ 18446744073709551615 → Lib.parseUintM 18446744073709551615 acc l = .range) := by
  induction l with
  | nil =>
    intro acc F h hF
    rw [List.foldl_nil] at hF
    subst hF
    exact ⟨fun _ => by unfold Lib.parseUintM; rfl, fun hn => absurd h hn⟩
  | cons a l ih =>
    intro acc F h hF
    have h1 := hd a (by simp)
    unfold digB at h1
    simp only [decide_eq_true_eq] at h1
    rw [List.foldl_cons] at hF
    have hm := decN_mono l (10 * acc + (a.toNat - 48))
    rw [hF] at hm
    unfold Lib.parseUintM
    rw [if_pos h1]
    by_cases h2 : 1844674407370955162 ≤ acc
    · rw [if_pos h2]
      exact ⟨fun hh => by omega, fun _ => rfl⟩
    · rw [if_neg h2]
      by_cases h3 : 18446744073709551615 < acc * 10 + (a.toNat - 48)
      · rw [if_pos h3]
        exact ⟨fun hh => by omega, fun _ => rfl⟩
      · rw [if_neg h3, Nat.mul_comm acc 10]
        exact ih (fun c hc => hd c (by simp [hc])) _ F (by omega) hF
theorem parse_ok (l : List UInt8) (hne : l ≠ []) (hd : ∀ c ∈ l, digB c.toNat = true) (h : decN l ≤ 18446744073709551615) : Lib.parseUintB 64 l = .ok (decN l) := by
  unfold Lib.parseUintB
  rw [if_neg hne]
  exact (parse_dec l hd 0 _ (by omega) rfl).1 h
theorem parse_range (l : List UInt8) (hne : l ≠ []) (hd : ∀ c ∈ l, digB c.toNat = true) (h : ¬ decN l ≤ 18446744073709551615) : Lib.parseUintB 64 l = .range := by
  unfold Lib.parseUintB
  rw [if_neg hne]
  exact (parse_dec l hd 0 _ (by omega) rfl).2 h
theorem u8_all (p : UInt8 → Prop) (h : ∀ n, n < 256 → p (UInt8.ofNat n)) (c : UInt8) : p c := by
  have := h c.toNat (UInt8.toNat_lt c)
  simpa using this
theorem dec_in (c : UInt8) : ([48, 49, 50, 51, 52, 53, 54, 55, 56, 57] : List UInt8).contains c = digB c.toNat := by
  refine u8_all (fun c => ([48, 49, 50, 51, 52, 53, 54, 55, 56, 57] : List UInt8).contains c = digB c.toNat) ?_ c
  decide +kernel
theorem hex_in (c : UInt8) : ([48, 49, 50, 51, 52, 53, 54, 55, 56, 57, 97, 98, 99, 100, 101, 102] : List UInt8).contains c = hexB c.toNat := by
  refine u8_all (fun c => ([48, 49, 50, 51, 52, 53, 54, 55, 56, 57, 97, 98, 99, 100, 101, 102] : List UInt8).contains c = hexB c.toNat) ?_ c
  decide +kernel
theorem info56 : (Tryd.prog.info? 56).map (fun i => (i.zero, i.size)) = some (some (.agg (Array.replicate 256 (.bool false))), 256) := by kernel_rfl
/-- what strings.Trim leaves: nothing, or something -/
theorem lxTrimDec (s : ByteArray) (w : World) (hs : s.size ≤ 1000000) :
    ∃ t, Calls Tryd.prog 19 #[.string s, .string ⟨#[48, 49, 50, 51, 52, 53, 54, 55, 56, 57]⟩] w (fun e w' => e = .returned (.string t) ∧ Below w.heap.size w w') ∧ (t.toList.isEmpty = s.data.toList.all fun c => digB c.toNat) := by
  refine ⟨_, Any.strings_Trim_laid Tryd.lays160 info56 s ⟨#[48, 49, 50, 51, 52, 53, 54, 55, 56, 57]⟩ w (by omega) (by decide) (by
    intro j b hb
    have : b ∈ ([48, 49, 50, 51, 52, 53, 54, 55, 56, 57] : List UInt8) := List.mem_of_getElem? hb
    revert this
    refine u8_all (fun b => b ∈ ([48, 49, 50, 51, 52, 53, 54, 55, 56, 57] : List UInt8) → b.toNat < 128) ?_ b
    decide +kernel), ?_⟩
  rw [Bool.eq_iff_iff, List.isEmpty_iff, ByteArray.toList_eq, List.all_eq_true]
  show Lib.trimS _ [48, 49, 50, 51, 52, 53, 54, 55, 56, 57] = [] ↔ _
  unfold Lib.trimS Lib.trimLeftS Lib.trimRightS
  rw [trimAll]
  simp only [dec_in]
theorem lxTrimHex (s : ByteArray) (w : World) (hs : s.size ≤ 1000000) :
    ∃ t, Calls Tryd.prog 19 #[.string s, .string ⟨#[48, 49, 50, 51, 52, 53, 54, 55, 56, 57, 97, 98, 99, 100, 101, 102]⟩] w (fun e w' => e = .returned (.string t) ∧ Below w.heap.size w w') ∧ (t.toList.isEmpty = s.data.toList.all fun c => hexB c.toNat) := by
  refine ⟨_, Any.strings_Trim_laid Tryd.lays160 info56 s ⟨#[48, 49, 50, 51, 52, 53, 54, 55, 56, 57, 97, 98, 99, 100, 101, 102]⟩ w (by omega) (by decide) (by
    intro j b hb
    have : b ∈ ([48, 49, 50, 51, 52, 53, 54, 55, 56, 57, 97, 98, 99, 100, 101, 102] : List UInt8) := List.mem_of_getElem? hb
    revert this
    refine u8_all (fun b => b ∈ ([48, 49, 50, 51, 52, 53, 54, 55, 56, 57, 97, 98, 99, 100, 101, 102] : List UInt8) → b.toNat < 128) ?_ b
    decide +kernel), ?_⟩
  rw [Bool.eq_iff_iff, List.isEmpty_iff, ByteArray.toList_eq, List.all_eq_true]
  show Lib.trimS _ [48, 49, 50, 51, 52, 53, 54, 55, 56, 57, 97, 98, 99, 100, 101, 102] = [] ↔ _
  unfold Lib.trimS Lib.trimLeftS Lib.trimRightS
  rw [trimAll]
  simp only [hex_in]
end Go.Proofs.YtpkpbohkdkmoiaaDoor
