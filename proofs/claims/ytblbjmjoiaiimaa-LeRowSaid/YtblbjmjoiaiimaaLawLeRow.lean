/- The walk of LeRow. -/
import Derived.Test.YtblbjmjoiaiimaaLeAlive
import Derived.Test.YtblbjmjoiaiimaaLePlain
import Derived.Test.YtblbjmjoiaiimaaStrs
namespace Go.Proofs.Ytblbjmjoiaiimaa.lawLeRow
open Go.RowKit
set_option linter.unusedVariables false

def cut200 (s : ByteArray) : ByteArray := s.extract 0 (min s.size 200)
theorem cut200_size (s : ByteArray) : (cut200 s).size ≤ 200 := by rw [cut200, ByteArray.size_extract]; omega
def rowL (l : List ByteArray) : ByteArray := ⟨(l.flatMap fun s => (textL (cut200 s)).data.toList).toArray⟩
theorem rowL_list (l : List ByteArray) : (rowL l).data.toList = l.flatMap fun s => (textL (cut200 s)).data.toList := by simp [rowL]
theorem rowL_snoc (l : List ByteArray) (i : Nat) (h : i < l.length) : rowL (l.take (i + 1)) = rowL (l.take i) ++ textL (cut200 (l.getD i ByteArray.empty)) := by
  apply ba_ext
  rw [ba_append_list, rowL_list, rowL_list, List.take_succ_eq_append_getElem h, List.flatMap_append]
  simp [List.getD, h]
theorem rowL_size (l : List ByteArray) : (rowL l).size ≤ 202 * l.length := by
  rw [← ba_len, rowL_list]
  induction l with
  | nil => simp
  | cons s l ih =>
    simp only [List.flatMap_cons, List.length_append, List.length_cons]
    have h1 := textL_size (cut200 s)
    have h2 := cut200_size s
    rw [← ba_len] at h1
    omega
theorem rowL_split (l : List ByteArray) (i : Nat) (h : i < l.length) :
    (rowL l).data.toList = (rowL (l.take i)).data.toList ++ ((textL (cut200 (l.getD i ByteArray.empty))).data.toList ++ (rowL (l.drop (i + 1))).data.toList) := by
  have e : l = l.take i ++ ([l.getD i ByteArray.empty] ++ l.drop (i + 1)) := by
    have : l.getD i ByteArray.empty = l[i] := by simp [List.getD, h]
    rw [this, List.singleton_append, ← List.drop_eq_getElem_cons h, List.take_append_drop]
  conv => lhs; rw [e]
  simp [rowL_list]
/-- text i is cut at its place -/
theorem row_cut (l : List ByteArray) (i : Nat) (h : i < l.length) :
    cutE (rowL l) (rowL (l.take i)).size = 0 ∧ cutS (rowL l) (rowL (l.take i)).size = cut200 (l.getD i ByteArray.empty) ∧
      cutT (rowL l) (rowL (l.take i)).size = (rowL (l.take i)).size + 2 + (cut200 (l.getD i ByteArray.empty)).size ∧
      ((rowL (l.take (i + 1))).size : Int) = (rowL (l.take i)).size + 2 + (cut200 (l.getD i ByteArray.empty)).size := by
  have hs := cut200_size (l.getD i ByteArray.empty)
  have hc := cut_text (rowL l) (cut200 (l.getD i ByteArray.empty)) _ _ (by omega) (rowL_split l i h)
  rw [ba_len] at hc
  refine ⟨hc.1, hc.2.1, hc.2.2, ?_⟩
  rw [rowL_snoc l i h, ByteArray.size_append, textL_size]
  omega
theorem row_end (l : List ByteArray) : cutE (rowL l) (rowL l).size = 3 := by
  have hg : getE (rowL l) (rowL l).size 2 = 3 := by
    unfold getE; rw [if_pos ⟨by omega, by omega, by omega⟩, if_neg (by omega)]
  unfold cutE; rw [if_pos (by omega), hg]

set_option maxHeartbeats 1000000 in
theorem walk_some (b off len cap : Nat) (l : List ByteArray) (w : World) (hl : l.length = len) (hpos : 0 < len) (hlc : len ≤ cap) (hcm : cap ≤ 9223372036854775807)
    (hsz : ∀ s ∈ l, s.size ≤ 9223372036854775807) (hb : b < w.heap.size) (hcell : ∀ i, i < len → w.cell? ⟨b, off + i, none⟩ = some (.string (l.getD i ByteArray.empty))) :
    Calls Try.prog 6 #[.slice (some ⟨b, off, none⟩) len cap] w fun e w' => e = .returned (.bool true) ∧ Below w.heap.size w w' := by
  obtain ⟨n, e2, g1, g2, g3⟩ := min_if len 30 (by omega)
  have hnl : n ≤ l.length := by omega
  have gi : (n : Int) ≤ len := by omega
  have hlen30 : (l.take n).length = n := by rw [List.length_take]; omega
  have hsz30 : ∀ i, i < n → ((l.take n).getD i ByteArray.empty).size ≤ 9223372036854775807 := by
    intro i hi
    have : (l.take n).getD i ByteArray.empty ∈ l := by
      simp only [List.getD, List.getElem?_take, if_pos hi]
      rw [List.getElem?_eq_getElem (by omega)]
      exact List.getElem_mem _
    exact hsz _ this
  have hcell30 : ∀ i, i < n → w.cell? ⟨b, off + i, none⟩ = some (.string ((l.take n).getD i ByteArray.empty)) := by
    intro i hi
    rw [hcell i (by omega)]
    simp only [List.getD, List.getElem?_take, if_pos hi]
  have HL := Lib.hid hlen30
  have HSZ := Lib.hid hsz30; have HC := Lib.hid hcell30
  clear hsz hcell hsz30 hcell30 hlen30 hl hnl g3
  generalize l.take n = t at *
  clear l
  go_enter Try.func6, Try.ntmps6
  go_wp2_with fail
  clear e2
  go_loopw [3, 24] (fun all c wr => ∃ i : Nat, i ≤ n ∧ c = .int .i64 i ∧ all = .string (rowL (t.take i)) ∧ Below w.heap.size w wr) (fun _ c _ => n - (intOf c).toNat)
  case atStart => exact ⟨0, by omega, rfl, by simp [rowL], Below.refl _ _⟩
  case round =>
    obtain ⟨i, hi, rfl, rfl, hbel⟩ := hrel
    by_cases hlt : i < n
    · have hc : wr.cell? ⟨b, off + i, none⟩ = some (.string (t.getD i ByteArray.empty)) := by rw [hbel.cell (p := ⟨b, off + i, none⟩) hb]; exact HC.out i hlt
      have hz := HSZ.out i hlt
      have hsn := rowL_snoc t i (by rw [HL.out]; exact hlt)
      have hrs := rowL_size (t.take i)
      rw [List.length_take, HL.out] at hrs
      have hrsI : ((rowL (t.take i)).size : Int) ≤ 6060 := by omega
      have HSN := Lib.hid hsn
      clear hsn hrs
      generalize t.getD i ByteArray.empty = s at *
      obtain ⟨m, em, m1, m2, m3⟩ := min_if s.size 200 (by omega)
      have hcut : s.extract 0 m = cut200 s := by rw [cut200, m3]; rfl
      have hcs := cut200_size s
      have hts := textL_size (cut200 s)
      have htsI : ((textL (cut200 s)).size : Int) ≤ 202 := by omega
      have hS : textS (cut200 s) = textL (cut200 s) ∧ textE (cut200 s) = 0 := by
        simp [textS, textE, show (cut200 s).size ≤ 65535 from by omega]
      have HS := Lib.hid hS
      have HCUT := Lib.hid hcut
      have miI : (m : Int) ≤ s.size := by omega
      clear hS hts m3 hcut
      go_wp2_with fail
      rw [HCUT.out]
      refine (leText_any _ _ (by omega)).mono ?_
      rintro e w1 ⟨rfl, hb1⟩
      rw [HS.out.1, HS.out.2]
      clear em hc
      go_wp2_with fail
      go_roundw
      case rel => exact ⟨i + 1, by omega, by go_num, by rw [HSN.out], hbel.trans (hb1.mono hbel.size)⟩
      case measure => simp [intOf]; omega
    · obtain rfl : i = n := by omega
      have ht : t.take i = t := List.take_of_length_le (by rw [HL.out]; omega)
      rw [ht]
      clear ht hlt hi
      go_wp2_with fail
      go_loopw [8, 45] (fun at_ c wq => ∃ j : Nat, j ≤ i ∧ c = .int .i64 j ∧ at_ = .int .i64 ((rowL (t.take j)).size : Nat) ∧ wq = wr) (fun _ c _ => i - (intOf c).toNat)
      case atStart => exact ⟨0, by omega, rfl, by simp [rowL, ByteArray.size], rfl⟩
      case round =>
        obtain ⟨j, hj, rfl, rfl, rfl⟩ := hrel
        by_cases hlt : j < i
        · have hc : wr.cell? ⟨b, off + j, none⟩ = some (.string (t.getD j ByteArray.empty)) := by rw [hbel.cell (p := ⟨b, off + j, none⟩) hb]; exact HC.out j hlt
          have hz := HSZ.out j hlt
          have hrc := row_cut t j (by rw [HL.out]; exact hlt)
          have hrs := rowL_size (t.take j)
          rw [List.length_take, HL.out] at hrs
          have hrsI : ((rowL (t.take j)).size : Int) ≤ 6060 := by omega
          have hrt := rowL_size t
          rw [HL.out] at hrt
          have HRC := Lib.hid hrc
          clear hrc hrs
          generalize t.getD j ByteArray.empty = s at *
          obtain ⟨m, em, m1, m2, m3⟩ := min_if s.size 200 (by omega)
          have hcut : s.extract 0 m = cut200 s := by rw [cut200, m3]; rfl
          have hcs := cut200_size s
          have hcsI : ((cut200 s).size : Int) ≤ 200 := by omega
          have miI : (m : Int) ≤ s.size := by omega
          clear m3
          go_wp2_with fail
          refine (leCut_any _ _ _ (by omega) (by omega)).mono ?_
          rintro e w1 ⟨rfl, rfl⟩
          rw [HRC.out.1, HRC.out.2.1, HRC.out.2.2.1]
          go_wp2_with fail
          go_roundw
          case rel => exact ⟨j + 1, by omega, by go_num, by rw [HRC.out.2.2.2], by first | rfl | trivial⟩
          case measure => simp [intOf]; omega
        · obtain rfl : j = i := by omega
          have ht : t.take j = t := List.take_of_length_le (by rw [HL.out]; omega)
          have hrt := rowL_size t
          rw [HL.out] at hrt
          have hend := row_end t
          have HE := Lib.hid hend
          rw [ht]
          clear ht hlt hend
          go_wp2_with fail
          refine (leCut_any _ _ _ (by omega) (by omega)).mono ?_
          rintro e w1 ⟨rfl, rfl⟩
          rw [HE.out]
          go_wp2_with fail
          refine (leAlive _).mono ?_
          rintro e w2 ⟨rfl, hb2⟩
          go_wp2
          go_ret
          exact ⟨rfl, hbel.trans (hb2.mono hbel.size)⟩

theorem walk_none (a : Option Addr) (cap : Nat) (w : World) (hcm : cap ≤ 9223372036854775807) :
    Calls Try.prog 6 #[.slice a 0 cap] w fun e w' => e = .returned (.bool true) ∧ Below w.heap.size w w' := by
  have HE := Lib.hid (row_end [])
  go_enter Try.func6, Try.ntmps6
  go_wp2_with fail
  refine wp_loop_once ?_
  go_wp2_with fail
  refine wp_loop_once ?_
  go_wp2_with fail
  refine (leCut_any _ _ _ (by simp [ByteArray.size]) (by omega)).mono ?_
  rintro e w1 ⟨rfl, rfl⟩
  have e0 : rowL [] = ⟨#[]⟩ := rfl
  rw [e0] at HE
  have e1 : cutE ⟨#[]⟩ 0 = 3 := HE.out
  rw [e1]
  go_wp2_with fail
  refine (leAlive _).mono ?_
  rintro e w2 ⟨rfl, hb2⟩
  go_wp2
  go_ret
  exact ⟨rfl, hb2⟩

theorem walk (v0 : Value) (x0 : List ByteArray) (w : World) (w0 : IsStrs w v0 x0) :
    Calls Try.prog 6 #[v0] w fun e w' => e = .returned (.bool true) ∧ Below w.heap.size w w' := by
  obtain ⟨a, len, cap, rfl, hl, hlc, hcm, hsz, h⟩ := w0
  by_cases h0 : len = 0
  · subst h0
    exact walk_none a cap w hcm
  · rcases h with h | ⟨b, off, rfl, hb, hcell⟩
    · exact absurd h h0
    · exact walk_some b off len cap x0 w hl (by omega) hlc hcm hsz hb hcell
end Go.Proofs.Ytblbjmjoiaiimaa.lawLeRow
