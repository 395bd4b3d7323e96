/- strconv.FormatUint in decimal digits. -/
import Derived.Test.YtpkpbohkdkmoiaaDoorLxD
import Derived.Lib.LaidTab
import Derived.Lib.AppendIntMem
namespace Go.Proofs.YtpkpbohkdkmoiaaDoor
open Go.RowKit
set_option linter.unusedVariables false

/-- the table of the powers of ten -/
def Tab10 (w : World) : Prop := Lib.TabIs Tryd.prog w "internal/strconv.uint64pow10" .u64 Lib.pow10Tab
theorem Tab10.keep {w w' : World} (h : Tab10 w) (hb : Below w.heap.size w w') : Tab10 w' := by
  have hg : Tryd.prog.globalNamed "internal/strconv.uint64pow10" = some 0 := by kernel_rfl
  have h0 := World.var?_cell hg h 0
  have hlt : 0 < w.heap.size := Lib.lt_of_cell (a := ⟨0, 0, none⟩) (v := .int .u64 1) (by rw [h0]; rfl)
  unfold Tab10 Lib.TabIs at *
  simp only [World.var?, hg, Option.bind_some] at *
  rw [hb.block _ hlt]
  exact h
theorem tab_of {W : World} {l : List (String × DataW Unit)} (h : laidMetH Tryd.prog l W) (hp : (l.all fun x => x.2.handleName?.isNone) = true)
    (h1 : ("internal/strconv.uint64pow10", Lib.tabData .u64 Lib.pow10Tab) ∈ l) : Tab10 W := by
  rw [MakeChecks.laidMetH_plain _ _ _ hp] at h
  obtain ⟨ps, hl, _, _⟩ := h
  obtain ⟨g, t, cs, fuel, p, e1, e2, e3, e4⟩ := laid_get l ps hl _ h1
  obtain rfl := Option.some.inj ((show Tryd.prog.globalNamed "internal/strconv.uint64pow10" = some 0 by kernel_rfl).symm.trans e1)
  obtain rfl := Option.some.inj ((show (Tryd.prog.globals[0]?).map (·.type) = some 81 by kernel_rfl).symm.trans e2)
  unfold Tab10 Lib.TabIs
  rw [e3, ← Lib.cells_of_tab Tryd.underlying81 Tryd.underlying27 (by kernel_rfl) (by kernel_rfl) e4]
theorem put_below {B : Nat} {w0 w : World} {g : Nat} (h : Below B w0 w) (hg : B ≤ g) (d : Array UInt8) : Below B w0 (Go.Sort.putRow (fun (b : UInt8) => Value.int .u8 (b.toNat : Int)) w g 0 d) :=
  ⟨h.os, h.tape, h.output, by simpa [Go.Sort.putRow, Go.Sort.mapBlock] using h.size, fun k hk => by
    rw [← h.block k hk]
    simp only [Go.Sort.putRow, Go.Sort.mapBlock, Array.getElem?_modify]
    rw [if_neg (by omega)]⟩
set_option maxRecDepth 100000 in
set_option maxHeartbeats 2000000 in
theorem nuFormat10 (n : Nat) (w : World) (hn : n ≤ 18446744073709551615) (hT : Tab10 w) :
    Calls Tryd.prog 22 #[.int .u64 (n : Int), .int .i64 10] w fun e w' => e = .returned (.string ⟨(Lib.decDigits n).toArray⟩) ∧ Below w.heap.size w w' := by
  by_cases h100 : n < 100
  · have hI : (n : Int) < 100 := by omega
    have h0 : (0 : Int) ≤ n := by omega
    have HS := Lib.hid (fun u => Tryd.internal_strconv_small n h100 u)
    have hwr : IntKind.i64.wrap (n : Int) = n := IntWalk.i64_in _ ⟨by omega, by omega⟩
    clear hn h100
    go_enter Tryd.func22, Tryd.ntmps22
    go_wp2_with fail
    refine (HS.out _).mono ?_
    rintro e w1 ⟨rfl, rfl⟩
    go_wp2_with fail
    go_ret
    exact ⟨rfl, Below.refl _ _⟩
  · have hI : (100 : Int) ≤ n := by omega
    have hu1 : 1 ≤ n := by omega
    have hu64 : n < 18446744073709551616 := by omega
    have hd20 : Lib.nDigits n ≤ 20 := by have := Lib.numDigits_eq n hu1 hu64; split at this <;> omega
    have HND := Lib.hid (fun u hu => Tryd.internal_strconv_numDigits n hu1 hu64 u hu)
    have hW0 : Lib.TabIs Tryd.prog (w.alloc (.cells Lib.zeros24 63)) "internal/strconv.uint64pow10" .u64 Lib.pow10Tab := Tab10.keep hT ((Below.refl _ w).alloc (Nat.le_refl _) _)
    have hrow := Lib.holds_zero0 w 63 (Lib.nDigits n) (by omega)
    have hfm := Tryd.internal_strconv_formatBase10 w.heap.size 0 24 n (Array.replicate (Lib.nDigits n) 0) (w.alloc (.cells Lib.zeros24 63)) hrow (by rw [Array.size_replicate]; exact Lib.lt_pow_nDigits n) hu64 (by rw [Array.size_replicate]; omega)
    rw [Array.size_replicate] at hfm
    have hsl : ∀ W : World, (Instr.sliceAt 63 (.pointer (some ⟨w.heap.size, 0, none⟩)) none (some (.int .i64 (Lib.nDigits n : Int))) none).run Tryd.prog W = .ok (.slice (some ⟨w.heap.size, 0, none⟩) (Lib.nDigits n) 24) W := fun W => by
      have hal : Tryd.prog.arrayLen 63 = 24 := by kernel_rfl
      rw [run_sliceAt_array_h W 63 ⟨w.heap.size, 0, none⟩ (by kernel_rfl) .i64 (Lib.nDigits n : Int) (by omega) (by rw [hal]; omega)]
      go_simp
      try omega
    have HFM := Lib.hid hfm; have HROW := Lib.hid hrow; have HW0 := Lib.hid hW0
    have hd20I : (Lib.nDigits n : Int) ≤ 24 := by omega
    clear hfm hrow hW0 hT hn hu1 hu64
    go_enter Tryd.func22, Tryd.ntmps22
    go_wp2_with fail
    refine (HND.out _ HW0.out).mono ?_
    rintro e w1 ⟨rfl, rfl⟩
    go_wp2_with fail
    refine HFM.out.mono ?_
    rintro e w2 ⟨rfl, k, v', dk, rfl, hF⟩
    obtain ⟨Z, hZ⟩ : ∃ Z, (Go.Sort.putRow (fun (b : UInt8) => Value.int .u8 (b.toNat : Int)) (w.alloc (.cells Lib.zeros24 63)) w.heap.size 0 dk).drewN k = Z := ⟨_, rfl⟩
    have hsz : dk.size = Lib.nDigits n := hF.size
    have hcell : ∀ (j : Nat) (hj : j < (Lib.decDigits n).length), Z.cell? ((⟨w.heap.size, 0, none⟩ : Addr).add j) = some (.int .u8 ((Lib.decDigits n)[j].toNat : Int)) := fun j hj => by
      have hj2 : j < Lib.nDigits n := by rw [Lib.decDigits_length] at hj; exact hj
      rw [← hZ, Lib.row_is_numeral hF j hj, Lib.add_plain, World.cell?_drewN]
      exact Go.Sort.cell?_putRow _ _ w.heap.size 0 _ dk HROW.out (by rw [hsz, Array.size_replicate]) j (by omega)
    have hcv := run_convert_bytes_back (P := Tryd.prog) Z 66 9 5 ⟨w.heap.size, 0, none⟩ 24 (Lib.decDigits n) Tryd.underlying66 Tryd.underlying5 Tryd.underlying9 hcell
    rw [Lib.decDigits_length] at hcv
    have hbz : Below w.heap.size w Z := by
      rw [← hZ]
      exact belowN (put_below ((Below.refl _ w).alloc (Nat.le_refl _) _) (Nat.le_refl _) dk) k
    have HBZ := Lib.hid hbz
    rw [hZ]
    clear hcell hF hbz hZ hsz
    go_wp2_with fail
    go_ret
    exact ⟨rfl, HBZ.out⟩
theorem lxFormat10 (n : Nat) (w : World) (hn : n ≤ 18446744073709551615) (hT : Tab10 w) :
    Calls Tryd.prog 15 #[.int .u64 (n : Int), .int .i64 10] w fun e w' => e = .returned (.string ⟨(Lib.decDigits n).toArray⟩) ∧ Below w.heap.size w w' := by
  have H := Lib.hid (nuFormat10 n w hn hT)
  clear hn hT
  go_enter Tryd.func15, Tryd.ntmps15
  go_wp2_with fail
  refine H.out.mono ?_
  rintro e w2 ⟨rfl, hb⟩
  go_wp2_with fail
  go_ret
  exact ⟨rfl, hb⟩
end Go.Proofs.YtpkpbohkdkmoiaaDoor
