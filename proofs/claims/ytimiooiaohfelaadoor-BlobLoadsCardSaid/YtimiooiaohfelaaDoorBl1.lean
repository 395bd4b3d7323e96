/- Parts of data: blob.Need, blob.written, and the reference's Sector and Parts. -/
import Derived.Test.YtimiooiaohfelaaDoorTrim
import Derived.Test.YtimiooiaohfelaaDoorLeText
import Derived.Test.YtimiooiaohfelaaDoorRef01Bytes
import Derived.Test.YtimiooiaohfelaaDoorRow1
namespace Go.Proofs.YtimiooiaohfelaaDoor
open Go.RowKit
set_option linter.unusedVariables false

def needZ (n : Int) : Int := if n < 1 then 1 else (n - 1) / 500 + 1
def needN (n : Nat) : Nat := (n - 1) / 500 + 1
theorem needZ_nat (n : Nat) : needZ n = (needN n : Nat) := by
  unfold needZ needN
  split <;> omega
theorem blobNeed_any (n : Int) (w : World) (h2 : n ≤ 9223372036854775807) :
    Calls Tryd.prog 35 #[.int .i64 n] w fun e w' => e = .returned (.int .i64 (needZ n)) ∧ w = w' := by
  by_cases h : n < 1
  · have hv : needZ n = 1 := by unfold needZ; rw [if_pos h]
    have HV := Lib.hid hv
    clear hv
    go_enter Tryd.func35, Tryd.ntmps35
    go_wp2
    go_ret
    exact ⟨by rw [HV.out]; rfl, rfl⟩
  · have hv : needZ n = (n - 1) / 500 + 1 := by unfold needZ; rw [if_neg h]
    have h' : 1 ≤ n := by omega
    have HV := Lib.hid hv
    clear hv h
    go_enter Tryd.func35, Tryd.ntmps35
    go_wp2
    go_ret
    exact ⟨by rw [HV.out]; rfl, rfl⟩

/-- the i-th part -/
def partS (d : ByteArray) (i : Nat) : ByteArray := d.extract (i * 500) (min (i * 500 + 500) d.size)
theorem partS_size (d : ByteArray) (i : Nat) : (partS d i).size ≤ 500 := by
  unfold partS
  rw [ByteArray.size_extract]; omega
/-- a part's sector -/
def secS (next : Nat) (p : ByteArray) : ByteArray := trimS (numS next 2 ++ textL p)
theorem ba_app_size (a b : ByteArray) : (a ++ b).size = a.size + b.size := ByteArray.size_append
theorem cat_size (next : Nat) (p : ByteArray) : (numS next 2 ++ textL p).size = 4 + p.size := by
  rw [ba_app_size, numS_size, textL_size, ← Nat.add_assoc]
theorem cat_few (next : Nat) (p : ByteArray) (hp : p.size ≤ 500) : (numS next 2 ++ textL p).size ≤ 9223372036854775807 := by
  rw [cat_size]; exact Nat.le_trans (Nat.add_le_add_left hp 4) (by decide)
theorem secS_size (next : Nat) (p : ByteArray) (hp : p.size ≤ 500) : (secS next p).size ≤ 504 := by
  unfold secS
  rw [trimS_size]
  refine Nat.le_trans (trimK_le _ _) ?_
  rw [cat_size]; omega
theorem text_is (p : ByteArray) : textL p = numS p.size 2 ++ p := by unfold numS; apply ba_ext; simp [textL]

set_option maxRecDepth 100000 in
set_option maxHeartbeats 400000 in
theorem blobWritten_ok (next : Nat) (p : ByteArray) (w : World) (hn : next < 65536) (hp : p.size ≤ 500) :
    Calls Tryd.prog 25 #[.int .i64 next, .string p] w fun e w' => e = .returned (.string (secS next p)) ∧ Below w.heap.size w w' := by
  have hnI : (next : Int) ≤ 65535 := by omega
  have hn0 : (0 : Int) ≤ next := by omega
  have HP' : ∀ u, Calls Tryd.prog 46 #[.int .u64 next, .int .i64 2] u fun e w' => e = .returned (.tuple #[.string (numS next 2), .int .i64 0]) ∧ Below u.heap.size u w' := (fun u => lePut_2 next u hn)
  have HP := Lib.hid HP'
  clear HP'
  have HT := Lib.hid (fun u => leText_ok p u (by omega))
  have hadd := add_run (P := Tryd.prog) (numS next 2) (textL p) _ rfl (by have := cat_few next p hp; rw [ba_app_size] at this; exact this)
  have HR := Lib.hid (fun u => leTrim_any (numS next 2 ++ textL p) u (cat_few next p hp))
  have hs : secS next p = trimS (numS next 2 ++ textL p) := rfl
  rw [hs]
  clear hn hp hs
  generalize numS next 2 ++ textL p = S at *
  generalize numS next 2 = A at *
  generalize textL p = T at *
  go_enter Tryd.func25, Tryd.ntmps25
  go_wp2_with (first | (go_at_call 46; refine (HP.out _).mono ?_; rintro e w1 ⟨rfl, hb1⟩))
  go_wp2_with (first | (go_at_call 47; refine (HT.out _).mono ?_; rintro e w2 ⟨rfl, hb2⟩))
  have hb := hb1.trans (hb2.mono hb1.size)
  go_wp2_with (first | (go_at_call 20; refine (HR.out _).mono ?_; rintro e w3 ⟨rfl, rfl⟩))
  go_ret
  exact ⟨rfl, hb⟩
set_option maxRecDepth 100000 in
set_option maxHeartbeats 400000 in
theorem refSector_ok (next : Nat) (p : ByteArray) (w : World) (hn : next < 65536) (hp : p.size ≤ 500) :
    Calls Tryd.prog 33 #[.int .i64 next, .string p] w fun e w' => e = .returned (.string (secS next p)) ∧ Below w.heap.size w w' := by
  have hpI : (p.size : Int) ≤ 500 := by omega
  have hnI : (next : Int) ≤ 65535 := by omega
  have hn0 : (0 : Int) ≤ next := by omega
  have HP' : ∀ u, Calls Tryd.prog 49 #[.int .u64 next, .int .i64 2] u fun e w' => e = .returned (.tuple #[.string (numS next 2), .int .u64 (next / 256 ^ 2 : Nat)]) ∧ Below u.heap.size u w' := (fun u => refBytes_any next 2 u (by omega) (by omega))
  have HP := Lib.hid HP'
  clear HP'
  have HT' : ∀ u, Calls Tryd.prog 49 #[.int .u64 p.size, .int .i64 2] u fun e w' => e = .returned (.tuple #[.string (numS p.size 2), .int .u64 (p.size / 256 ^ 2 : Nat)]) ∧ Below u.heap.size u w' := (fun u => refBytes_any p.size 2 u (by omega) (by omega))
  have HT := Lib.hid HT'
  clear HT'
  have HR := Lib.hid (fun u => refTrim_any (numS next 2 ++ textL p) u (cat_few next p hp))
  have hass : (numS next 2 ++ numS p.size 2) ++ p = numS next 2 ++ textL p := by rw [text_is p, ByteArray.append_assoc]
  have hadd := add_run (P := Tryd.prog) (numS next 2) (numS p.size 2) _ rfl (by rw [numS_size, numS_size]; decide)
  have hadd2 := add_run (P := Tryd.prog) (numS next 2 ++ numS p.size 2) p _ hass.symm (by have := cat_few next p hp; rw [← hass, ba_app_size] at this; exact this)
  have hs : secS next p = trimS (numS next 2 ++ textL p) := rfl
  rw [hs]
  clear hn hp hs hass
  generalize numS next 2 ++ textL p = S at *
  generalize numS next 2 ++ numS p.size 2 = S2 at *
  generalize numS next 2 = A at *
  generalize numS p.size 2 = T at *
  generalize (next / 256 ^ 2 : Nat) = q1 at *
  generalize (p.size / 256 ^ 2 : Nat) = q2 at *
  go_enter Tryd.func33, Tryd.ntmps33
  go_upto_region 2 with (first | (go_at_call 49; refine (HP.out _).mono ?_; rintro e w1 ⟨rfl, hb1⟩))
  go_wp2_with (first | (go_at_call 49; refine (HT.out _).mono ?_; rintro e w2 ⟨rfl, hb2⟩))
  have hb := hb1.trans (hb2.mono hb1.size)
  go_wp2_with (first | (go_at_call 48; refine (HR.out _).mono ?_; rintro e w3 ⟨rfl, rfl⟩))
  go_ret
  exact ⟨rfl, hb⟩

def partsL (d : ByteArray) : List ByteArray := (List.range (needN d.size)).map (partS d)
theorem partsL_len (d : ByteArray) : (partsL d).length = needN d.size := by unfold partsL; simp
theorem infoStr : (Tryd.prog.info? 9).map (fun i => (i.zero, i.size, i.bytes)) = some (some (.string ⟨#[]⟩), 1, 16) := by kernel_rfl
theorem part_cut (d : ByteArray) (k : Nat) (h : k * 500 + 500 < d.size) : (d.extract (k * 500) d.size).extract 0 500 = partS d k := by
  have e1 : k * 500 + 0 = k * 500 := Nat.add_zero _
  unfold partS
  rw [ByteArray.extract_extract, e1]
theorem part_rest (d : ByteArray) (k : Nat) (h : k * 500 + 500 < d.size) : (d.extract (k * 500) d.size).extract 500 (d.size - k * 500) = d.extract ((k + 1) * 500) d.size := by
  have e1 : k * 500 + 500 = (k + 1) * 500 := by omega
  have e2 : min (k * 500 + (d.size - k * 500)) d.size = d.size := by omega
  rw [ByteArray.extract_extract, e1, e2]
end Go.Proofs.YtimiooiaohfelaaDoor
