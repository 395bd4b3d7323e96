/- The reference: a request as bytes. -/
import Derived.Test.YtmanlogclbbgaaaFr6
import Derived.Test.YtmanlogclbbgaaaFr11
import Derived.Test.YtmanlogclbbgaaaRef02
import Derived.Test.YtmanlogclbbgaaaRef01Bytes
namespace Go.Proofs.Ytmanlogclbbgaaa
open Go.RowKit
set_option linter.unusedVariables false

set_option maxRecDepth 100000 in
theorem refIsAsk (q : Asq) (w : World) (h1 : q.name.size ≤ 9223372036854775807) (h2 : q.source.size ≤ 9223372036854775807) (h3 : q.record.size ≤ 9223372036854775807) :
    Calls Try.prog 13 #[q.value] w fun e w' => e = .returned (.bool (askOk q)) ∧ Below w.heap.size w w' := by
  have HR := Lib.hid (fun u => refRight23 q u h1 h2)
  have HO : Hid (askOk q = (rightA q && decide (q.record.size ≤ 100))) := Lib.hid rfl
  have hs : (q.record.size : Int) ≤ 9223372036854775807 := by omega
  clear h1 h2 h3
  obtain ⟨kind, name, no, source, record⟩ := q
  have b0 := heap_alloc_new w (.cells #[.int .i64 kind, .string name, .int .i64 no, .string source, .string record] 23)
  have hb := (Below.refl w.heap.size w).alloc (Nat.le_refl _) (.cells #[.int .i64 kind, .string name, .int .i64 no, .string source, .string record] 23)
  have c0 := below_cell (Below.refl _ _) b0 0 rfl
  have c1 := below_cell (Below.refl _ _) b0 1 rfl
  have c2 := below_cell (Below.refl _ _) b0 2 rfl
  have c3 := below_cell (Below.refl _ _) b0 3 rfl
  have c4 := below_cell (Below.refl _ _) b0 4 rfl
  simp only at c0 c1 c2 c3 c4 hs HO
  unfold Asq.value at *
  simp only at HR
  have HBE := Lib.hid hb; have HB0 := Lib.hid b0
  clear b0 hb
  generalize rightA ⟨kind, name, no, source, record⟩ = r at *
  go_enter Try.func13, Try.ntmps13
  go_wp2_with fail
  refine (HR.out _).mono ?_
  rintro e w1 ⟨rfl, hb1⟩
  have b1 := (hb1.block _ (lt_of_block HB0.out)).trans HB0.out
  have d4 := below_cell (Below.refl _ _) b1 4 rfl
  (try simp only at d4)
  have HB1 := Lib.hid (HBE.out.trans (hb1.mono (by simp)))
  clear b1 hb1
  cases r
  · go_wp2_with fail
    go_ret
    exact ⟨by rw [HO.out]; rfl, HB1.out⟩
  · have hd : decide (record.size ≤ 100) = decide ((record.size : Int) ≤ 100) := by
      rw [Bool.eq_iff_iff, decide_eq_true_eq, decide_eq_true_eq]; omega
    rw [hd] at HO
    go_wp2_with fail
    go_ret
    exact ⟨by rw [HO.out]; rfl, HB1.out⟩
set_option maxRecDepth 100000 in
theorem refNum24 (n k : Nat) (w : World) (h1 : n ≤ 18446744073709551615) (hk : k ≤ 8) :
    Calls Try.prog 36 #[.int .u64 n, .int .i64 k] w fun e w' => e = .returned (.string (numS n k)) ∧ Below w.heap.size w w' := by
  have HB := Lib.hid (fun u => refBytes_any n k u (by omega) (by omega))
  rw [show (⟨(putL n k).toArray⟩ : ByteArray) = numS n k from rfl] at HB
  clear h1
  go_enter Try.func36, Try.ntmps36
  go_wp2_with fail
  refine (HB.out _).mono ?_
  rintro e w1 ⟨rfl, hb1⟩
  go_wp2_with fail
  go_ret
  exact ⟨rfl, hb1⟩
set_option maxRecDepth 100000 in
theorem refText24 (s : ByteArray) (w : World) (hs : s.size ≤ 65535) :
    Calls Try.prog 37 #[.string s] w fun e w' => e = .returned (.string (textL s)) ∧ Below w.heap.size w w' := by
  have HB := Lib.hid (fun u => refNum24 s.size 2 u (by omega) (by omega))
  have hw : IntKind.u64.wrap (s.size : Int) = s.size := by simp [IntKind.wrap, IntKind.signed, IntKind.bits]; omega
  have hadd : textL s = numS s.size 2 ++ s := by
    apply ba_ext
    rw [ba_append_list, numS_list]; simp [textL]
  have hrun := add_run (P := Try.prog) (numS s.size 2) s (textL s) hadd (by rw [numS_size]; omega)
  have hsI : (s.size : Int) ≤ 65535 := by omega
  generalize numS s.size 2 = S at *
  generalize textL s = T at *
  clear hadd hs
  go_enter Try.func37, Try.ntmps37
  go_wp2_with fail
  refine (HB.out _).mono ?_
  rintro e w1 ⟨rfl, hb1⟩
  go_wp2_with fail
  go_ret
  exact ⟨rfl, hb1⟩
set_option maxRecDepth 100000 in
set_option maxHeartbeats 2000000 in
theorem refAsk24 (q : Asq) (w : World) (ho : askOk q = true) (hno : q.no ≤ 9223372036854775807) :
    Calls Try.prog 14 #[q.value] w fun e w' => e = .returned (.string (askB q)) ∧ Below w.heap.size w w' := by
  obtain ⟨⟨k1, k2⟩, k3, k4, k5, k6⟩ := askOk_facts ho
  have ha : askB q = sealL (numS q.kind.toNat 1 ++ textL q.name ++ numS q.no.toNat 8 ++ textL q.source ++ textL q.record) := rfl
  rw [ha]
  obtain ⟨kind, name, no, source, record⟩ := q
  simp only at *
  obtain ⟨kn, rfl⟩ := Int.eq_ofNat_of_zero_le (show 0 ≤ kind by omega)
  obtain ⟨nn, rfl⟩ := Int.eq_ofNat_of_zero_le k3
  simp only [Int.toNat_natCast]
  have hw1 : IntKind.u64.wrap (kn : Int) = kn := by simp [IntKind.wrap, IntKind.signed, IntKind.bits]; omega
  have hw2 : IntKind.u64.wrap (nn : Int) = nn := by simp [IntKind.wrap, IntKind.signed, IntKind.bits]; omega
  have HB := Lib.hid (fun u => refNum24 kn 1 u (by omega) (by omega))
  have HC := Lib.hid (fun u => refNum24 nn 8 u (by omega) (by omega))
  have HT1 := Lib.hid (fun u => refText24 name u (by omega))
  have HT2 := Lib.hid (fun u => refText24 source u (by omega))
  have HT3 := Lib.hid (fun u => refText24 record u (by omega))
  have z1 : (numS kn 1).size = 1 := numS_size _ _
  have z2 : (numS nn 8).size = 8 := numS_size _ _
  have t1 := textL_size name
  have t2 := textL_size source
  have t3 := textL_size record
  generalize numS kn 1 = N1 at *
  generalize numS nn 8 = N8 at *
  generalize textL name = T1 at *
  generalize textL source = T2 at *
  generalize textL record = T3 at *
  have a1 := add_run (P := Try.prog) N1 T1 _ rfl (by omega)
  have s1 : (N1 ++ T1).size = 3 + name.size := by rw [ByteArray.size_append]; omega
  have a2 := add_run (P := Try.prog) (N1 ++ T1) N8 _ rfl (by omega)
  have s2 : (N1 ++ T1 ++ N8).size = 11 + name.size := by rw [ByteArray.size_append]; omega
  have a3 := add_run (P := Try.prog) (N1 ++ T1 ++ N8) T2 _ rfl (by omega)
  have s3 : (N1 ++ T1 ++ N8 ++ T2).size = 13 + name.size + source.size := by rw [ByteArray.size_append]; omega
  have a4 := add_run (P := Try.prog) (N1 ++ T1 ++ N8 ++ T2) T3 _ rfl (by omega)
  have s4 : (N1 ++ T1 ++ N8 ++ T2 ++ T3).size ≤ 140737488355328 := by rw [ByteArray.size_append]; omega
  have HSE := Lib.hid (fun u => ref02Seal_any (N1 ++ T1 ++ N8 ++ T2 ++ T3) u s4)
  generalize N1 ++ T1 ++ N8 ++ T2 ++ T3 = S4 at *
  generalize N1 ++ T1 ++ N8 ++ T2 = S3 at *
  generalize N1 ++ T1 ++ N8 = S2 at *
  generalize N1 ++ T1 = S1 at *
  clear ha z1 z2 t1 t2 t3 s1 s2 s3 s4 k1 k2 k3 k4 k5 hno k6 ho
  have b0 := heap_alloc_new w (.cells #[.int .i64 kn, .string name, .int .i64 nn, .string source, .string record] 23)
  have hb := (Below.refl w.heap.size w).alloc (Nat.le_refl _) (.cells #[.int .i64 kn, .string name, .int .i64 nn, .string source, .string record] 23)
  have c0 := keep_at b0 0 rfl
  have c1 := keep_at b0 1 rfl
  have c2 := keep_at b0 2 rfl
  have c3 := keep_at b0 3 rfl
  have c4 := keep_at b0 4 rfl
  (try simp only at c0 c1 c2 c3 c4)
  have HBE := Lib.hid hb
  clear b0 hb
  unfold Asq.value
  go_enter Try.func14, Try.ntmps14
  go_upto_region 1 with fail
  refine wp_region_keep (w0 := w.alloc (.cells #[.int .i64 kn, .string name, .int .i64 nn, .string source, .string record] 23)) (by kernel_rfl) (by kernel_rfl) (Below.refl _ _) ?_
  repeat (go_big_quiet_step (first
    | (go_at_call_of 36 (Value.int .i64 1); exact keepCall (HB.out _))
    | (go_at_call_of 36 (Value.int .i64 8); exact keepCall (HC.out _))
    | (go_at_call_of 37 name; exact keepCall (HT1.out _))
    | (go_at_call_of 37 source; exact keepCall (HT2.out _))
    | (go_at_call_of 37 record; exact keepCall (HT3.out _))
    | (go_at_call 35; exact keepCall (HSE.out _))))
  refine wpQuiet_nil ?_
  intro _ hw'
  obtain ⟨x, rfl⟩ := hw'
  have HB2 := Lib.hid (HBE.out.trans (x.below.mono (by simp)))
  go_wp2_with fail
  go_ret
  exact ⟨rfl, HB2.out⟩
end Go.Proofs.Ytmanlogclbbgaaa
