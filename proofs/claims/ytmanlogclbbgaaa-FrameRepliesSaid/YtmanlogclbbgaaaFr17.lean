/- frame.writable. -/
import Derived.Test.YtmanlogclbbgaaaFr16
namespace Go.Proofs.Ytmanlogclbbgaaa
open Go.RowKit
set_option linter.unusedVariables false
set_option linter.unusedSimpArgs false

/-- an answer that may be written -/
def rpOk (r : Rp) : Bool := !([r.why, r.at_, r.no, r.insns].any unfit) && decide (r.source.size ≤ 2000) && decide (r.lines.length ≤ 8) && !(r.lines.any badLn)
set_option maxRecDepth 100000 in
set_option maxHeartbeats 1000000 in
theorem frWritable (r : Rp) (v : Value) (w : World) (h : IsRp w v r) :
    Calls Try.prog 38 #[v] w fun e' w' => e' = .returned (.bool (rpOk r)) ∧ Below w.heap.size w w' := by
  have HB : Hid (rpOk r = (!([r.why, r.at_, r.no, r.insns].any unfit) && decide (r.source.size ≤ 2000) && decide (r.lines.length ≤ 8) && !(r.lines.any badLn))) := Lib.hid rfl
  obtain ⟨hbd, k, rfl, hk⟩ := h
  obtain ⟨A, c, rfl, hc1, hc2⟩ := hk.form
  have hsz := hbd.2.2.2.1
  obtain ⟨why, at_, no, source, insns, action, l⟩ := r
  simp only [Rp.val] at *
  obtain ⟨n, hn⟩ : ∃ n, l.length = n := ⟨_, rfl⟩
  rw [hn] at HB hk hc1 ⊢
  have b0 := heap_alloc_new w (.cells #[.int .i64 why, .int .i64 at_, .int .i64 no, .string source, .int .i64 insns, .int .u32 action, .slice A n c] 37)
  have hb0 := (Below.refl w.heap.size w).alloc (Nat.le_refl _) (.cells #[.int .i64 why, .int .i64 at_, .int .i64 no, .string source, .int .i64 insns, .int .u32 action, .slice A n c] 37)
  obtain ⟨u0, hU⟩ : ∃ u, w.alloc (.cells #[.int .i64 why, .int .i64 at_, .int .i64 no, .string source, .int .i64 insns, .int .u32 action, .slice A n c] 37) = u := ⟨_, rfl⟩
  have HU := Lib.hid hU
  rw [hU] at b0 hb0
  have c0 := below_cell (Below.refl _ _) b0 0 rfl
  have c1 := below_cell (Below.refl _ _) b0 1 rfl
  have c2 := below_cell (Below.refl _ _) b0 2 rfl
  have c4 := below_cell (Below.refl _ _) b0 4 rfl
  have HF1 := Lib.hid (frFit (.slice (some ⟨u0.heap.size, 0, none⟩) 4 4) [why, at_, no, insns] (u0.alloc (.cells #[.int .i64 why, .int .i64 at_, .int .i64 no, .int .i64 insns] 3)) (block_reads1 (enc := encI) (l := [why, at_, no, insns]) (heap_alloc_new u0 (.cells #[.int .i64 why, .int .i64 at_, .int .i64 no, .int .i64 insns] 3)) (by simp)))
  have HLN := Lib.hid (fun u (hu : Below w.heap.size w u) => conLn u _ l (hk.below hu))
  generalize [why, at_, no, insns].any unfit = q at *
  generalize l.any badLn = g at *
  have HB0 := Lib.hid hb0; have HBK := Lib.hid b0
  have hnI : (source.size : Int) ≤ 9223372036854775807 := by omega
  have hmI : (n : Int) ≤ 9223372036854775807 := by omega
  clear hk hb0 b0 hbd hn hU hsz
  go_enter Try.func38, Try.ntmps38
  go_upto_region 1 with fail
  rw [HU.out]
  have HA := Lib.hid (fun (o : Obj) (w2 : World) (hb : Below (u0.alloc o).heap.size (u0.alloc o) w2) => (show Below u0.heap.size u0 w2 from ((Below.refl u0.heap.size u0).alloc (Nat.le_refl _) o).trans (hb.mono (by simp))))
  cases q with
  | true =>
    go_wp2_with (first | (go_at_call 58; refine HF1.out.mono ?_; rintro e w2 ⟨rfl, hb2⟩; have hx2 := HA.out _ _ hb2))
    go_ret
    exact ⟨by rw [HB.out]; rfl, HB0.out.trans (hx2.mono HB0.out.size)⟩
  | false =>
    by_cases h1 : source.size ≤ 2000
    case neg =>
      have h1I : (2000 : Int) < source.size := by omega
      go_wp2_with (first | (go_at_call 58; refine HF1.out.mono ?_; rintro e w2 ⟨rfl, hb2⟩; have hx2 := HA.out _ _ hb2; have g3 := below_cell hx2 HBK.out 3 rfl))
      go_ret
      exact ⟨by rw [HB.out]; simp [h1], HB0.out.trans (hx2.mono HB0.out.size)⟩
    have h1I : (source.size : Int) ≤ 2000 := by omega
    have d1 : decide ((2000 : Int) < source.size) = false := decide_eq_false (by omega)
    have e1 : decide (source.size ≤ 2000) = true := decide_eq_true h1
    by_cases h2 : n ≤ 8
    case neg =>
      have h2I : (8 : Int) < n := by omega
      go_wp2_with (first | (go_at_call 58; refine HF1.out.mono ?_; rintro e w2 ⟨rfl, hb2⟩; have hx2 := HA.out _ _ hb2; have g3 := below_cell hx2 HBK.out 3 rfl; have g6 := below_cell hx2 HBK.out 6 rfl))
      go_ret
      exact ⟨by rw [HB.out]; simp [h2], HB0.out.trans (hx2.mono HB0.out.size)⟩
    have h2I : (n : Int) ≤ 8 := by omega
    have d2 : decide ((8 : Int) < n) = false := decide_eq_false (by omega)
    have e2 : decide (n ≤ 8) = true := decide_eq_true h2
    rw [e1, e2] at HB
    clear e1 e2
    go_wp2_with (first | (go_at_call 58; refine HF1.out.mono ?_; rintro e w2 ⟨rfl, hb2⟩; have hx2 := HA.out _ _ hb2; have g3 := below_cell hx2 HBK.out 3 rfl; have g6 := below_cell hx2 HBK.out 6 rfl) | (go_at_call 59; refine (HLN.out _ (HB0.out.trans (hx2.mono HB0.out.size))).mono ?_; rintro e w3 ⟨rfl, hb3⟩))
    go_ret
    exact ⟨by rw [HB.out]; simp, (HB0.out.trans (hx2.mono HB0.out.size)).trans (hb3.mono (HB0.out.trans (hx2.mono HB0.out.size)).size)⟩
end Go.Proofs.Ytmanlogclbbgaaa
