/- The walk of EmitRuns. -/
import Derived.Test.YtnlmdajoifjddaaEmR
namespace Go.Proofs.Ytnlmdajoifjddaa.lawEmitRuns
open Go.ChangeShapes Go.WideShapes Go.ChangeAt Go.RowKit Go.Joins Go.Deep
set_option linter.unusedVariables false

theorem ways (l : List Stp) (s : Asm) (hs : asmA l = some s) (hk : ∀ o ∈ l, o.k ≤ 4294967295) (hlen : l.length ≤ 100000) (r : ByteArray) (lb : Int) (an : Nat) (td wr : Bool) (x st : Nat) (er : Int)
    (hE : walkR l r = ⟨lb, an, td, wr⟩) (hR : runR s.c r = (x, st, er)) :
    (r.size = 64 ∧ td = true ∧ x = an ∧ er = 0) ∨ (r.size = 64 ∧ td = false ∧ er = 51) ∨ (r.size ≠ 64 ∧ wr = true ∧ er = 52) := by
  by_cases h64 : r.size = 64
  · have h := sim_all l s hs hk hlen r h64
    rw [hE, hR] at h
    unfold Tells at h
    cases td
    · have h : (x, st, er) = ((0, 0, 51) : Nat × Nat × Int) := h
      injection h with _ h
      injection h with _ h
      exact .inr (.inl ⟨h64, rfl, h⟩)
    · exact .inl ⟨h64, rfl, h.2, h.1⟩
  · unfold walkR at hE
    unfold runR at hR
    rw [if_neg h64] at hE hR
    injection hR with _ hR
    injection hR with _ hR
    injection hE with _ _ _ hE
    exact .inr (.inr ⟨h64, hE.symm, hR.symm⟩)
set_option maxRecDepth 100000 in
set_option maxHeartbeats 4000000 in
theorem walk (v0 : Value) (l0 : List Stp) (s0 : ByteArray) (w : World) (w0 : IsOps w v0 l0) (w1 : s0.size ≤ maxLen) :
    Calls Try.prog 4 #[v0, .string s0] w fun e w' => e = .returned (.bool true) ∧ Below w.heap.size w w' := by
  obtain ⟨a, len, cap, rfl, hlen, hc1, hc2, htk⟩ := w0.take
  obtain ⟨n, hn, hn1, hn2, hn3⟩ := min_if len 200 (by omega)
  have hmi : min (len : Int) 200 = n := by omega
  have hl := htk n hn1
  have hll : (l0.take n).length = n := by rw [List.length_take]; omega
  generalize l0.take n = l at *
  have hncI : (n : Int) ≤ cap := by omega
  have hcI : (cap : Int) ≤ 9223372036854775807 := by omega
  have hA := fun u hu => asm_few l (.slice a n cap) u hu (by omega)
  have hk : ∀ o ∈ l, o.k ≤ 4294967295 := fun o ho => (hl.bnd o ho).2.1
  have hway := fun s hs => ways l s hs hk (by omega)
  have hW := fun r u hu => wordWalk_any (.slice a n cap) l r u hu
  have HL := Lib.hid hl; have HLL := Lib.hid hll; have HA := Lib.hid hA; have HWAY := Lib.hid hway; have HW := Lib.hid hW
  clear htk w0 hlen hl hn3 hll hA hk hway hW
  obtain ⟨r, hr⟩ : ∃ r, r = (if 64 < s0.size then s0.extract 0 64 else s0) := ⟨_, rfl⟩
  have hcases : (64 < s0.size ∧ s0.extract 0 64 = r) ∨ (¬ 64 < s0.size ∧ r = s0) := by
    by_cases hbig : 64 < s0.size
    · rw [if_pos hbig] at hr; exact .inl ⟨hbig, hr.symm⟩
    · rw [if_neg hbig] at hr; exact .inr ⟨hbig, hr⟩
  clear hr
  rcases hcases with ⟨hbig, hr⟩ | ⟨hbig, rfl⟩
  all_goals
    go_enter Try.func4, Try.ntmps4
    go_upto_region 4 with fail
    try rw [hr]
    clear hbig
    go_wp2_with fail
    refine (HA.out _ HL.out).mono ?_
    rintro e1 w2 ⟨hp, hb2⟩
    have HW2 := Lib.hid hb2
    have HL2 := Lib.hid (HL.out.below hb2)
    clear hb2
    rcases hp with ⟨hn, rfl⟩ | ⟨s, g, hs, rfl, hi, hsz⟩
    · clear hn
      go_wp2_with fail
      refine (emAlive _).mono ?_
      rintro e w4 ⟨rfl, hb4⟩
      have HW4 := Lib.hid (HW2.out.trans (hb4.mono HW2.out.size))
      clear hb4
      go_wp2_with fail
      go_ret
      exact ⟨rfl, HW4.out⟩
    · have hrun := fun u hu => vmRun_any s.c (.slice (some ⟨g, 0, none⟩) s.c.length s.c.length) r u hu (by omega)
      have hwl := HW.out r _ HL2.out
      obtain ⟨⟨lb, an, td, wr⟩, hE⟩ : ∃ E, walkR l r = E := ⟨_, rfl⟩
      obtain ⟨⟨x, st, er⟩, hR⟩ : ∃ E, runR s.c r = E := ⟨_, rfl⟩
      have hws := HWAY.out s hs r lb an td wr x st er hE hR
      rw [hE] at hwl
      rw [hR] at hrun
      have hi1 := hi.1
      have HR := Lib.hid hrun; have HWL := Lib.hid hwl; have HI := Lib.hid hi1; have HS := Lib.hid hws
      generalize s.c.length = N at *
      clear hrun hwl hi hi1 hws hE hR hs
      go_upto_region 7 with fail
      go_wp2_with fail
      refine HWL.out.mono ?_
      rintro e w3 ⟨rfl, hb3⟩
      unfold Fin4.value
      dsimp only
      have HW3 := Lib.hid (HW2.out.trans (hb3.mono HW2.out.size))
      have HI3 := Lib.hid (HI.out.below hb3)
      clear hb3 HI HWL
      go_upto_region 8 with fail
      have hblk := heap_alloc_new w3 (.cells #[.int .i64 lb, .int .u32 (an : Nat), .bool td, .bool wr] 36)
      have hwa := (Below.refl w3.heap.size w3).alloc (Nat.le_refl _) (.cells #[.int .i64 lb, .int .u32 (an : Nat), .bool td, .bool wr] 36)
      have HIa := Lib.hid (HI3.out.below hwa)
      have HWa := Lib.hid (HW3.out.trans (hwa.mono HW3.out.size))
      generalize w3.alloc (.cells #[.int .i64 lb, .int .u32 (an : Nat), .bool td, .bool wr] 36) = wa at *
      have HBLK := Lib.hid hblk
      clear hblk hwa HI3 HW3
      go_wp2_with fail
      refine (HR.out _ HIa.out).mono ?_
      rintro e w5 ⟨rfl, hb5⟩
      unfold resV
      dsimp only
      have q1 := below_cell hb5 HBLK.out 1 rfl
      have q2 := below_cell hb5 HBLK.out 2 rfl
      have q3 := below_cell hb5 HBLK.out 3 rfl
      have HW5 := Lib.hid (HWa.out.trans (hb5.mono HWa.out.size))
      rcases HS.out with ⟨h64, rfl, rfl, rfl⟩ | ⟨h64, rfl, rfl⟩ | ⟨h64, rfl, rfl⟩
      · have h64I : (r.size : Int) = 64 := by omega
        clear h64
        go_upto_region 12 with fail
        go_wp2_with fail
        refine (emAlive _).mono ?_
        rintro e w6 ⟨rfl, hb6⟩
        have q1' := below_cell (hb5.trans (hb6.mono hb5.size)) HBLK.out 1 rfl
        have HW6 := Lib.hid (HW5.out.trans (hb6.mono HW5.out.size))
        clear hb5 hb6 q1 q2 q3
        go_wp2_with fail
        go_ret
        exact ⟨rfl, HW6.out⟩
      · have h64I : (r.size : Int) = 64 := by omega
        clear h64
        go_upto_region 13 with fail
        go_wp2_with fail
        refine (emAlive _).mono ?_
        rintro e w6 ⟨rfl, hb6⟩
        have HW6 := Lib.hid (HW5.out.trans (hb6.mono HW5.out.size))
        clear hb5 hb6 q1 q2 q3
        go_wp2_with fail
        go_ret
        exact ⟨rfl, HW6.out⟩
      · have h64I : ((r.size : Int) != 64) = true := by rw [bne_iff_ne]; omega
        clear h64
        go_upto_region 10 with fail
        go_wp2_with fail
        refine (emAlive _).mono ?_
        rintro e w6 ⟨rfl, hb6⟩
        have q3' := below_cell (hb5.trans (hb6.mono hb5.size)) HBLK.out 3 rfl
        have HW6 := Lib.hid (HW5.out.trans (hb6.mono HW5.out.size))
        clear hb5 hb6 q1 q2 q3
        go_wp2_with fail
        go_ret
        exact ⟨rfl, HW6.out⟩
end Go.Proofs.Ytnlmdajoifjddaa.lawEmitRuns
