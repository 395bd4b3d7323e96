/- daemon.Right. -/
import Derived.Test.YtmanlogclbbgaaaFr2
import Derived.Deep.CutBlock
namespace Go.Proofs.Ytmanlogclbbgaaa
open Go.RowKit
set_option linter.unusedVariables false

def namedA (k : Int) : Bool := !decide (k = 5 ∨ k = 7 ∨ k = 8)
theorem right_bad (q : Asq) (h : ¬ (1 ≤ q.kind ∧ q.kind ≤ 8)) : rightA q = false := by unfold rightA; simp [h]
theorem right_is (q : Asq) (h : 1 ≤ q.kind ∧ q.kind ≤ 8) : rightA q = (decide (q.unused = asqZ) && decide (0 ≤ q.no) && decide (q.source.size ≤ 2000) && (!namedA q.kind || decide (1 ≤ q.name.size ∧ q.name.size ≤ 12))) := by
  unfold rightA namedA; simp [h]
set_option maxRecDepth 100000 in
set_option maxHeartbeats 2000000 in
theorem dmRight (q : Asq) (w : World) (h1 : q.name.size ≤ 9223372036854775807) (h2 : q.source.size ≤ 9223372036854775807) (h3 : q.record.size ≤ 9223372036854775807) :
    Calls Try.prog 23 #[q.value] w fun e w' => e = .returned (.bool (rightA q)) ∧ Below w.heap.size w w' := by
  have hbad := right_bad q
  have his := right_is q
  have hun : q.unused = q.unused := rfl
  generalize hU : q.unused = U at *
  have HBAD := Lib.hid hbad; have HIS := Lib.hid his; have HU := Lib.hid hU
  clear hbad his hun hU
  obtain ⟨kind, name, no, source, record⟩ := q
  simp only at h1 h2 h3 HBAD HIS HU
  have h1I : (name.size : Int) ≤ 9223372036854775807 := by omega
  have h2I : (source.size : Int) ≤ 9223372036854775807 := by omega
  clear h1 h2 h3
  by_cases hk : 1 ≤ kind ∧ kind ≤ 8
  · have his := HIS.out hk
    have HI := Lib.hid his
    clear HBAD HIS his
    go_enter Try.func23, Try.ntmps23
    unfold Asq.value
    go_upto_block 0 with fail
    go_cut [4] from 9 to 29 (fun n wx => n = .bool (namedA kind) ∧ wx = ((w.alloc (.cells #[.int .i64 kind, .string name, .int .i64 no, .string source, .string record] 23)).alloc (.cells #[.int .i64 U.kind, .string U.name, .int .i64 U.no, .string U.source, .string U.record] 23)))
    case first =>
      have hu := HU.out
      clear HU HI
      have hc : kind = 1 ∨ kind = 2 ∨ kind = 3 ∨ kind = 4 ∨ kind = 5 ∨ kind = 6 ∨ kind = 7 ∨ kind = 8 := by omega
      clear hk
      rcases hc with rfl | rfl | rfl | rfl | rfl | rfl | rfl | rfl <;> simp [Asq.unused] at hu <;> subst hu
      all_goals
        go_wp2_with fail
        go_meet
        exact ⟨rfl, rfl⟩
    case rest =>
      obtain ⟨rfl, rfl⟩ := hcut
      have hne := fun u => neAsq U asqZ u
      generalize decide (U = asqZ) = D at *
      generalize namedA kind = NA at *
      simp only [Asq.value, asqZ, noB] at hne
      have HU2 := Lib.hid HU
      clear HU hk
      have hb2 : Below w.heap.size w ((w.alloc (.cells #[.int .i64 kind, .string name, .int .i64 no, .string source, .string record] 23)).alloc (.cells #[.int .i64 U.kind, .string U.name, .int .i64 U.no, .string U.source, .string U.record] 23)) := ((Below.refl _ w).alloc (Nat.le_refl _) _).alloc (by simp) _
      cases D
      · go_wp2_with fail
        go_ret
        exact ⟨by rw [HI.out]; rfl, hb2⟩
      · by_cases hn : no < 0
        · have hr := HI.out
          rw [show decide (0 ≤ no) = false from decide_eq_false (by omega)] at hr
          have HR := Lib.hid hr
          clear HI hr
          go_wp2_with fail
          go_ret
          exact ⟨by rw [HR.out]; rfl, hb2⟩
        · have hn0 : 0 ≤ no := by omega
          by_cases hs : source.size ≤ 2000
          · have hsI : (source.size : Int) ≤ 2000 := by omega
            have hr := HI.out
            rw [decide_eq_true hn0, decide_eq_true hs] at hr
            simp only [Bool.true_and] at hr
            cases NA
            · have HR := Lib.hid hr
              clear HI hr
              go_wp2_with fail
              go_ret
              exact ⟨by rw [HR.out]; rfl, hb2⟩
            · by_cases hm1 : 1 ≤ name.size
              · have hm1I : (1 : Int) ≤ name.size := by omega
                by_cases hm2 : name.size ≤ 12
                · have hm2I : (name.size : Int) ≤ 12 := by omega
                  have dI : decide ((name.size : Int) ≤ 12) = true := decide_eq_true hm2I
                  rw [decide_eq_true ⟨hm1, hm2⟩] at hr
                  have HR := Lib.hid hr
                  clear HI hr
                  go_wp2_with fail
                  go_ret
                  exact ⟨by rw [HR.out]; rfl, hb2⟩
                · have hm2I : (12 : Int) < name.size := by omega
                  have dI : decide ((name.size : Int) ≤ 12) = false := decide_eq_false (by omega)
                  rw [decide_eq_false (fun h => hm2 h.2)] at hr
                  have HR := Lib.hid hr
                  clear HI hr
                  go_wp2_with fail
                  go_ret
                  exact ⟨by rw [HR.out]; rfl, hb2⟩
              · have hm1I : (name.size : Int) < 1 := by omega
                rw [decide_eq_false (fun h => hm1 h.1)] at hr
                have HR := Lib.hid hr
                clear HI hr
                go_wp2_with fail
                go_ret
                exact ⟨by rw [HR.out]; rfl, hb2⟩
          · have hsI : (2000 : Int) < source.size := by omega
            have dS : decide ((2000 : Int) < source.size) = true := decide_eq_true hsI
            have hr := HI.out
            rw [show decide (source.size ≤ 2000) = false from decide_eq_false hs] at hr
            simp only [Bool.and_false, Bool.false_and] at hr
            have HR := Lib.hid hr
            clear HI hr
            go_wp2_with fail
            go_ret
            exact ⟨by rw [HR.out]; rfl, hb2⟩
  · have hb := HBAD.out hk
    rw [hb]
    clear HBAD HIS HU hb
    have g1 : ¬ kind = 1 := by omega
    have g2 : ¬ kind = 2 := by omega
    have g3 : ¬ kind = 3 := by omega
    have g4 : ¬ kind = 4 := by omega
    have g5 : ¬ kind = 5 := by omega
    have g6 : ¬ kind = 6 := by omega
    have g7 : ¬ kind = 7 := by omega
    have g8 : ¬ kind = 8 := by omega
    clear hk
    go_enter Try.func23, Try.ntmps23
    unfold Asq.value
    go_wp2_with fail
    go_ret
    exact ⟨rfl, ((Below.refl _ w).alloc (Nat.le_refl _) _).alloc (by simp) _⟩
end Go.Proofs.Ytmanlogclbbgaaa
