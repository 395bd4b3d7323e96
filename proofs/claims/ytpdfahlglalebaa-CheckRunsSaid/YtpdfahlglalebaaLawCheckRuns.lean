/- The walk of CheckRuns. -/
import Derived.Test.YtpdfahlglalebaaChkL
import Derived.Test.YtpdfahlglalebaaChkR
namespace Go.Proofs.Ytpdfahlglalebaa.lawCheckRuns
open Go.ChangeShapes Go.WideShapes Go.ChangeAt Go.RowKit Go.Joins Go.Deep
set_option linter.unusedVariables false

theorem openInsns {H : Type} {enc : TypeId × Value → H} {W : World} {base : Nat} {v : Value} {d : DataW H} {p : List MemPlace}
    (hok : Value.okWide Try.prog W .any base 22 v) (h : DataW.Trod enc Try.prog W 0 (fun _ => true) true 22 v d p) : ∃ l, IsIns W v l := openIns hok h
set_option maxRecDepth 100000 in
set_option maxHeartbeats 1000000 in
theorem walk (v0 : Value) (l0 : List Ins) (s0 : ByteArray) (w : World) (w0 : IsIns w v0 l0) (w1 : s0.size ≤ maxLen) :
    Calls Try.prog 4 #[v0, .string s0] w fun e w' => e = .returned (.bool true) ∧ Below w.heap.size w w' := by
  obtain ⟨a, len, cap, rfl, hlen, hc1, hc2, htk⟩ := w0.1.take
  have hn := fewN_le len
  have hl := htk (fewN len) hn.1
  have hll : (l0.take (fewN len)).length = fewN len := by rw [List.length_take]; omega
  have hF := fun u => chkFew_at a len cap u hc1 hc2
  generalize l0.take (fewN len) = l at *
  generalize fewN len = n at *
  have hb : ∀ i ∈ l, i.bounded := by obtain ⟨_, _, _, _, _, _, _, hb, _⟩ := hl; exact hb
  have hnI : (n : Int) ≤ 4100 := by omega
  have hncI : (n : Int) ≤ cap := by omega
  have hC := fun u hu => chkCheck_any l (.slice a n cap) u hu
  have hR := fun rec u hu => vmRun_any l (.slice a n cap) rec u hu (by omega)
  have HL := Lib.hid hl; have HF := Lib.hid hF; have HC := Lib.hid hC; have HR := Lib.hid hR; have HB := Lib.hid hb; have HLL := Lib.hid hll
  clear htk w0 hlen hl hF hC hR hb hll hn w1
  go_enter Try.func4, Try.ntmps4
  go_wp2_with fail
  refine (HF.out _).mono ?_
  rintro e w2 ⟨rfl, rfl⟩
  go_wp2_with fail
  refine (HC.out _ HL.out).mono ?_
  rintro e w2 ⟨rfl, hb2⟩
  have HW2 := Lib.hid hb2
  clear hb2
  rcases checkV_cases l with ⟨hok, hv⟩ | ⟨hok, x, y, hv, hy⟩
  · rw [hv]
    clear hv
    have HOK := Lib.hid hok
    clear hok
    by_cases h64 : s0.size > 64
    · have h64I : (64 : Int) < s0.size := by omega
      have hsz : (s0.extract 0 64).size = 64 := by rw [ByteArray.size_extract]; omega
      obtain ⟨A, k, hrun, hk1, hk2⟩ := well_run HOK.out.1 HB.out (s0.extract 0 64) hsz
      have hk2' : (k : Int) ≤ n := by have := HLL.out; omega
      have hk1' : (1 : Int) ≤ k := by omega
      have hR2 := fun u hu => HR.out (s0.extract 0 64) u hu
      rw [hrun] at hR2
      unfold resV at hR2
      have HR2 := Lib.hid hR2
      have hszI : ((s0.extract 0 64).size : Int) = 64 := by omega
      clear hrun hR2 hsz h64 hk1 hk2
      go_wp2_with fail
      generalize s0.extract 0 64 = r at *
      refine (HR2.out _ (insns_below HL.out HW2.out)).mono ?_
      rintro e w3 ⟨rfl, hb3⟩
      have HW3 := Lib.hid (HW2.out.trans (hb3.mono HW2.out.size))
      clear hb3
      go_wp2_with fail
      refine (chkAlive _).mono ?_
      rintro e w4 ⟨rfl, hb4⟩
      have HW4 := Lib.hid (HW3.out.trans (hb4.mono HW3.out.size))
      clear hb4
      go_wp2_with fail
      go_ret
      exact ⟨rfl, HW4.out⟩
    · have h64I : (s0.size : Int) ≤ 64 := by omega
      by_cases hsz : s0.size = 64
      · obtain ⟨A, k, hrun, hk1, hk2⟩ := well_run HOK.out.1 HB.out s0 hsz
        have hk2' : (k : Int) ≤ n := by have := HLL.out; omega
        have hk1' : (1 : Int) ≤ k := by omega
        have hR2 := fun u hu => HR.out s0 u hu
        rw [hrun] at hR2
        unfold resV at hR2
        have HR2 := Lib.hid hR2
        have hszI : (s0.size : Int) = 64 := by omega
        clear hrun hR2 hsz h64 hk1 hk2
        go_wp2_with fail
        refine (HR2.out _ (insns_below HL.out HW2.out)).mono ?_
        rintro e w3 ⟨rfl, hb3⟩
        have HW3 := Lib.hid (HW2.out.trans (hb3.mono HW2.out.size))
        clear hb3
        go_wp2_with fail
        refine (chkAlive _).mono ?_
        rintro e w4 ⟨rfl, hb4⟩
        have HW4 := Lib.hid (HW3.out.trans (hb4.mono HW3.out.size))
        clear hb4
        go_wp2_with fail
        go_ret
        exact ⟨rfl, HW4.out⟩
      · have hR2 := fun u hu => HR.out s0 u hu
        rw [show runR l s0 = (0, 0, 52) from by unfold runR; rw [if_neg hsz]] at hR2
        unfold resV at hR2
        have HR2 := Lib.hid hR2
        have hszI : ((s0.size : Int) != 64) = true := by rw [bne_iff_ne]; omega
        clear hR2 hsz h64
        go_wp2_with fail
        refine (HR2.out _ (insns_below HL.out HW2.out)).mono ?_
        rintro e w3 ⟨rfl, hb3⟩
        have HW3 := Lib.hid (HW2.out.trans (hb3.mono HW2.out.size))
        clear hb3
        go_wp2_with fail
        refine (chkAlive _).mono ?_
        rintro e w4 ⟨rfl, hb4⟩
        have HW4 := Lib.hid (HW3.out.trans (hb4.mono HW3.out.size))
        clear hb4
        go_wp2_with fail
        go_ret
        exact ⟨rfl, HW4.out⟩
  · rw [hv]
    have hyb : (y != 0) = true := by rw [bne_iff_ne]; exact hy
    clear hv hok
    go_wp2_with fail
    refine (chkAlive _).mono ?_
    rintro e w4 ⟨rfl, hb4⟩
    have HW4 := Lib.hid (HW2.out.trans (hb4.mono HW2.out.size))
    clear hb4
    go_wp2_with fail
    go_ret
    exact ⟨rfl, HW4.out⟩
end Go.Proofs.Ytpdfahlglalebaa.lawCheckRuns
