/- entry.Version. -/
import Derived.Test.YtfpfcjgdihlieaaEnV
namespace Go.Proofs.Ytfpfcjgdihlieaa
open Go.RowKit
set_option linter.unusedVariables false

/-- a number's place among versions -/
def idxV (m : Int) : List Vr → Nat → Option Nat
  | [], _ => none
  | v :: l, k => if v.no = m then some k else idxV m l (k + 1)
theorem idxV_step (m : Int) (l : List Vr) (i : Nat) (hi : i < l.length) : idxV m (l.drop i) i = if (l.getD i vrZ).no = m then some i else idxV m (l.drop (i + 1)) (i + 1) := by
  rw [List.drop_eq_getElem_cons hi, idxV, show l.getD i vrZ = l[i] from by simp [List.getD, hi]]
def verNo (e : En) (no : Int) : Int := if no = 0 then e.cur else no
def verIs (e : En) (no : Int) : Option Nat := idxV (verNo e no) e.vers 0
def verVal : Option Nat → Value
  | none => .tuple #[.int .i64 0, .bool false]
  | some k => .tuple #[.int .i64 (k : Nat), .bool true]
def idxInt : Option Nat → Int
  | none => -1
  | some k => (k : Nat)
set_option maxRecDepth 100000 in
theorem verClo (no src flt byt ins m : Int) (N : Nat) (w : World) (hN : w.heap[N]? = some (.cells #[.int .i64 m] 3 (0, 0))) :
    Calls Try.prog 32 #[.agg #[.int .i64 no, .int .i64 src, .int .i64 flt, .int .i64 byt, .int .i64 ins], .pointer (some ⟨N, 0, none⟩)] w fun e w' => e = .returned (.bool (no == m)) ∧ Below w.heap.size w w' := by
  have hc := below_cell ((Below.refl w.heap.size w).alloc (Nat.le_refl _) (.cells #[.int .i64 no, .int .i64 src, .int .i64 flt, .int .i64 byt, .int .i64 ins] 42)) hN 0 rfl
  go_enter Try.func32, Try.ntmps32
  go_wp2_with fail
  go_ret
  exact ⟨rfl, (Below.refl _ _).alloc (Nat.le_refl _) _⟩
set_option maxRecDepth 100000 in
set_option maxHeartbeats 1000000 in
theorem verIndex (l : List Vr) (v : Value) (m : Int) (N : Nat) (w : World) (h : IsVrs w v l) (hl20 : l.length ≤ 100000) (hN : w.heap[N]? = some (.cells #[.int .i64 m] 3 (0, 0))) :
    Calls Try.prog 31 #[v, .func (.func 32) #[] #[.pointer (some ⟨N, 0, none⟩)]] w fun e' w' => e' = .returned (.int .i64 (idxInt (idxV m l 0))) ∧ Below w.heap.size w w' := by
  obtain ⟨a, n, cap, rfl, hl, hc1, hc2, hbd, hnil, hat⟩ := h
  have y5 : (n : Int) ≤ 100000 := by omega
  have hR : idxV m l 0 = idxV m (l.drop 0) 0 := rfl
  generalize idxV m l 0 = R at *
  obtain ⟨z, hz⟩ : ∃ z : Int, idxInt R = z := ⟨_, rfl⟩
  rw [hz]
  have HZ := Lib.hid hz
  have HR := Lib.hid hR; have HL := Lib.hid hl; have HAT := Lib.hid hat; have HN := Lib.hid hN
  clear hR hl hat hl20 hz hN hbd
  go_enter Try.func31, Try.ntmps31
  go_wp2_with fail
  go_loopw [8] (fun x wr => ∃ i : Nat, i ≤ n ∧ x = .int .i64 i ∧ Hid (R = idxV m (l.drop i) i) ∧ Hid (Below w.heap.size w wr)) (fun x _ => n - (intOf x).toNat)
  case atStart => exact ⟨0, Nat.zero_le _, rfl, HR, Lib.hid (Below.refl _ _)⟩
  case round =>
    clear HR
    obtain ⟨i, hin, rfl, HR, HW⟩ := hrel
    by_cases hlt : i < n
    · have hltI : (i : Int) < n := by omega
      have hst := idxV_step m l i (by rw [HL.out]; exact hlt)
      obtain ⟨b, off, rfl, hblt, hat⟩ := HAT.out.resolve_left (by omega)
      obtain ⟨v0, v1, v2, v3, v4⟩ := (hat i hlt).below HW.out hblt
      generalize l.getD i vrZ = v at *
      obtain ⟨no, src, flt, byt, ins⟩ := v
      simp only at v0 v1 v2 v3 v4 hst
      have HST := Lib.hid hst
      have HC := Lib.hid (verClo no src flt byt ins m N wr ((HW.out.block _ (lt_of_block HN.out)).trans HN.out))
      clear hst hat
      by_cases hc : no = m
      · have hq : (no == m) = true := by simpa using hc
        have hf : R = some i := by rw [HR.out, HST.out, if_pos hc]
        have HF := Lib.hid hf
        rw [hq] at HC
        clear hc hf hq
        go_wp2_with fail
        refine HC.out.mono ?_
        rintro e' w2 ⟨rfl, hb2⟩
        go_wp2_with fail
        go_ret
        refine ⟨?_, HW.out.trans (hb2.mono HW.out.size)⟩
        rw [← HZ.out, HF.out]; rfl
      · have hq : (no == m) = false := by simpa using hc
        have hf : R = idxV m (l.drop (i + 1)) (i + 1) := by rw [HR.out, HST.out, if_neg hc]
        have HF := Lib.hid hf
        rw [hq] at HC
        clear hc hf hq
        go_wp2_with fail
        refine HC.out.mono ?_
        rintro e' w2 ⟨rfl, hb2⟩
        go_wp2_with fail
        go_roundw
        case rel => exact ⟨i + 1, by omega, by go_num, HF, Lib.hid (HW.out.trans (hb2.mono HW.out.size))⟩
        case measure => simp [intOf]; omega
    · have hin : i = n := by omega
      have hf : R = none := by rw [HR.out, List.drop_eq_nil_of_le (by rw [HL.out]; omega), idxV]
      have hnl : ¬ (i : Int) < n := by omega
      have HF := Lib.hid hf
      clear hf hin
      go_wp2_with fail
      go_ret
      refine ⟨?_, HW.out⟩
      rw [← HZ.out, HF.out]; rfl
theorem idxV_lt (m : Int) : ∀ (l : List Vr) (k j : Nat), idxV m l k = some j → k ≤ j ∧ j < k + l.length ∧ (l.getD (j - k) vrZ).no = m
  | [], k, j, h => by cases h
  | v :: l, k, j, h => by
    rw [idxV] at h
    split at h
    · injection h with h
      subst h
      refine ⟨Nat.le_refl _, by simp, ?_⟩
      rw [Nat.sub_self]; simpa
    · obtain ⟨h1, h2, h3⟩ := idxV_lt m l (k + 1) j h
      refine ⟨by omega, by simp; omega, ?_⟩
      rw [show j - k = (j - (k + 1)) + 1 by omega]
      simpa using h3
set_option maxRecDepth 100000 in
set_option maxHeartbeats 1000000 in
theorem enVersion (e : En) (v : Value) (no : Int) (w : World) (h : IsEn w v e) (hl20 : e.vers.length ≤ 100000) :
    Calls Try.prog 16 #[v, .int .i64 no] w fun e' w' => e' = .returned (verVal (verIs e no)) ∧ Below w.heap.size w w' := by
  obtain ⟨hbd, k, rfl, hk⟩ := h
  obtain ⟨a, cap, rfl⟩ := hk.form
  obtain ⟨name, cur, nxt, vers⟩ := e
  simp only at hk hl20 ⊢
  have hV : verIs ⟨name, cur, nxt, vers⟩ no = idxV (if no = 0 then cur else no) vers 0 := rfl
  generalize verIs ⟨name, cur, nxt, vers⟩ no = R at *
  have hR : ∀ k, R = some k → (k : Int) ≤ 100000 := fun k hh => by
    rw [hV] at hh
    have := idxV_lt _ _ _ _ hh
    omega
  have hw0 := (Below.refl w.heap.size w).alloc (Nat.le_refl _) (.cells #[.string name, .int .i64 cur, .int .i64 nxt, .slice a vers.length cap] 36)
  have hB0 := heap_alloc_new w (.cells #[.string name, .int .i64 cur, .int .i64 nxt, .slice a vers.length cap] 36)
  have HV := Lib.hid hV; have HR := Lib.hid hR; have HK := Lib.hid hk; have HW0 := Lib.hid hw0; have HB0 := Lib.hid hB0
  clear hV hR hk hw0 hB0 hbd
  have hend : ∀ (m : Int) (N : Nat) (w5 : World), m = (if no = 0 then cur else no) → w5.heap[N]? = some (.cells #[.int .i64 m] 3 (0, 0)) → Below w.heap.size w w5 →
      Calls Try.prog 31 #[.slice a vers.length cap, .func (.func 32) #[] #[.pointer (some ⟨N, 0, none⟩)]] w5 fun e' w' => e' = .returned (.int .i64 (idxInt R)) ∧ Below w5.heap.size w5 w' := by
    intro m N w5 hm hN hb
    have := verIndex vers _ m N w5 (HK.out.below hb) hl20 hN
    rwa [hm, ← HV.out] at this
  have HEND := Lib.hid hend
  clear hend HV
  have hmf : ∀ (fn : Fn) (first cap : Array Value) (w : World), (Instr.makeFunc fn first cap).run Try.prog w = .ok (.func fn first cap) w := fun _ _ _ _ => rfl
  go_enter Try.func16, Try.ntmps16
  go_upto_region 1 with fail
  obtain ⟨w1, hW⟩ : ∃ w1, w.alloc (.cells #[.string name, .int .i64 cur, .int .i64 nxt, .slice a vers.length cap] 36) = w1 := ⟨_, rfl⟩
  have hsz : w.heap.size < w1.heap.size := by rw [← hW, World.size_alloc]; omega
  rw [hW] at HB0 HW0 ⊢
  have hN := heap_alloc_new w1 (.cells #[.int .i64 no] 3)
  have hB1 := (heap_alloc_old w1 (.cells #[.int .i64 no] 3) (lt_of_block HB0.out)).trans HB0.out
  have hw1 := HW0.out.alloc HW0.out.size (.cells #[.int .i64 no] 3)
  obtain ⟨N, hNN⟩ : ∃ N, w1.heap.size = N := ⟨_, rfl⟩
  have hNs : w.heap.size + 1 = N := by rw [← hNN, ← hW, World.size_alloc]
  obtain ⟨w2, hW2⟩ : ∃ w2, w1.alloc (.cells #[.int .i64 no] 3) = w2 := ⟨_, rfl⟩
  rw [hNN] at hN hsz
  rw [hW2] at hN hB1 hw1 ⊢
  (try rw [hNN])
  (try rw [hNs])
  clear hW hW2 hNN hNs HB0 HW0
  have HN := Lib.hid hN; have HB1 := Lib.hid hB1; have HW1 := Lib.hid hw1
  clear hN hB1 hw1
  have c0 := below_cell (Below.refl _ w2) HN.out 0 rfl
  have d1 := below_cell (Below.refl _ w2) HB1.out 1 rfl
  have d3 := below_cell (Below.refl _ w2) HB1.out 3 rfl
  have f0 := block_frozen HN.out 0
  by_cases h0 : no = 0
  · subst h0
    have hN2 := block_set HN.out 0 (.int .i64 cur)
    have hB2 := (Below.heap_setCell w2 ⟨N, 0, none⟩ (.int .i64 cur) w.heap.size (by show w.heap.size ≠ N; omega)).trans HB1.out
    have hw2 := HW1.out.setCell (p := ⟨N, 0, none⟩) (show w.heap.size ≤ N by omega) (.int .i64 cur)
    have HN2 := Lib.hid hN2; have HB2 := Lib.hid hB2; have HW2 := Lib.hid hw2
    clear hN2 hB2 hw2
    go_upto_region 3 with fail
    obtain ⟨w3, hW⟩ : ∃ w3, w2.setCell ⟨N, 0, none⟩ (.int .i64 cur) = w3 := ⟨_, rfl⟩
    rw [hW] at HN2 HB2 HW2 ⊢
    clear hW c0 d1 d3 f0
    have d3 := below_cell (Below.refl _ w3) HB2.out 3 rfl
    go_wp2_with fail
    refine (HEND.out cur N w3 (by simp) HN2.out HW2.out).mono ?_
    rintro e' w4 ⟨rfl, hb4⟩
    cases hRR : R with
    | none =>
      subst hRR
      simp only [idxInt]
      go_wp2_with fail
      go_ret2
      exact ⟨rfl, HW2.out.trans (hb4.mono HW2.out.size)⟩
    | some k =>
      have hk := HR.out k hRR
      subst hRR
      simp only [idxInt]
      have hk0 : ¬ (k : Int) < 0 := by omega
      go_wp2_with fail
      go_ret2
      exact ⟨rfl, HW2.out.trans (hb4.mono HW2.out.size)⟩
  · have hq : (no == 0) = false := by simpa using h0
    have HH0 := Lib.hid h0
    clear h0
    go_wp2_with fail
    refine (HEND.out no N w2 (by rw [if_neg HH0.out]) HN.out HW1.out).mono ?_
    rintro e' w4 ⟨rfl, hb4⟩
    cases hRR : R with
    | none =>
      subst hRR
      simp only [idxInt]
      go_wp2_with fail
      go_ret2
      exact ⟨rfl, HW1.out.trans (hb4.mono HW1.out.size)⟩
    | some k =>
      have hk := HR.out k hRR
      subst hRR
      simp only [idxInt]
      have hk0 : ¬ (k : Int) < 0 := by omega
      go_wp2_with fail
      go_ret2
      exact ⟨rfl, HW1.out.trans (hb4.mono HW1.out.size)⟩
end Go.Proofs.Ytfpfcjgdihlieaa
