/- The walk of EntryParts. -/
import Derived.Test.YtfpfcjgdihlieaaEnS
import Derived.Test.YtfpfcjgdihlieaaEnF
import Derived.Test.YtfpfcjgdihlieaaEnW
import Derived.Test.YtfpfcjgdihlieaaEnG
import Derived.Test.YtfpfcjgdihlieaaEnA
namespace Go.Proofs.Ytfpfcjgdihlieaa.lawEntryParts
open Go.RowKit
set_option linter.unusedVariables false

theorem find_self (L : List En) (h : rightE L = true) (i : Nat) (hi : i < L.length) : findE (L.getD i enZ).name L 0 = (i, true) := by
  unfold rightE at h
  rw [Bool.and_eq_true] at h
  have hr := okE_rises L none h.2
  have := findE_at (L.getD i enZ).name L none 0 i hr (by omega) (fun t ht => rises_lt L none hr t i ht hi) (fun t h3 h4 => by
    by_cases he : t = i
    · rw [he]; exact ltB_irrefl _
    · exact ltB_asymm (rises_lt L none hr i t (by omega) h4))
  rw [this, Nat.zero_add, decide_eq_true hi, decide_eq_true rfl]; rfl
theorem verLoop_has (cur nxt : Int) : ∀ (l : List Vr) (p : Int) (c : Bool), verLoop cur nxt p c l = true → c = true ∨ ∃ v ∈ l, v.no = cur
  | [], p, c, h => by simp only [verLoop, Bool.and_eq_true] at h; exact .inl h.1
  | v :: l, p, c, h => by
    simp only [verLoop, Bool.and_eq_true] at h
    rcases verLoop_has cur nxt l v.no _ h.2 with h1 | ⟨x, hx, h1⟩
    · simp only [Bool.or_eq_true, decide_eq_true_eq] at h1
      rcases h1 with h1 | h1
      · exact .inl h1
      · exact .inr ⟨v, by simp, h1⟩
    · exact .inr ⟨x, by simp [hx], h1⟩
theorem idxV_some (m : Int) : ∀ (l : List Vr) (k : Nat), (∃ v ∈ l, v.no = m) → ∃ j, idxV m l k = some j
  | [], k, ⟨_, h, _⟩ => by cases h
  | v :: l, k, ⟨x, hx, h⟩ => by
    rw [idxV]
    by_cases hv : v.no = m
    · exact ⟨k, if_pos hv⟩
    · rw [if_neg hv]
      rcases List.mem_cons.1 hx with rfl | hx
      · exact absurd h hv
      · exact idxV_some m l (k + 1) ⟨x, hx, h⟩
theorem ver_cur (e : En) (h : entOk e = true) : ∃ k, verIs e 0 = some k ∧ k < e.vers.length ∧ (e.vers.getD k vrZ).no = e.cur := by
  unfold entOk at h
  rw [Bool.and_eq_true] at h
  have h1 := (verLoop_has _ _ _ _ _ h.2).resolve_left (by decide)
  obtain ⟨k, hk⟩ := idxV_some e.cur e.vers 0 h1
  obtain ⟨a, b, c⟩ := idxV_lt _ _ _ _ hk
  exact ⟨k, by unfold verIs verNo; rw [if_pos rfl]; exact hk, by omega, by simpa using c⟩
theorem cut_all {w : World} {A : Option Addr} {n cap : Nat} {L : List En} (h : IsEns w (.slice A n cap) L) (f t : Nat) (hft : f ≤ t) (htn : t ≤ n) (hc : cap = f) : IsEns w (.slice A (t - f) 0) ((L.drop f).take (t - f)) := by
  obtain ⟨a', len', cap', hv, h1, h2, h3, h5, h6⟩ := h
  injection hv with e1 e2 e3
  subst e1 e2 e3
  have hz : t - f = 0 := by omega
  rw [hz, List.take_zero]
  exact ⟨A, 0, 0, rfl, rfl, Nat.le_refl _, by omega, fun _ => rfl, .inl rfl⟩
theorem cut_some {w : World} {A : Option Addr} {n cap : Nat} {L : List En} (h : IsEns w (.slice A n cap) L) (f t : Nat) (hft : f ≤ t) (htn : t ≤ n) : IsEns w (.slice (Option.map (fun x => x.add (f * 4)) A) (t - f) (cap - f)) ((L.drop f).take (t - f)) := by
  obtain ⟨a', len', cap', hv, h1, h2, h3, h5, h6⟩ := id h
  injection hv with e1 e2 e3
  subst e1 e2 e3
  cases A with
  | none =>
    have hc := h5 rfl
    have hz : t - f = 0 := by omega
    rw [hz, List.take_zero]
    exact ⟨none, 0, _, rfl, rfl, by omega, by omega, fun _ => by omega, .inl rfl⟩
  | some ad =>
    rcases h6 with h0 | ⟨b, off, he, _⟩
    · have hz : t - f = 0 := by omega
      rw [hz, List.take_zero]
      exact ⟨_, 0, _, rfl, rfl, by omega, by omega, (fun e => by cases e), .inl rfl⟩
    · injection he with he
      subst he
      show IsEns w (.slice (some ((⟨b, off, none⟩ : Addr).add (f * 4))) _ _) _
      rw [addr_add]
      exact h.part f (t - f) (by omega)
set_option maxRecDepth 100000 in
set_option maxHeartbeats 2000000 in
theorem walk (v0 : Value) (l0 : List En) (a1 a2 : Int) (w : World) (w0 : IsEns w v0 l0) (w1 : (Lit.int .i64 a1).wf = true) (w2 : (Lit.int .i64 a2).wf = true) :
    Calls Try.prog 6 #[v0, .int .i64 a1, .int .i64 a2] w fun e w' => e = .returned (.bool true) ∧ Below w.heap.size w w' := by
  have g1 := wf_i64 w1
  have g2 := wf_i64 w2
  have HFW := Lib.hid (enFew l0 v0 w w0)
  have HAL := Lib.hid (fun u => enAlive u)
  clear w0 w1 w2
  have hl20 := fewE_len l0
  have hvl := fewE_vers l0
  generalize fewE l0 = L at *
  have HVL := Lib.hid hvl
  clear hvl
  go_enter Try.func6, Try.ntmps6
  go_wp2_with fail
  refine HFW.out.mono ?_
  rintro e w3 ⟨v3, rfl, hen, hb3⟩
  have HEN := Lib.hid hen; have HB3 := Lib.hid hb3
  have HRR := Lib.hid (refRight L v3 w3 hen (by omega))
  obtain ⟨A, n, cap, rfl, hln, hc1, hc2, hnil, hat⟩ := hen
  have HLN := Lib.hid hln
  have hn20 : n ≤ 20 := by omega
  clear hb3 HFW hat hln hl20
  cases hr : rightE L with
  | false =>
    rw [hr] at HRR
    go_wp2_with fail
    refine HRR.out.mono ?_
    rintro e w4 ⟨rfl, hb4⟩
    have hw4 := HB3.out.trans (hb4.mono HB3.out.size)
    have HE4 := Lib.hid (HEN.out.below hb4)
    have HW4 := Lib.hid hw4
    have HR := Lib.hid hr
    clear hr hw4 hb4
    go_wp2_with fail
    refine (HAL.out _).mono ?_
    rintro e w5 ⟨rfl, hb5⟩
    have HW5 := Lib.hid (HW4.out.trans (hb5.mono HW4.out.size))
    have hrr := enRight L _ w5 (HE4.out.below hb5)
    rw [HR.out] at hrr
    have HRT := Lib.hid hrr
    clear hrr hb5
    go_wp2_with fail
    refine HRT.out.mono ?_
    rintro e w6 ⟨rfl, hb6⟩
    have HW6 := Lib.hid (HW5.out.trans (hb6.mono HW5.out.size))
    clear hb6
    go_wp2_with fail
    go_ret
    exact ⟨rfl, HW6.out⟩
  | true =>
    rw [hr] at HRR
    have hn8 : n ≤ 8 := by
      have := hr
      unfold rightE at this
      rw [Bool.and_eq_true, decide_eq_true_eq] at this
      have := HLN.out
      omega
    have hn8I : (n : Int) ≤ 8 := by omega
    have hcI : (n : Int) ≤ cap := by omega
    have hcapI : (cap : Int) ≤ 9223372036854775807 := by omega
    obtain ⟨x, hx1, hx2, hx3⟩ : ∃ x : Int, (if a1 < 0 then 0 else a1) = x ∧ max a1 0 = x ∧ 0 ≤ x := ⟨max a1 0, by split <;> omega, rfl, by omega⟩
    obtain ⟨f, hf1, hf2, hf3⟩ : ∃ f : Nat, (if (n : Int) < x then (n : Int) else x) = f ∧ min x (n : Int) = f ∧ f ≤ n := ⟨(min x (n : Int)).toNat, by split <;> omega, by omega, by omega⟩
    obtain ⟨y, hy1, hy2, hy3⟩ : ∃ y : Int, (if a2 < (f : Int) then (f : Int) else a2) = y ∧ max a2 (f : Int) = y ∧ (f : Int) ≤ y := ⟨max a2 f, by split <;> omega, rfl, by omega⟩
    obtain ⟨t, ht1, ht2, ht3, ht4⟩ : ∃ t : Nat, (if (n : Int) < y then (n : Int) else y) = t ∧ min y (n : Int) = t ∧ t ≤ n ∧ f ≤ t := ⟨(min y (n : Int)).toNat, by split <;> omega, by omega, by omega, by omega⟩
    have hftI : (f : Int) ≤ t := by omega
    have htnI : (t : Int) ≤ n := by omega
    have HR := Lib.hid hr
    clear hr
    go_wp2_with fail
    refine HRR.out.mono ?_
    rintro e w4 ⟨rfl, hb4⟩
    have HW4 := Lib.hid (HB3.out.trans (hb4.mono HB3.out.size))
    have HE4 := Lib.hid (HEN.out.below hb4)
    clear hb4 HB3 HEN HRR
    go_wp2_with fail
    clear hx1 hx2 hy1 hy2 hf1 hf2 ht1 ht2 g1 g2
    go_loopw [37] (fun c wr => ∃ i : Nat, i ≤ n ∧ c = .int .i64 i ∧ Hid (Below w4.heap.size w4 wr)) (fun c _ => n - (intOf c).toNat)
    case atStart => exact ⟨0, Nat.zero_le _, rfl, Lib.hid (Below.refl _ _)⟩
    case round =>
      obtain ⟨i, hin, rfl, HJ⟩ := hrel
      by_cases hlt : i < n
      · have hltI : (i : Int) < n := by omega
        have hiL : i < L.length := by rw [HLN.out]; exact hlt
        have HEr := HE4.out.below HJ.out
        obtain ⟨A', n', cap', hv', hln', hc1', hc2', hnil', hat⟩ := id HEr
        injection hv' with e1 e2 e3
        subst e1 e2 e3
        obtain ⟨b, off, rfl, hblt, hat⟩ := hat.resolve_left (by omega)
        obtain ⟨hbd, va, vc, hvs, e0, e1, e2, e3⟩ := (hat i hlt).cell
        have hfs := find_self L HR.out i hiL
        have hok : entOk (L.getD i enZ) = true := by
          have := HR.out
          unfold rightE at this
          rw [Bool.and_eq_true] at this
          exact okE_mem L none this.2 _ (getD_mem L i enZ hiL)
        obtain ⟨k, hk1, hk2, hk3⟩ := ver_cur _ hok
        have hz := (entOk_facts _ hok).1
        generalize L.getD i enZ = e at *
        obtain ⟨name, cur, nxt, vers⟩ := e
        simp only at hbd hvs e0 e1 e2 e3 hfs hk2 hk3 hz
        obtain ⟨m, hm⟩ : ∃ m, vers.length = m := ⟨_, rfl⟩
        have hrise : risesN none L = true := by
          have := HR.out
          unfold rightE at this
          rw [Bool.and_eq_true] at this
          exact okE_rises L none this.2
        have hL20 : L.length ≤ 1000 := by rw [hln']; omega
        have hn := heap_alloc_new wr (.cells #[.string name, .int .i64 cur, .int .i64 nxt, .slice va vers.length vc] 36)
        have hal := (Below.refl wr.heap.size wr).alloc (Nat.le_refl _) (.cells #[.string name, .int .i64 cur, .int .i64 nxt, .slice va vers.length vc] 36)
        have HE2 := Lib.hid (HEr.below hal)
        have HJ2 := Lib.hid (HJ.out.trans (hal.mono HJ.out.size))
        have HV2 := Lib.hid (hvs.below hal)
        have HFI := Lib.hid (fun u hu => enFind L (.slice (some ⟨b, off, none⟩) n cap) name u hu hL20 hrise)
        rw [hfs] at HFI
        have HVE := Lib.hid (fun u (hu : IsVrs u (.slice va vers.length vc) vers) => enVersion ⟨name, cur, nxt, vers⟩ (.agg #[.string name, .int .i64 cur, .int .i64 nxt, .slice va vers.length vc]) 0 u ⟨hbd, _, rfl, hu⟩ (by show vers.length ≤ 100000; omega))
        rw [hk1] at HVE
        rw [hm] at hn e3 HE2 HJ2 HV2 HVE hz hk2
        have HN := Lib.hid hn; have HK3 := Lib.hid hk3; have HM := Lib.hid hm
        have hkI : (k : Int) < m := by omega
        clear hn hk1 hk3 hfs hat hvs HEr hok hrise hL20 hm hal hln' hbd
        go_upto_region 9 with fail
        obtain ⟨w5, hW⟩ : ∃ w5, wr.alloc (.cells #[.string name, .int .i64 cur, .int .i64 nxt, .slice va m vc] 36) = w5 := ⟨_, rfl⟩
        obtain ⟨V, hV⟩ : ∃ V, wr.heap.size = V := ⟨_, rfl⟩
        rw [hW] at HN HE2 HJ2 HV2 ⊢
        rw [hV] at HN
        (try rw [hV])
        clear hW hV e0 e1 e2 e3 HJ
        have q0 := below_cell (Below.refl _ w5) HN.out 0 rfl
        go_wp2_with fail
        refine (HFI.out _ HE2.out).mono ?_
        rintro e w6 ⟨rfl, hb6⟩
        have HN6 := Lib.hid ((hb6.block _ (lt_of_block HN.out)).trans HN.out)
        have HJ6 := Lib.hid (HJ2.out.trans (hb6.mono HJ2.out.size))
        have HV6 := Lib.hid (HV2.out.below hb6)
        clear q0 hb6 HN HJ2 HV2 HE2
        have q0 := below_cell (Below.refl _ w6) HN6.out 0 rfl
        have q1 := below_cell (Below.refl _ w6) HN6.out 1 rfl
        have q2 := below_cell (Below.refl _ w6) HN6.out 2 rfl
        have q3 := below_cell (Below.refl _ w6) HN6.out 3 rfl
        go_wp2_with fail
        refine (HVE.out _ HV6.out).mono ?_
        rintro e w7 ⟨rfl, hb7⟩
        have HN7 := Lib.hid ((hb7.block _ (lt_of_block HN6.out)).trans HN6.out)
        have HJ7 := Lib.hid (HJ6.out.trans (hb7.mono HJ6.out.size))
        have hv7 := HV6.out.below hb7
        clear q0 q1 q2 q3 hb7 HN6 HJ6 HV6
        have q1 := below_cell (Below.refl _ w7) HN7.out 1 rfl
        have q3 := below_cell (Below.refl _ w7) HN7.out 3 rfl
        obtain ⟨_, _, _, hvv, _, _, _, _, _, hvat⟩ := hv7
        injection hvv with e1 e2 e3
        subst e1 e2 e3
        obtain ⟨vb, vo, rfl, hvb, hvat⟩ := hvat.resolve_left (by omega)
        obtain ⟨r0, _⟩ := hvat k hk2
        rw [HK3.out] at r0
        have hk0 : ¬ (k : Int) < 0 := by omega
        have hkm : ¬ (m : Int) ≤ k := by omega
        have hkmd : decide (m ≤ k) = false := decide_eq_false (by omega)
        simp only [verVal]
        clear hvat
        go_upto_region 11 with fail
        go_quiet (fail)
        go_wp2_with fail
        go_roundw
        case rel => exact ⟨i + 1, by omega, by go_num, Lib.hid (belowN HJ7.out _)⟩
        case measure => simp [intOf]; omega
      · obtain rfl : i = n := by omega
        have hnl : ¬ (i : Int) < i := by omega
        have HEr := Lib.hid (HE4.out.below HJ.out)
        have HWr := Lib.hid (HW4.out.trans (HJ.out.mono HW4.out.size))
        clear HJ HE4 HW4
        go_wp2_with fail
        refine (HAL.out _).mono ?_
        rintro e w5 ⟨rfl, hb5⟩
        have HE5 := Lib.hid (HEr.out.below hb5)
        have HW5 := Lib.hid (HWr.out.trans (hb5.mono HWr.out.size))
        clear hb5 HEr HWr
        go_wp2_with fail
        have hrt := enRight L _ w5 HE5.out
        rw [HR.out] at hrt
        refine hrt.mono ?_
        clear hrt
        rintro e w6 ⟨rfl, hb6⟩
        have HE6 := Lib.hid (HE5.out.below hb6)
        have HW6 := Lib.hid (HW5.out.trans (hb6.mono HW5.out.size))
        clear hb6 HE5 HW5
        have HCA := Lib.hid (fun hc => cut_all HE6.out f t ht4 ht3 hc)
        have HCS := Lib.hid (cut_some HE6.out f t ht4 ht3)
        have hpart := rightE_part L f (t - f) HR.out
        have HPT := Lib.hid (fun v hv => enRight ((L.drop f).take (t - f)) v w6 hv)
        rw [hpart] at HPT
        clear hpart
        by_cases hcf : cap = f
        · have HCA2 := Lib.hid (HCA.out hcf)
          subst hcf
          clear HCA HCS
          go_wp2_with fail
          all_goals
            refine (HPT.out _ (by first | exact HCA2.out | (rw [Nat.sub_self] at HCA2; exact HCA2.out))).mono ?_
            rintro e w7 ⟨rfl, hb7⟩
            have HW7 := Lib.hid (HW6.out.trans (hb7.mono HW6.out.size))
            clear hb7
            go_wp2_with fail
            go_ret
            exact ⟨rfl, HW7.out⟩
        · clear HCA
          go_wp2_with fail
          refine (HPT.out _ HCS.out).mono ?_
          rintro e w7 ⟨rfl, hb7⟩
          have HW7 := Lib.hid (HW6.out.trans (hb7.mono HW6.out.size))
          clear hb7
          go_wp2_with fail
          go_ret
          exact ⟨rfl, HW7.out⟩
end Go.Proofs.Ytfpfcjgdihlieaa.lawEntryParts
