/- entry.Right. -/
import Derived.Test.YtfpfcjgdihlieaaEnV
namespace Go.Proofs.Ytfpfcjgdihlieaa
open Go.RowKit
set_option linter.unusedVariables false

def prevN (l : List En) (i : Nat) : Option ByteArray := if i = 0 then none else some (l.getD (i - 1) enZ).name
theorem okE_step (l : List En) (i : Nat) (hi : i < l.length) (p : Option ByteArray) : okE p (l.drop i) = (entOk (l.getD i enZ) && headOk? p (l.getD i enZ).name && okE (prevN l (i + 1)) (l.drop (i + 1))) := by
  rw [List.drop_eq_getElem_cons hi, okE, show l.getD i enZ = l[i] from by simp [List.getD, hi]]
  rw [show prevN l (i + 1) = some l[i].name from by simp [prevN, hi]]
theorem entFits_is (name : ByteArray) (cur nxt : Int) (vers : List Vr) (k : Value) (r : Bool) (h : entOk ⟨name, cur, nxt, vers⟩ = r) (w : World) (hk : IsVrs w k vers) (hb : (⟨name, cur, nxt, vers⟩ : En).bounded) :
    Calls Try.prog 28 #[.agg #[.string name, .int .i64 cur, .int .i64 nxt, k]] w fun e w' => e = .returned (.bool r) ∧ Below w.heap.size w w' := h ▸ entFits ⟨name, cur, nxt, vers⟩ _ w ⟨hb, k, rfl, hk⟩
set_option maxRecDepth 100000 in
set_option maxHeartbeats 1000000 in
theorem enRight (l : List En) (v : Value) (w : World) (h : IsEns w v l) : Calls Try.prog 11 #[v] w fun e' w' => e' = .returned (.bool (rightE l)) ∧ Below w.heap.size w w' := by
  obtain ⟨a, n, cap, rfl, hl, hc1, hc2, hnil, hat⟩ := h
  have hR : rightE l = (decide (l.length ≤ 8) && okE none l) := rfl
  generalize rightE l = r at *
  rw [hl] at hR
  by_cases hz : n ≤ 8
  case neg =>
    rw [decide_eq_false hz, Bool.false_and] at hR
    subst hR
    have hz' : 8 < (n : Int) := by omega
    clear hz hat hl
    go_enter Try.func11, Try.ntmps11
    go_wp2_with fail
    go_ret
    exact ⟨rfl, Below.refl _ _⟩
  rw [decide_eq_true hz, Bool.true_and] at hR
  have y4 : ¬ 8 < (n : Int) := by omega
  have y5 : (n : Int) ≤ 8 := by omega
  have hR0 : r = okE (prevN l 0) (l.drop 0) := hR
  have HR := Lib.hid hR0; have HL := Lib.hid hl; have HAT := Lib.hid hat
  clear hR hR0 hl hat hz
  go_enter Try.func11, Try.ntmps11
  go_wp2_with fail
  go_loopw [10] (fun z wr => ∃ (i : Nat), i ≤ n ∧ z = .int .i64 i ∧ Hid (r = okE (prevN l i) (l.drop i)) ∧ Hid (Below w.heap.size w wr)) (fun z _ => n - (intOf z).toNat)
  case atStart => exact ⟨0, Nat.zero_le _, rfl, HR, Lib.hid (Below.refl _ _)⟩
  case round =>
    clear HR
    obtain ⟨i, hin, rfl, HR, HW⟩ := hrel
    by_cases hlt : i < n
    · have hltI : (i : Int) < n := by omega
      have hst := okE_step l i (by rw [HL.out]; exact hlt) (prevN l i)
      obtain ⟨b, off, rfl, hblt, hat⟩ := HAT.out.resolve_left (by omega)
      obtain ⟨hbd, va, vc, hvs, e0, e1, e2, e3⟩ := ((hat i hlt).below HW.out hblt).cell
      have hprev : i = 0 ∨ ∃ j, i = j + 1 ∧ j < n ∧ prevN l i = some (l.getD j enZ).name ∧ wr.cell? ⟨b, off + j * 4, none⟩ = some (.string (l.getD j enZ).name) := by
        cases i with
        | zero => exact .inl rfl
        | succ j =>
          obtain ⟨_, _, _, _, f0, _⟩ := ((hat j (by omega)).below HW.out hblt).cell
          exact .inr ⟨j, rfl, by omega, rfl, f0⟩
      have HP := Lib.hid hprev; have HST := Lib.hid hst
      clear hprev hst hat
      generalize l.getD i enZ = e at *
      obtain ⟨name, cur, nxt, vers⟩ := e
      simp only at hbd hvs e0 e1 e2 e3 HST
      generalize hok : entOk ⟨name, cur, nxt, vers⟩ = ok at *
      have HOK := Lib.hid hok; have HBD := Lib.hid hbd; have HVS := Lib.hid hvs
      have hn := heap_alloc_new wr (.cells #[.string name, .int .i64 cur, .int .i64 nxt, .slice va vers.length vc] 36)
      have hal := (Below.refl wr.heap.size wr).alloc (Nat.le_refl _) (.cells #[.string name, .int .i64 cur, .int .i64 nxt, .slice va vers.length vc] 36)
      have HN := Lib.hid hn; have HAL := Lib.hid hal
      clear hok hbd hvs hn hal
      have hblr : b < wr.heap.size := Nat.lt_of_lt_of_le hblt HW.out.size
      go_upto_region 6 with fail
      obtain ⟨w2, hW⟩ : ∃ w2, wr.alloc (.cells #[.string name, .int .i64 cur, .int .i64 nxt, .slice va vers.length vc] 36) = w2 := ⟨_, rfl⟩
      obtain ⟨V, hV⟩ : ∃ V, wr.heap.size = V := ⟨_, rfl⟩
      rw [hW] at HN HAL ⊢
      rw [hV] at HN
      (try rw [hV])
      clear hW hV e0 e1 e2 e3
      have hc : ∀ x : KeepT w2, Calls Try.prog 28 #[.agg #[.string name, .int .i64 cur, .int .i64 nxt, .slice va vers.length vc]] x.val fun e w' => e = .returned (.bool ok) ∧ Below x.val.heap.size x.val w' :=
        fun x => entFits_is name cur nxt vers _ ok HOK.out x.val (HVS.out.below (HAL.out.trans (x.below.mono HAL.out.size))) HBD.out
      have HC := Lib.hid hc
      have q0 := keep_at HN.out 0 rfl
      have q1 := keep_at HN.out 1 rfl
      have q2 := keep_at HN.out 2 rfl
      have q3 := keep_at HN.out 3 rfl
      clear hc
      cases ok with
      | false =>
        have hf : r = false := by rw [HR.out, HST.out]; rfl
        subst hf
        clear HP
        refine wp_region_keep (w0 := w2) (by kernel_rfl) (by kernel_rfl) (Below.refl _ _) ?_
        repeat (go_big_quiet_step ((go_at_call 28; exact keepCall (HC.out _))))
        refine wpQuiet_nil ?_
        intro _ hw'
        obtain ⟨x, rfl⟩ := hw'
        go_wp2_with fail
        go_ret
        exact ⟨rfl, (HW.out.trans (HAL.out.mono HW.out.size)).trans (x.below.mono (Nat.le_trans HW.out.size HAL.out.size))⟩
      | true =>
        rcases HP.out with h0 | ⟨j, hj, hjn, hp, hcell⟩
        · have hf : r = okE (prevN l (i + 1)) (l.drop (i + 1)) := by rw [HR.out, HST.out, h0]; rfl
          have HF := Lib.hid hf
          clear HP hf
          subst h0
          have hgt : decide (0 < (0 : Int)) = false := by decide
          refine wp_region_keep (w0 := w2) (by kernel_rfl) (by kernel_rfl) (Below.refl _ _) ?_
          repeat (go_big_quiet_step ((go_at_call 28; exact keepCall (HC.out _))))
          refine wpQuiet_nil ?_
          intro _ hw'
          obtain ⟨x, rfl⟩ := hw'
          go_wp2_with fail
          go_roundw
          case rel => exact ⟨0 + 1, by omega, by go_num, HF, Lib.hid ((HW.out.trans (HAL.out.mono HW.out.size)).trans (x.below.mono (Nat.le_trans HW.out.size HAL.out.size)))⟩
          case measure => simp [intOf]; omega
        · have hst := HST.out
          rw [hp] at hst
          have hr0 := HR.out
          rw [hp] at hr0
          generalize (l.getD j enZ).name = pn at *
          have hpc : ∀ x : KeepT w2, x.val.cell? ⟨b, off + j * 4, none⟩ = some (.string pn) := fun x => (x.below.cell (p := ⟨b, off + j * 4, none⟩) (Nat.lt_of_lt_of_le hblr HAL.out.size)).trans ((HAL.out.cell (p := ⟨b, off + j * 4, none⟩) hblr).trans hcell)
          subst hj
          have hi0 : 0 < ((j + 1 : Nat) : Int) := by omega
          have hi1 : 0 < (j : Int) + 1 := by omega
          have hs1 : IntKind.i64.wrap ((j : Int) + 1 - 1) = j := IntWalk.i64_in _ (by omega) |>.trans (by omega)
          have hs2 : (j : Int) + 1 - 1 = j := by omega
          have hjI : (j : Int) < n := by omega
          clear hcell HP HST hp
          have hlt2 : ltB pn name = Op.bytesLess pn.toList name.toList := rfl
          cases hb : ltB pn name with
          | false =>
            have hf : r = false := by rw [hr0, hst, headOk?, hb]; rfl
            have hb2 : Op.bytesLess pn.toList name.toList = false := hlt2.symm.trans hb
            clear hr0
            subst hf
            clear hst hlt2 hb
            refine wp_region_keep (w0 := w2) (by kernel_rfl) (by kernel_rfl) (Below.refl _ _) ?_
            repeat (go_big_quiet_step ((go_at_call 28; exact keepCall (HC.out _))))
            refine wpQuiet_nil ?_
            intro _ hw'
            obtain ⟨x, rfl⟩ := hw'
            go_wp2_with fail
            go_ret
            exact ⟨rfl, (HW.out.trans (HAL.out.mono HW.out.size)).trans (x.below.mono (Nat.le_trans HW.out.size HAL.out.size))⟩
          | true =>
            have hf : r = okE (prevN l (j + 1 + 1)) (l.drop (j + 1 + 1)) := by rw [hr0, hst, headOk?, hb]; rfl
            have hb2 : Op.bytesLess pn.toList name.toList = true := hlt2.symm.trans hb
            have HF := Lib.hid hf
            clear hst hr0 hlt2 hb hf
            refine wp_region_keep (w0 := w2) (by kernel_rfl) (by kernel_rfl) (Below.refl _ _) ?_
            repeat (go_big_quiet_step ((go_at_call 28; exact keepCall (HC.out _))))
            refine wpQuiet_nil ?_
            intro _ hw'
            obtain ⟨x, rfl⟩ := hw'
            go_wp2_with fail
            go_roundw
            case rel => exact ⟨j + 1 + 1, by omega, by go_num, HF, Lib.hid ((HW.out.trans (HAL.out.mono HW.out.size)).trans (x.below.mono (Nat.le_trans HW.out.size HAL.out.size)))⟩
            case measure => simp [intOf]; omega
    · have hin : i = n := by omega
      have hf : r = true := by rw [HR.out, List.drop_eq_nil_of_le (by rw [HL.out]; omega)]; rfl
      subst hf
      have hnl : ¬ (i : Int) < n := by omega
      go_wp2_with fail
      go_ret
      exact ⟨rfl, HW.out⟩
end Go.Proofs.Ytfpfcjgdihlieaa
